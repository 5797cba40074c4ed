import PyProof.Rows.All
import Wide.All
import OpenK.AllK
import Wide.FinOn
import HandS.ForMost
import HandS.Zip
import KE.GoesNew
import HandS.More
import HandS.WrittenGet
import HandS.Walk
import HandS.Wide
import HandS.IsInst
import HandS.Defaults
import HandS.MakeKwOnly
import HandS.EndBits
import HandS.ForExc
import HandS.ExcInit
import HandS.ExcField
import HandS.ExcOwn
import HandS.WordsExc
import HandS.FStr
import HandS.TryOnly
import KE.KExcIs
import HandS.TupAny
import HandS.TupMul
import PyProof.SumAnyB
import KE.GoesEnum
import HandS.ExcSuper
import HandS.ExcCtx
import HandS.HotCalls
import HandS.Star
import HandS.CallLocal
import PyProof.ExcBaseAll.Exception
import HandS.Flt
import HandS.Small
import HandS.SuiteRaise
import HandS.Style
import PySem.Challenge.RW_ringgates_k30_whole_any_lists_judged
set_option Elab.async false
set_option maxRecDepth 100000
set_option maxHeartbeats 2000000
/-! for a, b in zip(text, tuple): the pairs are new tuples -/
namespace Rg
open PySem PySem.Spec PyProof.Rows L2
/-- the text's signs and the tuple's items, side by side -/
def ItzS (K : PySem.W.Frag) (x : PySem.Str) (b : Addr) : It :=
  ⟨fun i H => ∃ (ys : List V) (c : Nat) (y : V), SqT K H b ys ∧ x.cps[i]? = some c ∧ ys[i]? = some y,
    fun i H v H' => ∃ T c y, v = .ref T ∧ H T = none ∧ H' = upd H T (.tup [.str ⟨#[c]⟩, y]) ∧ x.cps[i]? = some c ∧ ∀ ys, SqT K H b ys → ys[i]? = some y,
    fun i H => ∃ ys : List V, SqT K H b ys ∧ i = min x.cps.size ys.length⟩
theorem turn_zipS {P : Program} {w : World} {K : PySem.W.Frag} {elts : List Expr} {kk : Nat} {tpos : Pos} {x : PySem.Str} {t : Tok} {b z TI TO i1 i2 : Addr} (hb : b ≠ z ∧ b ≠ TI ∧ b ≠ TO ∧ b ≠ i1 ∧ b ≠ i2)
    (S : ZipSep2 z TI TO i1 i2 [i1] [i2, b]) :
    Turn P w K (.Tuple elts kk tpos) (ItzS K x b) [z, TI, TO, i1, i2] z (fun i h => IsZip h z TI TO .none ∧ IsTupOf2 h TI (.ref i1) (.ref i2) ∧ (∃ a1 a2, IsTupOf2 h TO a1 a2) ∧ h.IsStrIter i1 (strIterType x) x t i ∧ h.IsTupleIter i2 b i) where
  mem := by simp
  obj := fun i h st c hc => by
    obtain ⟨hz, hTI, ⟨u, y, hTO⟩, ⟨o1, e1, _, d1⟩, ⟨o2, e2, _, d2⟩⟩ := st
    have e' : c = z ∨ c = TI ∨ c = TO ∨ c = i1 ∨ c = i2 := by simpa using hc
    rcases e' with q | q | q | q | q
    · rw [q]; exact ⟨_, hz, fun v q => nomatch q⟩
    · rw [q]; exact ⟨_, hTI, fun v q => nomatch q⟩
    · rw [q]; exact ⟨_, hTO, fun v q => nomatch q⟩
    · rw [q]; exact ⟨o1, e1, fun v q => by rw [d1] at q; cases q⟩
    · rw [q]; exact ⟨o2, e2, fun v q => by rw [d2] at q; cases q⟩
  keep := fun i h h' st k => by
    obtain ⟨hz, hTI, ⟨u, y, hTO⟩, h1, h2⟩ := st
    obtain ⟨o1, e1, r1⟩ := h1
    exact ⟨k z (by simp) _ hz, k TI (by simp) _ hTI, ⟨u, y, k TO (by simp) _ hTO⟩, ⟨o1, k i1 (by simp) _ e1, r1⟩, h2.at fun o q => k i2 (by simp) o q⟩
  item := by
    intro X hP hw hK hc i pins s σ H E I hf st hg
    subst hP hw hK
    obtain ⟨hz, hTI, ⟨x0, y0, hTO⟩, h1, h2⟩ := st
    obtain ⟨ys, c, y, hqy, hx, hy⟩ := hg
    obtain ⟨its2, rv2, p2, _⟩ := I.tuple hqy
    have hne : b ≠ i2 := hb.2.2.2.2
    have hh : X.A.in1.handled = none := I.ok.hd hc
    have W := GoesN.zip2 (elts := elts) (x1 := kk) (pos := tpos) S (Draws.text hh i1 x t) (Draws.tuple hh i2 b hne its2.toArray) (prog := X.prog) (w := X.w) (A := X.A)
    have hlen : i < min x.cps.size its2.toArray.size := by
      have a1 : i < x.cps.size := (Array.getElem?_eq_some_iff.mp hx).1
      have a2 : i < ys.length := (List.getElem?_eq_some_iff.mp hy).1
      have a3 := rv2.length
      have a4 : its2.toArray.size = its2.length := List.size_toArray ..
      omega
    refine W.goes i s _ _ hlen ⟨hz, hTI, ⟨x0, y0, hTO⟩, h1, h2, p2⟩ fun v h' tk hY st' hk htk => ?_
    obtain ⟨T, u1, u2, rfl, hT, ⟨c', tk', hc', rfl⟩, hu2, hTup⟩ := hY
    obtain ⟨z', TI', TO', h1', h2', p2'⟩ := st'
    have ec : c' = c := Option.some.inj (hc'.symm.trans hx)
    subst ec
    obtain ⟨v2, hv2, rv⟩ := rv2.get hy
    have e2 : u2 = v2 := by
      rw [List.getElem?_toArray] at hu2
      exact Option.some.inj (hu2.symm.trans hv2)
    subst e2
    have new : ObjOk X.prog X.w (upd H T (.tup [.str ⟨#[c']⟩, y])) h' T (.tup [.str ⟨#[c']⟩, y]) :=
      ⟨by show 2 ≤ sizeLine; decide, [.str ⟨#[c']⟩ tk', u2], .cons ⟨_, rfl⟩ (.cons rv .nil), hTup⟩
    have hf' : ∀ c ∈ [z, TO, i1, i2], FpOk X pins H c := fun c hcm => hf c (by simp at hcm ⊢; rcases hcm with q | q | q | q <;> simp [q])
    have I1 : Inv X pins σ (upd H T (.tup [.str ⟨#[c']⟩, y])) { s with heap := h', toks := tk } := I.turnedNew (t' := tk) (ch := [z, TO, i1, i2]) hk hf' hT new
    refine ⟨.ref T, _, I1, rfl, ⟨T, c', y, rfl, I.hok.fresh hT, rfl, hx, fun l hl => by rw [I.tuple_inj hl hqy]; exact hy⟩, ⟨z', TI', TO', h1', h2'⟩, fun d hd => ?_⟩
    have hlt : d < s.heap.objs.size := by
      have e' : d = z ∨ d = TI ∨ d = TO ∨ d = i1 ∨ d = i2 := by simpa using hd
      rcases e' with q | q | q | q | q
      · rw [q]; exact Heap.lt_size hz
      · rw [q]; exact Heap.lt_size hTI
      · rw [q]; exact Heap.lt_size hTO
      · rw [q]; obtain ⟨_, e1, _⟩ := h1; exact Heap.lt_size e1
      · rw [q]; obtain ⟨_, e2, _⟩ := h2; exact Heap.lt_size e2
    rw [upd_ne (Nat.ne_of_lt (Nat.lt_of_lt_of_le hlt hT))]
    exact (hf d hd).1
  done := by
    intro X hP hw hK hc i pins s σ H E I hf st hg
    subst hP hw hK
    obtain ⟨hz, hTI, ⟨x0, y0, hTO⟩, h1, h2⟩ := st
    obtain ⟨ys, hqy, hi⟩ := hg
    obtain ⟨its2, rv2, p2, _⟩ := I.tuple hqy
    have hne : b ≠ i2 := hb.2.2.2.2
    have hh : X.A.in1.handled = none := I.ok.hd hc
    have W := GoesN.zip2 (elts := elts) (x1 := kk) (pos := tpos) S (Draws.text hh i1 x t) (Draws.tuple hh i2 b hne its2.toArray) (prog := X.prog) (w := X.w) (A := X.A)
    have e : i = min x.cps.size its2.toArray.size := by
      have a4 : its2.toArray.size = its2.length := List.size_toArray ..
      rw [a4, ← rv2.length]
      exact hi
    subst e
    have hf' : ∀ c ∈ [z, TO, i1, i2], FpOk X pins H c := fun c hcm => hf c (by simp at hcm ⊢; rcases hcm with q | q | q | q <;> simp [q])
    exact W.stops s _ _ ⟨hz, hTI, ⟨x0, y0, hTO⟩, h1, h2, p2⟩ fun h' tk hk htk => I.turnedL (t' := tk) (ch := [z, TO, i1, i2]) hk hf'
  self := fun A i s Q E st h => wpAny_pyIter_zip st.1 h

def iZipS (K : PySem.W.Frag) (ta : TA) : TI := fun σ H R => ta σ H fun vs H1 => ∃ (x : PySem.Str) (b : Addr) (ys : List V), vs = [.str x, .ref b] ∧ SqT K H1 b ys ∧ R (ItzS K x b) H1
theorem pi_zipS {X : Cx} {e e2 : Expr} {ta : TA} {p pos tpos : Pos} {elts : List Expr} {kk : Nat} (hg : Gl X "zip") (hm : X.mg "zip" = none) (ha : PA X [e, e2] ta)
    (hs : starEach [e, e2] X.env = (false, eval e X.env) :: starEach [e2] X.env := by rfl) (hpl : (backTo pos (starEach [e2] X.env)).any (·.1) = false := by rfl) :
    PI X (.Tuple elts kk tpos) (.Call (.Name "zip" p) [e, e2] [] pos) (iZipS X.K ta) := by
  refine ⟨fun pins s σ H R I h => ?_⟩
  refine Call_ (ld_blt I hg hm PyProof.Rows.boot_zip (PyProof.Rows.callWith_type1 (thn (ha.run pos pins s σ H _ I h) fun us s1 ⟨vs, H1, I1, r1, q1⟩ => ?_) hs hpl))
  obtain ⟨x, b, ys, ex, hqy, q⟩ := q1
  subst ex
  cases r1 with
  | cons r rr =>
    cases rr with
    | cons r' rr =>
      cases rr
      obtain ⟨t, rfl⟩ := r
      cases r'
      have fresh5 : ∀ c, c ∈ [s1.heap.objs.size + 4, s1.heap.objs.size + 2, s1.heap.objs.size + 3, s1.heap.objs.size, s1.heap.objs.size + 1] → FpOk X pins H1 c := fun c hcm => by
        have e' : c = s1.heap.objs.size + 4 ∨ c = s1.heap.objs.size + 2 ∨ c = s1.heap.objs.size + 3 ∨ c = s1.heap.objs.size ∨ c = s1.heap.objs.size + 1 := by simpa using hcm
        have hle : s1.heap.objs.size ≤ c := by
          rcases e' with z | z | z | z | z
          · rw [z]; exact Nat.le_add_right _ _
          · rw [z]; exact Nat.le_add_right _ _
          · rw [z]; exact Nat.le_add_right _ _
          · rw [z]; exact Nat.le_refl _
          · rw [z]; exact Nat.le_add_right _ _
        exact I1.fpOk hle (I1.hok.fresh hle)
      obtain ⟨its2, rv2, p2, _⟩ := I1.tuple hqy
      obtain ⟨o2, ho2, _⟩ := id p2
      have hb : b < s1.heap.objs.size := Heap.lt_size ho2
      refine zip_begins2 (begins_text x t) (begins_tuple b its2.toArray) trivial p2 fun h' hz hTI hTO h1 h2 hsz hk => wpAny_pyIter_zip hz ?_
      have I2 : Inv X pins σ H1 { s1 with heap := h' } := I1.kept (t' := s1.toks) hk
      have S : ZipSep2 (s1.heap.objs.size + 4) (s1.heap.objs.size + 2) (s1.heap.objs.size + 3) s1.heap.objs.size (s1.heap.objs.size + 1) [s1.heap.objs.size] [s1.heap.objs.size + 1, b] :=
        zip_sep2 (fp1 := []) (fp2 := [b]) (fun c hc => by cases hc) (fun c hc => by
          have e : c = b := by simpa using hc
          rw [e]; exact hb)
      exact ⟨s1.heap.objs.size + 4, [s1.heap.objs.size + 4, s1.heap.objs.size + 2, s1.heap.objs.size + 3, s1.heap.objs.size, s1.heap.objs.size + 1], _, _, H1, rfl, I2,
        turn_zipS (t := t) ⟨Nat.ne_of_lt (Nat.lt_of_lt_of_le hb (Nat.le_add_right _ _)), Nat.ne_of_lt (Nat.lt_of_lt_of_le hb (Nat.le_add_right _ _)), Nat.ne_of_lt (Nat.lt_of_lt_of_le hb (Nat.le_add_right _ _)), Nat.ne_of_lt hb, Nat.ne_of_lt (Nat.lt_of_lt_of_le hb (Nat.le_add_right _ _))⟩ S,
        ⟨hz, hTI, ⟨_, _, hTO⟩, ⟨_, h1, rfl, rfl⟩, ⟨_, h2, rfl, rfl⟩⟩, fresh5, q⟩
end Rg

/-! d.get(text), d a dict that the top has written -/
namespace Rg
open PySem PySem.Spec PyProof.Rows L2
/-- the dict's row, and what it has at the text -/
def KGot (K : PySem.W.Frag) (w : World) (a : Addr) (x : PySem.Str) (o : Option V) : Prop :=
  ∃ es n r, K.lookup a = some ⟨.type "dict", none, .dict es n, #[]⟩ ∧ PySem.W.KeysLit w.params es.toList ∧ (a == sysModules) = false ∧ PySem.W.nsIn K a x = some r ∧ RelV (o.getD .non) (r.getD .none)
def KIsD (K : PySem.W.Frag) (a : Addr) : Prop := ∃ es n, K.lookup a = some ⟨.type "dict", none, .dict es n, #[]⟩
theorem KGot.isD {K : PySem.W.Frag} {w : World} {a : Addr} {x : PySem.Str} {o : Option V} (h : KGot K w a x o) : KIsD K a := by
  obtain ⟨es, n, r, e, _⟩ := h
  exact ⟨es, n, e⟩
def tKGet (K : PySem.W.Frag) (w : World) (td ty : TE) : TE := fun σ H Q => td σ H fun x H1 => ∃ a, x = .ref a ∧ KIsD K a ∧ ty σ H1 fun y H2 => ∃ z o, y = .str z ∧ KGot K w a z o ∧ Q (o.getD .non) H2
section
variable {X : Cx} {o e : Expr} {apos cpos : Pos} {td ty : TE}
theorem pe_kget (ho : PE X o td) (he : PE X e ty) (m : M1 X o "get" apos e cpos) : PE X (.Call (.Attribute o "get" apos) [e] [] cpos) (tKGet X.K X.w td ty) := by
  refine ⟨fun pins s σ H Q I h => ?_⟩
  refine wpAny_Call_method m.base m.few m.line PySem.F.plainAttrs_dict PySem.F.slot_dict_get PySem.F.type_dict_get (thn (ho.run pins s σ H _ I h) fun u s1 ⟨x, H1, I1, rx, a, ex, d, q1⟩ => ?_)
  subst ex
  obtain rfl : u = Value.ref a := rx
  obtain ⟨es, n, hl⟩ := d
  have hg := I1.kIn _ _ hl
  refine ⟨⟨_, hg, rfl⟩, fun b q => ?_, ?_⟩
  · cases q
    exact ⟨_, hg, rfl⟩
  rw [m.trees]
  refine Calls.callWith_builtin rfl (Calls.evalArgs_plain (Calls.spliced_cons (thn (he.run pins s1 σ H1 _ I1 q1) fun iv s2 ⟨y, H2, I2, ry, z, ov, ey, g, q2⟩ => Calls.spliced_nil ?_)))
  subst ey
  obtain ⟨t, rfl⟩ := (show ∃ t, iv = Value.str z t from ry)
  obtain ⟨es', n', r, hl', hk, low, hn, rr⟩ := g
  have hm := PySem.W.mapOf_K (prog := X.prog) (w := X.w) I2.kIn hl' hk
  refine call_meetsIn PySem.F.slot_dict_get hm.typeIs PySem.F.entry_dict_get (PySem.F.args_dict_get_2 _ _) (meets_dict_get (strKind X.prog X.w) a (strKind_is X.prog X.w z t) low) ⟨_, hm, ?_⟩
  rw [PySem.W.find_K hl' hn]
  exact ⟨_, H2, I2.tok _, rr, q2⟩
end
end Rg

/-! len(o) by an own __len__ -/
namespace Rg
open PySem PySem.Spec PyProof.Rows L2
section
variable {prog : Program} {w : World} {A : Around} {E : Value → Shared → Prop} {s : Shared} {K : PySem.W.Frag} {x C f : Addr} {ox : Obj} {od : Option Obj}
theorem len_In {Q : Value → Shared → Prop} (X : K.In s.heap) (I : PySem.W.InstAt s.heap x ox C od) (hs : PySem.W.findIn K (.ref C) "__len__" = some (some (.ref f))) (hf : PySem.W.isFn K (.ref f) = true)
    (h : wpAny (model prog w) A.in1 (call (.ref f) [.ref x]) (PySem.W.LenBack Q) E s) : wpAny (model prog w) A (call (.builtin "len") [.ref x]) Q E s := by
  refine Calls.call_function_entry kind_len plain_len entry_len (args_len1 _) ?_
  unfold Builtin.«len»
  refine wpAny_bind (m := oneArg "len" _) (wpAny_pure ?_)
  refine wpAny_bind (m := callSpecial? (.ref x) (Str.ofString "__len__")) (PySem.W.special_fn X I hs (beq_iff_eq.mp hf) (wpAny_mono h (fun r s' hr => ?_) fun _ _ y => y))
  cases r <;> first | exact hr.elim | skip
  rename_i n u
  obtain ⟨⟨h0, h1⟩, hq⟩ := hr
  refine wpAny_bind (wpAny_holding (wpAny_pure ?_))
  refine wpAny_bind (wpAny_letGo ?_)
  show wpAny _ _ (if n < 0 then _ else _) _ _ _
  rw [if_neg (by omega)]
  show wpAny _ _ (if n ≥ 2 ^ 63 then _ else _) _ _ _
  rw [if_neg (by omega)]
  exact wpAny_bind (wpAny_mkInt (wpAny_pure ⟨_, rfl, hq⟩))
end
section
variable {X : Cx} {CX : CXT} {k : Nat} {f C : Addr} {fd : FuncData} {ps : List PySem.Str} {sp : Sp} {E : XK}
/-- len(o): what __len__ promises of [o] -/
def rLenO (C : Addr) (sp : Sp) (E : XK) : List V → Hp → VK → Prop := fun xs H Q => ∃ a dx fs, xs = [.ref a] ∧ H a = some (.ins C dx fs) ∧ sp [.ref a] H (fun v H2 => ∃ n : Int, v = .int n ∧ 0 ≤ n ∧ n < 2 ^ 63 ∧ Q (.int n) H2) E
theorem call_lenO (hm : Meth X.K C "__len__" f) (F : FnOk X.prog X.w X.K X.mg X.base CX k f fd ps sp) (hr : Room (k + 1) X.A) (hb : Binds X.K fd ps []) (hx : Passes CX X E) : CallR X (.builtin "len") (rLenO C sp E) := by
  intro pins s σ H xs us Q I r h
  obtain ⟨a, dx, fs, rfl, ea, q⟩ := h
  cases r with
  | cons r rr =>
    cases rr
    obtain rfl : _ = Value.ref a := r
    obtain ⟨mA, O, _, _, _, _⟩ := ins_get I.hok ea
    obtain ⟨od, J, _⟩ := O.look
    refine len_In I.kIn J hm.at_ hm.fn ?_
    have hl : ([Value.ref a] : List Value).length = ps.length := by
      have := F.len _ _ _ _ q
      exact this
    have hbt := hb s [.ref a] I.kIn (by rw [List.append_nil]; exact hl)
    rw [List.append_nil] at hbt
    refine wpAny_call (codeAny_mono (F.run X.A.in1 X.stack s H ⟨[.ref a], []⟩ [.ref a] [.ref a] _ E hr.in1 I.env0.in1 hbt (.cons rfl .nil) q) fun r s' hq => ?_)
    cases r with
    | error e => exact hx pins σ H s e s' I hq
    | ok fl =>
      cases fl with
      | ret u =>
        obtain ⟨v, H', I3, rv, n, ev, h0, h1, q3⟩ := I.after hq
        subst ev
        obtain ⟨t, rfl⟩ := (show ∃ t, u = Value.int n t from rv)
        exact ⟨⟨h0, h1⟩, V.int n, H', I3.tok _, ⟨_, rfl⟩, q3⟩
      | next => exact False.elim hq
      | brk => exact False.elim hq
      | cont => exact False.elim hq
end
end Rg

set_option maxHeartbeats 4000000
set_option linter.all false
/-! the ground: callable defs, the readings' steps, heaps, data -/
namespace Rg
open PySem PySem.Spec L2
/-- a def of the top that can be called by its name, by places -/
structure Cal (P : Program) (w : World) (K : PySem.W.Frag) (mg : Str → Option Value) (base : Heap) (x : Str) (k : Nat) (ps : List Str) (sp : Sp) : Prop where
  ex : ∃ (f : Addr) (fd : FuncData), mg x = some (.ref f) ∧ PySem.W.keepIn K (.ref f) = true ∧ Binds K fd ps [] ∧ FnOk P w K mg base CX0 k f fd ps sp
section
variable {X : Cx} {k : Nat} {ps : List Str} {sp : Sp} {x : Str} {p pos : Pos} {e : Expr} {es : List Expr} {t : TA}
theorem pe_cal (C : Cal X.prog X.w X.K X.mg X.base x k ps sp) (hr : Room k X.A) (hg : Gl X x) (ha : PA X (e :: es) t) (hdb : (x == ("__debug__" : Str)) = false := by decide)
    (he : starEach (e :: es) X.env = (false, eval e X.env) :: starEach es X.env := by rfl) (hpl : (backTo pos (starEach es X.env)).any (·.1) = false := by rfl) :
    PE X (.Call (.Name x p) (e :: es) [] pos) (tCall sp [] E0 t) := by
  obtain ⟨f, fd, hm, hk, hb, F⟩ := C.ex
  exact pe_call F hr hg hm hk hb .nil pass0 ha hdb he hpl
theorem pe_cal0 (C : Cal X.prog X.w X.K X.mg X.base x k ps sp) (hr : Room k X.A) (hg : Gl X x) (hdb : (x == ("__debug__" : Str)) = false := by decide) :
    PE X (.Call (.Name x p) [] [] pos) (tCall sp [] E0 tNil) := by
  obtain ⟨f, fd, hm, hk, hb, F⟩ := C.ex
  exact pe_call0 F hr hg hm hk hb .nil pass0 hdb
/-- a power of two written numbers -/
theorem pe_powc {i j v : Int} {a b : Nat} {p1 p2 : Pos} (hc : 0 ≤ j ∧ j ≤ 1000000 ∧ i.natAbs < 2 ^ 64) (hv : i ^ j.toNat = v) : PE X (.BinOp (.Constant (.int i) a p1) .Pow (.Constant (.int j) b p2) pos) (tC (.int v)) := by
  have h : PE X (.BinOp (.Constant (.int i) a p1) .Pow (.Constant (.int j) b p2) pos) (tOp (rI CPow fun i j => .int (i ^ j.toNat)) (tC (.int i)) (tC (.int j))) := pe_op op_pow pe_int pe_int
  refine ⟨fun pins s σ H Q I q => h.run pins s σ H Q I ⟨i, j, rfl, rfl, hc, ?_⟩⟩
  show Q (V.int (i ^ j.toNat)) H
  rw [hv]
  exact q
end

/-! ### the steps of a reading -/
section
variable {t u : TS} {D : Ends} {σ : St} {H : Hp} {te ta tb : TE} {g : TG} {Q : VK} {c : TT} {i : Nat} {v : V}
theorem rd_seq (h : t { D with nx := u D } σ H) : tSeq t u D σ H := h
theorem rd_next (h : D.nx σ H) : tNext D σ H := h
theorem rd_asg (h : te σ H fun x H1 => g x σ H1 D.nx) : tAsg te g D σ H := h
theorem rd_name {R : St → Hp → Prop} (h : R (σ.set i (some v)) H) : gName i v σ H R := h
theorem rd_ret (h : te σ H D.rt) : tRet te D σ H := h
theorem rd_drop (h : te σ H fun _ H1 => D.nx σ H1) : tDrop te D σ H := h
theorem rd_ifs (h : c σ H fun b H1 => if b = true then t D σ H1 else u D σ H1) : tIfS c t u D σ H := h
theorem rd_var (e : σ[i]? = some (some v)) (h : Q v H) : tVar i σ H Q := ⟨v, e, h⟩
theorem rd_c (h : Q v H) : tC v σ H Q := h
theorem rd_op {r : R2} (h : ta σ H fun x H1 => tb σ H1 fun y H2 => r x y H2 Q) : tOp r ta tb σ H Q := h
theorem rd_un {r : V → Hp → VK → Prop} (h : ta σ H fun x H1 => r x H1 Q) : tUn r ta σ H Q := h
theorem rd_I0 {f : Int → Int → V} {a b : Int} (h : Q (f a b) H) : rI0 f (.int a) (.int b) H Q := ⟨a, b, rfl, rfl, h⟩
theorem rd_I {C : Int → Int → Prop} {f : Int → Int → V} {a b : Int} (hc : C a b) (h : Q (f a b) H) : rI C f (.int a) (.int b) H Q := ⟨a, b, rfl, rfl, hc, h⟩
theorem rd_eq {x y : V} (hc : scal x y = true) (h : Q (.bl (decide (x = y))) H) : rEq x y H Q := ⟨hc, h⟩
theorem rd_ne {x y : V} (hc : scal x y = true) (h : Q (.bl (!decide (x = y))) H) : rNe x y H Q := ⟨hc, h⟩
theorem rd_test {te : TE} {R : Bool → Hp → Prop} (h : te σ H fun x H' => ∃ k, x = .bl k ∧ R k H') : tTest te σ H R := h
theorem rd_tB {te : TE} {R : Bool → Hp → Prop} (h : te σ H fun x H' => ∃ k, x = .bl k ∧ R k H') : tB te σ H R := h
theorem rd_not {R : Bool → Hp → Prop} (h : c σ H fun b H1 => R (!b) H1) : tNot c σ H R := h
theorem rd_and {c' : TT} {R : Bool → Hp → Prop} (h : c σ H fun b H1 => if b = true then c' σ H1 R else R false H1) : tAnd c c' σ H R := h
theorem rd_or {c' : TT} {R : Bool → Hp → Prop} (h : c σ H fun b H1 => if b = true then R true H1 else c' σ H1 R) : tOr c c' σ H R := h
theorem rd_andV (h : ta σ H fun x H1 => ∃ k, x = .bl k ∧ if k = true then tb σ H1 Q else Q (.bl false) H1) : tAndV ta tb σ H Q := h
theorem rd_orV (h : ta σ H fun x H1 => ∃ k, x = .bl k ∧ if k = true then Q (.bl true) H1 else tb σ H1 Q) : tOrV ta tb σ H Q := h
theorem rd_notV (h : ta σ H fun x H1 => ∃ k, x = .bl k ∧ Q (.bl (!k)) H1) : tNotV ta σ H Q := h
theorem rd_bl {R : Bool → Prop} {k : Bool} (h : R k) : ∃ k', V.bl k = .bl k' ∧ R k' := ⟨k, rfl, h⟩
theorem rd_chain {r r' : R2} {tc : TE} (h : ta σ H fun x H1 => tb σ H1 fun y H2 => r x y H2 fun z H3 => ∃ k, z = .bl k ∧ (if k = true then tc σ H3 fun w' H4 => r' y w' H4 Q else Q (.bl false) H3)) : tChain r r' ta tb tc σ H Q := h
theorem rd_nil {R : List V → Hp → Prop} (h : R [] H) : tNil σ H R := h
theorem rd_cons {tr : TA} {R : List V → Hp → Prop} (h : ta σ H fun x H1 => tr σ H1 fun xs H2 => R (x :: xs) H2) : tCons ta tr σ H R := h
theorem rd_call {sp : Sp} {dvs : List V} {E : XK} {tr : TA} (h : tr σ H fun vs H1 => sp (vs ++ dvs) H1 Q E) : tCall sp dvs E tr σ H Q := h
theorem rd_cb {r : List V → Hp → VK → Prop} {tr : TA} (h : tr σ H fun vs H1 => r vs H1 Q) : tCB r tr σ H Q := h
theorem rd_tup {tr : TA} (h : tr σ H fun xs H1 => xs.length ≤ sizeLine ∧ ∀ p, H1 p = none → Q (.ref p) (upd H1 p (.tup xs))) : tTup tr σ H Q := h
theorem rd_lst {tr : TA} (h : tr σ H fun xs H1 => xs.length ≤ sizeLine ∧ ∀ p, H1 p = none → Q (.ref p) (upd H1 p (.lst xs))) : tLst tr σ H Q := h
theorem rd_isN (h : ta σ H fun x H1 => Q (.bl (decide (x = .non))) H1) : tIsN ta σ H Q := h
end
theorem rd_ifd {p A B : Prop} [Decidable p] (h1 : p → A) (h2 : ¬ p → B) : if decide p = true then A else B := by
  by_cases h : p
  · rw [decide_eq_true h]
    exact iteT (h1 h)
  · rw [decide_eq_false h]
    exact iteF (h2 h)
theorem rd_ifT {p A B : Prop} [Decidable p] (h : p) (h1 : A) : if decide p = true then A else B := rd_ifd (fun _ => h1) (fun z => absurd h z)
theorem rd_ifF {p A B : Prop} [Decidable p] (h : ¬ p) (h1 : B) : if decide p = true then A else B := rd_ifd (fun z => absurd z h) (fun _ => h1)
theorem rd_ifI {a b : Int} {A B : Prop} (h1 : a = b → A) (h2 : a ≠ b → B) : if decide (V.int a = V.int b) = true then A else B := rd_ifd (fun h => h1 (by injection h)) (fun h => h2 fun e => h (by rw [e]))
theorem rd_ifIn {a b : Int} {A B : Prop} (h1 : a = b → B) (h2 : a ≠ b → A) : if (!decide (V.int a = V.int b)) = true then A else B := by
  by_cases h : a = b
  · subst h
    simpa using h1 rfl
  · have : ¬ V.int a = V.int b := fun e => h (by injection e)
    simpa [this] using h2 h
theorem rd_ifb {k : Bool} {A B : Prop} (h1 : k = true → A) (h2 : k = false → B) : if k = true then A else B := by
  cases k
  · exact iteF (h2 rfl)
  · exact iteT (h1 rfl)
theorem rd_ifbT {k : Bool} {A B : Prop} (h : k = true) (h1 : A) : if k = true then A else B := by
  subst h
  exact iteT h1
theorem rd_ifbF {k : Bool} {A B : Prop} (h : k = false) (h1 : B) : if k = true then A else B := by
  subst h
  exact iteF h1
theorem rd_ifn {k : Bool} {A B : Prop} (h1 : k = true → B) (h2 : k = false → A) : if (!k) = true then A else B := by
  cases k
  · exact iteT (h2 rfl)
  · exact iteF (h1 rfl)
/-- a display's place -/
theorem rd_new {n : Nat} {R : Prop} (h : Nat.ble n sizeLine = true) (q : R) : n ≤ sizeLine ∧ R := ⟨Nat.le_of_ble_eq_true h, q⟩

/-! ### heaps -/
theorem same_upd {H : Hp} {p : Addr} {o : HO} (h : H p = none) : Same H (upd H p o) := fun b u e => by rw [upd_ne (ne_of_none e h)]; exact e
/-- tuples stay -/
def Tk (H H' : Hp) : Prop := ∀ b xs, H b = some (.tup xs) → H' b = some (.tup xs)
theorem Tk.refl (H : Hp) : Tk H H := fun _ _ h => h
theorem Tk.trans {H H1 H2 : Hp} (a : Tk H H1) (b : Tk H1 H2) : Tk H H2 := fun c o h => b c o (a c o h)
theorem Tk.of {H H' : Hp} (s : Same H H') : Tk H H' := fun c o h => s c _ h
theorem Tk.new {H : Hp} {p : Addr} {o : HO} (h : H p = none) : Tk H (upd H p o) := .of (same_upd h)
/-- a list is changed -/
theorem Tk.lst {H : Hp} {p : Addr} {xs : List V} {o : HO} (h : H p = some (.lst xs)) : Tk H (upd H p o) := fun b u e => by rw [upd_ne (ne_of e h (fun z => nomatch z))]; exact e
theorem Tk.ins {H : Hp} {p C dx : Addr} {fs : List (Str × V)} {o : HO} (h : H p = some (.ins C dx fs)) : Tk H (upd H p o) := fun b u e => by rw [upd_ne (ne_of e h (fun z => nomatch z))]; exact e
/-- all but two lists are kept -/
def Kp (t g : Addr) (H H' : Hp) : Prop := ∀ b o, H b = some o → b ≠ t → b ≠ g → H' b = some o
theorem Kp.refl (t g : Addr) (H : Hp) : Kp t g H H := fun _ _ h _ _ => h
theorem Kp.trans {t g : Addr} {H H1 H2 : Hp} (a : Kp t g H H1) (b : Kp t g H1 H2) : Kp t g H H2 := fun c o h n m => b c o (a c o h n m) n m
theorem Kp.of {t g : Addr} {H H' : Hp} (s : Same H H') : Kp t g H H' := fun c o h _ _ => s c o h
theorem Kp.new {t g : Addr} {H : Hp} {p : Addr} {o : HO} (h : H p = none) : Kp t g H (upd H p o) := .of (same_upd h)
theorem Kp.t {t g : Addr} {H : Hp} {o : HO} : Kp t g H (upd H t o) := fun b u e n _ => by rw [upd_ne n]; exact e
theorem Kp.g {t g : Addr} {H : Hp} {o : HO} : Kp t g H (upd H g o) := fun b u e _ n => by rw [upd_ne n]; exact e
/-- a place that was free, written again -/
theorem Kp.put {t g : Addr} {H H' : Hp} {p : Addr} {o : HO} (k : Kp t g H H') (h : H p = none) : Kp t g H (upd H' p o) := fun b u e n m => by rw [upd_ne (ne_of_none e h)]; exact k b u e n m
/-- the draws' tray: two lists; at most n mixed draws so far -/
structure Tray (H : Hp) (t g : Addr) (n : Nat) : Prop where
  ne : t ≠ g
  ex : ∃ (gs : List Int) (a f c : Int), H t = some (.lst [.ref g, .int a, .int f, .int c]) ∧ H g = some (.lst (gs.map V.int)) ∧ (∀ z ∈ gs, 0 ≤ z) ∧ 0 ≤ a ∧ 0 ≤ f ∧ f < 2305843009213693952 ∧ 0 ≤ c ∧ c ≤ (n : Int)
theorem Tray.mono {H : Hp} {t g : Addr} {n m : Nat} (T : Tray H t g n) (h : n ≤ m) : Tray H t g m := by
  obtain ⟨ne, gs, a, f, c, h1, h2, h3, h4, h5, h6, h7, h8⟩ := T
  exact ⟨ne, gs, a, f, c, h1, h2, h3, h4, h5, h6, h7, by omega⟩
theorem Tray.same {H H' : Hp} {t g : Addr} {n : Nat} (T : Tray H t g n) (s : Same H H') : Tray H' t g n := by
  obtain ⟨ne, gs, a, f, c, h1, h2, h3⟩ := T
  exact ⟨ne, gs, a, f, c, s _ _ h1, s _ _ h2, h3⟩
theorem Tray.new {H : Hp} {t g p : Addr} {n : Nat} {o : HO} (T : Tray H t g n) (h : H p = none) : Tray (upd H p o) t g n := T.same (same_upd h)
theorem Tray.put {H : Hp} {t g p : Addr} {n : Nat} {o : HO} (T : Tray H t g n) (h1 : p ≠ t) (h2 : p ≠ g) : Tray (upd H p o) t g n := by
  obtain ⟨ne, gs, a, f, c, e1, e2, h3⟩ := T
  exact ⟨ne, gs, a, f, c, by rw [upd_ne (Ne.symm h1)]; exact e1, by rw [upd_ne (Ne.symm h2)]; exact e2, h3⟩
theorem Tray.ht {H : Hp} {t g : Addr} {n : Nat} (T : Tray H t g n) : ∃ xs, H t = some (.lst xs) := by
  obtain ⟨_, _, _, _, _, e, _⟩ := T
  exact ⟨_, e⟩
theorem Tray.hg {H : Hp} {t g : Addr} {n : Nat} (T : Tray H t g n) : ∃ xs, H g = some (.lst xs) := by
  obtain ⟨_, _, _, _, _, _, e, _⟩ := T
  exact ⟨_, e⟩
/-- a place that was free is none of the tray's -/
theorem Tray.net {H : Hp} {t g p : Addr} {n : Nat} (T : Tray H t g n) (h : H p = none) : p ≠ t := by
  obtain ⟨_, e⟩ := T.ht
  exact Ne.symm (ne_of_none e h)
theorem Tray.neg {H : Hp} {t g p : Addr} {n : Nat} (T : Tray H t g n) (h : H p = none) : p ≠ g := by
  obtain ⟨_, e⟩ := T.hg
  exact Ne.symm (ne_of_none e h)
theorem Tray.netT {H : Hp} {t g p : Addr} {n : Nat} {xs : List V} (T : Tray H t g n) (h : H p = some (.tup xs)) : p ≠ t := by
  obtain ⟨_, e⟩ := T.ht
  exact ne_of h e (fun z => nomatch z)
theorem Tray.negT {H : Hp} {t g p : Addr} {n : Nat} {xs : List V} (T : Tray H t g n) (h : H p = some (.tup xs)) : p ≠ g := by
  obtain ⟨_, e⟩ := T.hg
  exact ne_of h e (fun z => nomatch z)
theorem Kp.tk {t g : Addr} {H H' : Hp} {n : Nat} (k : Kp t g H H') (T : Tray H t g n) : Tk H H' := fun b xs e => k b _ e (T.netT e) (T.negT e)

/-! ### data: None, bools, ints, texts, and tuples of such, at any depth -/
mutual
inductive Rp (H : Hp) : V → PyData → Prop
  | non : Rp H .non .none
  | bl (b : Bool) : Rp H (.bl b) (.bool b)
  | int (i : Int) : Rp H (.int i) (.int i)
  | str (x : Str) : Rp H (.str x) (.str x)
  | tup {a : Addr} {xs : List V} {ds : List PyData} : H a = some (.tup xs) → RpAll H xs ds → Rp H (.ref a) (.tuple ds)
inductive RpAll (H : Hp) : List V → List PyData → Prop
  | nil : RpAll H [] []
  | cons {v : V} {vs : List V} {d : PyData} {ds : List PyData} : Rp H v d → RpAll H vs ds → RpAll H (v :: vs) (d :: ds)
end
mutual
theorem Rp.keep {H H' : Hp} (k : Tk H H') : ∀ {d : PyData} {v : V}, Rp H v d → Rp H' v d
  | _, _, .non => .non
  | _, _, .bl b => .bl b
  | _, _, .int i => .int i
  | _, _, .str x => .str x
  | _, _, .tup e h => .tup (k _ _ e) (RpAll.keep k h)
theorem RpAll.keep {H H' : Hp} (k : Tk H H') : ∀ {ds : List PyData} {vs : List V}, RpAll H vs ds → RpAll H' vs ds
  | _, _, .nil => .nil
  | _, _, .cons h t => .cons (Rp.keep k h) (RpAll.keep k t)
end
mutual
theorem Rp.dp {K : PySem.W.Frag} {H : Hp} : ∀ {d : PyData} {v : V}, Rp H v d → Dp K H v d
  | _, _, .non => .non
  | _, _, .bl b => .bl b
  | _, _, .int i => .int i
  | _, _, .str x => .str x
  | _, _, .tup e h => .tup (SqT.of e) (RpAll.dp h)
theorem RpAll.dp {K : PySem.W.Frag} {H : Hp} : ∀ {ds : List PyData} {vs : List V}, RpAll H vs ds → DpAll K H vs ds
  | _, _, .nil => .nil
  | _, _, .cons h t => .cons (Rp.dp h) (RpAll.dp t)
end
theorem Rp.tup_inv {H : Hp} {v : V} {ds : List PyData} (h : Rp H v (.tuple ds)) : ∃ p xs, v = .ref p ∧ H p = some (.tup xs) ∧ RpAll H xs ds := by
  cases h with
  | tup e a => exact ⟨_, _, rfl, e, a⟩
theorem Rp.int_inv {H : Hp} {v : V} {i : Int} (h : Rp H v (.int i)) : v = .int i := by cases h; rfl
theorem Rp.str_inv {H : Hp} {v : V} {x : Str} (h : Rp H v (.str x)) : v = .str x := by cases h; rfl
theorem RpAll.nil_inv {H : Hp} {vs : List V} (h : RpAll H vs []) : vs = [] := by cases h; rfl
theorem RpAll.cons_inv {H : Hp} {vs : List V} {d : PyData} {ds : List PyData} (h : RpAll H vs (d :: ds)) : ∃ v r, vs = v :: r ∧ Rp H v d ∧ RpAll H r ds := by
  cases h with
  | cons a b => exact ⟨_, _, rfl, a, b⟩
theorem RpAll.length {H : Hp} : ∀ {ds : List PyData} {vs : List V}, RpAll H vs ds → vs.length = ds.length
  | _, _, .nil => rfl
  | _, _, .cons _ t => congrArg Nat.succ (RpAll.length t)
theorem RpAll.get {H : Hp} : ∀ {ds : List PyData} {vs : List V} {i : Nat} {v : V}, RpAll H vs ds → vs[i]? = some v → ∃ d, ds[i]? = some d ∧ Rp H v d
  | _, _, _, _, .nil, e => by simp at e
  | _, _, 0, _, .cons h _, e => by
    simp at e
    subst e
    exact ⟨_, rfl, h⟩
  | _, _, i + 1, _, .cons _ t, e => by
    obtain ⟨d, h1, h2⟩ := RpAll.get (i := i) t (by simpa using e)
    exact ⟨d, by simpa using h1, h2⟩
theorem RpAll.get2 {H : Hp} : ∀ {ds : List PyData} {vs : List V} {i : Nat} {d : PyData}, RpAll H vs ds → ds[i]? = some d → ∃ v, vs[i]? = some v ∧ Rp H v d
  | _, _, _, _, .nil, e => by simp at e
  | _, _, 0, _, .cons h _, e => by
    simp at e
    subst e
    exact ⟨_, rfl, h⟩
  | _, _, i + 1, _, .cons _ t, e => by
    obtain ⟨d, h1, h2⟩ := RpAll.get2 (i := i) t (by simpa using e)
    exact ⟨d, by simpa using h1, h2⟩
theorem RpAll.append {H : Hp} : ∀ {ds es : List PyData} {vs us : List V}, RpAll H vs ds → RpAll H us es → RpAll H (vs ++ us) (ds ++ es)
  | _, _, _, _, .nil, h => h
  | _, _, _, _, .cons a t, h => .cons a (RpAll.append t h)
theorem RpAll.ints {H : Hp} : ∀ (ns : List Int), RpAll H (ns.map V.int) (ns.map PyData.int)
  | [] => .nil
  | n :: ns => .cons (.int n) (RpAll.ints ns)
theorem RpAll.ints_inv {H : Hp} : ∀ {ns : List Int} {vs : List V}, RpAll H vs (ns.map PyData.int) → vs = ns.map V.int
  | [], _, h => h.nil_inv
  | n :: ns, _, h => by
    obtain ⟨v, r, rfl, h1, h2⟩ := RpAll.cons_inv h
    rw [h1.int_inv, RpAll.ints_inv h2]
    rfl
end Rg

/-! globals, the domain's data, promises -/
namespace Rg
open PySem PySem.Spec L2
/-- built-in names that the top leaves alone -/
structure BT (mg : Str → Option Value) : Prop where
  g_len : mg "len" = none
  g_range : mg "range" = none
  g_isinstance : mg "isinstance" = none
  g_all : mg "all" = none
  g_max : mg "max" = none
  g_sorted : mg "sorted" = none
  g_tuple : mg "tuple" = none
  g_list : mg "list" = none
  g_int : mg "int" = none
  g_bool : mg "bool" = none
  g_str : mg "str" = none
  g_enumerate : mg "enumerate" = none
  g_zip : mg "zip" = none
  g_sum : mg "sum" = none
  g_min : mg "min" = none
  g_any : mg "any" = none
  g_abs : mg "abs" = none
/-- an int of the top -/
def GI (mg : Str → Option Value) (x : Str) (n : Int) : Prop := ∃ t, mg x = some (Value.int n t)
/-- a tuple of the top -/
def GTu (K : PySem.W.Frag) (mg : Str → Option Value) (x : Str) (xs : List V) : Prop := ∃ a, mg x = some (.ref a) ∧ ∀ H, SqT K H a xs
def tGt (K : PySem.W.Frag) (xs : List V) : TE := fun _ H Q => ∀ a, (∀ H, SqT K H a xs) → Q (.ref a) H
section
variable {X : Cx} {x : Str} {pos : Pos}
theorem pe_gi {n : Int} (h : GI X.mg x n) (hg : Gl X x) (hd : (x == ("__debug__" : Str)) = false := by decide) : PE X (.Name x pos) (tC (.int n)) := by
  obtain ⟨t, e⟩ := h
  exact pe_glob hg e ⟨t, rfl⟩ hd
theorem pe_gt {xs : List V} (h : GTu X.K X.mg x xs) (hg : Gl X x) (hd : (x == ("__debug__" : Str)) = false := by decide) : PE X (.Name x pos) (tGt X.K xs) := by
  obtain ⟨a, e, q⟩ := h
  have p : PE X (.Name x pos) (tC (.ref a)) := pe_glob hg e rfl hd
  exact ⟨fun pins s σ H Q I hw => p.run pins s σ H Q I (hw a q)⟩
end
section
variable {σ : L2.St} {H : Hp} {Q : VK} {K : PySem.W.Frag}
theorem rd_ixL {p : Addr} {xs : List V} {i : Int} {v : V} (h : H p = some (.lst xs)) (e : atI xs i = some v) (q : Q v H) : rIxL K (.ref p) (.int i) H Q := ⟨p, xs, i, v, rfl, rfl, SqL.of h, e, q⟩
theorem rd_ixT {p : Addr} {xs : List V} {i : Int} {v : V} (h : H p = some (.tup xs)) (e : atI xs i = some v) (q : Q v H) : rIxT K (.ref p) (.int i) H Q := ⟨p, xs, i, v, rfl, rfl, SqT.of h, e, q⟩
theorem rd_isi {x c : V} {t u : Value} {b : Bool} (h1 : ClsV c u) (h2 : TyX K H x t) (h3 : PySem.W.kitOne K t u = some b) (q : Q (.bl b) H) : rIsi K [x, c] H Q := ⟨x, c, t, u, b, rfl, h1, h2, h3, q⟩
end
section
variable {σ : L2.St} {H : Hp} {Q : VK} {K : PySem.W.Frag} {D : Ends}
theorem rd_mod {a b : Int} (hc : 0 < b) (h : Q (.int (a % b)) H) : rI (fun _ j => 0 < j) (fun i j => .int (i % j)) (.int a) (.int b) H Q := ⟨a, b, rfl, rfl, hc, h⟩
theorem rd_mul {a b : Int} (hc : CMul a b) (h : Q (.int (a * b)) H) : rI CMul (fun i j => .int (i * j)) (.int a) (.int b) H Q := ⟨a, b, rfl, rfl, hc, h⟩
theorem rd_fdivW {a b : Int} (hc : CDivW a b) (h : Q (.int (a / b)) H) : rI CDivW (fun i j => .int (i / j)) (.int a) (.int b) H Q := ⟨a, b, rfl, rfl, hc, h⟩
theorem rd_pow {a b : Int} (hc : CPow a b) (h : Q (.int (a ^ b.toNat)) H) : rI CPow (fun i j => .int (i ^ j.toNat)) (.int a) (.int b) H Q := ⟨a, b, rfl, rfl, hc, h⟩
theorem rd_neD {x y : V} {d e : PyData} (h1 : Dp K H x d) (h2 : Dp K H y e) (s1 : SeqAt.shaped d = true) (s2 : SeqAt.shaped e = true) (h : Q (.bl (!PyData.eqv d e)) H) : rNeD K x y H Q := ⟨d, e, h1, h2, s1, s2, h⟩
theorem rd_eqD {x y : V} {d e : PyData} (h1 : Dp K H x d) (h2 : Dp K H y e) (s1 : SeqAt.shaped d = true) (s2 : SeqAt.shaped e = true) (h : Q (.bl (PyData.eqv d e)) H) : rEqD K x y H Q := ⟨d, e, h1, h2, s1, s2, h⟩
theorem rd_bm {T : String} {r : V → List V → Hp → VK → Prop} {to : TE} {t : TA} (h : to σ H fun x H1 => tyV K T x H1 ∧ t σ H1 fun xs H2 => r x xs H2 Q) : tBM K T r to t σ H Q := h
theorem rd_bm0 {T : String} {r : V → List V → Hp → VK → Prop} {to : TE} (h : to σ H fun x H1 => tyV K T x H1 ∧ r x [] H1 Q) : tBM0 K T r to σ H Q := h
/-- a list's method -/
theorem rd_tyL {p : Addr} {xs : List V} {R : Prop} (h : H p = some (.lst xs)) (q : R) : tyV K "list" (.ref p) H ∧ R := ⟨.inl ⟨rfl, xs, SqL.of h⟩, q⟩
theorem rd_append {p : Addr} {xs : List V} {y : V} (h : H p = some (.lst xs)) (hl : xs.length < sizeLine) (q : Q .non (upd H p (.lst (xs ++ [y])))) : rAppend (.ref p) [y] H Q := ⟨p, xs, y, rfl, rfl, h, hl, q⟩
theorem rd_pop0 {p : Addr} {x : V} {xs : List V} (h : H p = some (.lst (x :: xs))) (q : Q x (upd H p (.lst xs))) : rPopAt (.ref p) [.int 0] H Q := ⟨p, x :: xs, 0, 0, x, rfl, rfl, h, by decide, by decide, by simp [seqIndex?], rfl, q⟩
theorem rd_gsub {to ti : TE} {t : TSet} {v : V} {R : L2.St → Hp → Prop} (h : to σ H fun o H1 => ti σ H1 fun i H2 => t o i v H2 fun H3 => R σ H3) : gSub to ti t v σ H R := h
theorem rd_setL {p : Addr} {xs : List V} {k : Int} {j : Nat} {v : V} {R : Hp → Prop} (h : H p = some (.lst xs)) (e : ixN xs.length k = some j) (q : R (upd H p (.lst (xs.set j v)))) : rSetL (.ref p) (.int k) v H R := ⟨p, xs, k, j, rfl, rfl, h, e, q⟩
theorem rd_sl {r : V → Option Int → Option Int → Hp → VK → Prop} {te : TE} {tl th : TO} (h : te σ H fun x H1 => tl σ H1 fun l H2 => th σ H2 fun u H3 => r x l u H3 Q) : tSl r te tl th σ H Q := h
theorem rd_gt {xs : List V} (h : ∀ a, (∀ H, SqT K H a xs) → Q (.ref a) H) : tGt K xs σ H Q := h
theorem rd_yes {R : Bool → Hp → Prop} (h : R true H) : tYes σ H R := h
end
theorem while_inv {c : TT} {tb : TS} {D : Ends} {σ : L2.St} {H : Hp} (W : Nat → L2.St → Hp → Prop) (h0 : ∃ m, W m σ H) (hx : ∀ m σ H, W m σ H → D.nx σ H)
    (hs : ∀ B : L2.St → Hp → Prop, (∀ m σ H, W m σ H → B σ H) → ∀ m σ H, W m σ H → c σ H fun b H1 => if b = true then ∃ N : L2.St → Hp → Prop, (∀ σ' H', N σ' H' → ∃ m', m' < m ∧ W m' σ' H') ∧ tb { nx := N, ct := N, bk := B, rt := D.rt } σ H1 else B σ H1) :
    tWhile c tb D σ H := ⟨W, h0, hs D.nx hx⟩
section
variable {J : It} {n : Nat} {G : Hp → Prop} {Y : Nat → Hp → V → Hp → Prop}
/-- a for without break -/
theorem for_inv (w : Walk J n G Y) {g : TG} {tb : TS} {Nx : L2.St → Hp → Prop} {rt : VK} {σ : L2.St} {H : Hp} (Pv : Nat → L2.St → Hp → Prop) (h0 : Pv 0 σ H) (hG : ∀ i σ H, i ≤ n → Pv i σ H → G H)
    (hs : ∀ (B : L2.St → Hp → Prop) i x σ H H', i < n → Pv i σ H → Y i H x H' → g x σ H' fun σ2 H2 => tb { nx := Pv (i + 1), rt := rt, bk := B, ct := Pv (i + 1) } σ2 H2) (hd : ∀ σ H, Pv n σ H → Nx σ H) :
    ∃ W : Nat → Nat → L2.St → Hp → Prop, (∃ m, W 0 m σ H) ∧ ∀ i m σ H, W i m σ H →
      (J.stop i H ∧ Nx σ H) ∨ (J.go i H ∧ ∃ N : L2.St → Hp → Prop, (∀ σ' H', N σ' H' → ∃ m', m' < m ∧ W (i + 1) m' σ' H') ∧ ∀ x H', J.yld i H x H' → g x σ H' fun σ2 H2 => tb { nx := N, rt := rt, bk := Nx, ct := N } σ2 H2) :=
  for_it w (D := ⟨Nx, rt, fun _ _ => False, fun _ _ => False⟩) Pv h0 hG (fun i x σ H H' hi p y => hs Nx i x σ H H' hi p y) hd
end
theorem rd_for {wi : TI} {g : TG} {tb : TS} {D : Ends} {σ : L2.St} {H : Hp} (h : wi σ H fun J H1 => ∃ W : Nat → Nat → L2.St → Hp → Prop, (∃ m, W 0 m σ H1) ∧ ∀ i m σ H, W i m σ H →
  (J.stop i H ∧ D.nx σ H) ∨ (J.go i H ∧ ∃ N : L2.St → Hp → Prop, (∀ σ' H', N σ' H' → ∃ m', m' < m ∧ W (i + 1) m' σ' H') ∧ ∀ x H', J.yld i H x H' → g x σ H' fun σ2 H2 => tb { D with nx := N, ct := N, bk := D.nx } σ2 H2)) : tFor wi g tb D σ H := h
theorem rd_ilist {K : PySem.W.Frag} {tl : TE} {σ : L2.St} {H : Hp} {R : It → Hp → Prop} (h : tl σ H fun x H1 => ∃ a, x = .ref a ∧ (∃ xs, SqL K H1 a xs) ∧ R (Itl K a) H1) : iList K tl σ H R := h
theorem rd_itup {K : PySem.W.Frag} {tl : TE} {σ : L2.St} {H : Hp} {R : It → Hp → Prop} (h : tl σ H fun x H1 => ∃ a, x = .ref a ∧ (∃ xs, SqT K H1 a xs) ∧ R (Itt K a) H1) : iTup K tl σ H R := h
theorem rd_irng {ta : TA} {σ : L2.St} {H : Hp} {R : It → Hp → Prop} (h : ta σ H fun vs H1 => ∃ j : Int, vs = [.int j] ∧ -(2 ^ 62) ≤ j ∧ j < 2 ^ 62 ∧ R (Itr 0 j.toNat) H1) : iRng1 ta σ H R := h
theorem rd_rng {j : Int} {H : Hp} {R : It → Hp → Prop} (h1 : -(2 ^ 62) ≤ j) (h2 : j < 2 ^ 62) (h : R (Itr 0 j.toNat) H) : ∃ k : Int, [V.int j] = [V.int k] ∧ -(2 ^ 62) ≤ k ∧ k < 2 ^ 62 ∧ R (Itr 0 k.toNat) H := ⟨j, rfl, h1, h2, h⟩
/-- a comprehension -/
theorem rd_lc {wi : TI} {g : TG} {tt : TT} {te : TE} {vs : List Nat} {σ : L2.St} {H : Hp} {Q : VK} (h : wi σ H fun J H1 => ∀ D, H1 D = none → ∃ W : Nat → Nat → Hp → Prop, (∃ m, W 0 m (upd H1 D (.lst []))) ∧ ∀ i m H, W i m H →
  (J.stop i H ∧ Q (.ref D) H) ∨ (J.go i H ∧ ∃ Nx : Hp → Prop, (∀ H', Nx H' → ∃ m', m' < m ∧ W (i + 1) m' H') ∧ ∀ x H', J.yld i H x H' → g x (wipe σ vs) H' fun σ2 H2 => wipe σ2 vs = wipe σ vs ∧ tt σ2 H2 fun b H3 =>
    if b = true then te σ2 H3 fun y H4 => ∃ acc, H4 D = some (.lst acc) ∧ acc.length < sizeLine ∧ Nx (upd H4 D (.lst (acc ++ [y]))) else Nx H3)) : tLc wi g tt te vs σ H Q := h
theorem rd_max {a b : Int} {H : Hp} {Q : VK} (h : Q (.int (if b > a then b else a)) H) : (fun xs H Q => ∃ i j, xs = [V.int i, V.int j] ∧ Q (.int (if j > i then j else i)) H) [V.int a, V.int b] H Q := ⟨a, b, rfl, h⟩
/-- shaped data: no dict, no depth above 64 -/
theorem shaped_ints (gs : List Int) : SeqAt.shaped (.list (gs.map .int)) = true := by
  have h1 : ∀ gs : List Int, PyData.canLayAll0 (gs.map .int) = true := fun gs => by
    induction gs with
    | nil => rfl
    | cons a r ih => simpa [PyData.canLayAll0, PyData.canLay0] using ih
  have h2 : ∀ gs : List Int, PyData.depthAll (gs.map .int) = 0 := fun gs => by
    induction gs with
    | nil => rfl
    | cons a r ih =>
      show max (PyData.depth (.int a)) (PyData.depthAll (r.map .int)) = 0
      rw [ih]
      rfl
  unfold SeqAt.shaped
  rw [show PyData.canLay0 (.list (gs.map .int)) = PyData.canLayAll0 (gs.map .int) from rfl, h1, show PyData.depth (.list (gs.map .int)) = PyData.depthAll (gs.map .int) + 1 from rfl, h2]
  rfl
theorem rd_in {K : PySem.W.Frag} {H : Hp} {Q : VK} {x : V} {p : Addr} {xs : List V} (h : H p = some (.lst xs)) (f1 : flatV x = true) (f2 : xs.all flatV = true) (q : Q (.bl (inV x xs)) H) : rIn K false x (.ref p) H Q := ⟨p, xs, rfl, .inl (SqL.of h), f1, f2, q⟩
theorem rd_notInT {K : PySem.W.Frag} {H : Hp} {Q : VK} {x : V} {p : Addr} {xs : List V} (h : SqT K H p xs) (f1 : flatV x = true) (f2 : xs.all flatV = true) (q : Q (.bl (!inV x xs)) H) : rIn K true x (.ref p) H Q := ⟨p, xs, rfl, .inr h, f1, f2, q⟩
theorem rd_ifS {a b : Str} {A B : Prop} (h1 : a = b → A) (h2 : a ≠ b → B) : if decide (V.str a = V.str b) = true then A else B := rd_ifd (fun h => h1 (by injection h)) (fun h => h2 fun e => h (by rw [e]))
theorem div3 {i : Int} : CDivW i 3 := wide_div (b := 8) (by decide) (by decide) (by decide) (by decide)
theorem div7 {i : Int} : CDivW i 7 := wide_div (b := 8) (by decide) (by decide) (by decide) (by decide)
end Rg

/-! the domain: words, rows, segments; what fits -/
namespace Rg
open PySem PySem.Spec L2
inductive Wd where
  | num (n : Int)
  | ptr (r s p : Int)
def Wd.d : Wd → PyData
  | .num n => .tuple [.str "num", .int n]
  | .ptr r s p => .tuple [.str "ptr", .int r, .int s, .int p]
structure Rw where
  op : Str
  ns : List Int
def Rw.d (r : Rw) : PyData := .tuple (.str r.op :: r.ns.map .int)
structure Sg where
  r1 : Int
  r2 : Int
  r3 : Int
  ri : Str
  ga : Int
  ws : List Wd
  rs : List Rw
def Sg.d (s : Sg) : PyData := .tuple [.tuple [.int s.r1, .int s.r2, .int s.r3], .str s.ri, .int s.ga, .tuple (s.ws.map Wd.d), .tuple (s.rs.map Rw.d)]
def rowForms : List (Str × Str) := [("set", "n"), ("add", "n"), ("load", "pn"), ("store", "pn"), ("fetch", "ppn"), ("keep", "ppn"), ("aim", "psn"), ("move", "ppn"), ("zero", "n"), ("go", "n"), ("call", "p"), ("return", "")]
def formOf (w : Str) : Option Str := rowForms.lookup w
def opsL : List Str := ["set", "add", "load", "store", "fetch", "keep", "aim", "move", "zero", "go", "call", "return"]
def below (n b : Int) : Bool := decide (0 ≤ n) && decide (n < b)
theorem below_of {n b : Int} (h1 : 0 ≤ n) (h2 : n < b) : below n b = true := by unfold below; rw [decide_eq_true h1, decide_eq_true h2]; rfl
theorem below_iff {n b : Int} : below n b = true ↔ 0 ≤ n ∧ n < b := by unfold below; simp
def numFits (c : Nat) (n m : Int) : Bool := if c = 112 then below n 4 else if c = 115 then below n m else true
def fitsNs : List Nat → List Int → Int → Bool
  | c :: cs, n :: ns, m => numFits c n m && fitsNs cs ns m
  | _, _, _ => true
def RwForm (r : Rw) : Prop := ∃ l, formOf r.op = some l ∧ l.cps.size = r.ns.length
def rowFits (r : Rw) (m : Int) : Bool := match formOf r.op with
  | some l => fitsNs l.cps.toList r.ns m
  | none => false
def wdFits : Wd → Int → Int → Bool
  | .num n, b, _ => below n b
  | .ptr r s p, _, m => below r 8 && (below s m && decide (0 ≤ p))
def rightsL : List Str := ["", "r", "w", "x", "rw", "rx", "wx", "rwx"]
def riFits (x : Str) : Bool := inV (.str x) (rightsL.map V.str)
def brFits (a b c : Int) : Bool := below a 8 && (below b 8 && (below c 8 && (decide (a ≤ b) && decide (b ≤ c))))
def sgFits (s : Sg) (b m : Int) : Bool := brFits s.r1 s.r2 s.r3 && (riFits s.ri && (below s.ga (s.rs.length + 1) && (decide (s.ws.length ≤ 16) && (decide (s.rs.length ≤ 24) && (s.ws.all (wdFits · b m) && s.rs.all (rowFits · m))))))
def opsA : List Str := ["set", "add", "zero", "go"]
def opsB : List Str := ["load", "store"]
def opsC : List Str := ["fetch", "keep", "move"]
theorem ops_all : ∀ w ∈ opsL, (inV (.str w) (opsA.map V.str) = true → formOf w = some ("n" : Str)) ∧ (inV (.str w) (opsA.map V.str) = false → (inV (.str w) (opsB.map V.str) = true → formOf w = some ("pn" : Str)) ∧ (inV (.str w) (opsB.map V.str) = false → (inV (.str w) (opsC.map V.str) = true → formOf w = some ("ppn" : Str)) ∧ (inV (.str w) (opsC.map V.str) = false → (w = "aim" → formOf w = some ("psn" : Str)) ∧ (w ≠ "aim" → (w = "return" → formOf w = some ("" : Str)) ∧ (w ≠ "return" → formOf w = some ("p" : Str)))))) := by decide +kernel
/-- an item of a written list of texts at an open place -/
theorem at_str {l : List Str} {r : Int} (h0 : 0 ≤ r) (h1 : r < l.length) : ∃ w, w ∈ l ∧ atI (l.map V.str) r = some (.str w) := by
  have e : r = ((r.toNat : Nat) : Int) := by omega
  have hl : r.toNat < l.length := by omega
  refine ⟨l[r.toNat], List.getElem_mem hl, ?_⟩
  refine at_of e ?_
  rw [List.getElem?_map, List.getElem?_eq_getElem (by omega)]
  simp
theorem at_two {x y : V} {r : Int} (h0 : 0 ≤ r) (h1 : r < 2) : atI [x, y] r = some (if r = 0 then x else y) := by
  have : r = 0 ∨ r = 1 := by omega
  rcases this with rfl | rfl <;> rfl
theorem wds_all {H : Hp} : ∀ {ws : List Wd} {vs : List V}, RpAll H vs (ws.map Wd.d) → vs.length = ws.length := fun h => by rw [h.length, List.length_map]
/-! ### a comprehension of drawn things -/
def GenL (t g D : Addr) (H1 : Hp) (n0 c : Nat) (Pd : PyData → Prop) (i : Nat) (H' : Hp) : Prop :=
  ∃ (vs : List V) (ds : List PyData), H' D = some (.lst vs) ∧ RpAll H' vs ds ∧ ds.length = i ∧ (∀ d ∈ ds, Pd d) ∧ Tray H' t g (n0 + c * i) ∧ Kp t g H1 H'
theorem GenL.start {t g D : Addr} {H1 : Hp} {n0 c : Nat} {Pd : PyData → Prop} (T : Tray H1 t g n0) (hD : H1 D = none) : GenL t g D H1 n0 c Pd 0 (upd H1 D (.lst [])) :=
  ⟨[], [], upd_same, .nil, rfl, fun _ h => (nomatch h), (T.new hD).mono (by omega), Kp.new hD⟩
theorem GenL.tray {t g D : Addr} {H1 H2 : Hp} {n0 c i : Nat} {Pd : PyData → Prop} (h : GenL t g D H1 n0 c Pd i H2) : Tray H2 t g (n0 + c * i) := by
  obtain ⟨_, _, _, _, _, _, T, _⟩ := h
  exact T
theorem GenL.step {t g D : Addr} {H1 H2 H4 : Hp} {n0 c i n : Nat} {Pd : PyData → Prop} {y : V} {d : PyData} (h : GenL t g D H1 n0 c Pd i H2) (T1 : Tray H1 t g n0) (hD : H1 D = none) (hi : i ≤ 1000) (T : Tray H4 t g n) (hn : n ≤ n0 + c * i + c) (k : Kp t g H2 H4) (r : Rp H4 y d) (p : Pd d) :
    ∃ acc, H4 D = some (.lst acc) ∧ acc.length < sizeLine ∧ GenL t g D H1 n0 c Pd (i + 1) (upd H4 D (.lst (acc ++ [y]))) := by
  obtain ⟨vs, ds, e, ra, hl, hp, T2, k2⟩ := h
  have e4 : H4 D = some (.lst vs) := k D _ e (T1.net hD) (T1.neg hD)
  have tk : Tk H2 (upd H4 D (.lst (vs ++ [y]))) := (k.tk T2).trans (Tk.lst e4)
  refine ⟨vs, e4, by rw [ra.length, hl]; exact small1000 hi, vs ++ [y], ds ++ [d], upd_same, (ra.keep tk).append (.cons (r.keep (Tk.lst e4)) .nil), by simp [hl], fun z hz => ?_, (T.put (T1.net hD) (T1.neg hD)).mono (by rw [Nat.mul_succ]; omega), (k2.trans k).put hD⟩
  rcases List.mem_append.mp hz with q | q
  · exact hp z q
  · rw [List.mem_singleton.mp q]
    exact p
theorem map_of {α : Type} {f : α → PyData} {Pp : α → Prop} : ∀ (ds : List PyData), (∀ d ∈ ds, ∃ x, d = f x ∧ Pp x) → ∃ xs : List α, ds = xs.map f ∧ ∀ x ∈ xs, Pp x
  | [], _ => ⟨[], rfl, fun _ h => (nomatch h)⟩
  | d :: ds, h => by
    obtain ⟨x, e, p⟩ := h d (List.mem_cons_self ..)
    obtain ⟨xs, e2, p2⟩ := map_of ds fun z hz => h z (List.mem_cons_of_mem _ hz)
    refine ⟨x :: xs, by rw [e, e2]; rfl, fun z hz => ?_⟩
    rcases List.mem_cons.mp hz with q | q
    · rw [q]
      exact p
    · exact p2 z q
def SgForm (s : Sg) : Prop := ∀ r ∈ s.rs, RwForm r
/-- three sorted numbers -/
theorem three_sorted {ns ns' : List Int} (hl : ns.length = 3) (hp : ns'.Perm ns) (hs : ns'.Pairwise (· ≤ ·)) : ∃ a b c, ns' = [a, b, c] ∧ a ≤ b ∧ b ≤ c ∧ a ∈ ns ∧ b ∈ ns ∧ c ∈ ns := by
  have h3 : ns'.length = 3 := hp.length_eq.trans hl
  match ns', h3, hs, hp with
  | [a, b, c], _, hs, hp =>
    rw [List.pairwise_cons, List.pairwise_cons] at hs
    exact ⟨a, b, c, rfl, hs.1 b (by simp), hs.2.1 c (by simp), hp.mem_iff.mp (by simp), hp.mem_iff.mp (by simp), hp.mem_iff.mp (by simp)⟩
/-- an item of a written list of ints at an open place -/
theorem at_int {l : List Int} {r : Int} (h0 : 0 ≤ r) (h1 : r < l.length) : ∃ w, w ∈ l ∧ atI (l.map V.int) r = some (.int w) := by
  have e : r = ((r.toNat : Nat) : Int) := by omega
  have hl : r.toNat < l.length := by omega
  refine ⟨l[r.toNat], List.getElem_mem hl, ?_⟩
  refine at_of e ?_
  rw [List.getElem?_map, List.getElem?_eq_getElem (by omega)]
  simp
/-! ### a comprehension of things that are told by what is walked -/
def CompL {β : Type} (D : Addr) (H1 : Hp) (xs : List β) (f : β → V) (i : Nat) (H' : Hp) : Prop := H' D = some (.lst ((xs.take i).map f)) ∧ Same H1 H'
theorem CompL.start {β : Type} {D : Addr} {H1 : Hp} {xs : List β} {f : β → V} (hD : H1 D = none) : CompL D H1 xs f 0 (upd H1 D (.lst [])) := ⟨upd_same, same_upd hD⟩
theorem take_snoc {β : Type} {xs : List β} {i : Nat} {b : β} (h : xs[i]? = some b) : xs.take (i + 1) = xs.take i ++ [b] := by
  rw [List.take_add_one, h]
  rfl
theorem CompL.step {β : Type} {D : Addr} {H1 H2 H4 : Hp} {xs : List β} {f : β → V} {i : Nat} {b : β} {y : V} (h : CompL D H1 xs f i H2) (hD : H1 D = none) (hi : i ≤ 1000) (hb : xs[i]? = some b) (k : Same H2 H4) (e : y = f b) :
    ∃ acc, H4 D = some (.lst acc) ∧ acc.length < sizeLine ∧ CompL D H1 xs f (i + 1) (upd H4 D (.lst (acc ++ [y]))) := by
  obtain ⟨h1, s1⟩ := h
  refine ⟨_, k _ _ h1, ?_, ?_, fun c o q => ?_⟩
  · rw [List.length_map, List.length_take]
    exact small1000 (by omega)
  · rw [upd_same, take_snoc hb, List.map_append, e]
    rfl
  · rw [upd_ne (ne_of_none q hD)]
    exact k _ _ (s1 _ _ q)
theorem CompL.end {β : Type} {D : Addr} {H1 H2 : Hp} {xs : List β} {f : β → V} {n : Nat} (h : CompL D H1 xs f n H2) (hn : n = xs.length) : H2 D = some (.lst (xs.map f)) := by
  subst hn
  have := h.1
  rwa [List.take_length] at this
/-- all([..]) of truths -/
theorem rd_all {β : Type} {K : PySem.W.Frag} {H : Hp} {Q : VK} {D : Addr} {xs : List β} {f : β → Bool} (h : H D = some (.lst (xs.map fun x => V.bl (f x)))) (q : Q (.bl (xs.all f)) H) : rAll K [.ref D] H Q := by
  refine ⟨D, xs.map f, rfl, SqL.of ?_, ?_⟩
  · rw [h, List.map_map]
    rfl
  · rw [List.all_map]
    exact q
theorem fits_zip : ∀ (cs : List Nat) (ns : List Int) (m : Int), (cs.zip ns).all (fun p => numFits p.1 p.2 m) = fitsNs cs ns m
  | [], _, _ => by unfold fitsNs; rfl
  | _ :: _, [], _ => rfl
  | c :: cs, n :: ns, m => by
    rw [List.zip_cons_cons, List.all_cons, fits_zip cs ns m]
    rfl
/-- zip(text, tuple) -/
theorem walk_zipS {K : PySem.W.Frag} {x : Str} {b : Addr} {ys : List V} {n : Nat} (hn : n = min x.cps.size ys.length) : Walk (ItzS K x b) n (fun H => SqT K H b ys) (YPair (fun i => (x.cps[i]?).map fun c => V.str ⟨#[c]⟩) (fun i => ys[i]?)) := by
  subst hn
  refine ⟨fun i H hi q => ?_, fun H q => ⟨ys, q, rfl⟩, fun i H v H' hi q y => ?_⟩
  · have h1 : i < x.cps.size := by omega
    have h2 : i < ys.length := by omega
    exact ⟨ys, x.cps[i], ys[i], q, by simp [h1], by simp [h2]⟩
  · obtain ⟨T, c, z, h1, h2, h3, h4, h5⟩ := y
    exact ⟨T, _, z, h1, h2, h3, by show (x.cps[i]?).map _ = _; rw [h4]; rfl, h5 ys q⟩
/-! ### more steps -/
theorem rd_ifnT {A B : Prop} (h : B) : if (!true) = true then A else B := iteF h
theorem rd_ifnF {A B : Prop} (h : A) : if (!false) = true then A else B := iteT h
section
variable {σ : L2.St} {H : Hp} {Q : VK} {K : PySem.W.Frag} {R : L2.St → Hp → Prop}
theorem rd_izipS {ta : TA} {R : It → Hp → Prop} (h : ta σ H fun vs H1 => ∃ (x : PySem.Str) (b : Addr) (ys : List V), vs = [.str x, .ref b] ∧ SqT K H1 b ys ∧ R (ItzS K x b) H1) : iZipS K ta σ H R := h
theorem rd_ienum {ta : TA} {R : It → Hp → Prop} (h : ta σ H fun vs H1 => ∃ a xs, vs = [.ref a] ∧ SqL K H1 a xs ∧ R (Ite K a) H1) : iEnum K ta σ H R := h
theorem rd_ixT0 {p : Addr} {x : V} {xs : List V} (h : H p = some (.tup (x :: xs))) (q : Q x H) : rIxT K (.ref p) (.int 0) H Q := ⟨p, x :: xs, 0, x, rfl, rfl, SqT.of h, atI_nat (j := 0) rfl, q⟩
theorem rd_gtup {n : Nat} {t : TGs} {a : Addr} {xs : List V} (h : H a = some (.tup xs)) (hl : xs.length = n) (q : t xs σ H R) : gTup K n t (.ref a) σ H R := ⟨a, xs, rfl, SqT.of h, hl, q⟩
theorem rd_gcons {t : TG} {u : TGs} {v : V} {r : List V} (q : t v σ H fun σ' H' => u r σ' H' R) : gCons t u (v :: r) σ H R := ⟨v, r, rfl, q⟩
theorem rd_gnil (q : R σ H) : gNil [] σ H R := ⟨rfl, q⟩
theorem rd_part {te : TE} {S : Option Int → Hp → Prop} (h : te σ H fun x H1 => ∃ i, x = .int i ∧ S (some i) H1) : tPart te σ H S := h
theorem rd_nopart {S : Option Int → Hp → Prop} (h : S none H) : tNoPart σ H S := h
theorem rd_cut1 {p : Addr} {x : V} {xs : List V} (h : H p = some (.tup (x :: xs))) (q : ∀ p', H p' = none → Q (.ref p') (upd H p' (.tup xs))) : rSlT K (.ref p) (some 1) none H Q := by
  refine ⟨p, x :: xs, rfl, SqT.of h, ?_, fun p' hp' => ?_⟩
  · rintro ⟨h1, _⟩
    simp [HT.sIx] at h1
  · have e : cutV (x :: xs) (some 1) none = xs := by
      unfold cutV
      simp [HT.sIx]
    rw [e]
    exact q p' hp'
end
/-- ROW_FORMS -/
def GFo (K : PySem.W.Frag) (w : World) (mg : Str → Option Value) : Prop := ∃ a, mg "ROW_FORMS" = some (.ref a) ∧ KIsD K a ∧ ∀ z l, formOf z = some l → KGot K w a z (some (.str l))
def tFo (K : PySem.W.Frag) (w : World) : TE := fun _ H Q => ∀ a, KIsD K a → (∀ z l, formOf z = some l → KGot K w a z (some (.str l))) → Q (.ref a) H
theorem pe_fo {X : Cx} {pos : Pos} (h : GFo X.K X.w X.mg) (hg : Gl X "ROW_FORMS") : PE X (.Name "ROW_FORMS" pos) (tFo X.K X.w) := by
  obtain ⟨a, e, q1, q2⟩ := h
  have p : PE X (.Name "ROW_FORMS" pos) (tC (.ref a)) := pe_glob hg e rfl
  exact ⟨fun pins s σ H Q I hw => p.run pins s σ H Q I (hw a q1 q2)⟩
theorem rd_fo {K : PySem.W.Frag} {w : World} {ty : TE} {σ : L2.St} {H : Hp} {Q : VK} (h : ty σ H fun y H2 => ∃ z l, y = .str z ∧ formOf z = some l ∧ Q (.str l) H2)
    (mono : ∀ R R' : VK, (∀ v H, R v H → R' v H) → ty σ H R → ty σ H R') : tKGet K w (tFo K w) ty σ H Q := fun a k1 k2 => by
  refine ⟨a, rfl, k1, mono _ _ (fun v H2 q => ?_) h⟩
  obtain ⟨z, l, e1, e2, q⟩ := q
  exact ⟨z, some (.str l), e1, k2 z l e2, q⟩
theorem form_len {l : Str} {w : Str} (h : formOf w = some l) : l.length ≤ 3 := by
  have : ∀ p ∈ rowForms, p.2.length ≤ 3 := by decide +kernel
  have hm : (w, l) ∈ rowForms := by
    have e : rowForms.lookup w = some l := h
    have : ∀ (L : List (Str × Str)) w l, L.lookup w = some l → (w, l) ∈ L := by
      intro L
      induction L with
      | nil => intro w l e; cases e
      | cons p L ih =>
        intro w l e
        rw [List.lookup_cons] at e
        by_cases hw : (w == p.1) = true
        · rw [hw] at e
          simp at e
          have : w = p.1 := by simpa using hw
          subst this
          subst e
          exact List.mem_cons_self ..
        · simp only [hw] at e
          exact List.mem_cons_of_mem _ (ih w l e)
    exact this _ w l e
  exact this _ hm
/-! ### data that may be compared -/
theorem DpAll.length {K : PySem.W.Frag} {H : Hp} : ∀ {ds : List PyData} {vs : List V}, DpAll K H vs ds → vs.length = ds.length
  | _, _, .nil => rfl
  | _, _, .cons _ t => congrArg Nat.succ (DpAll.length t)
theorem DpAll.get2 {K : PySem.W.Frag} {H : Hp} : ∀ {ds : List PyData} {vs : List V} {i : Nat} {d : PyData}, DpAll K H vs ds → ds[i]? = some d → ∃ v, vs[i]? = some v ∧ Dp K H v d
  | _, _, _, _, .nil, e => by simp at e
  | _, _, 0, _, .cons h _, e => by
    simp at e
    subst e
    exact ⟨_, rfl, h⟩
  | _, _, i + 1, _, .cons _ t, e => by
    obtain ⟨d, h1, h2⟩ := DpAll.get2 (i := i) t (by simpa using e)
    exact ⟨d, by simpa using h1, h2⟩
theorem Dp.lst_inv {K : PySem.W.Frag} {H : Hp} {v : V} {ds : List PyData} (h : Dp K H v (.list ds)) : ∃ a xs, v = .ref a ∧ SqL K H a xs ∧ DpAll K H xs ds := by
  cases h with
  | lst a b => exact ⟨_, _, rfl, a, b⟩
theorem Dp.tup_inv {K : PySem.W.Frag} {H : Hp} {v : V} {ds : List PyData} (h : Dp K H v (.tuple ds)) : ∃ a xs, v = .ref a ∧ SqT K H a xs ∧ DpAll K H xs ds := by
  cases h with
  | tup a b => exact ⟨_, _, rfl, a, b⟩
theorem tyT {K : PySem.W.Frag} {H : Hp} {a : Addr} {xs : List V} (h : SqT K H a xs) : TyX K H (.ref a) (.type "tuple") := by
  rcases h with (h | ⟨o, h⟩) | ⟨o, its, n, h1, h2, _⟩
  · exact .base (.tup h)
  · exact .fTuple h
  · exact .kTuple h1 h2
theorem tyL {K : PySem.W.Frag} {H : Hp} {a : Addr} {xs : List V} (h : SqL K H a xs) : TyX K H (.ref a) (.type "list") := by
  rcases h with (h | ⟨o, h⟩) | ⟨o, its, n, h1, h2, _⟩
  · exact .base (.lst h)
  · exact .base (.frz h)
  · exact .kList h1 h2
/-- data of at most so many levels, no dict, no list above a million -/
def okN : Nat → PyData → Prop
  | 0, _ => False
  | _ + 1, .none => True
  | _ + 1, .bool _ => True
  | _ + 1, .int _ => True
  | _ + 1, .str _ => True
  | j + 1, .list ds => ds.length ≤ 1000000 ∧ ∀ e ∈ ds, okN j e
  | j + 1, .tuple ds => ds.length ≤ 1000000 ∧ ∀ e ∈ ds, okN j e
  | _ + 1, .dict _ => False
theorem ok_int (n : Int) (j : Nat) : okN (j + 1) (.int n) := trivial
theorem ok_str (n : Str) (j : Nat) : okN (j + 1) (.str n) := trivial
theorem ok_ints (ns : List Int) (j : Nat) : ∀ e ∈ ns.map PyData.int, okN (j + 1) e := fun e he => by
  obtain ⟨n, _, rfl⟩ := List.mem_map.mp he
  trivial
theorem Wd.ok (x : Wd) : okN 2 x.d := by
  cases x with
  | num n => exact ⟨by show 2 ≤ 1000000; decide, fun e he => by rcases List.mem_cons.mp he with rfl | he; exact trivial; rcases List.mem_cons.mp he with rfl | he; exact trivial; cases he⟩
  | ptr r s p => exact ⟨by show 4 ≤ 1000000; decide, fun e he => by
      rcases List.mem_cons.mp he with rfl | he; exact trivial
      exact ok_ints [r, s, p] 0 e he⟩
theorem Rw.ok {x : Rw} (h : RwForm x) : okN 2 x.d := by
  obtain ⟨l, h1, h2⟩ := h
  have := form_len h1
  have e : l.length = l.cps.size := rfl
  refine ⟨?_, fun e he => ?_⟩
  · rw [List.length_cons, List.length_map]
    omega
  · rcases List.mem_cons.mp he with rfl | he
    · trivial
    · exact ok_ints x.ns 0 e he
theorem Sg.ok {x : Sg} (h : SgForm x) (l1 : x.ws.length ≤ 1000000) (l2 : x.rs.length ≤ 1000000) : okN 4 x.d := by
  refine ⟨by show 5 ≤ 1000000; decide, fun e he => ?_⟩
  rcases List.mem_cons.mp he with rfl | he
  · exact ⟨by show 3 ≤ 1000000; decide, ok_ints [x.r1, x.r2, x.r3] 1⟩
  rcases List.mem_cons.mp he with rfl | he
  · trivial
  rcases List.mem_cons.mp he with rfl | he
  · trivial
  rcases List.mem_cons.mp he with rfl | he
  · refine ⟨by rw [List.length_map]; exact l1, fun e he => ?_⟩
    obtain ⟨n, _, rfl⟩ := List.mem_map.mp he
    exact n.ok
  rcases List.mem_cons.mp he with rfl | he
  · refine ⟨by rw [List.length_map]; exact l2, fun e he => ?_⟩
    obtain ⟨n, hn, rfl⟩ := List.mem_map.mp he
    exact Rw.ok (h n hn)
  cases he
def spAlike (K : PySem.W.Frag) (j : Nat) : Sp := fun vs H Q _ => ∃ (x y : V) (d : PyData), vs = [x, y] ∧ Dp K H x d ∧ Dp K H y d ∧ okN j d ∧ Q (.bl true) H
theorem rd_ixLs {K : PySem.W.Frag} {H : Hp} {Q : VK} {p : Addr} {xs : List V} {i : Int} {v : V} (h : SqL K H p xs) (e : atI xs i = some v) (q : Q v H) : rIx K (.ref p) (.int i) H Q := .inl ⟨p, xs, i, v, rfl, rfl, h, e, q⟩
theorem rd_ixTs {K : PySem.W.Frag} {H : Hp} {Q : VK} {p : Addr} {xs : List V} {i : Int} {v : V} (h : SqT K H p xs) (e : atI xs i = some v) (q : Q v H) : rIx K (.ref p) (.int i) H Q := .inr (.inl ⟨p, xs, i, v, rfl, rfl, h, e, q⟩)
end Rg

/-! methods, the class Machine -/
namespace Rg
open PySem PySem.Spec L2
structure Mth (P : Program) (w : World) (K : PySem.W.Frag) (mg : Str → Option Value) (base : Heap) (C : Addr) (m : Str) (k : Nat) (ps : List Str) (sp : Sp) : Prop where
  ex : ∃ (f : Addr) (fd : FuncData), Meth K C m f ∧ Binds K fd ps [] ∧ FnOk P w K mg base CX0 k f fd ps sp
section
variable {X : Cx} {C : Addr} {k : Nat} {ps : List Str} {sp : Sp} {m : Str} {pos apos : Pos} {e o : Expr} {es : List Expr} {t : TA} {ta : TE}
theorem pe_mth {pl : Sem Bool} (M : Mth X.prog X.w X.K X.mg X.base C m k ps sp) (c : Cls X.K C) (hr : Room k X.A) (he : PE X o ta) (ha : PA X (e :: es) t)
    (hst : starEach (e :: es) X.env = (false, eval e X.env) :: starEach es X.env := by rfl) (hpl : (backTo pos (starEach es X.env)).any (·.1) = false := by rfl)
    (ht : eval (.Call (.Attribute o m apos) (e :: es) [] pos) X.env = (do
      let ov ← eval o X.env
      standAt apos.atName
      let (f, first) ← holding [ov] (getMethod ov m pl)
      callWith pos f first (backTo pos (starEach (e :: es) X.env)) (backToKw pos (keywordEach [] X.env))) := by rfl) :
    PE X (.Call (.Attribute o m apos) (e :: es) [] pos) (tMeth C m sp [] E0 ta t) := by
  obtain ⟨f, fd, hm, hb, F⟩ := M.ex
  exact pe_meth he c hm F hr hb .nil pass0 ha hst hpl ht
theorem pe_mth0 {pl : Sem Bool} (M : Mth X.prog X.w X.K X.mg X.base C m k ps sp) (c : Cls X.K C) (hr : Room k X.A) (he : PE X o ta)
    (ht : eval (.Call (.Attribute o m apos) [] [] pos) X.env = (do
      let ov ← eval o X.env
      standAt apos.atName
      let (f, first) ← holding [ov] (getMethod ov m pl)
      callWith pos f first (backTo pos (starEach [] X.env)) (backToKw pos (keywordEach [] X.env))) := by rfl) :
    PE X (.Call (.Attribute o m apos) [] [] pos) (tMeth C m sp [] E0 ta tNil) := by
  obtain ⟨f, fd, hm, hb, F⟩ := M.ex
  exact pe_meth0 he c hm F hr hb .nil pass0 ht
/-- len(o) by an own __len__ -/
theorem cr_len (M : Mth X.prog X.w X.K X.mg X.base C "__len__" k ps sp) (hr : Room (k + 1) X.A) : CallR X (.builtin "len") (rLenO C sp E0) := by
  obtain ⟨f, fd, hm, hb, F⟩ := M.ex
  exact call_lenO hm F hr hb pass0
end
section
variable {σ : L2.St} {H : Hp} {Q : VK} {K : PySem.W.Frag} {D : Ends}
theorem rd_ixL0 {p : Addr} {x : V} {xs : List V} (h : H p = some (.lst (x :: xs))) (q : Q x H) : rIxL K (.ref p) (.int 0) H Q := ⟨p, x :: xs, 0, x, rfl, rfl, SqL.of h, atI_nat (j := 0) rfl, q⟩
theorem rd_fld {ta : TE} {f : Str} (h : ta σ H fun x H1 => ∃ a C dx fs v, x = .ref a ∧ H1 a = some (.ins C dx fs) ∧ Cls K C ∧ NoAttr K C f ∧ fs.lookup f = some v ∧ Q v H1) : tFld K ta f σ H Q := h
theorem rd_sfld {ta tv : TE} {f : Str} (h : tv σ H fun y H1 => ta σ H1 fun x H2 => ∃ a C dx fs, x = .ref a ∧ H2 a = some (.ins C dx fs) ∧ Cls K C ∧ NoAttr K C f ∧ fs.length < 1000 ∧ D.nx σ (upd H2 a (.ins C dx (putF f y fs)))) : sFld K ta tv f D σ H := h
theorem rd_meth {C : Addr} {m : Str} {sp : Sp} {dvs : List V} {E : XK} {ta : TE} {t : TA} (h : ta σ H fun x H1 => ∃ a dx fs, x = .ref a ∧ H1 a = some (.ins C dx fs) ∧ fs.lookup m = none ∧ t σ H1 fun vs H2 => sp (x :: (vs ++ dvs)) H2 Q E) : tMeth C m sp dvs E ta t σ H Q := h
theorem rd_make {C : Addr} {sp : Sp} {dvs : List V} {E : XK} {t : TA} (h : t σ H fun vs H1 => ∀ x dx, H1 x = none → H1 dx = none → dx ≠ x → sp (.ref x :: (vs ++ dvs)) (upd (upd H1 dx (.own x)) x (.ins C dx [])) (fun v H2 => v = .non ∧ Q (.ref x) H2) E) : tMake C sp dvs E t σ H Q := h
theorem rd_makeK {C : Addr} {n m : Nat} {sp : Sp} {gV : List V → List V → List V} {E : XK} {t tk : TA} (h : t σ H fun vs H1 => tk σ H1 fun zs H2 => vs.length = n ∧ zs.length = m ∧ ∀ x dx, H2 x = none → H2 dx = none → dx ≠ x →
  sp (gV (.ref x :: vs) zs) (upd (upd H2 dx (.own x)) x (.ins C dx [])) (fun v H3 => v = .non ∧ Q (.ref x) H3) E) : tMakeK C n m sp gV E t tk σ H Q := h
end
/-! ### rules that name K -/
def rLenS (K : PySem.W.Frag) : List V → Hp → VK → Prop := fun xs H Q => ∃ p ys, xs = [.ref p] ∧ (SqL K H p ys ∨ SqT K H p ys) ∧ Q (.int ys.length) H
def rTupOf (K : PySem.W.Frag) : List V → Hp → VK → Prop := fun xs H Q => ∃ p ys, xs = [.ref p] ∧ ((SqL K H p ys ∧ ∀ l, H l = none → Q (.ref l) (upd H l (.tup ys))) ∨ (SqT K H p ys ∧ Q (.ref p) H))
def rListOf (K : PySem.W.Frag) : List V → Hp → VK → Prop := fun xs H Q => ∃ p ys, xs = [.ref p] ∧ (SqL K H p ys ∨ SqT K H p ys) ∧ ∀ l, H l = none → Q (.ref l) (upd H l (.lst ys))
section
variable {X : Cx} {K : PySem.W.Frag}
theorem cr_lenS (h : X.K = K := by rfl) : CallR X (.builtin "len") (rLenS K) := by subst h; exact call_len_seq
theorem cr_tupOf (h : X.K = K := by rfl) : CallR X (.type "tuple") (rTupOf K) := by subst h; exact call_tuple_of
theorem cr_listOf (h : X.K = K := by rfl) : CallR X (.type "list") (rListOf K) := by subst h; exact call_list_of
theorem pe_fldK {e : Expr} {f : Str} {pos : Pos} {ta : TE} (he : PE X e ta) (hb : attributeBase e f X.env (eval e X.env) = eval e X.env) (h : X.K = K := by rfl) : PE X (.Attribute e f pos) (tFld K ta f) := by subst h; exact pe_fld he hb
theorem ps_fldK {o value : Expr} {f : Str} {pos pos' : Pos} {ta tv : TE} (ha : PE X o ta) (hv : PE X value tv) (hs : swapsWith value (some (.Attribute o f pos')) pos.line X.env = pure false) (h : X.K = K := by rfl) : PS X (.Assign [.Attribute o f pos'] value pos) (sFld K ta tv f) := by subst h; exact ps_fld ha hv hs
end
/-- a machine's fields -/
def mFlds (q : Addr) (b : Int) : List (Str × V) := putF "base" (.int b) (putF "segments" (.ref q) [])
theorem mFlds_s (q : Addr) (b : Int) : (mFlds q b).lookup ("segments" : Str) = some (.ref q) := by
  unfold mFlds
  rw [lookup_putF, if_neg (by decide +kernel), lookup_putF, if_pos rfl]
theorem mFlds_b (q : Addr) (b : Int) : (mFlds q b).lookup ("base" : Str) = some (.int b) := by
  unfold mFlds
  rw [lookup_putF, if_pos rfl]
theorem mFlds_no (q : Addr) (b : Int) {m : Str} (h1 : ¬ m = "base") (h2 : ¬ m = "segments") : (mFlds q b).lookup m = none := by
  unfold mFlds
  rw [lookup_putF, if_neg h1, lookup_putF, if_neg h2]
  rfl
/-- the class Machine, as the top leaves it -/
structure MC (K : PySem.W.Frag) (mg : Str → Option Value) (C : Addr) : Prop where
  cl : Cls K C
  nS : NoAttr K C "segments"
  nB : NoAttr K C "base"
  mgC : mg "Machine" = some (.ref C)
/-- a machine stands at x: its segments at q are the items vs -/
structure MAt (C : Addr) (H : Hp) (x : Addr) (vs : List V) (b : Int) : Prop where
  ex : ∃ dx q, H x = some (.ins C dx (mFlds q b)) ∧ H q = some (.tup vs)
theorem MAt.keep {C : Addr} {H H' : Hp} {x : Addr} {vs : List V} {b : Int} (h : MAt C H x vs b) (hx : ∀ o, H x = some o → H' x = some o) (tk : Tk H H') : MAt C H' x vs b := by
  obtain ⟨dx, q, h1, h2⟩ := h
  exact ⟨dx, q, hx _ h1, tk _ _ h2⟩
theorem MAt.same {C : Addr} {H H' : Hp} {x : Addr} {vs : List V} {b : Int} (h : MAt C H x vs b) (s : Same H H') : MAt C H' x vs b := h.keep (fun o => s x o) (Tk.of s)
/-- what __init__ is handed, where it makes a machine -/
def spInit (C : Addr) : Sp := fun vs H Q _ => ∃ (x dx L : Addr) (us : List V) (xs : List Sg) (b : Int), vs = [.ref x, .ref L, .int b] ∧ H x = some (.ins C dx []) ∧ H L = some (.lst us) ∧ RpAll H us (xs.map Sg.d) ∧ 1 ≤ xs.length ∧ xs.length ≤ 8 ∧ 2 ≤ b ∧ (∀ y ∈ xs, SgForm y ∧ sgFits y b xs.length = true) ∧
  ∀ H', MAt C H' x us b → (∀ c o, H c = some o → c ≠ x → H' c = some o) → Q .non H'
def spSegAt (C : Addr) : Sp := fun vs H Q _ => ∃ (x : Addr) (us : List V) (b k : Int) (v : V), vs = [.ref x, .int k] ∧ MAt C H x us b ∧ 0 ≤ k ∧ k < us.length ∧ us[k.toNat]? = some v ∧ Q v H
def spLen (C : Addr) : Sp := fun vs H Q _ => ∃ (x : Addr) (us : List V) (b : Int), vs = [.ref x] ∧ MAt C H x us b ∧ Q (.int us.length) H
theorem sg_small {x : Sg} {b m : Int} (h : sgFits x b m = true) : x.ws.length ≤ 16 ∧ x.rs.length ≤ 24 := by
  unfold sgFits at h
  simp only [Bool.and_eq_true, decide_eq_true_eq] at h
  exact ⟨h.2.2.2.1, h.2.2.2.2.1⟩
/-! ### data that == takes -/
theorem form_mem {w l : Str} (h : formOf w = some l) : (w, l) ∈ rowForms := by
  have e : rowForms.lookup w = some l := h
  have : ∀ (L : List (Str × Str)) w l, L.lookup w = some l → (w, l) ∈ L := by
    intro L
    induction L with
    | nil => intro w l e; cases e
    | cons p L ih =>
      intro w l e
      rw [List.lookup_cons] at e
      by_cases hw : (w == p.1) = true
      · rw [hw] at e
        simp at e
        have : w = p.1 := by simpa using hw
        subst this
        subst e
        exact List.mem_cons_self ..
      · simp only [hw] at e
        exact List.mem_cons_of_mem _ (ih w l e)
  exact this _ w l e
theorem lay_map {α : Type} {f : α → PyData} : ∀ (xs : List α), (∀ x ∈ xs, (f x).canLay0 = true) → PyData.canLayAll0 (xs.map f) = true
  | [], _ => rfl
  | x :: xs, h => by
    show (PyData.canLay0 (f x) && PyData.canLayAll0 (xs.map f)) = true
    rw [h x (List.mem_cons_self ..), lay_map xs fun y hy => h y (List.mem_cons_of_mem _ hy)]
    rfl
theorem Wd.lay (x : Wd) : x.d.canLay0 = true := by
  cases x with
  | num n => show (PyData.canLay0 (.str "num") && (true && true)) = true; decide +kernel
  | ptr r s p => show (PyData.canLay0 (.str "ptr") && PyData.canLayAll0 ([r, s, p].map PyData.int)) = true; rw [lay_map [r, s, p] fun _ _ => rfl]; decide +kernel
theorem Rw.lay {x : Rw} (h : RwForm x) : x.d.canLay0 = true := by
  obtain ⟨l, h1, h2⟩ := h
  have h3 : ∀ p ∈ rowForms, PyData.canLay0 (.str p.1) = true := by decide +kernel
  show (PyData.canLay0 (.str x.op) && PyData.canLayAll0 (x.ns.map PyData.int)) = true
  rw [h3 _ (form_mem h1), lay_map x.ns fun _ _ => rfl]
  rfl
theorem ri_mem {x : Str} (h : riFits x = true) : x ∈ rightsL := by
  unfold riFits inV at h
  rw [List.any_map, List.any_eq_true] at h
  obtain ⟨y, hy, e⟩ := h
  have e' : y = x := by simpa [eqV] using e
  rw [← e']
  exact hy
theorem sg_parts {x : Sg} {b m : Int} (h : sgFits x b m = true) : brFits x.r1 x.r2 x.r3 = true ∧ riFits x.ri = true ∧ below x.ga (x.rs.length + 1) = true ∧ x.ws.length ≤ 16 ∧ x.rs.length ≤ 24 ∧ (∀ y ∈ x.ws, wdFits y b m = true) ∧ ∀ y ∈ x.rs, rowFits y m = true := by
  unfold sgFits at h
  simp only [Bool.and_eq_true, decide_eq_true_eq, List.all_eq_true] at h
  exact h
theorem Sg.lay {x : Sg} {b m : Int} (h : SgForm x) (hf : sgFits x b m = true) : x.d.canLay0 = true := by
  have h3 : ∀ r ∈ rightsL, PyData.canLay0 (.str r) = true := by decide +kernel
  show (PyData.canLayAll0 ([x.r1, x.r2, x.r3].map PyData.int) && (PyData.canLay0 (.str x.ri) && (true && (PyData.canLayAll0 (x.ws.map Wd.d) && (PyData.canLayAll0 (x.rs.map Rw.d) && true))))) = true
  rw [lay_map [x.r1, x.r2, x.r3] fun _ _ => rfl, h3 _ (ri_mem (sg_parts hf).2.1), lay_map x.ws fun y _ => y.lay, lay_map x.rs fun y hy => Rw.lay (h y hy)]
  rfl
theorem depth_ok : ∀ (j : Nat) (d : PyData), okN j d → d.depth ≤ j
  | 0, _, h => h.elim
  | j + 1, .none, _ => Nat.zero_le _
  | j + 1, .bool _, _ => Nat.zero_le _
  | j + 1, .int _, _ => Nat.zero_le _
  | j + 1, .str _, _ => Nat.zero_le _
  | j + 1, .dict _, h => h.elim
  | j + 1, .list ds, h => by
    have : ∀ ds : List PyData, (∀ e ∈ ds, okN j e) → PyData.depthAll ds ≤ j := fun ds => by
      induction ds with
      | nil => intro _; exact Nat.zero_le _
      | cons a r ih =>
        intro h
        have h1 := depth_ok j a (h a (List.mem_cons_self ..))
        have h2 := ih fun e he => h e (List.mem_cons_of_mem _ he)
        show max (PyData.depth a) (PyData.depthAll r) ≤ j
        omega
    show PyData.depthAll ds + 1 ≤ j + 1
    have := this ds h.2
    omega
  | j + 1, .tuple ds, h => by
    have : ∀ ds : List PyData, (∀ e ∈ ds, okN j e) → PyData.depthAll ds ≤ j := fun ds => by
      induction ds with
      | nil => intro _; exact Nat.zero_le _
      | cons a r ih =>
        intro h
        have h1 := depth_ok j a (h a (List.mem_cons_self ..))
        have h2 := ih fun e he => h e (List.mem_cons_of_mem _ he)
        show max (PyData.depth a) (PyData.depthAll r) ≤ j
        omega
    show PyData.depthAll ds + 1 ≤ j + 1
    have := this ds h.2
    omega
theorem shaped_of {j : Nat} {d : PyData} (h1 : d.canLay0 = true) (h2 : okN j d) (hj : j ≤ 64) : SeqAt.shaped d = true := by
  unfold SeqAt.shaped
  rw [h1, decide_eq_true (Nat.le_trans (depth_ok j d h2) hj)]
  rfl
/-- a list of sound segments as data -/
theorem sgs_ok {xs : List Sg} {b m : Int} (hl : xs.length ≤ 1000) (h : ∀ x ∈ xs, SgForm x ∧ sgFits x b m = true) : (∀ d ∈ xs.map Sg.d, okN 4 d) ∧ okN 5 (.list (xs.map Sg.d)) ∧ SeqAt.shaped (.list (xs.map Sg.d)) = true ∧ PyData.eqv (.list (xs.map Sg.d)) (.list (xs.map Sg.d)) = true := by
  have h1 : ∀ d ∈ xs.map Sg.d, okN 4 d := fun d hd => by
    obtain ⟨x, hx, rfl⟩ := List.mem_map.mp hd
    have := sg_small (h x hx).2
    exact Sg.ok (h x hx).1 (by omega) (by omega)
  have h2 : okN 5 (.list (xs.map Sg.d)) := ⟨by rw [List.length_map]; omega, h1⟩
  have h3 : (PyData.list (xs.map Sg.d)).canLay0 = true := lay_map xs fun x hx => Sg.lay (h x hx).1 (h x hx).2
  exact ⟨h1, h2, shaped_of h3 h2 (by decide), SeqAt.eqv_refl _ h3⟩
end Rg

/-! the refusals: raised, let out, caught, asked -/
namespace Rg
open PySem PySem.Spec L2
/-! ### C.m(o, ..): a def read off its class -/
structure UbC (K : PySem.W.Frag) (mg : Str → Option Value) (x : Str) (m : Str) (f : Addr) : Prop where
  ex : ∃ (D : Addr) (mc : Value), mg x = some (.ref D) ∧ PySem.W.specialIn K (.ref D) "__getattribute__" = some (some (.builtin "type.__getattribute__")) ∧ PySem.W.typeIn K (.ref D) = some mc ∧ PySem.W.readsIn K D mc = true ∧ PySem.W.findCls K (.ref D) mc m = some (.val (.ref f)) ∧ PySem.W.keepIn K (.ref f) = true
section
variable {X : Cx} {k : Nat} {ps : List Str} {sp : Sp} {x m : Str} {f : Addr} {fd : FuncData} {p1 p2 pos : Pos} {e : Expr} {es : List Expr} {t : TA}
theorem pe_ubm {pl : Sem Bool} (U : UbC X.K X.mg x m f) (hg : Gl X x) (F : FnOk X.prog X.w X.K X.mg X.base CX0 k f fd ps sp) (hb : Binds X.K fd ps []) (hr : Room k X.A) (ha : PA X (e :: es) t) (hdb : (x == ("__debug__" : Str)) = false := by decide)
    (ht : eval (.Call (.Attribute (.Name x p1) m p2) (e :: es) [] pos) X.env = (do
      let ov ← eval (.Name x p1) X.env
      standAt p2.atName
      let (f, first) ← holding [ov] (getMethod ov m pl)
      callWith pos f first (backTo pos (starEach (e :: es) X.env)) (backToKw pos (keywordEach [] X.env))) := by rfl)
    (he : starEach (e :: es) X.env = (false, eval e X.env) :: starEach es X.env := by rfl) (hpl : (backTo pos (starEach es X.env)).any (·.1) = false := by rfl) :
    PE X (.Call (.Attribute (.Name x p1) m p2) (e :: es) [] pos) (tCall sp [] E0 t) := by
  obtain ⟨D, mc, hm, u1, u2, u3, u4, u5⟩ := U.ex
  refine ⟨fun pins s σ H Q I h => ?_⟩
  refine PySem.W.methodCall_KW (pl := pl) (ld_glob I hg hm ?_ hdb) ht
  obtain ⟨mm, fr⟩ := I.fr
  refine PySem.W.method_of_cls fr I.ok.mod.kin u1 (PySem.W.cls_val fr I.ok.mod.kin u2 u3 u4 rfl ?_)
  refine PySem.W.callWith_K (h₀ := X.base) I.ok.mod.kin u5 (thn (ha.run pos pins _ σ H _ (I.tok _) h) fun us s1 ⟨vs, H1, I1, r, q⟩ => ⟨I1.kIn, ?_⟩) he hpl
  exact run_fn F hr hb .nil pass0 I1 r q
end
/-- what an error may be made with -/
def Rbl (v : V) : Prop := v = .non ∨ ∃ i : Int, v = .int i ∧ i.natAbs.log2 < 1920
/-- {x!r} of None, an int -/
def tFmtX (te : TE) : TE := fun σ H Q => te σ H fun x H1 => Rbl x ∧ ∀ y : Str, y.length ≤ 2000 → Q (.str y) H1
theorem pe_fmtX {X : Cx} {e : Expr} {te : TE} {pos : Pos} (he : PE X e te) : PE X (.FormattedValue e 114 none pos) (tFmtX te) := by
  refine ⟨fun pins s σ H Q I h => ?_⟩
  refine wpAny_FormattedValue_repr (thn (he.run pins s σ H _ I h) fun v s1 ⟨x, H1, I1, r1, hx, q⟩ => ?_)
  rcases hx with rfl | ⟨i, rfl, hi⟩
  · obtain rfl : v = Value.none := r1
    have q' : EP X pins σ Q (Value.str "None" s1.toks) { s1 with toks := s1.toks + 1 } := ⟨.str "None", H1, I1.tok _, ⟨_, rfl⟩, q _ (by decide +kernel)⟩
    exact pyReprObj_none (wpAny_formatField_str q' ⟨.str "None", H1, I1.tok _, ⟨_, rfl⟩, q _ (by decide +kernel)⟩ (by decide +kernel))
  · obtain ⟨t, rfl⟩ := r1
    have l := PyProof.Rows.int_text_len_1921 hi
    have q2 := q (toString i) (Nat.le_trans l (by decide))
    exact pyReprObj_int hi (wpAny_formatField_str ⟨.str (toString i), H1, I1.tok _, ⟨_, rfl⟩, q2⟩ ⟨.str (toString i), H1, I1.tok _, ⟨_, rfl⟩, q2⟩ (int_text_fits hi))
/-- what the errors' __init__ does -/
def spRE (K : PySem.W.Frag) : Sp := fun vs H Q _ => ∃ (a C : Addr) (v : V), vs = [.ref a, v] ∧ Rbl v ∧ OexC K C ∧ PySem.W.findIn K (.ref C) "what" = some none ∧ H a = some (exo a C none) ∧
  ∀ d, H d = none → d ≠ a → Q .non (upd (upd H d (exd d [("what", v)])) a (exo a C (some d)))
/-- a class of errors, made with one value -/
structure Exk (P : Program) (w : World) (K : PySem.W.Frag) (mg : Str → Option Value) (base : Heap) (x : Str) (C : Addr) : Prop where
  oex : OexC K C
  wh : PySem.W.findIn K (.ref C) "what" = some none
  mgx : mg x = some (.ref C)
  xf : XfC K C
  ini : ∃ f fd, PySem.W.findIn K (.ref C) "__init__" = some (some (.ref f)) ∧ PySem.W.typeIn K (.ref f) = some (.type "function") ∧ Binds K fd ["self", "what"] [] ∧ FnOk P w K mg base CX0 2 f fd ["self", "what"] (spRE K)
def tRs (K : PySem.W.Frag) (C : Addr) (W : WX) (te : TE) : TS := fun _ σ H => tMkO C (spRE K) [] (tCons te tNil) σ H fun cls d H' => W cls d σ H'
theorem ps_raisew {X : Cx} {W : WX} {C : Addr} {x : Str} {e : Expr} {te : TE} {p pos pos' : Pos} (E : Exk X.prog X.w X.K X.mg X.base x C) (hc : X.calm = true) (tk : Takes X W) (hr : Room 3 X.A) (hg : Gl X x) (he : PE X e te) (hdb : (x == ("__debug__" : Str)) = false := by decide)
    (hst : starEach [e] X.env = (false, eval e X.env) :: starEach [] X.env := by rfl) (hpl : (backTo pos (starEach [] X.env)).any (·.1) = false := by rfl) : PS X (.Raise (some (.Call (.Name x p) [e] [] pos)) none pos') (tRs X.K C W te) := by
  obtain ⟨f, fd, i1, i2, b, F⟩ := E.ini
  exact ps_raise hc tk (pmk_oex E.oex i1 i2 F hr b .nil pass0 hg E.mgx (pa_cons he pa_nil hst) hdb hst hpl)
section
variable {σ : L2.St} {H : Hp} {Q : VK} {K : PySem.W.Frag} {D : Ends}
theorem rd_rs {C : Addr} {W : WX} {te : TE} (h : te σ H fun v H1 => [v].length ≤ 1000 ∧ ∀ a, H1 a = none → spRE K (.ref a :: ([v] ++ [])) (upd H1 a (exo a C none))
  (fun u H2 => u = .non ∧ ∃ (d : Addr) (fs : List (Str × V)), H2 a = some (exo a C (some d)) ∧ H2 d = some (exd d fs) ∧ H1 d = none ∧ W (.ref C) (some d) σ (upd (del H2 a) d (.xd fs))) (fun _ _ _ => False)) : tRs K C W te D σ H := h
theorem rd_mko {C : Addr} {v : V} {R : Option Addr → Hp → Prop} (T : OexC K C) (hw : PySem.W.findIn K (.ref C) "what" = some none) (hv : Rbl v) (q : ∀ d, H d = none → R (some d) (upd H d (.xd [("what", v)]))) :
    [v].length ≤ 1000 ∧ ∀ a, H a = none → spRE K (.ref a :: ([v] ++ [])) (upd H a (exo a C none)) (fun u H2 => u = .non ∧ ∃ (d : Addr) (fs : List (Str × V)), H2 a = some (exo a C (some d)) ∧ H2 d = some (exd d fs) ∧ H d = none ∧ R (some d) (upd (del H2 a) d (.xd fs))) (fun _ _ _ => False) := by
  refine ⟨by show 1 ≤ 1000; decide, fun a ha => ⟨a, C, v, rfl, hv, T, hw, upd_same, fun d hd ne => ⟨rfl, d, _, upd_same, by rw [upd_ne ne, upd_same], ?_, ?_⟩⟩⟩
  · rw [upd_ne ne] at hd
    exact hd
  · have hd' : H d = none := by rw [upd_ne ne] at hd; exact hd
    have e : upd (del (upd (upd (upd H a (exo a C none)) d (exd d [("what", v)])) a (exo a C (some d))) a) d (.xd [("what", v)]) = upd H d (.xd [("what", v)]) := by
      funext b
      by_cases h1 : b = d
      · rw [h1, upd_same, upd_same]
      · rw [upd_ne h1, upd_ne h1]
        by_cases h2 : b = a
        · rw [h2, del_same, ha]
        · rw [del_ne h2, upd_ne h2, upd_ne h1, upd_ne h2]
    rw [e]
    exact q d hd'
end
/-! ### isinstance of the caught error -/
structure ExI (K : PySem.W.Frag) (D : Addr) : Prop where
  xf : XfC K D
  ha : PySem.W.findIn K (.ref D) "__class__" = some (some (.builtin "object.__class__"))
  hn : PySem.W.specialIn K (.builtin "object.__class__") "__get__" = some (some (.builtin "getset_descriptor.__get__"))
  ht : PySem.W.takesIn K (.builtin "object.__class__") = some true
  hm : PySem.W.mroIn K D (.type "object") = some true
def rIsX (K : PySem.W.Frag) (a : Addr) (cls : Value) (d : Option Addr) : List V → Hp → VK → Prop := fun xs H Q => ∃ (c : V) (D dd : Addr) (fs : List (Str × V)) (cv : Value) (b : Bool), xs = [.ref a, c] ∧ cls = .ref D ∧ d = some dd ∧ H dd = some (.xd fs) ∧ ExI K D ∧ ClsV c cv ∧ PySem.W.kitOne K (.ref D) cv = some b ∧ Q (.bl b) H
def rIsXT (K : PySem.W.Frag) (a : Addr) (cls : Value) (d : Option Addr) : List V → Hp → VK → Prop := fun xs H Q => ∃ (tp D dd : Addr) (cs : List V) (ws : List Value) (fs : List (Str × V)) (b : Bool), xs = [.ref a, .ref tp] ∧ cls = .ref D ∧ d = some dd ∧ H dd = some (.xd fs) ∧ ExI K D ∧ H tp = some (.tup cs) ∧ Paired ClsV cs ws ∧ PySem.W.kitAny K (.ref D) ws = some b ∧ Q (.bl b) H
section
variable {X : Cx} {a : Addr} {oe : Obj} {cls : Value} {d : Option Addr} {pn : List (Addr × Obj)} {K : PySem.W.Frag}
theorem inst_of {pins : List (Addr × Obj)} {σ : L2.St} {H : Hp} {s : Shared} {D dd : Addr} {fs : List (Str × V)} (hz : Zc (.ref D) (some dd) oe) (hf : ∃ vs, oe.data = .fields vs) (I : L2.Inv (X.suite a ((a, oe) :: pn)) pins σ H s) (hx : H dd = some (.xd fs)) : ∃ od, PySem.W.InstAt s.heap a oe D (some od) := by
  obtain ⟨hget, _⟩ := I.pin (a, oe) (List.mem_append.mpr (.inl List.mem_cons_self))
  obtain ⟨vs, hv⟩ := hf
  obtain ⟨mA, ⟨o, _, _, e, _⟩, _⟩ := (show ObjOk X.prog X.w H s.heap dd (.xd fs) from I.hok dd _ hx)
  obtain ⟨oc, od, oda, osl⟩ := oe
  obtain ⟨h1, h2⟩ := hz
  dsimp only at h1 h2 hv
  subst h1 h2 hv
  exact ⟨o, hget, rfl, rfl, e⟩
theorem ExI.cl {D : Addr} (E : ExI K D) : (PySem.W.clsIn K D).isSome = true := by
  have := E.xf.hdC
  obtain ⟨cd, hc, _⟩ := PySem.W.any_some this
  rw [hc]
  rfl
theorem cr_isX (hz : Zc cls d oe) (hf : ∃ vs, oe.data = .fields vs) (hK : X.K = K := by rfl) : CallR (X.suite a ((a, oe) :: pn)) (.builtin "isinstance") (rIsX K a cls d) := by
  subst hK
  intro pins s σ H xs us Q I r h
  obtain ⟨c, D, dd, fs, cv, b, rfl, rfl, rfl, hx, E, k, e, q⟩ := h
  obtain ⟨u1, u2, rfl, r1, r2⟩ := vals2 r
  cases r1
  have e2 := k.eq r2
  subst e2
  obtain ⟨od, J⟩ := inst_of hz hf I hx
  exact PySem.W.kia_one (PySem.W.kitx_exc E.cl E.xf.ga E.xf.gg E.xf.exC E.ha E.hn E.ht E.hm) I.kIn J e (fun z => nomatch z) fun tk => ⟨.bl b, H, I.tok tk, rfl, q⟩
theorem cr_isXT (hz : Zc cls d oe) (hf : ∃ vs, oe.data = .fields vs) (hK : X.K = K := by rfl) : CallR (X.suite a ((a, oe) :: pn)) (.builtin "isinstance") (rIsXT K a cls d) := by
  subst hK
  intro pins s σ H xs us Q I r h
  obtain ⟨tp, D, dd, cs, ws, fs, b, rfl, rfl, rfl, hx, E, hT, k, e, q⟩ := h
  obtain ⟨u1, u2, rfl, r1, r2⟩ := vals2 r
  cases r1
  cases (show u2 = Value.ref tp from r2)
  obtain ⟨od, J⟩ := inst_of hz hf I hx
  obtain ⟨_, its, rv, o, h1, h2, n, h3⟩ := (show ObjOk X.prog X.w H s.heap tp (.tup cs) from I.hok tp _ hT)
  have e3 := ClsV.all k rv
  subst e3
  obtain ⟨oc, od', dt, sl⟩ := o
  simp only at h2 h3
  subst h2 h3
  exact PySem.W.kia_tup (PySem.W.kitx_exc E.cl E.xf.ga E.xf.gg E.xf.exC E.ha E.hn E.ht E.hm) I.kIn J h1 e (fun z => nomatch z) fun tk => ⟨.bl b, H, I.tok tk, rfl, q⟩
end
/-! ### defs that may raise -/
structure CalX (P : Program) (w : World) (K : PySem.W.Frag) (mg : Str → Option Value) (base : Heap) (x : Str) (k : Nat) (ps : List Str) (sp : Sp) : Prop where
  ex : ∃ (f : Addr) (fd : FuncData), mg x = some (.ref f) ∧ PySem.W.keepIn K (.ref f) = true ∧ Binds K fd ps [] ∧ FnOk P w K mg base (L2.CX P w) k f fd ps sp
section
variable {X : Cx} {k : Nat} {ps : List Str} {sp : Sp} {x : Str} {p pos : Pos} {e : Expr} {es : List Expr} {t : TA}
/-- where nothing is let out -/
theorem pass1 : Passes (L2.CX X.prog X.w) X E0 := passes_call takes0 fun _ _ _ _ h => h
theorem pe_calN (C : CalX X.prog X.w X.K X.mg X.base x k ps sp) (hr : Room k X.A) (hg : Gl X x) (ha : PA X (e :: es) t) (hdb : (x == ("__debug__" : Str)) = false := by decide)
    (he : starEach (e :: es) X.env = (false, eval e X.env) :: starEach es X.env := by rfl) (hpl : (backTo pos (starEach es X.env)).any (·.1) = false := by rfl) :
    PE X (.Call (.Name x p) (e :: es) [] pos) (tCall sp [] E0 t) := by
  obtain ⟨f, fd, hm, hk, hb, F⟩ := C.ex
  exact pe_call F hr hg hm hk hb .nil pass1 ha hdb he hpl
/-- in the body of a try -/
theorem pe_calS {W : WX} (C : CalX X.prog X.w X.K X.mg X.base x k ps sp) (tk : Takes X W) (hr : Room k X.A) (hg : Gl X x) (ha : PA X (e :: es) t) (hdb : (x == ("__debug__" : Str)) = false := by decide)
    (he : starEach (e :: es) X.env = (false, eval e X.env) :: starEach es X.env := by rfl) (hpl : (backTo pos (starEach es X.env)).any (·.1) = false := by rfl) :
    PE X (.Call (.Name x p) (e :: es) [] pos) (tCallS sp (WE W) t) := by
  obtain ⟨f, fd, hm, hk, hb, F⟩ := C.ex
  exact pe_callS F hr hg hm hk hb (fun σ => passAt tk σ) ha hdb he hpl
end
theorem rd_callS {sp : Sp} {E : L2.St → XK} {t : TA} {σ : L2.St} {H : Hp} {Q : VK} (h : t σ H fun vs H1 => sp vs H1 Q (E σ)) : tCallS sp E t σ H Q := h
theorem rd_xf {a C dd : Addr} {f : Str} {te : TE} {σ : L2.St} {H : Hp} {Q : VK} (h : te σ H fun x H1 => x = .ref a ∧ ∃ (fs : List (Str × V)) (v : V), H1 dd = some (.xd fs) ∧ fs.lookup f = some v ∧ Q v H1)
    (mono : ∀ R R' : VK, (∀ v H, R v H → R' v H) → te σ H R → te σ H R') : tXf a (.ref C) (some dd) C f te σ H Q := mono _ _ (fun x H1 q => by
  obtain ⟨e, fs, v, h1, h2, q⟩ := q
  exact ⟨e, rfl, dd, fs, v, rfl, h1, h2, q⟩) h
end Rg

/-! data with lists; what a ring may do -/
namespace Rg
open PySem PySem.Spec L2
/-! ### data whose lists all stand in S -/
mutual
inductive DL (S : Addr → Prop) (H : Hp) : V → PyData → Prop
  | non : DL S H .non .none
  | bl (b : Bool) : DL S H (.bl b) (.bool b)
  | int (i : Int) : DL S H (.int i) (.int i)
  | str (x : Str) : DL S H (.str x) (.str x)
  | tup {a : Addr} {xs : List V} {ds : List PyData} : H a = some (.tup xs) → DLs S H xs ds → DL S H (.ref a) (.tuple ds)
  | lst {a : Addr} {xs : List V} {ds : List PyData} : S a → H a = some (.lst xs) → DLs S H xs ds → DL S H (.ref a) (.list ds)
inductive DLs (S : Addr → Prop) (H : Hp) : List V → List PyData → Prop
  | nil : DLs S H [] []
  | cons {v : V} {vs : List V} {d : PyData} {ds : List PyData} : DL S H v d → DLs S H vs ds → DLs S H (v :: vs) (d :: ds)
end
mutual
theorem DL.keep {S S' : Addr → Prop} {H H' : Hp} (tk : Tk H H') (kl : ∀ a xs, S a → H a = some (.lst xs) → S' a ∧ H' a = some (.lst xs)) : ∀ {d : PyData} {v : V}, DL S H v d → DL S' H' v d
  | _, _, .non => .non
  | _, _, .bl b => .bl b
  | _, _, .int i => .int i
  | _, _, .str x => .str x
  | _, _, .tup e h => .tup (tk _ _ e) (DLs.keep tk kl h)
  | _, _, .lst s e h => .lst (kl _ _ s e).1 (kl _ _ s e).2 (DLs.keep tk kl h)
theorem DLs.keep {S S' : Addr → Prop} {H H' : Hp} (tk : Tk H H') (kl : ∀ a xs, S a → H a = some (.lst xs) → S' a ∧ H' a = some (.lst xs)) : ∀ {ds : List PyData} {vs : List V}, DLs S H vs ds → DLs S' H' vs ds
  | _, _, .nil => .nil
  | _, _, .cons h t => .cons (DL.keep tk kl h) (DLs.keep tk kl t)
end
theorem DL.same {S : Addr → Prop} {H H' : Hp} {d : PyData} {v : V} (h : DL S H v d) (s : Same H H') : DL S H' v d := h.keep (Tk.of s) fun a xs q e => ⟨q, s _ _ e⟩
theorem DLs.same {S : Addr → Prop} {H H' : Hp} {d : List PyData} {v : List V} (h : DLs S H v d) (s : Same H H') : DLs S H' v d := h.keep (Tk.of s) fun a xs q e => ⟨q, s _ _ e⟩
mutual
theorem DL.dp {S : Addr → Prop} {K : PySem.W.Frag} {H : Hp} : ∀ {d : PyData} {v : V}, DL S H v d → Dp K H v d
  | _, _, .non => .non
  | _, _, .bl b => .bl b
  | _, _, .int i => .int i
  | _, _, .str x => .str x
  | _, _, .tup e h => .tup (SqT.of e) (DLs.dp h)
  | _, _, .lst _ e h => .lst (SqL.of e) (DLs.dp h)
theorem DLs.dp {S : Addr → Prop} {K : PySem.W.Frag} {H : Hp} : ∀ {ds : List PyData} {vs : List V}, DLs S H vs ds → DpAll K H vs ds
  | _, _, .nil => .nil
  | _, _, .cons h t => .cons (DL.dp h) (DLs.dp t)
end
mutual
theorem Rp.dl {S : Addr → Prop} {H : Hp} : ∀ {d : PyData} {v : V}, Rp H v d → DL S H v d
  | _, _, .non => .non
  | _, _, .bl b => .bl b
  | _, _, .int i => .int i
  | _, _, .str x => .str x
  | _, _, .tup e h => .tup e (RpAll.dl h)
theorem RpAll.dl {S : Addr → Prop} {H : Hp} : ∀ {ds : List PyData} {vs : List V}, RpAll H vs ds → DLs S H vs ds
  | _, _, .nil => .nil
  | _, _, .cons h t => .cons (Rp.dl h) (RpAll.dl t)
end
theorem DLs.append {S : Addr → Prop} {H : Hp} : ∀ {ds es : List PyData} {vs us : List V}, DLs S H vs ds → DLs S H us es → DLs S H (vs ++ us) (ds ++ es)
  | _, _, _, _, .nil, h => h
  | _, _, _, _, .cons a t, h => .cons a (DLs.append t h)
theorem DLs.length {S : Addr → Prop} {H : Hp} : ∀ {ds : List PyData} {vs : List V}, DLs S H vs ds → vs.length = ds.length
  | _, _, .nil => rfl
  | _, _, .cons _ t => congrArg Nat.succ (DLs.length t)
theorem DLs.get2 {S : Addr → Prop} {H : Hp} : ∀ {ds : List PyData} {vs : List V} {i : Nat} {d : PyData}, DLs S H vs ds → ds[i]? = some d → ∃ v, vs[i]? = some v ∧ DL S H v d
  | _, _, _, _, .nil, e => by simp at e
  | _, _, 0, _, .cons h _, e => by
    simp at e
    subst e
    exact ⟨_, rfl, h⟩
  | _, _, i + 1, _, .cons _ t, e => by
    obtain ⟨d, h1, h2⟩ := DLs.get2 (i := i) t (by simpa using e)
    exact ⟨d, by simpa using h1, h2⟩
theorem DL.lst_inv {S : Addr → Prop} {H : Hp} {v : V} {ds : List PyData} (h : DL S H v (.list ds)) : ∃ a xs, v = .ref a ∧ S a ∧ H a = some (.lst xs) ∧ DLs S H xs ds := by
  cases h with
  | lst s a b => exact ⟨_, _, rfl, s, a, b⟩
/-- made between two heaps -/
def New (H0 H1 : Hp) : Addr → Prop := fun a => H0 a = none ∧ H1 a ≠ none
theorem DL.new {H0 H : Hp} {d : PyData} {v : V} (h : DL (fun a => H0 a = none) H v d) : DL (New H0 H) H v d := h.keep (Tk.refl _) fun a xs q e => ⟨⟨q, by rw [e]; exact fun z => nomatch z⟩, e⟩
/-- .. and one place written since, that was there ahead or came behind -/
theorem DL.put {H0 H1 H : Hp} {d : PyData} {v : V} {p : Addr} {o : HO} (h : DL (New H0 H1) H v d) (hp : ∀ xs, H p ≠ some (.tup xs)) (hn : ¬ New H0 H1 p) : DL (New H0 H1) (upd H p o) v d :=
  h.keep (fun b xs e => by rw [upd_ne (fun z => hp xs (by rw [← z]; exact e))]; exact e) fun a xs q e => ⟨q, by rw [upd_ne (fun z => hn (by rw [← z]; exact q))]; exact e⟩
/-! ### comprehensions of data -/
def CompD {β : Type} (D : Addr) (H1 : Hp) (xs : List β) (f : β → PyData) (i : Nat) (H' : Hp) : Prop := ∃ vs, H' D = some (.lst vs) ∧ DLs (fun a => H1 a = none ∧ a ≠ D) H' vs ((xs.take i).map f) ∧ Same H1 H'
theorem CompD.start {β : Type} {D : Addr} {H1 : Hp} {xs : List β} {f : β → PyData} (hD : H1 D = none) : CompD D H1 xs f 0 (upd H1 D (.lst [])) := ⟨[], upd_same, .nil, same_upd hD⟩
theorem CompD.step {β : Type} {D : Addr} {H1 H2 H4 : Hp} {xs : List β} {f : β → PyData} {i : Nat} {b : β} {y : V} (h : CompD D H1 xs f i H2) (hD : H1 D = none) (hi : i ≤ 1000) (hb : xs[i]? = some b) (k : Same H2 H4) (r : DL (fun a => H2 a = none) H4 y (f b)) :
    ∃ acc, H4 D = some (.lst acc) ∧ acc.length < sizeLine ∧ CompD D H1 xs f (i + 1) (upd H4 D (.lst (acc ++ [y]))) := by
  obtain ⟨vs, h1, h2, s1⟩ := h
  have e4 := k _ _ h1
  have kl : ∀ (S : Addr → Prop), (∀ a, S a → H1 a = none ∧ a ≠ D) → ∀ a xs, S a → H4 a = some (.lst xs) → (H1 a = none ∧ a ≠ D) ∧ upd H4 D (.lst (vs ++ [y])) a = some (.lst xs) := fun S hS a xs q e => ⟨hS a q, by rw [upd_ne (hS a q).2]; exact e⟩
  refine ⟨vs, e4, ?_, vs ++ [y], upd_same, ?_, fun c o q => ?_⟩
  · rw [h2.length, List.length_map, List.length_take]
    exact small1000 (by omega)
  · rw [take_snoc hb, List.map_append]
    refine ((h2.same k).keep (Tk.lst e4) (kl _ fun a q => q)).append (.cons (r.keep (Tk.lst e4) (kl _ fun a q => ⟨s1.free q, fun z => ?_⟩)) .nil)
    rw [z, h1] at q
    cases q
  · rw [upd_ne (ne_of_none q hD)]
    exact k _ _ (s1 _ _ q)
theorem CompD.end {β : Type} {D : Addr} {H1 H2 : Hp} {xs : List β} {f : β → PyData} {n : Nat} (h : CompD D H1 xs f n H2) (hD : H1 D = none) (hn : n = xs.length) : DL (fun a => H1 a = none) H2 (.ref D) (.list (xs.map f)) := by
  subst hn
  obtain ⟨vs, h1, h2, _⟩ := h
  rw [List.take_length] at h2
  exact .lst hD h1 (h2.keep (Tk.refl _) fun a xs q e => ⟨q.1, e⟩)
/-! ### what a ring may do -/
def has (c : Nat) (x : Str) : Bool := decide (c ∈ x.cps.toList)
def mRead (s : Sg) (e : Int) : Bool := has 114 s.ri && decide (e ≤ s.r2)
def mWrite (s : Sg) (e : Int) : Bool := has 119 s.ri && decide (e ≤ s.r1)
def mRun (s : Sg) (e : Int) : Bool := has 120 s.ri && (decide (s.r1 ≤ e) && decide (e ≤ s.r2))
def mCall (s : Sg) (e : Int) : Bool := has 120 s.ri && (decide (s.r2 < e) && decide (e ≤ s.r3))
def alD (r : Int) (s : Sg) : PyData := .tuple [.bool (mRead s r), .bool (mWrite s r), .bool (mRun s r), .bool (mCall s r)]
def tabD (xs : List Sg) : PyData := .list ((List.range 8).map fun r => .list (xs.map (alD (r : Nat))))
def spMay (fn : Sg → Int → Bool) : Sp := fun vs H Q _ => ∃ (v : V) (x : Sg) (e : Int), vs = [v, .int e] ∧ Rp H v x.d ∧ ∀ H', Same H H' → Q (.bl (fn x e)) H'
theorem rd_cut2 {K : PySem.W.Frag} {H : Hp} {Q : VK} {p : Addr} {x y z : V} {xs : List V} (h : H p = some (.tup (x :: y :: z :: xs))) (q : ∀ p', H p' = none → Q (.ref p') (upd H p' (.tup [x, y]))) : rSlT K (.ref p) none (some 2) H Q := by
  refine ⟨p, x :: y :: z :: xs, rfl, SqT.of h, ?_, fun p' hp' => ?_⟩
  · rintro ⟨_, h1⟩
    simp [HT.sIx] at h1
  · have e : cutV (x :: y :: z :: xs) none (some 2) = [x, y] := by
      unfold cutV
      have : HT.sIx (x :: y :: z :: xs).length (x :: y :: z :: xs).length (some 2) = 2 := by simp [HT.sIx]
      rw [this]
      simp [HT.sIx]
    rw [e]
    exact q p' hp'
def spAllowed (C NR : Addr) : Sp := fun vs H Q E => ∃ (x : Addr) (us : List V) (xs : List Sg) (b r : Int), vs = [.ref x, .int r] ∧ MAt C H x us b ∧ RpAll H us (xs.map Sg.d) ∧ xs.length ≤ 900 ∧ r.natAbs.log2 < 1920 ∧
  (below r 8 = true → ∀ (L : Addr) (H' : Hp), H L = none → DL (fun a => H a = none) H' (.ref L) (.list (xs.map (alD r))) → Same H H' → Q (.ref L) H') ∧
  (below r 8 = false → ∀ (d : Addr) (H' : Hp), H d = none → H' d = some (.xd [("what", .int r)]) → Same H H' → E (.ref NR) (some d) H')
def spTable (C : Addr) : Sp := fun vs H Q _ => ∃ (x : Addr) (us : List V) (xs : List Sg) (b : Int), vs = [.ref x] ∧ MAt C H x us b ∧ RpAll H us (xs.map Sg.d) ∧ xs.length ≤ 900 ∧ ∀ (L : Addr) (H' : Hp), H L = none → DL (fun a => H a = none) H' (.ref L) (tabD xs) → Same H H' → Q (.ref L) H'
/-- ways that join again -/
theorem rd_join {T : VK → Prop} {Q : VK} (post : VK) (h1 : ∀ R : VK, (∀ v H', post v H' → R v H') → T R) (h2 : ∀ v H', post v H' → Q v H') : T Q := h1 Q h2
/-- .. a truth, the heap as it was -/
theorem rd_joinB {T : VK → Prop} {Q : VK} {H : Hp} (k : Bool) (h1 : ∀ R : VK, R (.bl k) H → T R) (h2 : Q (.bl k) H) : T Q := h1 Q h2
/-! ### calls by names alone -/
theorem kbn_of {K : PySem.W.Frag} {x qual : Str} {st : Stmt} {f : Addr} {fd : FuncData} {ps : List Str} (F : Fun K x qual st f fd) (n : Nat) (ks : List Str) (g : {α : Type} → List α → List α → List α) (hrel : ∀ {vs zs : List V} {us ws : List Value}, Vals vs us → Vals zs ws → Vals (g vs zs) (g us ws))
    (h : ∀ (kV doc pm : Value) (an : Option Addr) (cdv ct : Value) (us ws : List Value), us.length = n → ws.length = ks.length → bindArgs (PySem.W.fnOf x qual (defArgs st) (defBody st) (defScope st) .none kV doc pm an cdv ct) ⟨us, ks.zip ws⟩ = pure (ps.zip (g us ws))) : KBn K fd ps n ks (fun us ws => g us ws) (fun vs zs => g vs zs) := by
  obtain ⟨oc, od, kV, doc, pm, an, cdv, ct, osl, rfl, lk, hcd⟩ := F.ex
  exact ⟨fun s us ws _ l1 l2 => .of_eq (h kV doc pm an cdv ct us ws l1 l2), fun r1 r2 => hrel r1 r2⟩
theorem Vals_rev : ∀ {xs : List V} {us : List Value}, Vals xs us → Vals xs.reverse us.reverse
  | _, _, .nil => .nil
  | _, _, .cons r t => by
    rw [List.reverse_cons, List.reverse_cons]
    exact (Vals_rev t).append (.cons r .nil)
structure CalK (P : Program) (w : World) (K : PySem.W.Frag) (mg : Str → Option Value) (base : Heap) (CX : CXT) (x : Str) (k : Nat) (ps ks : List Str) (gV : List V → List V → List V) (sp : Sp) : Prop where
  ex : ∃ (f : Addr) (fd : FuncData) (g : List Value → List Value → List Value), mg x = some (.ref f) ∧ PySem.W.keepIn K (.ref f) = true ∧ KBn K fd ps 0 ks g gV ∧ FnOk P w K mg base CX k f fd ps sp
section
variable {X : Cx} {CX : CXT} {k : Nat} {f : Addr} {fd : FuncData} {ps ks : List Str} {sp : Sp} {E : XK} {x : Str} {p pos : Pos} {kws : List Keyword} {tk : TA} {g : List Value → List Value → List Value} {gV : List V → List V → List V}
theorem pe_callN0 (F : FnOk X.prog X.w X.K X.mg X.base CX k f fd ps sp) (hr : Room k X.A) (hg : Gl X x) (hm : X.mg x = some (.ref f)) (hk : PySem.W.keepIn X.K (.ref f) = true) (hb : KBn X.K fd ps 0 ks g gV) (hx : Passes CX X E) (hkw : PK X kws tk)
    (hall : (backToKw pos (keywordEach kws X.env)).all (·.1.isSome) = true := by rfl) (hks : (backToKw pos (keywordEach kws X.env)).filterMap (·.1) = ks := by rfl) (hdb : (x == ("__debug__" : Str)) = false := by decide)
    (hpl : ((backTo pos (starEach [] X.env)).any (·.1) || (backToKw pos (keywordEach kws X.env)).any (·.1.isNone)) = false := by rfl) :
    PE X (.Call (.Name x p) [] kws pos) (tCallN 0 ks.length sp gV E tNil tk) := by
  refine ⟨fun pins s σ H Q I h => ?_⟩
  refine wpAny_Call_Name_kw (ld_glob I hg hm ?_ hdb)
  refine PySem.W.callWith_KW0 (h₀ := X.base) I.ok.mod.kin hk hall ?_ hpl
  refine thn (hkw.run pos pins s σ H _ I h) fun ws s2 ⟨zs, H2, I2, rz, l1, l2, q2⟩ => ⟨I2.kIn, ?_⟩
  rw [hks]
  exact run_fnN (us := []) (vs := []) F hr hb hx I2 .nil rz l1 l2 q2
theorem pe_calK0 (C : CalK X.prog X.w X.K X.mg X.base CX x k ps ks gV sp) (hr : Room k X.A) (hg : Gl X x) (hx : Passes CX X E) (hkw : PK X kws tk)
    (hall : (backToKw pos (keywordEach kws X.env)).all (·.1.isSome) = true := by rfl) (hks : (backToKw pos (keywordEach kws X.env)).filterMap (·.1) = ks := by rfl) (hdb : (x == ("__debug__" : Str)) = false := by decide)
    (hpl : ((backTo pos (starEach [] X.env)).any (·.1) || (backToKw pos (keywordEach kws X.env)).any (·.1.isNone)) = false := by rfl) :
    PE X (.Call (.Name x p) [] kws pos) (tCallN 0 ks.length sp gV E tNil tk) := by
  obtain ⟨f, fd, g, hm, hk, hb, F⟩ := C.ex
  exact pe_callN0 F hr hg hm hk hb hx hkw hall hks hdb hpl
end
theorem rd_callN {n m : Nat} {sp : Sp} {gV : List V → List V → List V} {E : XK} {t tk : TA} {σ : L2.St} {H : Hp} {Q : VK} (h : t σ H fun vs H1 => tk σ H1 fun zs H2 => vs.length = n ∧ zs.length = m ∧ sp (gV vs zs) H2 Q E) : tCallN n m sp gV E t tk σ H Q := h
section
variable {X : Cx} {K : PySem.W.Frag} {tg : Expr}
theorem pi_listK {l : Expr} {tl : TE} (hl : PE X l tl) (h : X.K = K := by rfl) : PI X tg l (iList K tl) := by subst h; exact pi_list hl
theorem pi_tupK {l : Expr} {tl : TE} (hl : PE X l tl) (h : X.K = K := by rfl) : PI X tg l (iTup K tl) := by subst h; exact pi_tup hl
end
theorem DL.cons_inv {S : Addr → Prop} {H : Hp} {v : V} {d : PyData} {ds : List PyData} (h : DL S H v (.list (d :: ds))) : ∃ a x xs, v = .ref a ∧ S a ∧ H a = some (.lst (x :: xs)) ∧ DL S H x d ∧ DLs S H xs ds := by
  cases h with
  | lst s a b =>
    cases b with
    | cons p q => exact ⟨_, _, _, rfl, s, a, p, q⟩
theorem DL.tup_inv {S : Addr → Prop} {H : Hp} {v : V} {ds : List PyData} (h : DL S H v (.tuple ds)) : ∃ a xs, v = .ref a ∧ H a = some (.tup xs) := by
  cases h with
  | tup e _ => exact ⟨_, _, rfl, e⟩
theorem al_ok (r : Int) (xs : List Sg) (hl : xs.length ≤ 1000) : okN 3 (.list (xs.map (alD r))) := by
  refine ⟨by rw [List.length_map]; omega, fun e he => ?_⟩
  obtain ⟨x, _, rfl⟩ := List.mem_map.mp he
  refine ⟨by show 4 ≤ 1000000; decide, fun e he => ?_⟩
  simp only [List.mem_cons, List.mem_nil_iff, or_false] at he
  rcases he with rfl | rfl | rfl | rfl <;> trivial
theorem okN_succ : ∀ {j : Nat} {d : PyData}, okN j d → okN (j + 1) d
  | 0, _, h => h.elim
  | j + 1, .none, _ => trivial
  | j + 1, .bool _, _ => trivial
  | j + 1, .int _, _ => trivial
  | j + 1, .str _, _ => trivial
  | j + 1, .dict _, h => h.elim
  | j + 1, .list ds, h => ⟨h.1, fun e he => okN_succ (h.2 e he)⟩
  | j + 1, .tuple ds, h => ⟨h.1, fun e he => okN_succ (h.2 e he)⟩
theorem tab_ok (xs : List Sg) (hl : xs.length ≤ 1000) : okN 4 (tabD xs) := by
  refine ⟨by rw [List.length_map, List.length_range]; decide, fun e he => ?_⟩
  obtain ⟨x, _, rfl⟩ := List.mem_map.mp he
  exact al_ok _ xs hl
/-- what holds of a machine, of the table that is due and of the tray, through the law -/
structure I4 (C t g x Ld : Addr) (us : List V) (xs : List Sg) (b : Int) (n : Nat) (H7 H8 H : Hp) : Prop where
  m : MAt C H x us b
  rp : RpAll H us (xs.map Sg.d)
  due : DL (New H7 H8) H (.ref Ld) (tabD xs)
  T : Tray H t g n
  dom : ∀ c, H c = none → H8 c = none
  ht : H7 t ≠ none ∧ H8 t ≠ none
  hg : H7 g ≠ none ∧ H8 g ≠ none
section
variable {C t g x Ld : Addr} {us : List V} {xs : List Sg} {b : Int} {n m : Nat} {H7 H8 H H' : Hp}
theorem I4.same (I : I4 C t g x Ld us xs b n H7 H8 H) (s : Same H H') : I4 C t g x Ld us xs b n H7 H8 H' :=
  ⟨I.m.same s, I.rp.keep (Tk.of s), I.due.same s, I.T.same s, fun c h => I.dom c (s.free h), I.ht, I.hg⟩
theorem I4.put {p : Addr} {vs ws : List V} (I : I4 C t g x Ld us xs b n H7 H8 H) (hp : H p = some (.lst vs)) (h8 : H8 p = none) : I4 C t g x Ld us xs b n H7 H8 (upd H p (.lst ws)) := by
  have tk : Tk H (upd H p (.lst ws)) := Tk.lst hp
  have n1 : p ≠ t := fun z => I.ht.2 (by rw [← z]; exact h8)
  have n2 : p ≠ g := fun z => I.hg.2 (by rw [← z]; exact h8)
  refine ⟨I.m.keep (fun o e => ?_) tk, I.rp.keep tk, I.due.put (fun xs e => by rw [hp] at e; cases e) fun z => z.2 h8, I.T.put n1 n2, fun c h => ?_, I.ht, I.hg⟩
  · obtain ⟨dx, q, e1, _⟩ := I.m
    rw [upd_ne (ne_of e1 hp (fun z => nomatch z))]
    exact e
  · by_cases hc : c = p
    · rw [hc]
      exact h8
    · rw [upd_ne hc] at h
      exact I.dom c h
theorem I4.kp (I : I4 C t g x Ld us xs b n H7 H8 H) (k : Kp t g H H') (T : Tray H' t g m) : I4 C t g x Ld us xs b m H7 H8 H' := by
  have tk := k.tk I.T
  refine ⟨I.m.keep (fun o e => ?_) tk, I.rp.keep tk, I.due.keep tk fun a ys q e => ⟨q, ?_⟩, T, fun c h => ?_, I.ht, I.hg⟩
  · obtain ⟨dx, q, e1, _⟩ := I.m
    obtain ⟨_, et⟩ := I.T.ht
    obtain ⟨_, eg⟩ := I.T.hg
    exact k _ _ e (ne_of e1 et (fun z => nomatch z)) (ne_of e1 eg (fun z => nomatch z))
  · exact k _ _ e (fun z => I.ht.1 (by rw [← z]; exact q.1)) (fun z => I.hg.1 (by rw [← z]; exact q.1))
  · cases e : H c with
    | none => exact I.dom c e
    | some o =>
      by_cases h1 : c = t
      · obtain ⟨_, et⟩ := T.ht
        rw [h1, et] at h
        cases h
      by_cases h2 : c = g
      · obtain ⟨_, et⟩ := T.hg
        rw [h2, et] at h
        cases h
      rw [k _ _ e h1 h2] at h
      cases h
end
def spRefused (C : Addr) : Sp := fun vs H Q _ => ∃ (x : Addr) (us : List V) (xs : List Sg) (b r : Int), vs = [.ref x, .int r] ∧ MAt C H x us b ∧ RpAll H us (xs.map Sg.d) ∧ xs.length ≤ 900 ∧ r.natAbs.log2 < 1920 ∧ below r 8 = false ∧
  ∀ (L : Addr) (H' : Hp), H L = none → DL (fun a => H a = none) H' (.ref L) (.list [.int r, .bool true, .bool true, .bool false]) → Same H H' → Q (.ref L) H'
theorem rd_U {f : Int → V} {a : Int} {H : Hp} {Q : VK} (h : Q (f a) H) : rU f (.int a) H Q := ⟨a, rfl, h⟩
end Rg

/-! machines that may be refused -/
namespace Rg
open PySem PySem.Spec L2
/-! ### C(e, .., k = v, ..) in the body of a try -/
def tMakeKS (C : Addr) (n m : Nat) (sp : Sp) (gV : List V → List V → List V) (E : L2.St → XK) (t tk : TA) : TE := fun σ H Q => t σ H fun vs H1 => tk σ H1 fun zs H2 => vs.length = n ∧ zs.length = m ∧ ∀ x dx, H2 x = none → H2 dx = none → dx ≠ x →
  sp (gV (.ref x :: vs) zs) (upd (upd H2 dx (.own x)) x (.ins C dx [])) (fun v H3 => v = .non ∧ Q (.ref x) H3) (E σ)
section
variable {X : Cx} {k n : Nat} {f C : Addr} {fd : FuncData} {ps ks : List Str} {sp : Sp} {W : WX} {x : Str} {p pos : Pos} {e : Expr} {es : List Expr} {kws : List Keyword} {t tkw : TA} {g : List Value → List Value → List Value} {gV : List V → List V → List V}
theorem pe_makeKS (M : Mk X.K C f) (F : FnOk X.prog X.w X.K X.mg X.base (L2.CX X.prog X.w) k f fd ps sp) (tk : Takes X W) (hr : Room (k + 1) X.A) (hg : Gl X x) (hm : X.mg x = some (.ref C)) (hb : KBn X.K fd ps (n + 1) ks g gV) (ha : PA X (e :: es) t) (hkw : PK X kws tkw)
    (hall : (backToKw pos (keywordEach kws X.env)).all (·.1.isSome) = true := by rfl) (hks : (backToKw pos (keywordEach kws X.env)).filterMap (·.1) = ks := by rfl) (hdb : (x == ("__debug__" : Str)) = false := by decide)
    (he : starEach (e :: es) X.env = (false, eval e X.env) :: starEach es X.env := by rfl) (hpl : ((backTo pos (starEach (e :: es) X.env)).any (·.1) || (backToKw pos (keywordEach kws X.env)).any (·.1.isNone)) = false := by rfl) :
    PE X (.Call (.Name x p) (e :: es) kws pos) (tMakeKS C n ks.length sp gV (WE W) t tkw) := by
  constructor
  intro pins s σ H Q I h
  refine wpAny_Call_Name_kw (ld_glob I hg hm ?_ hdb)
  refine PySem.W.callWith_KW (h₀ := X.base) I.ok.mod.kin M.kp hall (thn (ha.run pos pins s σ H _ I h) ?_) hpl he
  rintro us sa ⟨vs, Ha, Ia, rv, qa⟩
  refine thn (hkw.run pos pins sa σ Ha _ Ia qa) ?_
  rintro ws sb ⟨zs, Hb, Ib, rz, l1, l2, qb⟩
  refine ⟨Ib.kIn, ?_⟩
  rw [hks]
  have ho := qb (sb.heap.objs.size + 1) sb.heap.objs.size (Ib.hok.fresh (Nat.le_succ _)) (Ib.hok.fresh (Nat.le_refl _)) (Nat.ne_of_lt (Nat.lt_succ_self _))
  have Im := Inv.made (C := C) Ib
  have rall := hb.rel (Paired.cons (show RelV (V.ref (sb.heap.objs.size + 1)) (Value.ref (sb.heap.objs.size + 1)) from rfl) rv) rz
  have ln : (Value.ref (sb.heap.objs.size + 1) :: us).length = n + 1 := by rw [List.length_cons, ← rv.length, l1]
  have run := F.run _ X.stack _ _ ⟨Value.ref (sb.heap.objs.size + 1) :: us, ks.zip ws⟩ (g (Value.ref (sb.heap.objs.size + 1) :: us) ws) _ _ (WE W σ) (hr.make C us (ks.zip ws)) (Im.env0.make C us (ks.zip ws)) (hb.to _ (Value.ref (sb.heap.objs.size + 1) :: us) ws Im.kIn ln (rz.length.symm.trans l2)) rall ho
  refine wpAny_call (make_map (f := f) Ib.kIn M.makes M.init (beq_iff_eq.mp M.fn) (codeAny_mono run ?_))
  intro r s' hq
  match r, hq with
  | .error er, hq => exact passAt tk σ pins _ _ er s' Im hq
  | .ok (.ret u), hq =>
    obtain ⟨v, H', I3, rv', ev, q3⟩ := Im.after hq
    subst ev
    exact ⟨rv', ⟨V.ref (sb.heap.objs.size + 1), H', I3, rfl, q3⟩⟩
  | .ok .next, hq => exact False.elim hq
  | .ok .brk, hq => exact False.elim hq
  | .ok .cont, hq => exact False.elim hq
end
theorem rd_makeKS {C : Addr} {n m : Nat} {sp : Sp} {gV : List V → List V → List V} {E : L2.St → XK} {t tk : TA} {σ : L2.St} {H : Hp} {Q : VK} (h : t σ H fun vs H1 => tk σ H1 fun zs H2 => vs.length = n ∧ zs.length = m ∧ ∀ x dx, H2 x = none → H2 dx = none → dx ≠ x →
  sp (gV (.ref x :: vs) zs) (upd (upd H2 dx (.own x)) x (.ins C dx [])) (fun v H3 => v = .non ∧ Q (.ref x) H3) (E σ)) : tMakeKS C n m sp gV E t tk σ H Q := h
/-! ### what is refused -/
def SgSmall (x : Sg) : Prop := SgForm x ∧ x.ws.length ≤ 900 ∧ x.rs.length ≤ 900
/-- what NoMachine is made with, if it is raised -/
inductive IW (xs : List Sg) (b : Int) : Option V → Prop
  | none (h : xs.length < 1 ∨ 8 < xs.length ∨ b < 2) : IW xs b (some .non)
  | num (i : Nat) (hl : 1 ≤ xs.length ∧ xs.length ≤ 8 ∧ 2 ≤ b) (y : Sg) (hy : xs[i]? = some y) (hf : sgFits y b xs.length = false) (ha : ∀ j z, j < i → xs[j]? = some z → sgFits z b xs.length = true) : IW xs b (some (.int i))
  | ok (hl : 1 ≤ xs.length ∧ xs.length ≤ 8 ∧ 2 ≤ b) (ha : ∀ z ∈ xs, sgFits z b xs.length = true) : IW xs b Option.none
def spInitX (C NM : Addr) : Sp := fun vs H Q E => ∃ (x dx L : Addr) (us : List V) (xs : List Sg) (b : Int), vs = [.ref x, .ref L, .int b] ∧ H x = some (.ins C dx []) ∧ H L = some (.lst us) ∧ RpAll H us (xs.map Sg.d) ∧ xs.length ≤ 900 ∧ (∀ y ∈ xs, SgSmall y) ∧
  (IW xs b Option.none → ∀ H', MAt C H' x us b → (∀ c o, H c = some o → c ≠ x → H' c = some o) → Q .non H') ∧
  (∀ v, IW xs b (some v) → ∀ (d : Addr) (H' : Hp), H d = Option.none → H' d = some (.xd [("what", v)]) → Same H H' → E (.ref NM) (some d) H')
end Rg
namespace Rg
open PySem PySem.Spec L2
/-! ### tuples cut and joined -/
theorem RpAll.take {H : Hp} : ∀ {ds : List PyData} {vs : List V} (n : Nat), RpAll H vs ds → RpAll H (vs.take n) (ds.take n)
  | _, _, 0, _ => .nil
  | _, _, _ + 1, .nil => .nil
  | _, _, n + 1, .cons h t => .cons h (RpAll.take n t)
theorem RpAll.set {H : Hp} {v : V} {d : PyData} (h : Rp H v d) : ∀ {ds : List PyData} {vs : List V} (n : Nat), RpAll H vs ds → RpAll H (vs.set n v) (ds.set n d)
  | _, _, _, .nil => .nil
  | _, _, 0, .cons _ t => .cons h t
  | _, _, n + 1, .cons a t => .cons a (RpAll.set h n t)
theorem RpAll.rep {H : Hp} {vs : List V} {ds : List PyData} (h : RpAll H vs ds) : ∀ n : Nat, RpAll H (List.replicate n vs).flatten (List.replicate n ds).flatten
  | 0 => .nil
  | n + 1 => by
    rw [List.replicate_succ, List.replicate_succ, List.flatten_cons, List.flatten_cons]
    exact h.append (RpAll.rep h n)
theorem cut_hi (xs : List V) (n : Nat) : cutV xs none (some (n : Int)) = xs.take n := by
  unfold cutV
  rw [HT.sIx_nat, HT.sIx_none, List.drop_zero, Nat.sub_zero, ← List.take_take, List.take_length]
section
variable {K : PySem.W.Frag} {H : Hp} {Q : VK}
theorem rd_slA {p : Addr} {xs : List V} {lo hi : Option Int} (h : H p = some (.tup xs)) (q : ∀ (p' : Addr) (H' : Hp), Same H H' → H' p' = some (.tup (cutV xs lo hi)) → Q (.ref p') H') : rSlA K (.ref p) lo hi H Q := by
  refine ⟨p, xs, rfl, SqT.of h, fun hw => ?_, fun _ p' hp' => q p' _ (same_upd hp') upd_same⟩
  refine q p H (Same.refl _) ?_
  have e : cutV xs lo hi = xs := by
    unfold cutV
    rw [hw.1, hw.2]
    simp
  rw [e]
  exact h
end
theorem rd_catA {K : PySem.W.Frag} {H : Hp} {Q : VK} {p r : Addr} {xs ys : List V} (h1 : H p = some (.tup xs)) (h2 : H r = some (.tup ys)) (hl : xs.length + ys.length ≤ 1000) (q : ∀ (p' : Addr) (H' : Hp), Same H H' → H' p' = some (.tup (xs ++ ys)) → Q (.ref p') H') : rCatA K (.ref p) (.ref r) H Q := by
  refine ⟨p, r, xs, ys, rfl, rfl, SqT.of h1, SqT.of h2, Nat.le_of_lt (small1000 hl), fun e => ?_, fun _ e => ?_, fun _ _ p' hp' => q p' _ (same_upd hp') upd_same⟩
  · exact q r H (Same.refl _) (by rw [e]; exact h2)
  · exact q p H (Same.refl _) (by rw [e, List.append_nil]; exact h1)
theorem sg_bad {x : Sg} {b m : Int} (h : brFits x.r1 x.r2 x.r3 = false ∨ below x.ga (x.rs.length + 1) = false ∨ 16 < x.ws.length ∨ (∃ y ∈ x.ws, wdFits y b m = false) ∨ ∃ y ∈ x.rs, rowFits y m = false) : sgFits x b m = false := by
  cases e : sgFits x b m with
  | false => rfl
  | true =>
    obtain ⟨h1, _, h3, h4, _, h6, h7⟩ := sg_parts e
    rcases h with h | h | h | ⟨y, hy, h⟩ | ⟨y, hy, h⟩
    · rw [h1] at h; cases h
    · rw [h3] at h; cases h
    · omega
    · rw [h6 y hy] at h; cases h
    · rw [h7 y hy] at h; cases h
def wl : Option V → List V
  | none => []
  | some v => [v]
def spWhat (C NM : Addr) : Sp := fun vs H Q _ => ∃ (L : Addr) (us : List V) (xs : List Sg) (b : Int), vs = [.ref L, .int b] ∧ H L = some (.lst us) ∧ RpAll H us (xs.map Sg.d) ∧ xs.length ≤ 900 ∧ (∀ y ∈ xs, SgSmall y) ∧
  ∀ o, IW xs b o → ∀ (Lr : Addr) (H' : Hp), H Lr = none → Same H H' → H' Lr = some (.lst (wl o)) → Q (.ref Lr) H'
/-- which segments are faulty -/
def FL (xs : List Sg) (b : Int) (N : Nat) (ds : List Nat) : Prop := ∀ j z, xs[j]? = some z → (sgFits z b N = false ↔ j ∈ ds)
end Rg
namespace Rg
open PySem PySem.Spec L2
theorem IW.un {xs : List Sg} {b : Int} {o : Option V} (h : IW xs b o) (hb : xs.length < 1 ∨ 8 < xs.length ∨ b < 2) : o = some .non := by
  cases h with
  | none _ => rfl
  | num i hl => omega
  | ok hl => omega
theorem IW.ok' {xs : List Sg} {b : Int} {o : Option V} (h : IW xs b o) (hl : 1 ≤ xs.length ∧ xs.length ≤ 8 ∧ 2 ≤ b) (hf : FL xs b xs.length []) : o = Option.none := by
  cases h with
  | none h => omega
  | num i _ y hy hb => exact absurd ((hf i y hy).mp hb) (by simp)
  | ok _ => rfl
theorem IW.first {xs : List Sg} {b : Int} {o : Option V} {j : Nat} {rest : List Nat} (h : IW xs b o) (hl : 1 ≤ xs.length ∧ xs.length ≤ 8 ∧ 2 ≤ b) (hf : FL xs b xs.length (j :: rest)) (hs : (j :: rest).Pairwise (· < ·)) (hj : j < xs.length) : o = some (.int (j : Nat)) := by
  have bad : sgFits xs[j] b xs.length = false := (hf j _ (List.getElem?_eq_getElem hj)).mpr (List.mem_cons_self ..)
  cases h with
  | none h => omega
  | num i _ y hy hb ha =>
    rcases List.mem_cons.mp ((hf i y hy).mp hb) with e | e
    · rw [e]
    · have hlt : j < i := (List.pairwise_cons.mp hs).1 i e
      have := ha j _ hlt (List.getElem?_eq_getElem hj)
      rw [this] at bad
      cases bad
  | ok _ ha =>
    rw [ha _ (List.getElem_mem hj)] at bad
    cases bad
theorem FL.bad {xs : List Sg} {b : Int} {ds : List Nat} {i : Nat} {x : Sg} (h : FL xs b xs.length ds) (hx : sgFits x b xs.length = false) : FL (xs.set i x) b (xs.set i x).length (ds ++ [i]) := fun j z hz => by
  rw [List.length_set]
  by_cases e : j = i
  · subst e
    by_cases hl : j < xs.length
    · rw [List.getElem?_set_self hl] at hz
      cases hz
      exact ⟨fun _ => by simp, fun _ => hx⟩
    · rw [List.getElem?_eq_none (by simpa using hl)] at hz
      cases hz
  · rw [List.getElem?_set_ne (Ne.symm e)] at hz
    rw [h j z hz]
    simp [e]
theorem FL.mend {xs : List Sg} {b : Int} {rest : List Nat} {i : Nat} {x : Sg} (h : FL xs b xs.length (i :: rest)) (hn : i ∉ rest) (hx : sgFits x b xs.length = true) : FL (xs.set i x) b (xs.set i x).length rest := fun j z hz => by
  rw [List.length_set]
  by_cases e : j = i
  · subst e
    by_cases hl : j < xs.length
    · rw [List.getElem?_set_self hl] at hz
      cases hz
      rw [hx]
      exact ⟨(fun q => nomatch q), fun q => absurd q hn⟩
    · rw [List.getElem?_eq_none (by simpa using hl)] at hz
      cases hz
  · rw [List.getElem?_set_ne (Ne.symm e)] at hz
    rw [h j z hz]
    simp [e]
/-- the segments, which of them are faulty, what is due, the tray -/
structure I7 (t g L Dl : Addr) (us : List V) (xs : List Sg) (b : Int) (al ds : List Nat) (n : Nat) (H : Hp) : Prop where
  hL : H L = some (.lst us)
  rp : RpAll H us (xs.map Sg.d)
  sm : ∀ y ∈ xs, SgSmall y
  fl : FL xs b xs.length ds
  hD : H Dl = some (.lst (al.map fun j => V.int (j : Nat)))
  T : Tray H t g n
  n1 : L ≠ t
  n2 : L ≠ g
  n3 : Dl ≠ t
  n4 : Dl ≠ g
  n5 : L ≠ Dl
section
variable {t g L Dl : Addr} {us : List V} {xs : List Sg} {b : Int} {al ds : List Nat} {n m : Nat} {H H' : Hp}
theorem I7.same (I : I7 t g L Dl us xs b al ds n H) (s : Same H H') : I7 t g L Dl us xs b al ds n H' :=
  ⟨s _ _ I.hL, I.rp.keep (Tk.of s), I.sm, I.fl, s _ _ I.hD, I.T.same s, I.n1, I.n2, I.n3, I.n4, I.n5⟩
theorem I7.kp (I : I7 t g L Dl us xs b al ds n H) (k : Kp t g H H') (T : Tray H' t g m) : I7 t g L Dl us xs b al ds m H' :=
  ⟨k _ _ I.hL I.n1 I.n2, I.rp.keep (k.tk I.T), I.sm, I.fl, k _ _ I.hD I.n3 I.n4, T, I.n1, I.n2, I.n3, I.n4, I.n5⟩
theorem I7.len (I : I7 t g L Dl us xs b al ds n H) : us.length = xs.length := by rw [I.rp.length, List.length_map]
theorem I7.set {v : V} {x : Sg} {i : Nat} {ds' : List Nat} (I : I7 t g L Dl us xs b al ds n H) (r : Rp H v x.d) (hx : SgSmall x) (hf : FL (xs.set i x) b (xs.set i x).length ds') : I7 t g L Dl (us.set i v) (xs.set i x) b al ds' n (upd H L (.lst (us.set i v))) := by
  have tk : Tk H (upd H L (.lst (us.set i v))) := Tk.lst I.hL
  refine ⟨upd_same, ?_, fun y hy => ?_, hf, by rw [upd_ne (Ne.symm I.n5)]; exact I.hD, I.T.put I.n1 I.n2, I.n1, I.n2, I.n3, I.n4, I.n5⟩
  · rw [List.map_set]
    exact RpAll.set (r.keep tk) i (I.rp.keep tk)
  · rcases List.mem_or_eq_of_mem_set hy with h | h
    · exact I.sm y h
    · rw [h]
      exact hx
theorem I7.due {al' : List Nat} (I : I7 t g L Dl us xs b al ds n H) : I7 t g L Dl us xs b al' ds n (upd H Dl (.lst (al'.map fun j => V.int (j : Nat)))) := by
  have tk : Tk H (upd H Dl (.lst (al'.map fun j => V.int (j : Nat)))) := Tk.lst I.hD
  exact ⟨by rw [upd_ne I.n5]; exact I.hL, I.rp.keep tk, I.sm, I.fl, upd_same, I.T.put I.n3 I.n4, I.n1, I.n2, I.n3, I.n4, I.n5⟩
theorem ixN_nat {n i : Nat} {z : Int} (e : z = (i : Int)) (h : i < n) : ixN n z = some i := by
  unfold ixN
  rw [e, if_pos (by omega), if_pos (by omega)]
  simp
end
theorem sorted_len : ∀ (l : List Nat) (lo m : Nat), l.Pairwise (· < ·) → (∀ j ∈ l, lo ≤ j ∧ j < m) → lo ≤ m → l.length ≤ m - lo
  | [], _, _, _, _, _ => Nat.zero_le _
  | a :: l, lo, m, hp, hb, _ => by
    have hp' := List.pairwise_cons.mp hp
    have h2 := hb a (List.mem_cons_self ..)
    have h1 := sorted_len l (a + 1) m hp'.2 (fun j hj => ⟨hp'.1 j hj, (hb j (List.mem_cons_of_mem _ hj)).2⟩) (by omega)
    rw [List.length_cons]
    omega
end Rg

/-! segments in another order -/
namespace Rg
open PySem PySem.Spec L2
theorem mt_indexK {X : Cx} {K : PySem.W.Frag} (h : X.K = K := by rfl) : MtR X "list.index" (rIndex K) := by subst h; exact mt_index
/-- a comprehension of things that are tuples all through -/
def CompR {β : Type} (D : Addr) (H1 : Hp) (xs : List β) (f : β → PyData) (i : Nat) (H' : Hp) : Prop := ∃ vs, H' D = some (.lst vs) ∧ RpAll H' vs ((xs.take i).map f) ∧ Same H1 H'
theorem CompR.start {β : Type} {D : Addr} {H1 : Hp} {xs : List β} {f : β → PyData} (hD : H1 D = none) : CompR D H1 xs f 0 (upd H1 D (.lst [])) := ⟨[], upd_same, .nil, same_upd hD⟩
theorem CompR.step {β : Type} {D : Addr} {H1 H2 H4 : Hp} {xs : List β} {f : β → PyData} {i : Nat} {b : β} {y : V} (h : CompR D H1 xs f i H2) (hD : H1 D = none) (hi : i ≤ 1000) (hb : xs[i]? = some b) (k : Same H2 H4) (r : Rp H4 y (f b)) :
    ∃ acc, H4 D = some (.lst acc) ∧ acc.length < sizeLine ∧ CompR D H1 xs f (i + 1) (upd H4 D (.lst (acc ++ [y]))) := by
  obtain ⟨vs, h1, h2, s1⟩ := h
  have e4 := k _ _ h1
  have tk : Tk H4 (upd H4 D (.lst (vs ++ [y]))) := Tk.lst e4
  refine ⟨vs, e4, ?_, vs ++ [y], upd_same, ?_, fun c o q => ?_⟩
  · rw [h2.length, List.length_map, List.length_take]
    exact small1000 (by omega)
  · rw [take_snoc hb, List.map_append]
    exact ((h2.keep (Tk.of k)).keep tk).append (.cons (r.keep tk) .nil)
  · rw [upd_ne (ne_of_none q hD)]
    exact k _ _ (s1 _ _ q)
theorem CompR.end {β : Type} {D : Addr} {H1 H2 : Hp} {xs : List β} {f : β → PyData} {n : Nat} (h : CompR D H1 xs f n H2) (hn : n = xs.length) : ∃ vs, H2 D = some (.lst vs) ∧ RpAll H2 vs (xs.map f) ∧ Same H1 H2 := by
  subst hn
  obtain ⟨vs, h1, h2, s⟩ := h
  rw [List.take_length] at h2
  exact ⟨vs, h1, h2, s⟩
/-! ### numbers of segments put otherwise -/
def spV (sp : List Nat) : List V := sp.map fun j => V.int (j : Nat)
def putW (sp : List Nat) : Wd → Wd
  | .num n => .num n
  | .ptr r s p => .ptr r (sp.getD s.toNat 0 : Nat) p
def putR (sp : List Nat) (r : Rw) : Rw := match r.ns with
  | [q, s, n] => if r.op = "aim" then ⟨r.op, [q, (sp.getD s.toNat 0 : Nat), n]⟩ else r
  | _ => r
def putS (sp : List Nat) (x : Sg) : Sg := { x with ws := x.ws.map (putW sp), rs := x.rs.map (putR sp) }
/-- what is named is there -/
def inW (N : Nat) : Wd → Prop
  | .num _ => True
  | .ptr _ s _ => 0 ≤ s ∧ s < (N : Int)
def inR (N : Nat) (r : Rw) : Prop := ∀ q s n, r.ns = [q, s, n] → r.op = "aim" → 0 ≤ s ∧ s < (N : Int)
theorem sp_at {sp : List Nat} {s : Int} (h0 : 0 ≤ s) (h1 : s < sp.length) : atI (spV sp) s = some (.int (sp.getD s.toNat 0 : Nat)) := by
  have hl : s.toNat < sp.length := by omega
  refine at_of (j := s.toNat) (by omega) ?_
  unfold spV
  rw [List.getElem?_map, List.getElem?_eq_getElem hl, List.getD_eq_getElem?_getD, List.getElem?_eq_getElem hl]
  rfl
def spPutW : Sp := fun vs H Q _ => ∃ (v : V) (S : Addr) (x : Wd) (sp : List Nat), vs = [v, .ref S] ∧ Rp H v x.d ∧ H S = some (.lst (spV sp)) ∧ inW sp.length x ∧ ∀ (u : V) (H' : Hp), Same H H' → Rp H' u (putW sp x).d → Q u H'
def spPutR : Sp := fun vs H Q _ => ∃ (v : V) (S : Addr) (x : Rw) (sp : List Nat), vs = [v, .ref S] ∧ Rp H v x.d ∧ RwForm x ∧ H S = some (.lst (spV sp)) ∧ inR sp.length x ∧ ∀ (u : V) (H' : Hp), Same H H' → Rp H' u (putR sp x).d → Q u H'
def spPutS : Sp := fun vs H Q _ => ∃ (v : V) (S : Addr) (x : Sg) (sp : List Nat), vs = [v, .ref S] ∧ Rp H v x.d ∧ SgSmall x ∧ H S = some (.lst (spV sp)) ∧ (∀ y ∈ x.ws, inW sp.length y) ∧ (∀ y ∈ x.rs, inR sp.length y) ∧ ∀ (u : V) (H' : Hp), Same H H' → Rp H' u (putS sp x).d → Q u H'
end Rg

/-! ways of statements that join again; unpacked lists; tables put otherwise -/
namespace Rg
open PySem PySem.Spec L2
theorem rd_seqJ {t u : TS} {D : Ends} {σ : L2.St} {H : Hp} (post : L2.St → Hp → Prop) (h1 : ∀ R : L2.St → Hp → Prop, (∀ σ' H', post σ' H' → R σ' H') → t { D with nx := R } σ H) (h2 : ∀ σ' H', post σ' H' → u D σ' H') : tSeq t u D σ H := h1 (u D) h2
theorem rd_glst {K : PySem.W.Frag} {σ : L2.St} {H : Hp} {R : L2.St → Hp → Prop} {n : Nat} {t : TGs} {a : Addr} {xs : List V} (h : H a = some (.lst xs)) (hl : xs.length = n) (q : t xs σ H R) : gLst K n t (.ref a) σ H R := ⟨a, xs, rfl, SqL.of h, hl, q⟩
theorem rd_neB {H : Hp} {Q : VK} {a b : Bool} (h : Q (.bl (a != b)) H) : rNe (.bl a) (.bl b) H Q := by
  refine ⟨rfl, ?_⟩
  have e : (!decide (V.bl a = V.bl b)) = (a != b) := by cases a <;> cases b <;> simp
  rw [e]
  exact h
theorem rd_eqB {H : Hp} {Q : VK} {a b : Bool} (h : Q (.bl (a == b)) H) : rEq (.bl a) (.bl b) H Q := by
  refine ⟨rfl, ?_⟩
  have e : decide (V.bl a = V.bl b) = (a == b) := by cases a <;> cases b <;> simp
  rw [e]
  exact h
def dSg : Sg := ⟨0, 0, 0, "", 0, [], []⟩
theorem alD_rp {S : Addr → Prop} {H : Hp} {v : V} {r : Int} {x : Sg} (h : DL S H v (alD r x)) : Rp H v (alD r x) := by
  unfold alD at *
  cases h with
  | tup e h =>
    cases h with
    | cons a1 h =>
      cases h with
      | cons a2 h =>
        cases h with
        | cons a3 h =>
          cases h with
          | cons a4 h =>
            cases h
            cases a1; cases a2; cases a3; cases a4
            exact .tup e (.cons (.bl _) (.cons (.bl _) (.cons (.bl _) (.cons (.bl _) .nil))))
theorem tab_lay (xs : List Sg) : (tabD xs).canLay0 = true := by
  show PyData.canLayAll0 ((List.range 8).map fun r => .list (xs.map (alD (r : Nat)))) = true
  refine lay_map (f := fun r : Nat => PyData.list (xs.map (alD (r : Nat)))) _ fun r _ => ?_
  show PyData.canLayAll0 (xs.map (alD (r : Nat))) = true
  exact lay_map _ fun x _ => rfl
theorem tab_shaped (xs : List Sg) (hl : xs.length ≤ 1000) : SeqAt.shaped (tabD xs) = true := shaped_of (tab_lay xs) (tab_ok xs hl) (by decide)
end Rg

/-! sum of truths; lists of truths -/
namespace Rg
open PySem PySem.Spec L2
def one01 (b : Bool) : Int := if b = true then 1 else 0
def rSumB (K : PySem.W.Frag) : List V → Hp → VK → Prop := fun vs H Q => ∃ (a : Addr) (bs : List Bool), vs = [.ref a] ∧ SqL K H a (bs.map V.bl) ∧ Q (.int (bs.map one01).sum) H
theorem vals_bl : ∀ {bs : List Bool} {us : List Value} {i : Nat} {v : Value}, Vals (bs.map V.bl) us → us[i]? = some v → ∃ b, bs[i]? = some b ∧ v = .bool b
  | [], _, i, v, h, e => by
    cases h
    simp at e
  | b :: bs, _, i, v, h, e => by
    cases h with
    | cons r t =>
      match i, e with
      | 0, e =>
        have e' := Option.some.inj e
        subst e'
        exact ⟨b, rfl, r⟩
      | i + 1, e =>
        obtain ⟨b', h1, h2⟩ := vals_bl t (i := i) (by simpa using e)
        exact ⟨b', by simpa using h1, h2⟩
theorem cr_sumB {X : Cx} {K : PySem.W.Frag} (hc : X.calm = true) (hK : X.K = K := by rfl) : CallR X (.builtin "sum") (rSumB K) := by
  subst hK
  intro pins s σ H vs us Q I r h
  obtain ⟨a, bs, rfl, hs, q⟩ := h
  obtain ⟨its, rv, hl, _⟩ := I.list hs
  rw [Vals.ref1 r]
  have hL := hl.isList
  have lt : a < s.heap.objs.size := by
    obtain ⟨_, e, _⟩ := hL
    exact Heap.lt_size e
  have ln : its.length = bs.length := by rw [← rv.length, List.length_map]
  refine call_sum_walkAnyB (wpAny_pyIter_list hL ?_)
  refine ⟨s.heap.objs.size, [s.heap.objs.size, a], [s.heap.objs.size], _, its.toArray.size, _, _, fun i => (bs.map one01).getD i 0, rfl, (Walks.list (A := X.A.in1) (I.ok.hd hc) _ a (Nat.ne_of_lt lt) its.toArray).toS, ⟨⟨_, Heap.get?_push_size _ rfl, rfl, rfl⟩, hL.push _⟩, fun b hb => ?_, fun i v hv => ?_, fun s' t' hm => ?_⟩
  · show b < (Heap.push s.heap _).objs.size
    rw [Heap.size_push]
    rcases List.mem_cons.mp hb with h | h
    · exact h ▸ Nat.lt_succ_self _
    · exact List.mem_singleton.mp h ▸ Nat.lt_succ_of_lt lt
  · obtain ⟨b, h1, rfl⟩ := vals_bl rv (by simpa using hv)
    refine .inr ⟨b, rfl, ?_⟩
    dsimp only
    rw [List.getD_eq_getElem?_getD, List.getElem?_map, h1]
    rfl
  · have e : PySem.preSum (fun i => (bs.map one01).getD i 0) its.toArray.size = (bs.map one01).sum := by
      rw [PyProof.Rows.preSum_getD, List.take_of_length_le (by simp; omega)]
    rw [e, Moved.eq_with hm]
    refine ⟨.int _, H, I.kept (h' := s'.heap) (t' := s'.toks) (fun b o hb => ?_), ⟨_, rfl⟩, q⟩
    exact hm.heap b o (fun hmem => Nat.ne_of_lt (Heap.lt_size hb) (List.mem_singleton.mp hmem)) (Heap.get?_push_of_some _ hb)
theorem inV_bl (b : Bool) (bs : List Bool) : inV (.bl b) (bs.map V.bl) = bs.contains b := by
  induction bs with
  | nil => rfl
  | cons a r ih =>
    have h : inV (.bl b) ((a :: r).map V.bl) = (eqV (.bl a) (.bl b) || inV (.bl b) (r.map V.bl)) := rfl
    rw [h, ih, List.contains_cons]
    cases a <;> cases b <;> rfl
theorem dp_bls {K : PySem.W.Frag} {H : Hp} : ∀ (bs : List Bool), DpAll K H (bs.map V.bl) (bs.map PyData.bool)
  | [] => .nil
  | b :: bs => .cons (.bl b) (dp_bls bs)
theorem dp_blm {K : PySem.W.Frag} {H : Hp} {α : Type} (f : α → Bool) : ∀ (xs : List α), DpAll K H (xs.map fun k => V.bl (f k)) ((xs.map f).map PyData.bool)
  | [] => .nil
  | b :: bs => .cons (.bl (f b)) (dp_blm f bs)
theorem lay_bls (bs : List Bool) : (PyData.list (bs.map PyData.bool)).canLay0 = true := lay_map bs fun _ _ => rfl
theorem shaped_bls (bs : List Bool) : SeqAt.shaped (.list (bs.map PyData.bool)) = true := by
  have h2 : ∀ bs : List Bool, PyData.depthAll (bs.map .bool) = 0 := fun bs => by
    induction bs with
    | nil => rfl
    | cons a r ih =>
      show max (PyData.depth (.bool a)) (PyData.depthAll (r.map .bool)) = 0
      rw [ih]
      rfl
  unfold SeqAt.shaped
  rw [lay_bls, show PyData.depth (.list (bs.map PyData.bool)) = PyData.depthAll (bs.map PyData.bool) + 1 from rfl, h2]
  rfl
/-- ways that join again, the names as they were -/
theorem rd_seqH {t u : TS} {D : Ends} {σ : L2.St} {H : Hp} (post : Hp → Prop) (h1 : ∀ R : L2.St → Hp → Prop, (∀ H', post H' → R σ H') → t { D with nx := R } σ H) (h2 : ∀ H', post H' → u D σ H') : tSeq t u D σ H := by
  refine rd_seqJ (fun σ' H' => σ' = σ ∧ post H') (fun R hR => h1 R fun H' h => hR σ H' ⟨rfl, h⟩) ?_
  rintro σ' H' ⟨rfl, h⟩
  exact h2 H' h
theorem cut_lo (xs : List V) (n : Nat) : cutV xs (some (n : Int)) none = xs.drop n := by
  unfold cutV
  rw [HT.sIx_nat]
  have : HT.sIx xs.length xs.length none = xs.length := rfl
  rw [this]
  by_cases h : n ≤ xs.length
  · rw [Nat.min_eq_left h]
    exact List.take_of_length_le (by rw [List.length_drop]; omega)
  · rw [Nat.min_eq_right (by omega), Nat.sub_self, List.take_zero, List.drop_of_length_le (by omega)]
theorem all_flat (bs : List Bool) : (bs.map V.bl).all flatV = true := by
  rw [List.all_map, List.all_eq_true]
  exact fun _ _ => rfl
end Rg

/-! an error that is kept beyond its suite: what follows is read with the error's object pinned -/
namespace Rg
open PySem PySem.Spec L2
/-- the context with one more object pinned -/
abbrev pinX (X : Cx) (pn : List (Addr × Obj)) : Cx := { X with pn := pn }
def wKp (K : PySem.W.Frag) (c : Value) (i : Nat) (t₀ : TS) (ts : Addr → Value → Option Addr → TS) (D : Ends) : WX := fun cls d σ H =>
  PySem.W.exmOne K cls c = some true ∧ ∀ a, H a = none → t₀ { nx := fun σ' H' => ts a cls d D (σ'.set i none) H', rt := fun _ _ => False, bk := fun _ _ => False, ct := fun _ _ => False } (σ.set i (some (.ref a))) H
section
variable {X : Cx} {pins : List (Addr × Obj)} {σ : L2.St} {H : Hp} {s : Shared}
theorem inv_pin {a : Addr} {q : Addr × Obj} {pn' : List (Addr × Obj)} (J : L2.Inv (X.suite a (q :: (X.pn ++ pins))) pn' σ H s) (ok : X.Ok) : L2.Inv (pinX X (q :: (X.pn ++ pins))) [] σ H s where
  ok := ok.toTry (q :: (X.pn ++ pins)) X.xe
  os := J.os
  bare := J.bare
  base := J.base
  loc := J.loc
  cell := J.cell
  free := J.free
  freeC := J.freeC
  pin := fun p hp => J.pin p (List.mem_append_left pn' (by rw [List.append_nil] at hp; exact hp))
  hok := J.hok
  len := J.len
theorem pin_inv {q : Addr × Obj} (J : L2.Inv (pinX X (q :: (X.pn ++ pins))) [] σ H s) (ok : X.Ok) : L2.Inv X pins σ H s where
  ok := ok
  os := J.os
  bare := J.bare
  base := J.base
  loc := J.loc
  cell := J.cell
  free := J.free
  freeC := J.freeC
  pin := fun p hp => J.pin p (by rw [List.append_nil]; exact List.mem_cons_of_mem _ hp)
  hok := J.hok
  len := J.len
theorem sp_pin {q : Addr × Obj} {D : Ends} {f : Flow} (ok : X.Ok) (h : SP (pinX X (q :: (X.pn ++ pins))) [] D f s) : SP X pins D f s := by
  cases f with
  | next => exact let ⟨σ', H', J, r⟩ := h; ⟨σ', H', pin_inv J ok, r⟩
  | brk => exact let ⟨σ', H', J, r⟩ := h; ⟨σ', H', pin_inv J ok, r⟩
  | cont => exact let ⟨σ', H', J, r⟩ := h; ⟨σ', H', pin_inv J ok, r⟩
  | ret u => exact let ⟨v, σ', H', J, r1, r⟩ := h; ⟨v, σ', H', pin_inv J ok, r1, r⟩
end
section
variable {X : Cx} {x n : Str} {c : Value} {i : Nat} {body rest : List Stmt} {b₀ : Stmt} {np pos pos' : Pos} {tb : WX → TS} {tr t₀ : TS} {ts : Addr → Value → Option Addr → TS}
theorem pss_try_keep (hs : X.stack = X.env :: X.outer) (hf : X.env.frame = some X.env.locals) (hN : X.N.Nodup) (hi : X.N[i]? = some n) (hln : X.env.kindOf n = some .local) (hc : Names X x c)
    (hb : ∀ (W : WX) (pn : List (Addr × Obj)) (xe : Value → Shared → Prop), Takes (X.tr pn xe) W → PassesOwn (model X.prog X.w) X.A X.env xe → PSs (X.tr pn xe) body (tb W))
    (h0 : PSs X rest tr) (h1 : ∀ (a : Addr) (pn : List (Addr × Obj)), PSs (X.suite a pn) [b₀] t₀)
    (h2 : ∀ (a : Addr) (oe : Obj) (cls : Value) (d : Option Addr) (pn : List (Addr × Obj)), Zc cls d oe → (∃ fv, oe.data = .fields fv) → PSs (pinX X ((a, oe) :: pn)) rest (ts a cls d)) :
    PSs X (.Try body [.ExceptHandler (some (.Name x np)) (some n) [b₀] pos'] [] [] pos :: rest) (fun D σ H => tb (wKp X.K c i t₀ ts D) { D with nx := tr D } σ H) := by
  refine ⟨fun pins s σ H D I h => wpAny_execs_cons (wpAny_Try_except ?_)⟩
  have ok := I.ok
  have frm : X.A.frames = some (X.env :: X.outer) := hs ▸ ok.frames
  refine wpAny_mono ((hb (wKp X.K c i t₀ ts D) (X.pn ++ pins) _ (fun u z ev => ?_) PassesOwn.looking).run [] s σ H { D with nx := tr D } (I.toTry _) h) (fun fl z hz => ?_) (fun _ _ he => he)
  case refine_2 =>
    cases fl with
    | next =>
      obtain ⟨σ1, H1, J, r⟩ := hz
      exact wpAny_execs_nil (h0.run pins z σ1 H1 D (J.ofTry ok) r)
    | brk => exact let ⟨σ1, H1, J, r⟩ := hz; ⟨σ1, H1, J.ofTry ok, r⟩
    | cont => exact let ⟨σ1, H1, J, r⟩ := hz; ⟨σ1, H1, J.ofTry ok, r⟩
    | ret u => exact let ⟨v, σ1, H1, J, r1, r⟩ := hz; ⟨v, σ1, H1, J.ofTry ok, r1, r⟩
  obtain ⟨a, B, sB, _, σ1, H1, cls, d, rfl, J0, q1, q2, q3, na, q5, q6, exm, go⟩ := ev
  have J : L2.Inv X pins σ1 H1 sB := J0.ofTry ok
  show wpAny (model X.prog X.w) X.A (noteFrame (.ref a) X.env) _ _ _
  refine Sky.land Zc.steady frm hf (hs ▸ q3) fun hA fA uA => ?_
  have JA : L2.Inv X pins σ1 H1 { z with heap := hA } := J.landed q1 fA.1 (q2.trans uA) q5 q6
  obtain ⟨oA, vA, gA, zA, dA⟩ := fA.there
  have nofr : a ∉ frs (X.env :: X.outer) := fun hm => by
    obtain ⟨_, o', e', nf⟩ := fA.2.2.1.mem hm
    cases gA.symm.trans e'
    exact nf vA dA
  have nL : a ≠ X.env.locals := fun e => nofr (List.mem_filterMap.mpr ⟨X.env, List.mem_cons_self, e ▸ hf⟩)
  have nF : a ∉ X.fs := fun hm => let ⟨e, he, q⟩ := List.mem_filterMap.mp hm; nofr (List.mem_filterMap.mpr ⟨e, List.mem_cons_of_mem _ he, q⟩)
  have SA := JA.suite gA dA na nL nF
  refine wpAny_handleBy_cons (codeAny_handlers_test ?_) (fun q => nomatch q)
  have lk : PySem.W.Looks (model X.prog X.w) hA (typeOf (.ref a)) cls := fun A0 Q0 E0' s0 k0 q0 => wpAny_typeOf_ref (k0 a oA gA) (zA.1 ▸ q0)
  have lm := PySem.W.exm_one (M := model X.prog X.w) JA.kIn lk exm
  have named : ∀ {Q0 E0' : Value → Shared → Prop}, Q0 c { z with heap := hA } → wpAny (model X.prog X.w) (X.A.mark (some (.ref a))) (eval (.Name x np) X.env) Q0 E0' { z with heap := hA } := fun {Q0 E0'} q0 => by
    obtain ⟨g1, g2, g3 | ⟨g3, g4, g5⟩⟩ := hc
    · exact ld_glob (X := X.suite a ((a, oA) :: (X.pn ++ pins))) SA g1 g3 q0 g2
    · exact ld_blt (X := X.suite a ((a, oA) :: (X.pn ++ pins))) SA g1 g3 g4 q0 g5 g2
  refine named (lm.here (codeAny_handlers_suite_as (HandSPX.lands_againZ fA fun hC fC uC => ?_)))
  have JC : L2.Inv X pins σ1 H1 { z with heap := hC } := J.landed q1 fC.1 ((q2.trans uA).trans uC) q5 q6
  obtain ⟨oC, vC, gC, zC, dC⟩ := fC.there
  refine store_ok (X := X.suite a ((a, oC) :: (X.pn ++ pins))) (v := .ref a) (JC.suite gC dC na nL nF) hN hi (.inl hln) rfl (fun sD SD => ?_) (.inr hln)
  refine wpAny_mono ((h1 a ((a, oC) :: (X.pn ++ pins))).run [] sD _ H1 _ SD (go a na)) (fun fl sE he => ?_) (fun _ _ q => False.elim q)
  cases fl with
  | next =>
    obtain ⟨σ2, H2, S2, r2⟩ := he
    have P2 := inv_pin S2 ok
    exact gone_ok (X := pinX X ((a, oC) :: (X.pn ++ pins))) P2 hN hi hln fun sF PF => thn ((h2 a oC cls d (X.pn ++ pins) zC ⟨vC, dC⟩).run [] sF _ H2 D PF r2) fun fl' sG q => sp_pin ok q
  | brk => exact let ⟨_, _, _, q⟩ := he; False.elim q
  | cont => exact let ⟨_, _, _, q⟩ := he; False.elim q
  | ret u => exact let ⟨_, _, _, _, _, q⟩ := he; False.elim q
end
section
variable {X : Cx} {a : Addr} {oe : Obj} {cls : Value} {d : Option Addr} {pn : List (Addr × Obj)} {K : PySem.W.Frag}
theorem inst_pin {pins : List (Addr × Obj)} {σ : L2.St} {H : Hp} {s : Shared} {D dd : Addr} {fs : List (Str × V)} (hz : Zc (.ref D) (some dd) oe) (hf : ∃ fv, oe.data = .fields fv) (I : L2.Inv (pinX X ((a, oe) :: pn)) pins σ H s) (hx : H dd = some (.xd fs)) : ∃ od, PySem.W.InstAt s.heap a oe D (some od) := by
  obtain ⟨fv, hv⟩ := hf
  have g := (I.pin (a, oe) (List.mem_append.mpr (.inl List.mem_cons_self))).1
  obtain ⟨mA, ⟨o, _, _, e, _⟩, _⟩ := (show ObjOk X.prog X.w H s.heap dd (.xd fs) from I.hok dd _ hx)
  obtain ⟨oc, od, oda, osl⟩ := oe
  obtain ⟨h1, h2⟩ := hz
  dsimp only at h1 h2 hv
  subst h1 h2 hv
  exact ⟨o, g, rfl, rfl, e⟩
/-- isinstance(caught, C) -/
theorem crp_isX (hz : Zc cls d oe) (hf : ∃ fv, oe.data = .fields fv) (hK : X.K = K := by rfl) : CallR (pinX X ((a, oe) :: pn)) (.builtin "isinstance") (rIsX K a cls d) := by
  subst hK
  intro pins s σ H xs us Q I r h
  obtain ⟨c, D, dd, fs, cv, b, rfl, rfl, rfl, hx, E, k, e, q⟩ := h
  obtain ⟨u1, u2, rfl, r1, r2⟩ := vals2 r
  cases r1
  cases k.eq r2
  obtain ⟨od, J⟩ := inst_pin hz hf I hx
  exact PySem.W.kia_one (PySem.W.kitx_exc E.cl E.xf.ga E.xf.gg E.xf.exC E.ha E.hn E.ht E.hm) I.kIn J e (fun z => nomatch z) fun tk => ⟨.bl b, H, I.tok tk, rfl, q⟩
theorem crp_isXT (hz : Zc cls d oe) (hf : ∃ fv, oe.data = .fields fv) (hK : X.K = K := by rfl) : CallR (pinX X ((a, oe) :: pn)) (.builtin "isinstance") (rIsXT K a cls d) := by
  subst hK
  intro pins s σ H xs us Q I r h
  obtain ⟨tp, D, dd, cs, ws, fs, b, rfl, rfl, rfl, hx, E, hT, k, e, q⟩ := h
  obtain ⟨u1, u2, rfl, r1, r2⟩ := vals2 r
  cases r1
  cases (show u2 = Value.ref tp from r2)
  obtain ⟨od, J⟩ := inst_pin hz hf I hx
  obtain ⟨_, its, rv, o, h1, h2, n, h3⟩ := (show ObjOk X.prog X.w H s.heap tp (.tup cs) from I.hok tp _ hT)
  have e3 := ClsV.all k rv
  subst e3
  obtain ⟨oc, od', dt, sl⟩ := o
  simp only at h2 h3
  subst h2 h3
  exact PySem.W.kia_tup (PySem.W.kitx_exc E.cl E.xf.ga E.xf.gg E.xf.exC E.ha E.hn E.ht E.hm) I.kIn J h1 e (fun z => nomatch z) fun tk => ⟨.bl b, H, I.tok tk, rfl, q⟩
/-- caught.f -/
theorem pep_xf {C : Addr} {e : Expr} {te : TE} {pos : Pos} {n : Str} (T : XfC X.K C) (hno : PySem.W.findIn X.K (.ref C) n = some none) (hz : Zc cls d oe) (hf : ∃ fv, oe.data = .fields fv) (he : PE (pinX X ((a, oe) :: pn)) e te) (hb : attributeBase e n X.env (eval e X.env) = eval e X.env := by rfl) :
    PE (pinX X ((a, oe) :: pn)) (.Attribute e n pos) (tXf a cls d C n te) := by
  refine ⟨fun pins s σ H Q I h => attr_of hb (thn (he.run pins s σ H _ I h) fun u z hh => ?_)⟩
  obtain ⟨y, H1, I1, ry, ey, ec, dd, fs, v, ed, ea, lv, q⟩ := hh
  subst ey ec ed
  obtain rfl : u = Value.ref a := ry
  have g := (I1.pin (a, oe) (List.mem_append_left _ List.mem_cons_self)).1
  obtain ⟨fv, dv⟩ := hf
  obtain ⟨mA, ns, rl⟩ := (show ObjOk X.prog X.w H1 z.heap dd (.xd fs) from I1.hok dd _ ea)
  obtain ⟨od, ho, look⟩ := lookIn_ns ns
  obtain ⟨w, hw, rw'⟩ := RelO.some_of (v := v) (o := mA n) (lv ▸ rl n)
  have J : PySem.W.InstAt z.heap a oe C (some od) := ⟨g, hz.1, by unfold PySem.W.notCls; rw [dv] <;> rfl, hz.2 ▸ ho⟩
  exact HandSPX.exc_get I1.kIn J T.ga T.gg T.exC (PySem.W.findObj_own T.hdC hno rfl (by rw [look, hw])) (handed_of rw') ⟨v, H1, I1.tok _, rw', q⟩
end
end Rg

/-! decks -/
namespace Rg
open PySem PySem.Spec L2
/-- a deck of draws: two lists -/
structure Deck (H : Hp) (t g : Addr) (n : Nat) : Prop where
  ne : t ≠ g
  ex : ∃ (gs : List Int) (f c : Int), H t = some (.lst [.ref g, .int f, .int c]) ∧ H g = some (.lst (gs.map V.int)) ∧ (∀ z ∈ gs, 0 ≤ z) ∧ 0 ≤ f ∧ f < 2305843009213693952 ∧ 0 ≤ c ∧ c ≤ (n : Int)
theorem Deck.mono {H : Hp} {t g : Addr} {n m : Nat} (T : Deck H t g n) (h : n ≤ m) : Deck H t g m := by
  obtain ⟨ne, gs, f, c, h1, h2, h3, h4, h5, h6, h7⟩ := T
  exact ⟨ne, gs, f, c, h1, h2, h3, h4, h5, h6, by omega⟩
theorem Deck.same {H H' : Hp} {t g : Addr} {n : Nat} (T : Deck H t g n) (s : Same H H') : Deck H' t g n := by
  obtain ⟨ne, gs, f, c, h1, h2, h3⟩ := T
  exact ⟨ne, gs, f, c, s _ _ h1, s _ _ h2, h3⟩
theorem Deck.new {H : Hp} {t g p : Addr} {n : Nat} {o : HO} (T : Deck H t g n) (h : H p = none) : Deck (upd H p o) t g n := T.same (same_upd h)
theorem Deck.put {H : Hp} {t g p : Addr} {n : Nat} {o : HO} (T : Deck H t g n) (h1 : p ≠ t) (h2 : p ≠ g) : Deck (upd H p o) t g n := by
  obtain ⟨ne, gs, f, c, e1, e2, h3⟩ := T
  exact ⟨ne, gs, f, c, by rw [upd_ne (Ne.symm h1)]; exact e1, by rw [upd_ne (Ne.symm h2)]; exact e2, h3⟩
theorem Deck.ht {H : Hp} {t g : Addr} {n : Nat} (T : Deck H t g n) : ∃ xs, H t = some (.lst xs) := by
  obtain ⟨_, _, _, _, e, _⟩ := T
  exact ⟨_, e⟩
theorem Deck.hg {H : Hp} {t g : Addr} {n : Nat} (T : Deck H t g n) : ∃ xs, H g = some (.lst xs) := by
  obtain ⟨_, _, _, _, _, e, _⟩ := T
  exact ⟨_, e⟩
/-- a place that was free is none of the tray's -/
theorem Deck.net {H : Hp} {t g p : Addr} {n : Nat} (T : Deck H t g n) (h : H p = none) : p ≠ t := by
  obtain ⟨_, e⟩ := T.ht
  exact Ne.symm (ne_of_none e h)
theorem Deck.neg {H : Hp} {t g p : Addr} {n : Nat} (T : Deck H t g n) (h : H p = none) : p ≠ g := by
  obtain ⟨_, e⟩ := T.hg
  exact Ne.symm (ne_of_none e h)
theorem Deck.netT {H : Hp} {t g p : Addr} {n : Nat} {xs : List V} (T : Deck H t g n) (h : H p = some (.tup xs)) : p ≠ t := by
  obtain ⟨_, e⟩ := T.ht
  exact ne_of h e (fun z => nomatch z)
theorem Deck.negT {H : Hp} {t g p : Addr} {n : Nat} {xs : List V} (T : Deck H t g n) (h : H p = some (.tup xs)) : p ≠ g := by
  obtain ⟨_, e⟩ := T.hg
  exact ne_of h e (fun z => nomatch z)
theorem Kp.dk {t g : Addr} {H H' : Hp} {n : Nat} (k : Kp t g H H') (T : Deck H t g n) : Tk H H' := fun b xs e => k b _ e (T.netT e) (T.negT e)

/-! ### a comprehension of drawn things -/
def DeckL (t g D : Addr) (H1 : Hp) (n0 c : Nat) (Pd : PyData → Prop) (i : Nat) (H' : Hp) : Prop :=
  ∃ (vs : List V) (ds : List PyData), H' D = some (.lst vs) ∧ RpAll H' vs ds ∧ ds.length = i ∧ (∀ d ∈ ds, Pd d) ∧ Deck H' t g (n0 + c * i) ∧ Kp t g H1 H'
theorem DeckL.start {t g D : Addr} {H1 : Hp} {n0 c : Nat} {Pd : PyData → Prop} (T : Deck H1 t g n0) (hD : H1 D = none) : DeckL t g D H1 n0 c Pd 0 (upd H1 D (.lst [])) :=
  ⟨[], [], upd_same, .nil, rfl, fun _ h => (nomatch h), (T.new hD).mono (by omega), Kp.new hD⟩
theorem DeckL.deck {t g D : Addr} {H1 H2 : Hp} {n0 c i : Nat} {Pd : PyData → Prop} (h : DeckL t g D H1 n0 c Pd i H2) : Deck H2 t g (n0 + c * i) := by
  obtain ⟨_, _, _, _, _, _, T, _⟩ := h
  exact T
theorem DeckL.step {t g D : Addr} {H1 H2 H4 : Hp} {n0 c i n : Nat} {Pd : PyData → Prop} {y : V} {d : PyData} (h : DeckL t g D H1 n0 c Pd i H2) (T1 : Deck H1 t g n0) (hD : H1 D = none) (hi : i ≤ 1000) (T : Deck H4 t g n) (hn : n ≤ n0 + c * i + c) (k : Kp t g H2 H4) (r : Rp H4 y d) (p : Pd d) :
    ∃ acc, H4 D = some (.lst acc) ∧ acc.length < sizeLine ∧ DeckL t g D H1 n0 c Pd (i + 1) (upd H4 D (.lst (acc ++ [y]))) := by
  obtain ⟨vs, ds, e, ra, hl, hp, T2, k2⟩ := h
  have e4 : H4 D = some (.lst vs) := k D _ e (T1.net hD) (T1.neg hD)
  have tk : Tk H2 (upd H4 D (.lst (vs ++ [y]))) := (k.dk T2).trans (Tk.lst e4)
  refine ⟨vs, e4, by rw [ra.length, hl]; exact small1000 hi, vs ++ [y], ds ++ [d], upd_same, (ra.keep tk).append (.cons (r.keep (Tk.lst e4)) .nil), by simp [hl], fun z hz => ?_, (T.put (T1.net hD) (T1.neg hD)).mono (by rw [Nat.mul_succ]; omega), (k2.trans k).put hD⟩
  rcases List.mem_append.mp hz with q | q
  · exact hp z q
  · rw [List.mem_singleton.mp q]
    exact p
theorem Deck.kfree {t g D : Addr} {H H' : Hp} {n : Nat} (T : Deck H' t g n) (k : Kp t g H H') (hD : H' D = none) : H D = none := by
  cases e : H D with
  | none => rfl
  | some o =>
    have := k _ _ e (T.net hD) (T.neg hD)
    rw [hD] at this
    cases this
/-- the last item of a list -/
theorem at_last {xs : List V} {x : V} : atI (xs ++ [x]) (-1) = some x := by
  unfold atI
  have h : ixN (xs ++ [x]).length (-1) = some xs.length := by
    unfold ixN
    simp
    omega
  first
    | rw [h]; simp
    | simp
theorem ix_last {n : Nat} : ixN (n + 1) (-1) = some n := by
  unfold ixN
  simp
  omega
end Rg

/-! stands -/
namespace Rg
open PySem PySem.Spec L2
/-- a pointer, or None -/
abbrev Pt := Option (Int × Int × Int)
def ptD : Pt → PyData
  | none => .none
  | some (r, s, p) => .tuple [.int r, .int s, .int p]
def memD (m : List (List Wd)) : PyData := .tuple (m.map fun ws => .tuple (ws.map Wd.d))
structure Sd where
  ring : Int
  a : Int
  pt : List Pt
  me : List (List Wd)
def Sd.d (s : Sd) : PyData := .tuple [.int s.ring, .int s.a, .tuple (s.pt.map ptD), memD s.me]
def firstS (xs : List Sg) (r : Int) : Sd := ⟨r, 0, [none, none, none, none], xs.map Sg.ws⟩
theorem okN_mono : ∀ {j k : Nat} {d : PyData}, j ≤ k → okN j d → okN k d
  | 0, _, _, _, h => h.elim
  | j + 1, k + 1, .none, _, _ => trivial
  | j + 1, k + 1, .bool _, _, _ => trivial
  | j + 1, k + 1, .int _, _, _ => trivial
  | j + 1, k + 1, .str _, _, _ => trivial
  | j + 1, k + 1, .dict _, _, h => h.elim
  | j + 1, k + 1, .list ds, hk, h => ⟨h.1, fun e he => okN_mono (Nat.le_of_succ_le_succ hk) (h.2 e he)⟩
  | j + 1, k + 1, .tuple ds, hk, h => ⟨h.1, fun e he => okN_mono (Nat.le_of_succ_le_succ hk) (h.2 e he)⟩
theorem okN_map {α : Type} {f : α → PyData} {j : Nat} {xs : List α} (hl : xs.length ≤ 1000) (h : ∀ x ∈ xs, okN j (f x)) : okN (j + 1) (.tuple (xs.map f)) := by
  refine ⟨by rw [List.length_map]; omega, fun e he => ?_⟩
  obtain ⟨x, hx, rfl⟩ := List.mem_map.mp he
  exact h x hx
theorem okN_mapL {α : Type} {f : α → PyData} {j : Nat} {xs : List α} (hl : xs.length ≤ 1000) (h : ∀ x ∈ xs, okN j (f x)) : okN (j + 1) (.list (xs.map f)) := by
  refine ⟨by rw [List.length_map]; omega, fun e he => ?_⟩
  obtain ⟨x, hx, rfl⟩ := List.mem_map.mp he
  exact h x hx
theorem pt_ok (p : Pt) : okN 2 (ptD p) := by
  match p with
  | none => trivial
  | some (r, s, p) => exact ⟨by show 3 ≤ 1000000; decide, ok_ints [r, s, p] 0⟩
theorem mem_ok {m : List (List Wd)} (h1 : m.length ≤ 1000) (h2 : ∀ ws ∈ m, ws.length ≤ 1000) : okN 4 (memD m) := okN_map h1 fun ws hw => okN_map (h2 ws hw) fun x _ => x.ok
theorem Sd.ok {s : Sd} (h1 : s.pt.length ≤ 1000) (h2 : s.me.length ≤ 1000) (h3 : ∀ ws ∈ s.me, ws.length ≤ 1000) : okN 5 s.d := by
  refine ⟨by show 4 ≤ 1000000; decide, fun e he => ?_⟩
  rcases List.mem_cons.mp he with rfl | he
  · trivial
  rcases List.mem_cons.mp he with rfl | he
  · trivial
  rcases List.mem_cons.mp he with rfl | he
  · exact okN_mono (j := 3) (by decide) (okN_map h1 fun p _ => pt_ok p)
  rcases List.mem_cons.mp he with rfl | he
  · exact mem_ok h2 h3
  cases he
/-- what first tells -/
def spFirst (C NR : Addr) : Sp := fun vs H Q E => ∃ (x : Addr) (us : List V) (xs : List Sg) (b r : Int), vs = [.ref x, .int r] ∧ MAt C H x us b ∧ RpAll H us (xs.map Sg.d) ∧ xs.length ≤ 900 ∧ r.natAbs.log2 < 1920 ∧
  (below r 8 = true → ∀ (v : V) (H' : Hp), Same H H' → Rp H' v (firstS xs r).d → Q v H') ∧
  (below r 8 = false → ∀ (d : Addr) (H' : Hp), H d = none → H' d = some (.xd [("what", .int r)]) → Same H H' → E (.ref NR) (some d) H')
theorem use_first {C NR x : Addr} {us : List V} {xs : List Sg} {b r : Int} {H : Hp} {Q : VK} {E : XK} (hM : MAt C H x us b) (ra : RpAll H us (xs.map Sg.d)) (hl : xs.length ≤ 900) (h0 : 0 ≤ r) (h8 : r < 8) (k : ∀ (v : V) (H' : Hp), Same H H' → Rp H' v (firstS xs r).d → Q v H') : spFirst C NR [.ref x, .int r] H Q E :=
  ⟨x, us, xs, b, r, rfl, hM, ra, hl, by
    have : r.natAbs < 2 ^ 10 := by omega
    exact Nat.lt_of_lt_of_le (PySem.Flt.log2_lt_of (by decide) this) (by decide), fun _ => k, fun hb => by rw [below_of h0 h8] at hb; cases hb⟩
end Rg

/-! for i, a in enumerate(tuple): the pairs are new tuples -/
namespace Rg
open PySem PySem.Spec PyProof.Rows L2
theorem meets_en1 {v : Value} {oi : Obj} {Hb : Heap → Prop} (Bg : Begins v oi Hb) :
    Meets (Builtin.«enumerate.__new__» ⟨[.type "enumerate", v], []⟩) (fun _ R z => Hb z.heap ∧ R (.ok (.ret (.ref (z.heap.push oi).objs.size))) { z with heap := (z.heap.push oi).push { cls := .type "enumerate", data := .fields #[.none, .bool false, .ref z.heap.objs.size, rawInt 0, .none, .none] } }) :=
  .of_wp fun prog w A R z hz => by
    obtain ⟨hp, gn, dn, tn, on⟩ := z
    obtain ⟨hb, hz⟩ := hz
    have hsub := sub_enumerate
    have go : ∀ {A' : Around} {E : Value → Shared → Prop} {Q : Value → Shared → Prop}, Q (.ref hp.objs.size) ⟨hp.push oi, gn, dn, tn, on⟩ → wpAny (model prog w) A' (pyIter v) Q E ⟨hp, gn, dn, tn, on⟩ := fun q => Bg.iter prog w _ _ _ _ hb q
    wp_walk using go
    refine wpAny_stack_any fun st => wpAny_pure ?_
    split
    · rename_i c _ _ _ _ _
      cases (c == Value.type "enumerate") <;> (wp_walk using go; exact ⟨_, rfl, hz⟩)
    · wp_walk using go; exact ⟨_, rfl, hz⟩
theorem enum_begin1 {prog : Program} {w : World} {A : Around} {E : Value → Shared → Prop} {z : Shared} {v : Value} {oi : Obj} {Hb : Heap → Prop} {Q : Value → Shared → Prop} (Bg : Begins v oi Hb) (hb : Hb z.heap)
    (k : ∀ h', IsEnum h' (z.heap.objs.size + 1) z.heap.objs.size 0 .none → h'.get? z.heap.objs.size = some oi → (∀ b o, z.heap.get? b = some o → h'.get? b = some o) → Q (.ref (z.heap.objs.size + 1)) { z with heap := h' }) :
    wpAny (model prog w) A (call (.type "enumerate") [v]) Q E z := by
  have sz : (z.heap.push oi).objs.size = z.heap.objs.size + 1 := Heap.size_push ..
  refine callType_new F.called_enumerate (by decide) (F.typeCall_enumerate_1 v) (F.newCall_enumerate_1 v) (fun obj => F.args_object_init_2 obj v) F.entry_enumerate_new (meets_en1 Bg) ⟨hb, ?_⟩
  show _ ∧ _
  rw [sz]
  have en := Heap.get?_push_size (z.heap.push oi) (o := { cls := .type "enumerate", data := .fields #[.none, .bool false, .ref z.heap.objs.size, rawInt 0, .none, .none] }) rfl
  rw [sz] at en
  exact ⟨⟨_, en, rfl⟩, k _ en (Heap.get?_push_of_some _ (Heap.get?_push_size _ Bg.free)) fun b o x => Heap.get?_push_of_some _ (Heap.get?_push_of_some _ x)⟩
/-- the items of a tuple with their places -/
def ItEt (K : PySem.W.Frag) (b : Addr) : It :=
  ⟨fun i H => ∃ (ys : List V) (y : V), SqT K H b ys ∧ ys[i]? = some y,
    fun i H v H' => ∃ T y, v = .ref T ∧ H T = none ∧ H' = upd H T (.tup [.int (i : Nat), y]) ∧ ∀ ys, SqT K H b ys → ys[i]? = some y,
    fun i H => ∃ ys : List V, SqT K H b ys ∧ i = ys.length⟩
theorem turn_enT {P : Program} {w : World} {K : PySem.W.Frag} {elts : List Expr} {kk : Nat} {tpos : Pos} {b e it : Addr} (h1 : e ≠ it) (h2 : b ≠ it) (h3 : b ≠ e) :
    Turn P w K (.Tuple elts kk tpos) (ItEt K b) [e, it] e (fun i h => (∃ old, IsEnum h e it ((0 : Int) + ((i : Nat) : Int)) old) ∧ h.IsTupleIter it b i) where
  mem := by simp
  obj := fun i h st c hc => by
    obtain ⟨⟨old, he⟩, ⟨o2, g2, _, d2⟩⟩ := st
    have cc : c = e ∨ c = it := by simpa using hc
    rcases cc with q | q
    · rw [q]; exact ⟨_, he, fun v q => nomatch q⟩
    · rw [q]; exact ⟨o2, g2, fun v q => by rw [d2] at q; cases q⟩
  keep := fun i h h' st k => let ⟨⟨old, he⟩, hi⟩ := st; ⟨⟨old, k e (by simp) _ he⟩, hi.at fun o q => k it (by simp) o q⟩
  item := by
    intro X hP hw hK hc i pins s σ H E I hf st hg
    subst hP hw hK
    obtain ⟨he, hi⟩ := st
    obtain ⟨ys, y, hqy, hy⟩ := hg
    obtain ⟨its, rv, pt, _⟩ := I.tuple hqy
    have hh : X.A.in1.handled = none := I.ok.hd hc
    have W := GoesN.enumFrom (elts := elts) (x1 := kk) (pos := tpos) 0 (Draws.tuple hh it b h2 its.toArray) e h1 (by simp [h1, Ne.symm h3]) (by simp) (prog := X.prog) (w := X.w) (A := X.A)
    have hlen : i < its.toArray.size := by
      have a2 : i < ys.length := (List.getElem?_eq_some_iff.mp hy).1
      have a3 := rv.length
      rw [List.size_toArray]
      omega
    refine W.goes i s _ _ hlen ⟨he, hi, pt⟩ fun v h' tk hY st' hk htk => ?_
    obtain ⟨T, t, u2, rfl, hT, hu2, hTup⟩ := hY
    obtain ⟨he', hi', _⟩ := st'
    obtain ⟨v2, hv2, rv2⟩ := rv.get hy
    have e2 : u2 = v2 := by
      rw [List.getElem?_toArray] at hu2
      exact Option.some.inj (hu2.symm.trans hv2)
    subst e2
    have ei : (0 : Int) + (i : Int) = (i : Int) := Int.zero_add _
    rw [ei] at hTup
    have new : ObjOk X.prog X.w (upd H T (.tup [.int (i : Nat), y])) h' T (.tup [.int (i : Nat), y]) := ⟨by show 2 ≤ sizeLine; decide, [.int i t, u2], .cons ⟨_, rfl⟩ (.cons rv2 .nil), hTup⟩
    have I1 := I.turnedNew (t' := tk) (ch := [e, it]) hk hf hT new
    refine ⟨.ref T, _, I1, rfl, ⟨T, y, rfl, I.hok.fresh hT, rfl, fun l hl => by rw [I.tuple_inj hl hqy]; exact hy⟩, ⟨he', hi'⟩, fun c hc' => ?_⟩
    have lt : c < s.heap.objs.size := by
      obtain ⟨old, g1⟩ := he
      obtain ⟨_, g2, _⟩ := hi
      have cc : c = e ∨ c = it := by simpa using hc'
      rcases cc with q | q
      · rw [q]; exact Heap.lt_size g1
      · rw [q]; exact Heap.lt_size g2
    rw [upd_ne (Nat.ne_of_lt (Nat.lt_of_lt_of_le lt hT))]
    exact (hf c hc').1
  done := by
    intro X hP hw hK hc i pins s σ H E I hf st hg
    subst hP hw hK
    obtain ⟨he, hi⟩ := st
    obtain ⟨ys, hqy, hl⟩ := hg
    obtain ⟨its, rv, pt, _⟩ := I.tuple hqy
    have hh : X.A.in1.handled = none := I.ok.hd hc
    have W := GoesN.enumFrom (elts := elts) (x1 := kk) (pos := tpos) 0 (Draws.tuple hh it b h2 its.toArray) e h1 (by simp [h1, Ne.symm h3]) (by simp) (prog := X.prog) (w := X.w) (A := X.A)
    have ee : i = its.toArray.size := by rw [List.size_toArray, ← rv.length]; exact hl
    subst ee
    exact W.stops s _ _ ⟨he, hi, pt⟩ fun h' tk hk htk => I.turnedL (t' := tk) (ch := [e, it]) hk hf
  self := fun A i s Q E st h => let ⟨⟨_, he⟩, _⟩ := st; wpAny_pyIter_enum he h
def iEnT (K : PySem.W.Frag) (ta : TA) : TI := fun σ H R => ta σ H fun vs H1 => ∃ (b : Addr) (ys : List V), vs = [.ref b] ∧ SqT K H1 b ys ∧ R (ItEt K b) H1
theorem pi_enT {X : Cx} {K : PySem.W.Frag} {e : Expr} {ta : TA} {p pos tpos : Pos} {elts : List Expr} {kk : Nat} (hg : Gl X "enumerate") (hm : X.mg "enumerate" = none) (ha : PA X [e] ta) (hK : X.K = K := by rfl) (hs : starEach [e] X.env = [(false, eval e X.env)] := by rfl) :
    PI X (.Tuple elts kk tpos) (.Call (.Name "enumerate" p) [e] [] pos) (iEnT K ta) := by
  subst hK
  refine ⟨fun pins s σ H R I h => Call_ (ld_blt I hg hm boot_enumerate (PyProof.Rows.callWith_type1 (thn (ha.run pos pins s σ H _ I h) fun us z ⟨vs, H1, I1, r1, q1⟩ => ?_) hs rfl))⟩
  obtain ⟨b, ys, ex, hqy, q⟩ := q1
  subst ex
  cases r1 with
  | cons r rr =>
    cases rr
    cases r
    obtain ⟨its, rv, pt, _⟩ := I1.tuple hqy
    obtain ⟨o2, ho2, _⟩ := id pt
    have hb : b < z.heap.objs.size := Heap.lt_size ho2
    refine enum_begin1 (begins_tuple b its.toArray) pt fun h' he hi hk => wpAny_pyIter_enum he ?_
    have I2 : L2.Inv X pins σ H1 { z with heap := h' } := I1.kept (t' := z.toks) hk
    refine ⟨z.heap.objs.size + 1, [z.heap.objs.size + 1, z.heap.objs.size], _, _, H1, rfl, I2, turn_enT (b := b) (e := z.heap.objs.size + 1) (it := z.heap.objs.size) (Nat.succ_ne_self _) (Nat.ne_of_lt hb) (Nat.ne_of_lt (Nat.lt_succ_of_lt hb)), ⟨⟨.none, he⟩, ⟨_, hi, rfl, rfl⟩⟩, fun c hc => ?_, q⟩
    have cc : c = z.heap.objs.size + 1 ∨ c = z.heap.objs.size := by simpa using hc
    have le : z.heap.objs.size ≤ c := by rcases cc with q | q <;> rw [q] <;> first | exact Nat.le_succ _ | exact Nat.le_refl _
    exact I1.fpOk le (I1.hok.fresh le)
theorem rd_ienT {K : PySem.W.Frag} {ta : TA} {σ : L2.St} {H : Hp} {R : It → Hp → Prop} (h : ta σ H fun vs H1 => ∃ (b : Addr) (ys : List V), vs = [.ref b] ∧ SqT K H1 b ys ∧ R (ItEt K b) H1) : iEnT K ta σ H R := h
theorem walk_enT {K : PySem.W.Frag} {b : Addr} {ys : List V} {n : Nat} (hn : n = ys.length) : Walk (ItEt K b) n (fun H => SqT K H b ys) (fun i H v H' => ∃ T y, v = .ref T ∧ H T = none ∧ H' = upd H T (.tup [.int (i : Nat), y]) ∧ ys[i]? = some y) := by
  subst hn
  refine ⟨fun i H hi q => ⟨ys, ys[i], q, List.getElem?_eq_getElem hi⟩, fun H q => ⟨ys, q, rfl⟩, fun i H v H' hi q y => ?_⟩
  obtain ⟨T, y, a1, a2, a3, a4⟩ := y
  exact ⟨T, y, a1, a2, a3, a4 ys q⟩
end Rg

/-! an own error over Exception, made by an own __init__ -/
namespace Rg
open PySem PySem.Spec PyProof.Rows L2
/-- what the written part says of such a class -/
structure OexE (K : PySem.W.Frag) (C : Addr) : Prop where
  cls : ∃ nm q N bs sn sub ab col dd k0 k1 k2 k3 k5, K.lookup C = some (excClassObj nm q C N bs PySem.ESX.exTail true sn sub ab col dd k0 k1 k2 k3 k5 "Exception.__new__")
  sa : PySem.W.findIn K (.ref C) "__setattr__" = some (some (.builtin "object.__setattr__"))
  exC : PySem.W.subIn K (.ref C) (.type "BaseException") = some true
  tyC : PySem.W.typeIn K (.ref C) = some (.type "type")
  kC : PySem.W.keepIn K (.ref C) = true
section
variable {X : Cx} {pins : List (Addr × Obj)} {σ : L2.St} {H : Hp} {s : Shared} {a C : Addr} {f : Str} {y : V} {u : Value}
/-- the error gets its dict: the heap that follows -/
theorem inv_dict {hp h' : Heap} {g : Array GenState} {dr : Drawn} {t tk : Nat} {os : OsState} {dx : Addr} (I : L2.Inv X pins σ H ⟨hp, g, dr, t, os⟩) (e : H a = some (exo a C none)) (ry : RelV y u) (k : ∀ b o, b ≠ a → hp.get? b = some o → h'.get? b = some o) (dn : hp.objs.size ≤ dx) (dne : dx ≠ a)
    (hx : h'.get? a = some { cls := .ref C, dict := some dx, data := .fields #[.ref tk, .none, .none, .none, .bool false, .none] }) (hn : h'.Ns1 dx (fun z => if z = f then some u else none)) (t' : Nat) :
    H dx = none ∧ L2.Inv X pins σ (upd (upd H dx (exd dx [(f, y)])) a (exo a C (some dx))) ⟨h', g, dr, t', os⟩ := by
  have nd : H dx = none := I.hok.fresh dn
  have old : ∀ {b : Addr} {o : Obj}, hp.get? b = some o → b ≠ dx := fun q => Nat.ne_of_lt (Nat.lt_of_lt_of_le (Heap.lt_size q) dn)
  have noa : ∀ {b : Addr}, H b = none → b ≠ a := fun n z => by rw [z, e] at n; cases n
  refine ⟨nd, I.un (t' := t') ?_ fun b o q => ?_⟩
  · exact
    { keep := fun b o q n _ _ => k b o (noa n) q
      slot := fun b o q n _ _ => ⟨o.slots, k b o (noa n) q⟩
      free := fun b o q n _ => (upd_ne (noa n)).trans ((upd_ne (old q)).trans n)
      there := fun b o q _ => if hb : b = a then ⟨_, hb ▸ hx⟩ else ⟨o, k b o hb q⟩
      tups := fun b xs q => (upd_ne (at_ne e q exo_tup)).trans ((upd_ne (ne_of_none q nd)).trans q)
      frzs := fun b o v q => (upd_ne (at_ne e q exo_frz)).trans ((upd_ne (ne_of_none q nd)).trans q)
      tbls := fun b ps q => ⟨#[], by rw [upd_ne (at_ne e q exo_tbl), upd_ne (ne_of_none q nd), q]; simp⟩ }
  · by_cases h1 : b = a
    · subst h1
      rw [upd_same] at q
      cases q
      exact exo_ok hx
    rw [upd_ne h1] at q
    by_cases h2 : b = dx
    · subst h2
      rw [upd_same] at q
      cases q
      exact exd_ok hn (relO_put (fs := []) ry fun _ => True.intro)
    rw [upd_ne h2] at q
    refine (I.hok b o q).stay (fun c v hc z => k c v ?_ z) (fun c hc => ?_) (fun c xs hc => ?_)
    · rcases hc with hc | hc
      · exact hc ▸ h1
      · exact at_ne e hc exo_own
    · exact (upd_ne (at_ne e hc exo_own)).trans ((upd_ne (ne_of_none hc nd)).trans hc)
    · exact (upd_ne (at_ne e hc exo_tup)).trans ((upd_ne (ne_of_none hc nd)).trans hc)
theorem est_new {A : Around} {Q : Unit → Shared → Prop} {E : Value → Shared → Prop} (T : OexE X.K C) (I : L2.Inv X pins σ H s) (e : H a = some (exo a C none)) (hno : PySem.W.findIn X.K (.ref C) f = some none) (ry : RelV y u)
    (h : ∀ dx s', H dx = none → dx ≠ a → L2.Inv X pins σ (upd (upd H dx (exd dx [(f, y)])) a (exo a C (some dx))) s' → Q () s') : wpAny (model X.prog X.w) A (setAttr (.ref a) f u) Q E s := by
  obtain ⟨nm, q, N, bs, sn, sub, ab, col, dd, k0, k1, k2, k3, k5, hC⟩ := T.cls
  have cd : PySem.W.clsIn X.K C = some { name := nm, bases := bs, mro := .ref C :: PySem.ESX.exTail, ns := N, qualname := q, hasDict := true, slotNames := sn, subclasses := sub, abstract := ab, collection := col, hasDel := false } := by unfold PySem.W.clsIn; rw [hC] <;> rfl
  obtain ⟨tk, ho⟩ := exo_at I.hok e
  obtain ⟨hp, g, d, t, os⟩ := s
  refine PySem.W.set_plain I.kIn (ox := { cls := .ref C, dict := none, data := .fields #[.ref tk, .none, .none, .none, .bool false, .none] }) (od := none) ⟨ho, rfl, rfl, trivial⟩ T.sa ?_
  refine PySem.ESX.osa_new I.kIn ho cd rfl rfl hno fun h' t' dx k dn dne hx hn => ?_
  obtain ⟨n1, J⟩ := inv_dict (t' := t') I e ry k dn dne hx hn
  exact h dx _ n1 dne J
theorem ein_ok {A : Around} {us : List Value} {Q : Value → Shared → Prop} {E : Value → Shared → Prop} (T : OexE X.K C) (I : L2.Inv X pins σ H s) (e : H a = some (exo a C none)) (hl : us.length ≤ sizeLine) (h : ∀ s', L2.Inv X pins σ H s' → Q .none s') :
    wpAny (model X.prog X.w) A (call (.builtin "Exception.__init__") (.ref a :: us)) Q E s := by
  obtain ⟨nm, q, N, bs, sn, sub, ab, col, dd, k0, k1, k2, k3, k5, hC⟩ := T.cls
  obtain ⟨tk, ho⟩ := exo_at I.hok e
  obtain ⟨hp, g, d, t, os⟩ := s
  refine wpAny_call (PySem.HandSPX.init_base F.excBase_Exception (fun _ => rfl) (I.kIn _ _ hC) ho hl fun h' t2 k hx => h _ ?_)
  have J := I.write (t' := t) (x := a) (e := a) (o := exo a C none) (e ▸ True.intro) (.inl rfl) k ⟨_, hx⟩ (exo_ok hx)
  have eu : upd H a (exo a C none) = H := funext fun b => if hb : b = a then by rw [hb, upd_same, e] else upd_ne hb
  rwa [eu] at J
end
/-- Exception.__init__(self, ..) -/
def tEnI (K : PySem.W.Frag) (ta : TA) : TE := fun σ H Q => ta σ H fun vs H1 => ∃ (a C : Addr) (ws : List V), vs = .ref a :: ws ∧ ws.length ≤ 1000 ∧ OexE K C ∧ H1 a = some (exo a C none) ∧ Q .non H1
/-- self.f = e, the first one -/
def tEst (K : PySem.W.Frag) (f : Str) (to te : TE) : TS := fun D σ H => te σ H fun y H1 => to σ H1 fun x H2 => ∃ a C : Addr, x = .ref a ∧ OexE K C ∧ PySem.W.findIn K (.ref C) f = some none ∧ H2 a = some (exo a C none) ∧ ∀ dx, H2 dx = none → dx ≠ a → D.nx σ (upd (upd H2 dx (exd dx [(f, y)])) a (exo a C (some dx)))
theorem typ_Exc : typeOf (.type "Exception") = pure (.type "type") := by kernel_rfl
section
variable {X : Cx} {o e : Expr} {es : List Expr} {to te : TE} {ta : TA} {f : Str} {p p' p1 p2 pos : Pos}
theorem pe_eninit {pl : Sem Bool} (hg : Gl X "Exception") (hm : X.mg "Exception" = none) (vE : PySem.W.findCls X.K (.type "Exception") (.type "type") "__init__" = some (.val (.builtin "Exception.__init__"))) (ha : PA X (e :: es) ta)
    (hc : eval (.Call (.Attribute (.Name "Exception" p1) "__init__" p2) (e :: es) [] pos) X.env = (do
      let ov ← eval (.Name "Exception" p1) X.env
      standAt p2.atName
      let (f, first) ← holding [ov] (getMethod ov "__init__" pl)
      callWith pos f first (backTo pos (starEach (e :: es) X.env)) (backToKw pos (keywordEach [] X.env))) := by rfl)
    (hst : starEach (e :: es) X.env = (false, eval e X.env) :: starEach es X.env := by rfl) (hpl : (backTo pos (starEach es X.env)).any (·.1) = false := by rfl) :
    PE X (.Call (.Attribute (.Name "Exception" p1) "__init__" p2) (e :: es) [] pos) (tEnI X.K ta) := by
  refine ⟨fun pins s σ H Q I h => PySem.W.methodCall_KW (ld_blt I hg hm PyProof.Rows.Boot.«Exception» ?_ (by decide) (by decide)) hc⟩
  obtain ⟨m, fr⟩ := I.fr
  refine PySem.W.method_type fr I.ok.mod.kin typ_Exc (by decide +kernel) vE (by decide +kernel) ?_
  show wpAny _ _ (callWith pos (Value.builtin "Exception.__init__") [] (backTo pos (starEach (e :: es) X.env)) []) _ _ _
  refine PyProof.Rows.callWith_method1 (thn (ha.run pos pins _ σ H _ (I.tok _) h) fun us z ⟨vs, H1, I1, r1, a, C, ws, ev, hl, T, ea, q⟩ => ?_) hst hpl
  subst ev
  cases r1 with
  | cons ra rr =>
    cases ra
    exact ein_ok T I1 ea (by rw [← Paired.length rr, sizeLine_eq]; omega) fun s' J => ⟨.non, H1, J, rfl, q⟩
theorem ps_est (ho : PE X o to) (he : PE X e te) (hs : swapsWith e (some (.Attribute o f p')) pos.line X.env = pure false := by rfl) : PS X (.Assign [.Attribute o f p'] e pos) (tEst X.K f to te) := by
  refine ⟨fun pins s σ H D I h => plainObj_wpAny_Assign_Attribute (thn (he.run pins s σ H _ I h) fun v z ⟨y, H1, I1, r1, q1⟩ => thn (ho.run pins z σ H1 _ I1 q1) fun u z2 ⟨x, H2, I2, r2, a, C, ex, T, hno, ea, q⟩ => ?_) hs⟩
  subst ex
  cases r2
  exact est_new T I2 ea hno r1 fun dx s' n ne J => ⟨σ, _, J, q dx n ne⟩
/-- what the error's __init__ does -/
def spFE (K : PySem.W.Frag) : Sp := fun vs H Q _ => ∃ (a C : Addr) (v : V), vs = [.ref a, v] ∧ OexE K C ∧ PySem.W.findIn K (.ref C) "cause" = some none ∧ H a = some (exo a C none) ∧
  ∀ d, H d = none → d ≠ a → Q .non (upd (upd H d (exd d [("cause", v)])) a (exo a C (some d)))
/-- Fault(e): an error with its field -/
theorem pmk_fault {x : Str} {C fI : Addr} {k : Nat} {fd : FuncData} {ps : List Str} (T : OexE X.K C) (hw : PySem.W.findIn X.K (.ref C) "cause" = some none) (iC : PySem.W.findIn X.K (.ref C) "__init__" = some (some (.ref fI))) (tI : PySem.W.typeIn X.K (.ref fI) = some (.type "function"))
    (F1 : FnOk X.prog X.w X.K X.mg X.base CX0 k fI fd ps (spFE X.K)) (hr : Room (k + 1) X.A) (hb : Binds X.K fd ps []) (hg : Gl X x) (hm : X.mg x = some (.ref C)) (ha : PE X e te)
    (hdb : (x == ("__debug__" : Str)) = false := by decide) (hst : starEach [e] X.env = (false, eval e X.env) :: starEach [] X.env := by rfl) (hpl : (backTo pos (starEach [] X.env)).any (·.1) = false := by rfl) :
    L2N.PMk X (.Call (.Name x p) [e] [] pos) (fun σ H Q => te σ H fun v H1 => ∀ d, H1 d = none → Q (.ref C) (some d) (upd H1 d (.xd [("cause", v)]))) := by
  intro pins s σ H Q I h
  obtain ⟨nm, q, N, bs, sn, sub, ab, col, dd, k0, k1, k2, k3, k5, hC⟩ := T.cls
  refine wpAny_Call_Name_kw (ld_glob I hg hm (PySem.W.callWith_K (h₀ := X.base) I.ok.mod.kin T.kC (thn ((pa_cons ha pa_nil hst).run pos pins s σ H (fun vs H1 => ∃ v, vs = [v] ∧ ∀ d, H1 d = none → Q (.ref C) (some d) (upd H1 d (.xd [("cause", v)]))) I ?_) fun us z ⟨vs, H1, I1, r1, q1⟩ => ⟨I1.kIn, ?_⟩) hst hpl) hdb)
  · have : te σ H (fun v H1 => ∀ d, H1 d = none → Q (.ref C) (some d) (upd H1 d (.xd [("cause", v)]))) := h
    show te σ H fun v H1 => ∃ v', [v] = [v'] ∧ ∀ d, H1 d = none → Q (.ref C) (some d) (upd H1 d (.xd [("cause", v')]))
    have e1 : (fun (v : V) (H1 : Hp) => ∃ v', [v] = [v'] ∧ ∀ d, H1 d = none → Q (.ref C) (some d) (upd H1 d (.xd [("cause", v')]))) = fun v H1 => ∀ d, H1 d = none → Q (.ref C) (some d) (upd H1 d (.xd [("cause", v)])) := by
      funext v H1
      apply propext
      constructor
      · rintro ⟨v', ev, q⟩
        cases ev
        exact q
      · exact fun q => ⟨v, rfl, q⟩
    rw [e1]
    exact this
  obtain ⟨v, rfl, q1⟩ := q1
  show wpAny _ _ (call (.ref C) us) _ _ _
  obtain ⟨hp, g, dr, tk, os⟩ := z
  have sz : hp.objs.size ≤ hp.objs.size + 1 := Nat.le_succ _
  have n1 : H1 (hp.objs.size + 1) = none := I1.hok.fresh sz
  have kk : ∀ b o, hp.get? b = some o → ((hp.push (PySem.W.kdv_tup us)).push (PySem.HandSPX.excO C hp.objs.size)).get? b = some o := fun b o e => Heap.get?_push_of_some _ (Heap.get?_push_of_some _ e)
  have gt : ((hp.push (PySem.W.kdv_tup us)).push (PySem.HandSPX.excO C hp.objs.size)).get? (hp.objs.size + 1) = some (PySem.HandSPX.excO C hp.objs.size) := by heap_get
  have I2 : L2.Inv X pins σ (upd H1 (hp.objs.size + 1) (exo (hp.objs.size + 1) C none)) ⟨(hp.push (PySem.W.kdv_tup us)).push (PySem.HandSPX.excO C hp.objs.size), g, dr, tk, os⟩ := I1.laid (t' := tk) kk sz (exo_ok gt)
  have r2 : Vals [V.ref (hp.objs.size + 1), v] (Value.ref (hp.objs.size + 1) :: us) := .cons rfl r1
  have sp1 : spFE X.K [.ref (hp.objs.size + 1), v] (upd H1 (hp.objs.size + 1) (exo (hp.objs.size + 1) C none)) (fun w H2 => w = .non ∧ ∃ d, H1 d = none ∧ d ≠ hp.objs.size + 1 ∧ H2 = upd (upd (upd H1 (hp.objs.size + 1) (exo (hp.objs.size + 1) C none)) d (exd d [("cause", v)])) (hp.objs.size + 1) (exo (hp.objs.size + 1) C (some d))) (fun _ _ _ => False) :=
    ⟨_, C, v, rfl, T, hw, upd_same, fun d hd ne => ⟨rfl, d, by rw [upd_ne ne] at hd; exact hd, ne, rfl⟩⟩
  have hl : (Value.ref (hp.objs.size + 1) :: us).length = ps.length := r2.length.symm.trans (F1.len _ _ _ _ sp1)
  have lu : us.length ≤ sizeLine := by rw [← Paired.length r1, sizeLine_eq]; show 1 ≤ _; decide
  have b0 := hb ⟨(hp.push (PySem.W.kdv_tup us)).push (PySem.HandSPX.excO C hp.objs.size), g, dr, tk, os⟩ (Value.ref (hp.objs.size + 1) :: us) I2.kIn (by rw [List.append_nil]; exact hl)
  rw [List.append_nil] at b0
  refine wpAny_call (PySem.HandSPX.call_own F.excBase_Exception (fun _ => rfl) (I1.kIn _ _ hC) (PySem.W.looks_findIn I1.kIn iC) (fun self => PySem.W.bind_fn I1.kIn self tI) lu (codeAny_mono (F1.run _ X.stack _ _ ⟨Value.ref (hp.objs.size + 1) :: us, []⟩ (Value.ref (hp.objs.size + 1) :: us) _ _ (fun _ _ _ => False) (hr.make C us []) (I2.env0.make C us []) b0 r2 sp1) fun r s' hq => ?_))
  match r, hq with
  | .error er, hq => exact pass0 pins σ _ _ er s' I2 hq
  | .ok (.ret w), hq =>
    obtain ⟨v', H2, os2, bare2, un2, hok2, rv, ev, d, hd1, hne, e2⟩ := hq
    subst ev
    obtain ⟨h2, g2, d2, t2, os'⟩ := s'
    have ea : H2 (hp.objs.size + 1) = some (exo (hp.objs.size + 1) C (some d)) := by rw [e2, upd_same]
    have ed : H2 d = some (exd d [("cause", v)]) := by rw [e2, upd_ne hne, upd_same]
    obtain ⟨t0, G, J, kG, ge, hoe, na⟩ := mk_end0 (d2 := d2) (t2 := t2) I1 sz kk un2 hok2 os2 bare2 ea ed hd1
    refine ⟨rv, hp.objs.size + 1, _, _, ⟨G, g2, d2, t2, os'⟩, _, .ref C, some d, rfl, J, kG, ge, hoe, ⟨rfl, rfl, fun z hz => by cases hz; rfl⟩, rfl, rfl, na, rfl, bare2, raises_own T.exC T.tyC, ?_⟩
    have eH : upd (del H2 (hp.objs.size + 1)) d (.xd [("cause", v)]) = upd H1 d (.xd [("cause", v)]) := by
      funext b
      by_cases h1 : b = d
      · rw [h1, upd_same, upd_same]
      · rw [upd_ne h1, upd_ne h1]
        by_cases h2 : b = hp.objs.size + 1
        · rw [h2, del_same, n1]
        · rw [del_ne h2, e2, upd_ne h2, upd_ne h1, upd_ne h2]
    rw [eH]
    exact q1 d hd1
  | .ok .next, hq => exact False.elim hq
  | .ok .brk, hq => exact False.elim hq
  | .ok .cont, hq => exact False.elim hq
end
/-- as Fun.okX, where the error's context is told too -/
theorem Fun.okN {P : Program} {w : World} {K : PySem.W.Frag} {mg : Str → Option Value} {base : Heap} {x qual : Str} {st : Stmt} {f : Addr} {fd : FuncData} {N ps : List Str} {k : Nat} {sp : Sp} (F : L2.Fun K x qual st f fd) (S : FnScope N ps (defScope st)) (len : ∀ vs H Q E, sp vs H Q E → vs.length = ps.length)
    (body : ∀ (cdv : Value) (A : Around) (outer : List Env) (s : Shared) (H : Hp) (vs : List V) (Q : VK) (E : XK), Room k (A.deeper (envOfC qual (defScope st) s.heap.objs.size f cdv)) → sp vs H Q E →
      ∃ t, PSs (cxOf (L2N.CX P w) P w K mg base N qual (defScope st) f cdv A outer s H E) (defBody st) t ∧ t { nx := fun _ H' => Q .non H', rt := Q } (L2.start N vs) H) : FnOk P w K mg base (L2N.CX P w) (k + 1) f fd ps sp := by
  obtain ⟨oc, od, kV, doc, pm, an, cdv, ct, osl, rfl, lk, hcd⟩ := F.ex
  exact fn_of lk hcd S len fun A outer s H vs Q E hr h => body cdv A outer s H vs Q E hr h
end Rg

/-! a deed while it is done: the mirror, and the object that bears it -/
namespace Rg
open PySem PySem.Spec L2
/-- the state of a run -/
structure Rn where
  ring : Int
  a : Int
  pt : List Pt
  me : List (List Wd)
  wh : Option (Int × Int)
  ca : List (Int × Option (Int × Int))
  st : List (Int × Int × Int × Int)
  to : List (Int × Int × Int × Str)
def whD : Option (Int × Int) → PyData
  | none => .none
  | some (g, p) => .tuple [.int g, .int p]
def caD (c : Int × Option (Int × Int)) : PyData := .tuple [.int c.1, whD c.2]
def stD (c : Int × Int × Int × Int) : PyData := .tuple [.int c.1, .int c.2.1, .int c.2.2.1, .int c.2.2.2]
def toD (c : Int × Int × Int × Str) : PyData := .tuple [.int c.1, .int c.2.1, .int c.2.2.1, .str c.2.2.2]
def mx (i j : Int) : Int := if j > i then j else i
def sgAt (xs : List Sg) (g : Int) : Sg := xs.getD g.toNat dSg
def Rn.ptr (s : Rn) (p : Int) : Pt := s.pt.getD p.toNat none
def Rn.mem (s : Rn) (g : Int) : List Wd := s.me.getD g.toNat []
/-- where a pointer leads to -/
def spotR (s : Rn) (p w : Int) : Except Str (Int × Int × Int) := match s.ptr p with
  | none => .error "pointer"
  | some (r, g, pl) => if 0 ≤ pl + w ∧ pl + w < ((s.mem g).length : Int) then .ok (mx s.ring r, g, pl + w) else .error "bounds"
def Rn.touch (s : Rn) (e g p : Int) (w : Str) : Rn := { s with to := s.to ++ [(e, g, p, w)] }
def Rn.wordAt (s : Rn) (g p : Int) : Wd := (s.mem g).getD p.toNat (.num 0)
def Rn.put (s : Rn) (g p : Int) (x : Wd) : Rn := { s with me := s.me.set g.toNat ((s.mem g).set p.toNat x) }
def Rn.ptrSet (s : Rn) (q : Int) (x : Pt) : Rn := { s with pt := s.pt.set q.toNat x }
def readR (xs : List Sg) (s : Rn) (p w : Int) : Except Str (Wd × Int × Int × Rn) := match spotR s p w with
  | .error c => .error c
  | .ok (e, g, pl) => if mRead (sgAt xs g) e = true then .ok (s.wordAt g pl, e, g, s.touch e g pl "r") else .error "read"
def writeR (xs : List Sg) (s : Rn) (p w : Int) (x : Wd) : Rn × Option Str := match spotR s p w with
  | .error c => (s, some c)
  | .ok (e, g, pl) => if mWrite (sgAt xs g) e = true then ((s.touch e g pl "w").put g pl x, none) else (s, some "write")
def raisedR (r : Int) : Pt → Pt
  | none => none
  | some (o, g, p) => some (mx o r, g, p)
def Rn.enter (s : Rn) (r : Int) (w : Option (Int × Int)) : Rn := { s with ring := r, wh := w, pt := s.pt.map (raisedR r) }
def enteredR (x : Sg) (pl e : Int) : Except Str Int :=
  if has 120 x.ri = false then .error "run"
  else if ¬ (0 ≤ pl ∧ pl < (x.rs.length : Int)) then .error "entry"
  else if e ≤ x.r2 then .ok (mx e x.r1)
  else if e > x.r3 then .error "call"
  else if pl ≥ x.ga then .error "gate"
  else .ok x.r2
/-! ### the twelve rows -/
def rSet (b : Int) (s : Rn) (n : Int) : Rn × Option Str := ({ s with a := n % b }, none)
def rAdd (b : Int) (s : Rn) (n : Int) : Rn × Option Str := ({ s with a := (s.a + n) % b }, none)
def rLoad (xs : List Sg) (s : Rn) (p w : Int) : Rn × Option Str := match readR xs s p w with
  | .error c => (s, some c)
  | .ok (.num n, _, _, s') => ({ s' with a := n }, none)
  | .ok (.ptr .., _, _, s') => (s', some "kind")
def rStore (xs : List Sg) (s : Rn) (p w : Int) : Rn × Option Str := writeR xs s p w (.num s.a)
def rFetch (xs : List Sg) (s : Rn) (q p w : Int) : Rn × Option Str := match readR xs s p w with
  | .error c => (s, some c)
  | .ok (.num _, _, _, s') => (s', some "kind")
  | .ok (.ptr r g pl, e, n, s') => (s'.ptrSet q (some (mx (mx r e) (sgAt xs n).r1, g, pl)), none)
def rKeep (xs : List Sg) (s : Rn) (q p w : Int) : Rn × Option Str := match s.ptr q with
  | none => (s, some "pointer")
  | some (r, g, pl) => writeR xs s p w (.ptr r g pl)
def rAim (s : Rn) (q g w : Int) : Rn × Option Str := if w < 0 then (s, some "bounds") else (s.ptrSet q (some (s.ring, g, w)), none)
def rMove (s : Rn) (q p n : Int) : Rn × Option Str := match s.ptr p with
  | none => (s, some "pointer")
  | some (r, g, pl) => if pl + n < 0 then (s, some "bounds") else (s.ptrSet q (some (r, g, pl + n)), none)
def rGo (s : Rn) (j : Int) : Rn × Option Str := match s.wh with
  | none => (s, some "hand")
  | some (g, _) => ({ s with wh := some (g, j) }, none)
def rZero (s : Rn) (j : Int) : Rn × Option Str := match s.wh with
  | none => (s, some "hand")
  | some (g, _) => if s.a = 0 then ({ s with wh := some (g, j) }, none) else (s, none)
def rCall (xs : List Sg) (s : Rn) (p : Int) : Rn × Option Str := match s.ptr p with
  | none => (s, some "pointer")
  | some (r, g, pl) => match enteredR (sgAt xs g) pl (mx s.ring r) with
    | .error c => (s, some c)
    | .ok e => if 8 ≤ s.ca.length then (s, some "deep") else (({ s with ca := s.ca ++ [(s.ring, s.wh)] } : Rn).enter e (some (g, pl)), none)
def rRet (s : Rn) : Rn × Option Str := match s.wh with
  | none => (s, some "hand")
  | some _ => match s.ca.getLast? with
    | none => (s, some "hand")
    | some (r, w) => (({ s with ca := s.ca.dropLast } : Rn).enter r w, none)

def rF (v0 v1 v2 v3 v4 v5 v6 v7 v8 v9 : V) : List (Str × V) := [("machine", v0), ("hand", v1), ("ring", v2), ("a", v3), ("pointers", v4), ("memory", v5), ("where", v6), ("calls", v7), ("steps", v8), ("touches", v9)]
theorem rF_machine {v0 v1 v2 v3 v4 v5 v6 v7 v8 v9 : V} : (rF v0 v1 v2 v3 v4 v5 v6 v7 v8 v9).lookup ("machine" : Str) = some v0 := by unfold rF; rw [lookup_put, if_pos rfl]
theorem put_machine {v0 v1 v2 v3 v4 v5 v6 v7 v8 v9 y : V} : putF "machine" y (rF v0 v1 v2 v3 v4 v5 v6 v7 v8 v9) = rF y v1 v2 v3 v4 v5 v6 v7 v8 v9 := by unfold rF putF; rw [if_pos rfl]
theorem rF_hand {v0 v1 v2 v3 v4 v5 v6 v7 v8 v9 : V} : (rF v0 v1 v2 v3 v4 v5 v6 v7 v8 v9).lookup ("hand" : Str) = some v1 := by unfold rF; rw [lookup_put, if_neg (by decide +kernel)]; rw [lookup_put, if_pos rfl]
theorem put_hand {v0 v1 v2 v3 v4 v5 v6 v7 v8 v9 y : V} : putF "hand" y (rF v0 v1 v2 v3 v4 v5 v6 v7 v8 v9) = rF v0 y v2 v3 v4 v5 v6 v7 v8 v9 := by unfold rF putF; rw [if_neg (by decide +kernel)]; unfold putF; rw [if_pos rfl]
theorem rF_ring {v0 v1 v2 v3 v4 v5 v6 v7 v8 v9 : V} : (rF v0 v1 v2 v3 v4 v5 v6 v7 v8 v9).lookup ("ring" : Str) = some v2 := by unfold rF; rw [lookup_put, if_neg (by decide +kernel)]; rw [lookup_put, if_neg (by decide +kernel)]; rw [lookup_put, if_pos rfl]
theorem put_ring {v0 v1 v2 v3 v4 v5 v6 v7 v8 v9 y : V} : putF "ring" y (rF v0 v1 v2 v3 v4 v5 v6 v7 v8 v9) = rF v0 v1 y v3 v4 v5 v6 v7 v8 v9 := by unfold rF putF; rw [if_neg (by decide +kernel)]; unfold putF; rw [if_neg (by decide +kernel)]; unfold putF; rw [if_pos rfl]
theorem rF_a {v0 v1 v2 v3 v4 v5 v6 v7 v8 v9 : V} : (rF v0 v1 v2 v3 v4 v5 v6 v7 v8 v9).lookup ("a" : Str) = some v3 := by unfold rF; rw [lookup_put, if_neg (by decide +kernel)]; rw [lookup_put, if_neg (by decide +kernel)]; rw [lookup_put, if_neg (by decide +kernel)]; rw [lookup_put, if_pos rfl]
theorem put_a {v0 v1 v2 v3 v4 v5 v6 v7 v8 v9 y : V} : putF "a" y (rF v0 v1 v2 v3 v4 v5 v6 v7 v8 v9) = rF v0 v1 v2 y v4 v5 v6 v7 v8 v9 := by unfold rF putF; rw [if_neg (by decide +kernel)]; unfold putF; rw [if_neg (by decide +kernel)]; unfold putF; rw [if_neg (by decide +kernel)]; unfold putF; rw [if_pos rfl]
theorem rF_pointers {v0 v1 v2 v3 v4 v5 v6 v7 v8 v9 : V} : (rF v0 v1 v2 v3 v4 v5 v6 v7 v8 v9).lookup ("pointers" : Str) = some v4 := by unfold rF; rw [lookup_put, if_neg (by decide +kernel)]; rw [lookup_put, if_neg (by decide +kernel)]; rw [lookup_put, if_neg (by decide +kernel)]; rw [lookup_put, if_neg (by decide +kernel)]; rw [lookup_put, if_pos rfl]
theorem put_pointers {v0 v1 v2 v3 v4 v5 v6 v7 v8 v9 y : V} : putF "pointers" y (rF v0 v1 v2 v3 v4 v5 v6 v7 v8 v9) = rF v0 v1 v2 v3 y v5 v6 v7 v8 v9 := by unfold rF putF; rw [if_neg (by decide +kernel)]; unfold putF; rw [if_neg (by decide +kernel)]; unfold putF; rw [if_neg (by decide +kernel)]; unfold putF; rw [if_neg (by decide +kernel)]; unfold putF; rw [if_pos rfl]
theorem rF_memory {v0 v1 v2 v3 v4 v5 v6 v7 v8 v9 : V} : (rF v0 v1 v2 v3 v4 v5 v6 v7 v8 v9).lookup ("memory" : Str) = some v5 := by unfold rF; rw [lookup_put, if_neg (by decide +kernel)]; rw [lookup_put, if_neg (by decide +kernel)]; rw [lookup_put, if_neg (by decide +kernel)]; rw [lookup_put, if_neg (by decide +kernel)]; rw [lookup_put, if_neg (by decide +kernel)]; rw [lookup_put, if_pos rfl]
theorem put_memory {v0 v1 v2 v3 v4 v5 v6 v7 v8 v9 y : V} : putF "memory" y (rF v0 v1 v2 v3 v4 v5 v6 v7 v8 v9) = rF v0 v1 v2 v3 v4 y v6 v7 v8 v9 := by unfold rF putF; rw [if_neg (by decide +kernel)]; unfold putF; rw [if_neg (by decide +kernel)]; unfold putF; rw [if_neg (by decide +kernel)]; unfold putF; rw [if_neg (by decide +kernel)]; unfold putF; rw [if_neg (by decide +kernel)]; unfold putF; rw [if_pos rfl]
theorem rF_where {v0 v1 v2 v3 v4 v5 v6 v7 v8 v9 : V} : (rF v0 v1 v2 v3 v4 v5 v6 v7 v8 v9).lookup ("where" : Str) = some v6 := by unfold rF; rw [lookup_put, if_neg (by decide +kernel)]; rw [lookup_put, if_neg (by decide +kernel)]; rw [lookup_put, if_neg (by decide +kernel)]; rw [lookup_put, if_neg (by decide +kernel)]; rw [lookup_put, if_neg (by decide +kernel)]; rw [lookup_put, if_neg (by decide +kernel)]; rw [lookup_put, if_pos rfl]
theorem put_where {v0 v1 v2 v3 v4 v5 v6 v7 v8 v9 y : V} : putF "where" y (rF v0 v1 v2 v3 v4 v5 v6 v7 v8 v9) = rF v0 v1 v2 v3 v4 v5 y v7 v8 v9 := by unfold rF putF; rw [if_neg (by decide +kernel)]; unfold putF; rw [if_neg (by decide +kernel)]; unfold putF; rw [if_neg (by decide +kernel)]; unfold putF; rw [if_neg (by decide +kernel)]; unfold putF; rw [if_neg (by decide +kernel)]; unfold putF; rw [if_neg (by decide +kernel)]; unfold putF; rw [if_pos rfl]
theorem rF_calls {v0 v1 v2 v3 v4 v5 v6 v7 v8 v9 : V} : (rF v0 v1 v2 v3 v4 v5 v6 v7 v8 v9).lookup ("calls" : Str) = some v7 := by unfold rF; rw [lookup_put, if_neg (by decide +kernel)]; rw [lookup_put, if_neg (by decide +kernel)]; rw [lookup_put, if_neg (by decide +kernel)]; rw [lookup_put, if_neg (by decide +kernel)]; rw [lookup_put, if_neg (by decide +kernel)]; rw [lookup_put, if_neg (by decide +kernel)]; rw [lookup_put, if_neg (by decide +kernel)]; rw [lookup_put, if_pos rfl]
theorem put_calls {v0 v1 v2 v3 v4 v5 v6 v7 v8 v9 y : V} : putF "calls" y (rF v0 v1 v2 v3 v4 v5 v6 v7 v8 v9) = rF v0 v1 v2 v3 v4 v5 v6 y v8 v9 := by unfold rF putF; rw [if_neg (by decide +kernel)]; unfold putF; rw [if_neg (by decide +kernel)]; unfold putF; rw [if_neg (by decide +kernel)]; unfold putF; rw [if_neg (by decide +kernel)]; unfold putF; rw [if_neg (by decide +kernel)]; unfold putF; rw [if_neg (by decide +kernel)]; unfold putF; rw [if_neg (by decide +kernel)]; unfold putF; rw [if_pos rfl]
theorem rF_steps {v0 v1 v2 v3 v4 v5 v6 v7 v8 v9 : V} : (rF v0 v1 v2 v3 v4 v5 v6 v7 v8 v9).lookup ("steps" : Str) = some v8 := by unfold rF; rw [lookup_put, if_neg (by decide +kernel)]; rw [lookup_put, if_neg (by decide +kernel)]; rw [lookup_put, if_neg (by decide +kernel)]; rw [lookup_put, if_neg (by decide +kernel)]; rw [lookup_put, if_neg (by decide +kernel)]; rw [lookup_put, if_neg (by decide +kernel)]; rw [lookup_put, if_neg (by decide +kernel)]; rw [lookup_put, if_neg (by decide +kernel)]; rw [lookup_put, if_pos rfl]
theorem put_steps {v0 v1 v2 v3 v4 v5 v6 v7 v8 v9 y : V} : putF "steps" y (rF v0 v1 v2 v3 v4 v5 v6 v7 v8 v9) = rF v0 v1 v2 v3 v4 v5 v6 v7 y v9 := by unfold rF putF; rw [if_neg (by decide +kernel)]; unfold putF; rw [if_neg (by decide +kernel)]; unfold putF; rw [if_neg (by decide +kernel)]; unfold putF; rw [if_neg (by decide +kernel)]; unfold putF; rw [if_neg (by decide +kernel)]; unfold putF; rw [if_neg (by decide +kernel)]; unfold putF; rw [if_neg (by decide +kernel)]; unfold putF; rw [if_neg (by decide +kernel)]; unfold putF; rw [if_pos rfl]
theorem rF_touches {v0 v1 v2 v3 v4 v5 v6 v7 v8 v9 : V} : (rF v0 v1 v2 v3 v4 v5 v6 v7 v8 v9).lookup ("touches" : Str) = some v9 := by unfold rF; rw [lookup_put, if_neg (by decide +kernel)]; rw [lookup_put, if_neg (by decide +kernel)]; rw [lookup_put, if_neg (by decide +kernel)]; rw [lookup_put, if_neg (by decide +kernel)]; rw [lookup_put, if_neg (by decide +kernel)]; rw [lookup_put, if_neg (by decide +kernel)]; rw [lookup_put, if_neg (by decide +kernel)]; rw [lookup_put, if_neg (by decide +kernel)]; rw [lookup_put, if_neg (by decide +kernel)]; rw [lookup_put, if_pos rfl]
theorem put_touches {v0 v1 v2 v3 v4 v5 v6 v7 v8 v9 y : V} : putF "touches" y (rF v0 v1 v2 v3 v4 v5 v6 v7 v8 v9) = rF v0 v1 v2 v3 v4 v5 v6 v7 v8 y := by unfold rF putF; rw [if_neg (by decide +kernel)]; unfold putF; rw [if_neg (by decide +kernel)]; unfold putF; rw [if_neg (by decide +kernel)]; unfold putF; rw [if_neg (by decide +kernel)]; unfold putF; rw [if_neg (by decide +kernel)]; unfold putF; rw [if_neg (by decide +kernel)]; unfold putF; rw [if_neg (by decide +kernel)]; unfold putF; rw [if_neg (by decide +kernel)]; unfold putF; rw [if_neg (by decide +kernel)]; unfold putF; rw [if_pos rfl]
theorem rF_no_stand_now {v0 v1 v2 v3 v4 v5 v6 v7 v8 v9 : V} : (rF v0 v1 v2 v3 v4 v5 v6 v7 v8 v9).lookup ("stand_now" : Str) = none := by unfold rF; rw [lookup_put, if_neg (by decide +kernel)]; rw [lookup_put, if_neg (by decide +kernel)]; rw [lookup_put, if_neg (by decide +kernel)]; rw [lookup_put, if_neg (by decide +kernel)]; rw [lookup_put, if_neg (by decide +kernel)]; rw [lookup_put, if_neg (by decide +kernel)]; rw [lookup_put, if_neg (by decide +kernel)]; rw [lookup_put, if_neg (by decide +kernel)]; rw [lookup_put, if_neg (by decide +kernel)]; rw [lookup_put, if_neg (by decide +kernel)]; rfl
theorem rF_no_forget {v0 v1 v2 v3 v4 v5 v6 v7 v8 v9 : V} : (rF v0 v1 v2 v3 v4 v5 v6 v7 v8 v9).lookup ("forget" : Str) = none := by unfold rF; rw [lookup_put, if_neg (by decide +kernel)]; rw [lookup_put, if_neg (by decide +kernel)]; rw [lookup_put, if_neg (by decide +kernel)]; rw [lookup_put, if_neg (by decide +kernel)]; rw [lookup_put, if_neg (by decide +kernel)]; rw [lookup_put, if_neg (by decide +kernel)]; rw [lookup_put, if_neg (by decide +kernel)]; rw [lookup_put, if_neg (by decide +kernel)]; rw [lookup_put, if_neg (by decide +kernel)]; rw [lookup_put, if_neg (by decide +kernel)]; rfl
theorem rF_no_pointer {v0 v1 v2 v3 v4 v5 v6 v7 v8 v9 : V} : (rF v0 v1 v2 v3 v4 v5 v6 v7 v8 v9).lookup ("pointer" : Str) = none := by unfold rF; rw [lookup_put, if_neg (by decide +kernel)]; rw [lookup_put, if_neg (by decide +kernel)]; rw [lookup_put, if_neg (by decide +kernel)]; rw [lookup_put, if_neg (by decide +kernel)]; rw [lookup_put, if_neg (by decide +kernel)]; rw [lookup_put, if_neg (by decide +kernel)]; rw [lookup_put, if_neg (by decide +kernel)]; rw [lookup_put, if_neg (by decide +kernel)]; rw [lookup_put, if_neg (by decide +kernel)]; rw [lookup_put, if_neg (by decide +kernel)]; rfl
theorem rF_no_spot {v0 v1 v2 v3 v4 v5 v6 v7 v8 v9 : V} : (rF v0 v1 v2 v3 v4 v5 v6 v7 v8 v9).lookup ("spot" : Str) = none := by unfold rF; rw [lookup_put, if_neg (by decide +kernel)]; rw [lookup_put, if_neg (by decide +kernel)]; rw [lookup_put, if_neg (by decide +kernel)]; rw [lookup_put, if_neg (by decide +kernel)]; rw [lookup_put, if_neg (by decide +kernel)]; rw [lookup_put, if_neg (by decide +kernel)]; rw [lookup_put, if_neg (by decide +kernel)]; rw [lookup_put, if_neg (by decide +kernel)]; rw [lookup_put, if_neg (by decide +kernel)]; rw [lookup_put, if_neg (by decide +kernel)]; rfl
theorem rF_no_read {v0 v1 v2 v3 v4 v5 v6 v7 v8 v9 : V} : (rF v0 v1 v2 v3 v4 v5 v6 v7 v8 v9).lookup ("read" : Str) = none := by unfold rF; rw [lookup_put, if_neg (by decide +kernel)]; rw [lookup_put, if_neg (by decide +kernel)]; rw [lookup_put, if_neg (by decide +kernel)]; rw [lookup_put, if_neg (by decide +kernel)]; rw [lookup_put, if_neg (by decide +kernel)]; rw [lookup_put, if_neg (by decide +kernel)]; rw [lookup_put, if_neg (by decide +kernel)]; rw [lookup_put, if_neg (by decide +kernel)]; rw [lookup_put, if_neg (by decide +kernel)]; rw [lookup_put, if_neg (by decide +kernel)]; rfl
theorem rF_no_write {v0 v1 v2 v3 v4 v5 v6 v7 v8 v9 : V} : (rF v0 v1 v2 v3 v4 v5 v6 v7 v8 v9).lookup ("write" : Str) = none := by unfold rF; rw [lookup_put, if_neg (by decide +kernel)]; rw [lookup_put, if_neg (by decide +kernel)]; rw [lookup_put, if_neg (by decide +kernel)]; rw [lookup_put, if_neg (by decide +kernel)]; rw [lookup_put, if_neg (by decide +kernel)]; rw [lookup_put, if_neg (by decide +kernel)]; rw [lookup_put, if_neg (by decide +kernel)]; rw [lookup_put, if_neg (by decide +kernel)]; rw [lookup_put, if_neg (by decide +kernel)]; rw [lookup_put, if_neg (by decide +kernel)]; rfl
theorem rF_no_jump {v0 v1 v2 v3 v4 v5 v6 v7 v8 v9 : V} : (rF v0 v1 v2 v3 v4 v5 v6 v7 v8 v9).lookup ("jump" : Str) = none := by unfold rF; rw [lookup_put, if_neg (by decide +kernel)]; rw [lookup_put, if_neg (by decide +kernel)]; rw [lookup_put, if_neg (by decide +kernel)]; rw [lookup_put, if_neg (by decide +kernel)]; rw [lookup_put, if_neg (by decide +kernel)]; rw [lookup_put, if_neg (by decide +kernel)]; rw [lookup_put, if_neg (by decide +kernel)]; rw [lookup_put, if_neg (by decide +kernel)]; rw [lookup_put, if_neg (by decide +kernel)]; rw [lookup_put, if_neg (by decide +kernel)]; rfl
theorem rF_no_enter {v0 v1 v2 v3 v4 v5 v6 v7 v8 v9 : V} : (rF v0 v1 v2 v3 v4 v5 v6 v7 v8 v9).lookup ("enter" : Str) = none := by unfold rF; rw [lookup_put, if_neg (by decide +kernel)]; rw [lookup_put, if_neg (by decide +kernel)]; rw [lookup_put, if_neg (by decide +kernel)]; rw [lookup_put, if_neg (by decide +kernel)]; rw [lookup_put, if_neg (by decide +kernel)]; rw [lookup_put, if_neg (by decide +kernel)]; rw [lookup_put, if_neg (by decide +kernel)]; rw [lookup_put, if_neg (by decide +kernel)]; rw [lookup_put, if_neg (by decide +kernel)]; rw [lookup_put, if_neg (by decide +kernel)]; rfl
theorem rF_no_next_row {v0 v1 v2 v3 v4 v5 v6 v7 v8 v9 : V} : (rF v0 v1 v2 v3 v4 v5 v6 v7 v8 v9).lookup ("next_row" : Str) = none := by unfold rF; rw [lookup_put, if_neg (by decide +kernel)]; rw [lookup_put, if_neg (by decide +kernel)]; rw [lookup_put, if_neg (by decide +kernel)]; rw [lookup_put, if_neg (by decide +kernel)]; rw [lookup_put, if_neg (by decide +kernel)]; rw [lookup_put, if_neg (by decide +kernel)]; rw [lookup_put, if_neg (by decide +kernel)]; rw [lookup_put, if_neg (by decide +kernel)]; rw [lookup_put, if_neg (by decide +kernel)]; rw [lookup_put, if_neg (by decide +kernel)]; rfl
theorem rF_no_not_the_hand {v0 v1 v2 v3 v4 v5 v6 v7 v8 v9 : V} : (rF v0 v1 v2 v3 v4 v5 v6 v7 v8 v9).lookup ("not_the_hand" : Str) = none := by unfold rF; rw [lookup_put, if_neg (by decide +kernel)]; rw [lookup_put, if_neg (by decide +kernel)]; rw [lookup_put, if_neg (by decide +kernel)]; rw [lookup_put, if_neg (by decide +kernel)]; rw [lookup_put, if_neg (by decide +kernel)]; rw [lookup_put, if_neg (by decide +kernel)]; rw [lookup_put, if_neg (by decide +kernel)]; rw [lookup_put, if_neg (by decide +kernel)]; rw [lookup_put, if_neg (by decide +kernel)]; rw [lookup_put, if_neg (by decide +kernel)]; rfl
/-- the object of a run -/
structure RA (CR : Addr) (H : Hp) (x dx m : Addr) (hand : Int) (lp lm lc ls lt : Addr) (as : List Addr) (vw : V) (s : Rn) : Prop where
  hx : H x = some (.ins CR dx (rF (.ref m) (.int hand) (.int s.ring) (.int s.a) (.ref lp) (.ref lm) vw (.ref lc) (.ref ls) (.ref lt)))
  hp : ∃ v, H lp = some (.lst v) ∧ RpAll H v (s.pt.map ptD)
  hm : H lm = some (.lst (as.map V.ref))
  la : as.length = s.me.length
  ha : ∀ (i : Nat) (a : Addr) (ws : List Wd), as[i]? = some a → s.me[i]? = some ws → ∃ v, H a = some (.lst v) ∧ RpAll H v (ws.map Wd.d)
  hw : Rp H vw (whD s.wh)
  hc : ∃ v, H lc = some (.lst v) ∧ RpAll H v (s.ca.map caD)
  hs : ∃ v, H ls = some (.lst v) ∧ RpAll H v (s.st.map stD)
  ht : ∃ v, H lt = some (.lst v) ∧ RpAll H v (s.to.map toD)
  nd : (lp :: lm :: lc :: ls :: lt :: as).Nodup
/-- .. that came behind the heap H0, which stands -/
structure RunAt (CR : Addr) (H0 H : Hp) (x m : Addr) (hand : Int) (s : Rn) : Prop where
  ex : ∃ dx lp lm lc ls lt as vw, RA CR H x dx m hand lp lm lc ls lt as vw s ∧ (∀ a ∈ lp :: lm :: lc :: ls :: lt :: as, H0 a = none)
  nx : H0 x = none
  sm : Same H0 H
section
variable {CR : Addr} {H0 H H' : Hp} {x m : Addr} {hand : Int} {s : Rn}
theorem RA.same {dx lp lm lc ls lt : Addr} {as : List Addr} {vw : V} (R : RA CR H x dx m hand lp lm lc ls lt as vw s) (e : Same H H') : RA CR H' x dx m hand lp lm lc ls lt as vw s where
  hx := e _ _ R.hx
  hp := let ⟨v, h, r⟩ := R.hp; ⟨v, e _ _ h, r.keep (Tk.of e)⟩
  hm := e _ _ R.hm
  la := R.la
  ha := fun i a ws h1 h2 => let ⟨v, h, r⟩ := R.ha i a ws h1 h2; ⟨v, e _ _ h, r.keep (Tk.of e)⟩
  hw := R.hw.keep (Tk.of e)
  hc := let ⟨v, h, r⟩ := R.hc; ⟨v, e _ _ h, r.keep (Tk.of e)⟩
  hs := let ⟨v, h, r⟩ := R.hs; ⟨v, e _ _ h, r.keep (Tk.of e)⟩
  ht := let ⟨v, h, r⟩ := R.ht; ⟨v, e _ _ h, r.keep (Tk.of e)⟩
  nd := R.nd
theorem RunAt.same (R : RunAt CR H0 H x m hand s) (e : Same H H') : RunAt CR H0 H' x m hand s :=
  let ⟨dx, lp, lm, lc, ls, lt, as, vw, r, n⟩ := R.ex; ⟨⟨dx, lp, lm, lc, ls, lt, as, vw, r.same e, n⟩, R.nx, R.sm.trans e⟩
/-- the object itself is changed -/
theorem RA.fld {dx lp lm lc ls lt : Addr} {as : List Addr} {vw vw' : V} {s' : Rn} (R : RA CR H x dx m hand lp lm lc ls lt as vw s) (fs : List (Str × V)) (hf : fs = rF (.ref m) (.int hand) (.int s'.ring) (.int s'.a) (.ref lp) (.ref lm) vw' (.ref lc) (.ref ls) (.ref lt))
    (e1 : s'.pt = s.pt) (e2 : s'.me = s.me) (e3 : s'.ca = s.ca) (e4 : s'.st = s.st) (e5 : s'.to = s.to) (hw : Rp H vw' (whD s'.wh)) : RA CR (upd H x (.ins CR dx fs)) x dx m hand lp lm lc ls lt as vw' s' := by
  have tk : Tk H (upd H x (.ins CR dx fs)) := Tk.ins R.hx
  have ne : ∀ {q : Addr} {v : List V}, H q = some (.lst v) → upd H x (.ins CR dx fs) q = some (.lst v) := fun {q v} h => by rw [upd_ne (ne_of h R.hx (fun z => nomatch z))]; exact h
  subst hf
  refine ⟨upd_same, ?_, ne R.hm, e2 ▸ R.la, ?_, hw.keep tk, ?_, ?_, ?_, R.nd⟩
  · rw [e1]; exact let ⟨v, h, r⟩ := R.hp; ⟨v, ne h, r.keep tk⟩
  · rw [e2]; exact fun i a ws h1 h2 => let ⟨v, h, r⟩ := R.ha i a ws h1 h2; ⟨v, ne h, r.keep tk⟩
  · rw [e3]; exact let ⟨v, h, r⟩ := R.hc; ⟨v, ne h, r.keep tk⟩
  · rw [e4]; exact let ⟨v, h, r⟩ := R.hs; ⟨v, ne h, r.keep tk⟩
  · rw [e5]; exact let ⟨v, h, r⟩ := R.ht; ⟨v, ne h, r.keep tk⟩
theorem same_put {o : HO} {q : Addr} (e : Same H0 H) (n : H0 q = none) : Same H0 (upd H q o) := fun c u h => by rw [upd_ne (ne_of_none h n)]; exact e _ _ h
end
end Rg

/-! the run's lists changed; what its methods promise -/
namespace Rg
open PySem PySem.Spec L2
section
variable {CR : Addr} {H0 H H' : Hp} {x dx m lp lm lc ls lt : Addr} {hand : Int} {as : List Addr} {vw : V} {s : Rn}
theorem RA.nx (R : RA CR H x dx m hand lp lm lc ls lt as vw s) {q : Addr} {v : List V} (h : H q = some (.lst v)) : q ≠ x := ne_of h R.hx (fun z => nomatch z)
/-- one of the five lists is changed -/
theorem RA.lists (R : RA CR H x dx m hand lp lm lc ls lt as vw s) {q : Addr} {v0 v1 : List V} (hq : H q = some (.lst v0)) (s' : Rn) (er : s'.ring = s.ring) (ea : s'.a = s.a) (ew : s'.wh = s.wh)
    (h1 : lp ≠ q ∧ s'.pt = s.pt ∨ lp = q ∧ RpAll H v1 (s'.pt.map ptD)) (h2 : lm ≠ q) (h3 : lc ≠ q ∧ s'.ca = s.ca ∨ lc = q ∧ RpAll H v1 (s'.ca.map caD)) (h4 : ls ≠ q ∧ s'.st = s.st ∨ ls = q ∧ RpAll H v1 (s'.st.map stD)) (h5 : lt ≠ q ∧ s'.to = s.to ∨ lt = q ∧ RpAll H v1 (s'.to.map toD))
    (h6 : s'.me.length = s.me.length) (h7 : ∀ (i : Nat) (a : Addr) (ws : List Wd), as[i]? = some a → s'.me[i]? = some ws → (a ≠ q ∧ s.me[i]? = some ws) ∨ (a = q ∧ RpAll H v1 (ws.map Wd.d))) :
    RA CR (upd H q (.lst v1)) x dx m hand lp lm lc ls lt as vw s' := by
  have tk : Tk H (upd H q (.lst v1)) := Tk.lst hq
  have one : ∀ {β : Type} {f : β → PyData} {l : Addr} {ys ys' : List β}, (∃ v, H l = some (.lst v) ∧ RpAll H v (ys.map f)) → (l ≠ q ∧ ys' = ys ∨ l = q ∧ RpAll H v1 (ys'.map f)) → ∃ v, upd H q (.lst v1) l = some (.lst v) ∧ RpAll (upd H q (.lst v1)) v (ys'.map f) := fun {β f l ys ys'} h hc => by
    rcases hc with ⟨ne, e⟩ | ⟨e, r⟩
    · obtain ⟨v, a1, a2⟩ := h
      exact ⟨v, (upd_ne ne).trans a1, e ▸ a2.keep tk⟩
    · exact ⟨v1, by rw [e, upd_same], r.keep tk⟩
  refine ⟨?_, one R.hp h1, (upd_ne h2).trans R.hm, R.la.trans h6.symm, fun i a ws e1 e2 => ?_, ew ▸ R.hw.keep tk, one R.hc h3, one R.hs h4, one R.ht h5, R.nd⟩
  · rw [upd_ne (Ne.symm (R.nx hq)), er, ea]
    exact R.hx
  · rcases h7 i a ws e1 e2 with ⟨ne, e⟩ | ⟨e, r⟩
    · obtain ⟨v, b1, b2⟩ := R.ha i a ws e1 e
      exact ⟨v, (upd_ne ne).trans b1, b2.keep tk⟩
    · exact ⟨v1, by rw [e, upd_same], r.keep tk⟩
/-- what the five lists' addresses are not -/
structure Dst (lp lm lc ls lt : Addr) (as : List Addr) : Prop where
  pm : lp ≠ lm
  pc : lp ≠ lc
  ps : lp ≠ ls
  pt : lp ≠ lt
  mc : lm ≠ lc
  ms : lm ≠ ls
  mt : lm ≠ lt
  cs : lc ≠ ls
  ct : lc ≠ lt
  st : ls ≠ lt
  pa : ∀ a ∈ as, a ≠ lp
  ma : ∀ a ∈ as, a ≠ lm
  ca : ∀ a ∈ as, a ≠ lc
  sa : ∀ a ∈ as, a ≠ ls
  ta : ∀ a ∈ as, a ≠ lt
  na : as.Nodup
theorem RA.dst (R : RA CR H x dx m hand lp lm lc ls lt as vw s) : Dst lp lm lc ls lt as := by
  have h := R.nd
  simp only [List.nodup_cons, List.mem_cons, not_or] at h
  obtain ⟨⟨a1, a2, a3, a4, a5⟩, ⟨b1, b2, b3, b4⟩, ⟨c1, c2, c3⟩, ⟨d1, d2⟩, e1, n⟩ := h
  exact ⟨a1, a2, a3, a4, b1, b2, b3, c1, c2, d1, fun a ha e => a5 (e ▸ ha), fun a ha e => b4 (e ▸ ha), fun a ha e => c3 (e ▸ ha), fun a ha e => d2 (e ▸ ha), fun a ha e => e1 (e ▸ ha), n⟩
theorem RA.setC (R : RA CR H x dx m hand lp lm lc ls lt as vw s) {v1 : List V} {ca : List (Int × Option (Int × Int))} (r : RpAll H v1 (ca.map caD)) : RA CR (upd H lc (.lst v1)) x dx m hand lp lm lc ls lt as vw { s with ca := ca } := by
  obtain ⟨v0, h0, _⟩ := R.hc
  have d := R.dst
  exact R.lists h0 _ rfl rfl rfl (.inl ⟨d.pc, rfl⟩) d.mc (.inr ⟨rfl, r⟩) (.inl ⟨d.cs.symm, rfl⟩) (.inl ⟨d.ct.symm, rfl⟩) rfl fun i a ws h1 h2 => .inl ⟨d.ca a (List.mem_of_getElem? h1), h2⟩
theorem RA.setS (R : RA CR H x dx m hand lp lm lc ls lt as vw s) {v1 : List V} {st : List (Int × Int × Int × Int)} (r : RpAll H v1 (st.map stD)) : RA CR (upd H ls (.lst v1)) x dx m hand lp lm lc ls lt as vw { s with st := st } := by
  obtain ⟨v0, h0, _⟩ := R.hs
  have d := R.dst
  exact R.lists h0 _ rfl rfl rfl (.inl ⟨d.ps, rfl⟩) d.ms (.inl ⟨d.cs, rfl⟩) (.inr ⟨rfl, r⟩) (.inl ⟨d.st.symm, rfl⟩) rfl fun i a ws h1 h2 => .inl ⟨d.sa a (List.mem_of_getElem? h1), h2⟩
theorem RA.setT (R : RA CR H x dx m hand lp lm lc ls lt as vw s) {v1 : List V} {to : List (Int × Int × Int × Str)} (r : RpAll H v1 (to.map toD)) : RA CR (upd H lt (.lst v1)) x dx m hand lp lm lc ls lt as vw { s with to := to } := by
  obtain ⟨v0, h0, _⟩ := R.ht
  have d := R.dst
  exact R.lists h0 _ rfl rfl rfl (.inl ⟨d.pt, rfl⟩) d.mt (.inl ⟨d.ct, rfl⟩) (.inl ⟨d.st, rfl⟩) (.inr ⟨rfl, r⟩) rfl fun i a ws h1 h2 => .inl ⟨d.ta a (List.mem_of_getElem? h1), h2⟩
theorem RA.setP (R : RA CR H x dx m hand lp lm lc ls lt as vw s) {v1 : List V} {pt : List Pt} (r : RpAll H v1 (pt.map ptD)) : RA CR (upd H lp (.lst v1)) x dx m hand lp lm lc ls lt as vw { s with pt := pt } := by
  obtain ⟨v0, h0, _⟩ := R.hp
  have d := R.dst
  exact R.lists h0 _ rfl rfl rfl (.inr ⟨rfl, r⟩) d.pm.symm (.inl ⟨d.pc.symm, rfl⟩) (.inl ⟨d.ps.symm, rfl⟩) (.inl ⟨d.pt.symm, rfl⟩) rfl fun i a ws h1 h2 => .inl ⟨d.pa a (List.mem_of_getElem? h1), h2⟩
theorem RA.setM (R : RA CR H x dx m hand lp lm lc ls lt as vw s) {g : Nat} {q : Addr} {v1 : List V} {ws : List Wd} (hq : as[g]? = some q) (r : RpAll H v1 (ws.map Wd.d)) : RA CR (upd H q (.lst v1)) x dx m hand lp lm lc ls lt as vw { s with me := s.me.set g ws } := by
  have hg : g < s.me.length := R.la ▸ (List.getElem?_eq_some_iff.mp hq).1
  obtain ⟨v0, h0, _⟩ := R.ha g q _ hq (List.getElem?_eq_getElem hg)
  have d := R.dst
  have mq := List.mem_of_getElem? hq
  refine R.lists h0 _ rfl rfl rfl (.inl ⟨(d.pa q mq).symm, rfl⟩) (d.ma q mq).symm (.inl ⟨(d.ca q mq).symm, rfl⟩) (.inl ⟨(d.sa q mq).symm, rfl⟩) (.inl ⟨(d.ta q mq).symm, rfl⟩) (by show (s.me.set g ws).length = _; rw [List.length_set]) fun i a ws' h1 h2 => ?_
  have h2' : (s.me.set g ws)[i]? = some ws' := h2
  by_cases e : i = g
  · subst e
    rw [List.getElem?_set_self hg] at h2'
    cases h2'
    rw [hq] at h1
    cases h1
    exact .inr ⟨rfl, r⟩
  · rw [List.getElem?_set_ne (Ne.symm e)] at h2'
    refine .inl ⟨fun z => e ?_, h2'⟩
    have l1 := (List.getElem?_eq_some_iff.mp h1)
    have l2 := (List.getElem?_eq_some_iff.mp hq)
    exact (List.getElem_inj (h₀ := l1.1) (h₁ := l2.1) d.na).mp (l1.2.trans (z.trans l2.2.symm))
/-- a new list of pointers -/
theorem RA.newP (R : RA CR H x dx m hand lp lm lc ls lt as vw s) {lq : Addr} {v1 : List V} {pt : List Pt} (hq : H lq = some (.lst v1)) (r : RpAll H v1 (pt.map ptD)) (h2 : lq ≠ lm) (h3 : lq ≠ lc) (h4 : lq ≠ ls) (h5 : lq ≠ lt) (h6 : lq ∉ as) (fs : List (Str × V))
    (hf : fs = rF (.ref m) (.int hand) (.int s.ring) (.int s.a) (.ref lq) (.ref lm) vw (.ref lc) (.ref ls) (.ref lt)) : RA CR (upd H x (.ins CR dx fs)) x dx m hand lq lm lc ls lt as vw { s with pt := pt } := by
  have tk : Tk H (upd H x (.ins CR dx fs)) := Tk.ins R.hx
  have ne : ∀ {q : Addr} {v : List V}, H q = some (.lst v) → upd H x (.ins CR dx fs) q = some (.lst v) := fun {q v} h => (upd_ne (ne_of h R.hx (fun z => nomatch z))).trans h
  subst hf
  have hn := R.nd
  simp only [List.nodup_cons, List.mem_cons, not_or] at hn ⊢
  exact ⟨upd_same, ⟨v1, ne hq, r.keep tk⟩, ne R.hm, R.la, fun i a ws a1 a2 => let ⟨v, h, r⟩ := R.ha i a ws a1 a2; ⟨v, ne h, r.keep tk⟩, R.hw.keep tk, let ⟨v, h, r⟩ := R.hc; ⟨v, ne h, r.keep tk⟩, let ⟨v, h, r⟩ := R.hs; ⟨v, ne h, r.keep tk⟩, let ⟨v, h, r⟩ := R.ht; ⟨v, ne h, r.keep tk⟩, by
    simp only [List.nodup_cons, List.mem_cons, not_or]
    exact ⟨⟨h2, h3, h4, h5, h6⟩, hn.2⟩⟩
end
/-- what is fixed while a deed is done: the machine -/
structure Mch (C : Addr) (H0 : Hp) (m : Addr) (us : List V) (xs : List Sg) (b : Int) : Prop where
  at_ : MAt C H0 m us b
  rp : RpAll H0 us (xs.map Sg.d)
  l8 : xs.length ≤ 8
  b2 : 2 ≤ b
  ok : ∀ x ∈ xs, SgForm x ∧ sgFits x b xs.length = true
/-- the first call is the hand's, and none other is; and the hand is at it just where no call is left -/
def Stk (w : Option (Int × Int)) (ca : List (Int × Option (Int × Int))) : Prop := (w = none ↔ ca = []) ∧ ∀ (i : Nat) (c : Int × Option (Int × Int)), ca[i]? = some c → (c.2 = none ↔ i = 0)
theorem Stk.nil : Stk none [] := ⟨⟨fun _ => rfl, fun _ => rfl⟩, fun i c h => by simp at h⟩
theorem Stk.push {w : Option (Int × Int)} {ca : List (Int × Option (Int × Int))} (h : Stk w ca) (r : Int) (x : Int × Int) : Stk (some x) (ca ++ [(r, w)]) := by
  refine ⟨⟨fun e => (nomatch e), fun e => by simp at e⟩, fun i c hc => ?_⟩
  by_cases hi : i < ca.length
  · rw [List.getElem?_append_left hi] at hc
    exact h.2 i c hc
  · have e : i = ca.length := by
      have := (List.getElem?_eq_some_iff.mp hc).1
      simp at this
      omega
    subst e
    simp at hc
    subst hc
    show w = none ↔ _
    rw [h.1, List.length_eq_zero_iff]
theorem Stk.pop {w w' : Option (Int × Int)} {ca : List (Int × Option (Int × Int))} {r : Int} (h : Stk w ca) (e : ca.getLast? = some (r, w')) : Stk w' ca.dropLast := by
  have h1 : ca[ca.length - 1]? = some (r, w') := by rw [← List.getLast?_eq_getElem?]; exact e
  have h2 := h.2 _ _ h1
  have hp : ca ≠ [] := fun z => by rw [z] at e; cases e
  have hl : 0 < ca.length := List.length_pos_iff.mpr hp
  refine ⟨h2.trans ⟨fun z => List.length_eq_zero_iff.mp (by rw [List.length_dropLast]; exact z), fun z => by have := congrArg List.length z; rw [List.length_dropLast] at this; exact this⟩, fun i c hc => h.2 i c ?_⟩
  have hi := (List.getElem?_eq_some_iff.mp hc).1
  rw [List.getElem?_dropLast] at hc
  split at hc
  · exact hc
  · cases hc
theorem Stk.at {x y : Int × Int} {ca : List (Int × Option (Int × Int))} (h : Stk (some x) ca) : Stk (some y) ca := ⟨⟨fun e => (nomatch e), fun e => (nomatch h.1.mpr e)⟩, h.2⟩
theorem Stk.ne {x : Int × Int} {ca : List (Int × Option (Int × Int))} (h : Stk (some x) ca) : ca ≠ [] := fun e => (nomatch h.1.mpr e)
/-- what holds of a run's state -/
structure WF (xs : List Sg) (s : Rn) : Prop where
  pt4 : s.pt.length = 4
  ptg : ∀ r g p, some (r, g, p) ∈ s.pt → 0 ≤ g ∧ g < (xs.length : Int) ∧ 0 ≤ p
  me : s.me.length = xs.length
  mw : ∀ ws ∈ s.me, ws.length ≤ 900 ∧ ∀ r g p, Wd.ptr r g p ∈ ws → 0 ≤ g ∧ g < (xs.length : Int) ∧ 0 ≤ p
  wh : ∀ g p, s.wh = some (g, p) → 0 ≤ g ∧ g < (xs.length : Int)
  ca : ∀ c ∈ s.ca, ∀ g p, c.2 = some (g, p) → 0 ≤ g ∧ g < (xs.length : Int)
  c8 : s.ca.length ≤ 8
  s9 : s.st.length ≤ 900
  t9 : s.to.length ≤ 2000
  sk : Stk s.wh s.ca
/-- a fault is let out: the heap is kept -/
def Flt (CF : Addr) (E : XK) (H : Hp) (c : Str) : Prop := ∀ (d : Addr) (H' : Hp), H d = none → H' d = some (.xd [("cause", .str c)]) → Same H H' → E (.ref CF) (some d) H'
/-- the end of a row -/
def RunEnd (CR CF : Addr) (Q : VK) (E : XK) (H0 H : Hp) (x m : Addr) (hand : Int) (res : Rn × Option Str) : Prop := match res.2 with
  | none => ∀ H', RunAt CR H0 H' x m hand res.1 → Tk H H' → Q .non H'
  | some c => ∀ (d : Addr) (H' : Hp), H' d = some (.xd [("cause", .str c)]) → H0 d = none → RunAt CR H0 H' x m hand res.1 → Tk H H' → E (.ref CF) (some d) H'
theorem RunEnd.flt {CR CF : Addr} {Q : VK} {E : XK} {H0 H : Hp} {x m : Addr} {hand : Int} {s : Rn} {c : Str} (h : RunEnd CR CF Q E H0 H x m hand (s, some c)) {H1 : Hp} (R : RunAt CR H0 H1 x m hand s) (tk : Tk H H1) : Flt CF E H1 c := fun d H' hd hx e => h d H' hx (R.sm.free hd) (R.same e) (tk.trans (Tk.of e))
end Rg

/-! methods and defs that let faults out -/
namespace Rg
open PySem PySem.Spec L2
/-- the class Fault -/
structure FltC (P : Program) (w : World) (K : PySem.W.Frag) (mg : Str → Option Value) (base : Heap) (CF : Addr) : Prop where
  oex : OexE K CF
  wc : PySem.W.findIn K (.ref CF) "cause" = some none
  mgx : mg "Fault" = some (.ref CF)
  xf : XfC K CF
  ini : ∃ f fd, PySem.W.findIn K (.ref CF) "__init__" = some (some (.ref f)) ∧ PySem.W.typeIn K (.ref f) = some (.type "function") ∧ Binds K fd ["self", "cause"] [] ∧ FnOk P w K mg base CX0 1 f fd ["self", "cause"] (spFE K)
def tRf (CF : Addr) (W : WX) (te : TE) : TS := fun _ σ H => te σ H fun v H1 => ∀ d, H1 d = none → W (.ref CF) (some d) σ (upd H1 d (.xd [("cause", v)]))
theorem ps_fault {X : Cx} {W : WX} {CF : Addr} {e : Expr} {te : TE} {p pos pos' : Pos} (Fc : FltC X.prog X.w X.K X.mg X.base CF) (hc : X.calm = true) (tk : L2N.Takes X W) (hr : Room 2 X.A) (hg : Gl X "Fault") (he : PE X e te)
    (hst : starEach [e] X.env = (false, eval e X.env) :: starEach [] X.env := by rfl) (hpl : (backTo pos (starEach [] X.env)).any (·.1) = false := by rfl) : PS X (.Raise (some (.Call (.Name "Fault" p) [e] [] pos)) none pos') (tRf CF W te) := by
  obtain ⟨f, fd, i1, i2, b, F1⟩ := Fc.ini
  exact L2N.ps_raise hc tk (pmk_fault Fc.oex Fc.wc i1 i2 F1 hr b hg Fc.mgx he (by decide) hst hpl)
theorem rd_rf {CF : Addr} {W : WX} {te : TE} {D : Ends} {σ : L2.St} {H : Hp} (h : te σ H fun v H1 => ∀ d, H1 d = none → W (.ref CF) (some d) σ (upd H1 d (.xd [("cause", v)]))) : tRf CF W te D σ H := h
theorem Flt.here {CF : Addr} {E : XK} {H : Hp} {c : Str} (h : Flt CF E H c) : ∀ d, H d = none → E (.ref CF) (some d) (upd H d (.xd [("cause", .str c)])) := fun d hd => h d _ hd upd_same (same_upd hd)
/-- the class Run -/
structure RCl (K : PySem.W.Frag) (mg : Str → Option Value) (CR : Addr) : Prop where
  cl : Cls K CR
  n_machine : NoAttr K CR "machine"
  n_hand : NoAttr K CR "hand"
  n_ring : NoAttr K CR "ring"
  n_a : NoAttr K CR "a"
  n_pointers : NoAttr K CR "pointers"
  n_memory : NoAttr K CR "memory"
  n_where : NoAttr K CR "where"
  n_calls : NoAttr K CR "calls"
  n_steps : NoAttr K CR "steps"
  n_touches : NoAttr K CR "touches"
  mgC : mg "Run" = some (.ref CR)
structure MthX (P : Program) (w : World) (K : PySem.W.Frag) (mg : Str → Option Value) (base : Heap) (C : Addr) (m : Str) (k : Nat) (ps : List Str) (sp : Sp) : Prop where
  ex : ∃ (f : Addr) (fd : FuncData), Meth K C m f ∧ Binds K fd ps [] ∧ FnOk P w K mg base (L2N.CX P w) k f fd ps sp
structure CalN (P : Program) (w : World) (K : PySem.W.Frag) (mg : Str → Option Value) (base : Heap) (x : Str) (k : Nat) (ps : List Str) (sp : Sp) : Prop where
  ex : ∃ (f : Addr) (fd : FuncData), mg x = some (.ref f) ∧ PySem.W.keepIn K (.ref f) = true ∧ Binds K fd ps [] ∧ FnOk P w K mg base (L2N.CX P w) k f fd ps sp
section
variable {X : Cx} {C : Addr} {k : Nat} {ps : List Str} {sp : Sp} {m x : Str} {pos apos p : Pos} {e o : Expr} {es : List Expr} {t : TA} {ta : TE} {E : XK}
theorem pe_mthE {pl : Sem Bool} (M : MthX X.prog X.w X.K X.mg X.base C m k ps sp) (c : Cls X.K C) (hr : Room k X.A) (tk : L2N.Takes X (fun cls d _ H => E cls d H)) (he : PE X o ta) (ha : PA X (e :: es) t)
    (hst : starEach (e :: es) X.env = (false, eval e X.env) :: starEach es X.env := by rfl) (hpl : (backTo pos (starEach es X.env)).any (·.1) = false := by rfl)
    (ht : eval (.Call (.Attribute o m apos) (e :: es) [] pos) X.env = (do
      let ov ← eval o X.env
      standAt apos.atName
      let (f, first) ← holding [ov] (getMethod ov m pl)
      callWith pos f first (backTo pos (starEach (e :: es) X.env)) (backToKw pos (keywordEach [] X.env))) := by rfl) :
    PE X (.Call (.Attribute o m apos) (e :: es) [] pos) (tMeth C m sp [] E ta t) := by
  obtain ⟨f, fd, hm, hb, F⟩ := M.ex
  exact pe_meth he c hm F hr hb .nil (L2N.passes_call tk fun _ _ _ _ h => h) ha hst hpl ht
theorem pe_mthE0 {pl : Sem Bool} (M : MthX X.prog X.w X.K X.mg X.base C m k ps sp) (c : Cls X.K C) (hr : Room k X.A) (tk : L2N.Takes X (fun cls d _ H => E cls d H)) (he : PE X o ta)
    (ht : eval (.Call (.Attribute o m apos) [] [] pos) X.env = (do
      let ov ← eval o X.env
      standAt apos.atName
      let (f, first) ← holding [ov] (getMethod ov m pl)
      callWith pos f first (backTo pos (starEach [] X.env)) (backToKw pos (keywordEach [] X.env))) := by rfl) :
    PE X (.Call (.Attribute o m apos) [] [] pos) (tMeth C m sp [] E ta tNil) := by
  obtain ⟨f, fd, hm, hb, F⟩ := M.ex
  exact pe_meth0 he c hm F hr hb .nil (L2N.passes_call tk fun _ _ _ _ h => h) ht
theorem pe_calE (Cc : CalN X.prog X.w X.K X.mg X.base x k ps sp) (hr : Room k X.A) (hg : Gl X x) (tk : L2N.Takes X (fun cls d _ H => E cls d H)) (ha : PA X (e :: es) t) (hdb : (x == ("__debug__" : Str)) = false := by decide)
    (he : starEach (e :: es) X.env = (false, eval e X.env) :: starEach es X.env := by rfl) (hpl : (backTo pos (starEach es X.env)).any (·.1) = false := by rfl) :
    PE X (.Call (.Name x p) (e :: es) [] pos) (tCall sp [] E t) := by
  obtain ⟨f, fd, hm, hk, hb, F⟩ := Cc.ex
  exact pe_call F hr hg hm hk hb .nil (L2N.passes_call tk fun _ _ _ _ h => h) ha hdb he hpl
/-- in the body of a try -/
theorem pe_calNS {W : WX} (Cc : CalN X.prog X.w X.K X.mg X.base x k ps sp) (tk : L2N.Takes X W) (hr : Room k X.A) (hg : Gl X x) (ha : PA X (e :: es) t) (hdb : (x == ("__debug__" : Str)) = false := by decide)
    (he : starEach (e :: es) X.env = (false, eval e X.env) :: starEach es X.env := by rfl) (hpl : (backTo pos (starEach es X.env)).any (·.1) = false := by rfl) :
    PE X (.Call (.Name x p) (e :: es) [] pos) (tCallS sp (WE W) t) := by
  obtain ⟨f, fd, hm, hk, hb, F⟩ := Cc.ex
  exact pe_callS F hr hg hm hk hb (fun σ => L2N.passAt tk σ) ha hdb he hpl
end
/-- fields of a run -/
theorem rd_rfld {K : PySem.W.Frag} {CR : Addr} {H : Hp} {Q : VK} {x dx : Addr} {fs : List (Str × V)} {f : Str} {v : V} (hx : H x = some (.ins CR dx fs)) (c : Cls K CR) (n : NoAttr K CR f) (l : fs.lookup f = some v) (q : Q v H) :
    ∃ a C dx fs v, V.ref x = .ref a ∧ H a = some (.ins C dx fs) ∧ Cls K C ∧ NoAttr K C f ∧ fs.lookup f = some v ∧ Q v H := ⟨x, CR, dx, fs, v, rfl, hx, c, n, l, q⟩
theorem rd_rset {K : PySem.W.Frag} {CR : Addr} {H : Hp} {R : Hp → Prop} {x dx : Addr} {fs : List (Str × V)} {f : Str} {y : V} (hx : H x = some (.ins CR dx fs)) (c : Cls K CR) (n : NoAttr K CR f) (l : fs.length < 1000) (q : R (upd H x (.ins CR dx (putF f y fs)))) :
    ∃ a C dx fs, V.ref x = .ref a ∧ H a = some (.ins C dx fs) ∧ Cls K C ∧ NoAttr K C f ∧ fs.length < 1000 ∧ R (upd H a (.ins C dx (putF f y fs))) := ⟨x, CR, dx, fs, rfl, hx, c, n, l, q⟩
/-! ### what the methods promise -/
def spPointer (CR CF : Addr) : Sp := fun vs H Q E => ∃ (H0 : Hp) (x m : Addr) (hand p : Int) (s : Rn), vs = [.ref x, .int p] ∧ RunAt CR H0 H x m hand s ∧ s.pt.length = 4 ∧ 0 ≤ p ∧ p < 4 ∧
  (∀ r g pl, s.ptr p = some (r, g, pl) → ∀ q : Addr, H q = some (.tup [.int r, .int g, .int pl]) → Q (.ref q) H) ∧ (s.ptr p = none → Flt CF E H "pointer")
def spSpot (CR CF : Addr) : Sp := fun vs H Q E => ∃ (H0 : Hp) (x m : Addr) (hand p w : Int) (s : Rn) (xs : List Sg), vs = [.ref x, .int p, .int w] ∧ RunAt CR H0 H x m hand s ∧ WF xs s ∧ 0 ≤ p ∧ p < 4 ∧
  (∀ e g pl, spotR s p w = .ok (e, g, pl) → ∀ (q : Addr) (H' : Hp), H' q = some (.tup [.int e, .int g, .int pl]) → Same H H' → Q (.ref q) H') ∧ (∀ c, spotR s p w = .error c → Flt CF E H c)
def spRead (C CR CF : Addr) : Sp := fun vs H Q E => ∃ (H0 : Hp) (x m : Addr) (us : List V) (xs : List Sg) (b hand p w : Int) (s : Rn), vs = [.ref x, .int p, .int w] ∧ Mch C H0 m us xs b ∧ RunAt CR H0 H x m hand s ∧ WF xs s ∧ 0 ≤ p ∧ p < 4 ∧
  (∀ wd e g s', readR xs s p w = .ok (wd, e, g, s') → ∀ (v : V) (q : Addr) (H' : Hp), H' q = some (.tup [v, .int e, .int g]) → Rp H' v wd.d → RunAt CR H0 H' x m hand s' → Tk H H' → Q (.ref q) H') ∧ (∀ c, readR xs s p w = .error c → Flt CF E H c)
def spWrite (C CR CF : Addr) : Sp := fun vs H Q E => ∃ (H0 : Hp) (x m : Addr) (us : List V) (xs : List Sg) (b hand p w : Int) (v : V) (wd : Wd) (s : Rn), vs = [.ref x, .int p, .int w, v] ∧ Mch C H0 m us xs b ∧ RunAt CR H0 H x m hand s ∧ WF xs s ∧ 0 ≤ p ∧ p < 4 ∧ Rp H v wd.d ∧
  RunEnd CR CF Q E H0 H x m hand (writeR xs s p w wd)
/-- a row's def, by its numbers -/
def spDo (C CR CF : Addr) (fn : List Sg → Int → Rn → List Int → Rn × Option Str) (ok : List Sg → List Int → Prop) : Sp := fun vs H Q E => ∃ (H0 : Hp) (x m : Addr) (us : List V) (xs : List Sg) (b hand : Int) (s : Rn) (ns : List Int), vs = .ref x :: ns.map V.int ∧ Mch C H0 m us xs b ∧ RunAt CR H0 H x m hand s ∧ WF xs s ∧ ok xs ns ∧
  RunEnd CR CF Q E H0 H x m hand (fn xs b s ns)
theorem pt_get {s : Rn} {p : Int} {H : Hp} {v : List V} (r : RpAll H v (s.pt.map ptD)) (h4 : s.pt.length = 4) (p0 : 0 ≤ p) (p4 : p < 4) : ∃ u, atI v p = some u ∧ Rp H u (ptD (s.ptr p)) := by
  have hl : p.toNat < s.pt.length := by omega
  obtain ⟨u, hu, ru⟩ := r.get2 (i := p.toNat) (d := ptD (s.ptr p)) (by
    unfold Rn.ptr
    rw [List.getElem?_map, List.getD_eq_getElem?_getD, List.getElem?_eq_getElem hl]
    rfl)
  exact ⟨u, at_of (by omega) hu, ru⟩
theorem ptD_some {H : Hp} {u : V} {r g p : Int} (h : Rp H u (ptD (some (r, g, p)))) : ∃ q, u = .ref q ∧ H q = some (.tup [.int r, .int g, .int p]) := by
  obtain ⟨q, vs, rfl, hq, ha⟩ := Rp.tup_inv (show Rp H u (.tuple [.int r, .int g, .int p]) from h)
  have e := RpAll.ints_inv (ns := [r, g, p]) ha
  subst e
  exact ⟨q, rfl, hq⟩
end Rg

/-! a name that holds one of several defs, called with a star; the table of actions -/
namespace Rg
open PySem PySem.Spec PyProof.Rows L2 L2H
structure HeldX (P : Program) (w : World) (K : PySem.W.Frag) (mg : Str → Option Value) (base : Heap) (k : Nat) (f : Addr) (sp : Sp) : Prop where
  ex : ∃ (fd : FuncData) (ps : List Str), FnOk P w K mg base (L2N.CX P w) k f fd ps sp ∧ PySem.W.keepIn K (.ref f) = true ∧ Binds K fd ps []
def tCallAX (i : Nat) (E : XK) (G : Addr → Sp → Prop) (t : TA) : TE := fun σ H Q => ∃ f sp, σ[i]? = some (some (.ref f)) ∧ G f sp ∧ t σ H fun vs H1 => sp vs H1 Q E
section
variable {X : Cx} {k i : Nat} {E : XK} {x : Str} {p pos : Pos} {e : Expr} {es : List Expr} {t : TA} {G : Addr → Sp → Prop}
theorem pe_callAX (A : ∀ f sp, G f sp → HeldX X.prog X.w X.K X.mg X.base k f sp) (hr : Room k X.A) (hN : X.N[i]? = some x) (hv : Vis X.env.scope x) (tk : L2N.Takes X (fun cls d _ H => E cls d H)) (ha : PA X (e :: es) t)
    (hdb : (x == ("__debug__" : Str)) = false := by decide) (hcd : (x == ("__classdict__" : Str)) = false := by decide)
    (he : starEach (e :: es) X.env = (false, eval e X.env) :: starEach es X.env := by rfl) (hst : (backTo pos (starEach es X.env)).any (·.1) = true := by rfl) : PE X (.Call (.Name x p) (e :: es) [] pos) (tCallAX i E G t) := by
  refine ⟨fun pins s σ H Q I h => ?_⟩
  obtain ⟨f, sp, hs, hG, ht⟩ := h
  obtain ⟨fd, ps, F, hk, hb⟩ := (A f sp hG).ex
  refine wpAny_Call_Name_kw (thn ((pe_var (pos := p) hN hv hdb hcd).run pins s σ H (fun v H1 => v = .ref f ∧ H1 = H) I ⟨.ref f, hs, rfl, rfl⟩) fun u z ⟨v, H1, I1, r1, q1⟩ => ?_)
  obtain ⟨rfl, rfl⟩ := q1
  cases r1
  refine PySem.W.callWith_S2 (h₀ := X.base) I.ok.mod.kin hk (thn (ha.run pos pins z σ _ _ I1 ht) fun us z2 ⟨vs, H2, I2, r, q⟩ => ⟨I2.kIn, ?_⟩) he hst
  have q0 : sp (vs ++ []) H2 Q E := by rw [List.append_nil]; exact q
  exact run_fn F hr hb .nil (L2N.passes_call tk fun _ _ _ _ h => h) I2 r q0
end
theorem rd_callAX {i : Nat} {E : XK} {G : Addr → Sp → Prop} {t : TA} {σ : L2.St} {H : Hp} {Q : VK} {f : Addr} {sp : Sp} (h1 : σ[i]? = some (some (.ref f))) (h2 : G f sp) (h : t σ H fun vs H1 => sp vs H1 Q E) : tCallAX i E G t σ H Q := ⟨f, sp, h1, h2, h⟩
theorem rd_star {K : PySem.W.Frag} {te : TE} {t : TA} {σ : L2.St} {H : Hp} {R : List V → Hp → Prop} (h : te σ H fun x H1 => ∃ p xs, x = V.ref p ∧ (SqT K H1 p xs ∨ SqL K H1 p xs) ∧ t σ H1 fun ys H2 => R (xs ++ ys) H2) : StX.tStar K te t σ H R := h
/-- o.m() in an except suite -/
theorem pe_methH0 {X : Cx} {CX : CXT} {C f : Addr} {k : Nat} {fd : FuncData} {ps : List Str} {sp : Sp} {m : Str} {o : Expr} {ta : TE} {E : L2.St → XK} {pos apos : Pos} {pl : Sem Bool} (he : PE X o ta) (c : Cls X.K C) (hm : Meth X.K C m f) (F : FnH X.prog X.w X.K X.mg X.base CX k f fd ps sp) (hr : RoomH k X.A) (hc : HotC X) (hb : Binds X.K fd ps []) (hx : ∀ σ, PassesAt CX X σ (E σ))
    (ht : eval (.Call (.Attribute o m apos) [] [] pos) X.env = (do
      let ov ← eval o X.env
      standAt apos.atName
      let (f, first) ← holding [ov] (getMethod ov m pl)
      callWith pos f first (backTo pos (starEach [] X.env)) (backToKw pos (keywordEach [] X.env))) := by rfl) :
    PE X (.Call (.Attribute o m apos) [] [] pos) (tMethH C m sp E ta tNil) := by
  refine ⟨fun pins s σ H Q I h => PySem.W.methodCall_KW (pl := pl) (thn (he.run pins s σ H _ I h) fun u z ⟨x, H1, I1, rx, a, dx, fs, ex, ea, l, q⟩ => ?_) ht⟩
  subst ex
  cases rx
  refine getmeth_ok I1 ea c hm l ?_
  refine PySem.W.callWith_K0 (first := [.ref a]) I1.kIn hm.kp ?_
  exact run_fnH (us := [.ref a]) (vs := [.ref a]) F hr hc hb (hx σ) I1 (.cons rfl .nil) q
theorem rd_methH {C : Addr} {m : Str} {sp : Sp} {E : L2.St → XK} {ta : TE} {t : TA} {σ : L2.St} {H : Hp} {Q : VK} (h : ta σ H fun x H1 => ∃ a dx fs, x = .ref a ∧ H1 a = some (.ins C dx fs) ∧ fs.lookup m = none ∧ t σ H1 fun vs H2 => sp (x :: vs) H2 Q (E σ)) : tMethH C m sp E ta t σ H Q := h
/-! ### the actions -/
def actOps : List Str := ["set", "add", "load", "store", "fetch", "keep", "aim", "move", "zero", "go", "call", "return"]
/-- the table of the top: each word's def -/
def GAct (K : PySem.W.Frag) (w : World) (mg : Str → Option Value) (af : Str → Addr) : Prop := ∃ a, mg "ACTIONS" = some (.ref a) ∧ ∀ z ∈ actOps, KDct K w a z (.ref (af z))
def tAct (K : PySem.W.Frag) (w : World) (af : Str → Addr) : TE := fun _ H Q => ∀ a, (∀ z ∈ actOps, KDct K w a z (.ref (af z))) → Q (.ref a) H
theorem pe_act {X : Cx} {pos : Pos} {af : Str → Addr} (h : GAct X.K X.w X.mg af) (hg : Gl X "ACTIONS") : PE X (.Name "ACTIONS" pos) (tAct X.K X.w af) := by
  obtain ⟨a, e, q⟩ := h
  have p : PE X (.Name "ACTIONS" pos) (tC (.ref a)) := pe_glob hg e rfl
  exact ⟨fun pins s σ H Q I hw => p.run pins s σ H Q I (hw a q)⟩
theorem ix_dK {X : Cx} {K : PySem.W.Frag} {w : World} (h1 : X.K = K := by rfl) (h2 : X.w = w := by rfl) : IxR X (rIxD K w) := by subst h1 h2; exact ix_kdict
theorem takes0N {X : Cx} : L2N.Takes X (fun _ _ _ _ => False) := fun _ _ ⟨_, _, _, _, _, _, _, _, _, _, _, _, _, _, _, _, w⟩ => w.elim
theorem Fun.okH {CX : CXT} {P : Program} {w : World} {K : PySem.W.Frag} {mg : Str → Option Value} {base : Heap} {x qual : Str} {st : Stmt} {f : Addr} {fd : FuncData} {N ps : List Str} {k : Nat} {sp : Sp} (F : L2.Fun K x qual st f fd) (S : FnScope N ps (defScope st)) (len : ∀ vs H Q E, sp vs H Q E → vs.length = ps.length)
    (body : ∀ (cdv : Value) (A : Around) (outer : List Env) (s : Shared) (H : Hp) (vs : List V) (Q : VK) (E : XK) (p : Addr × Obj), L2H.Hot1 A p → L2H.RoomH k (A.deeper (envOfC qual (defScope st) s.heap.objs.size f cdv)) → sp vs H Q E →
      ∃ t, PSs (L2H.cxH CX P w K mg base N qual (defScope st) f cdv A outer s H E p) (defBody st) t ∧ t { nx := fun _ H' => Q .non H', rt := Q } (L2.start N vs) H) : L2H.FnH P w K mg base CX (k + 1) f fd ps sp := by
  obtain ⟨oc, od, kV, doc, pm, an, cdv, ct, osl, rfl, lk, hcd⟩ := F.ex
  exact L2H.fn_ofH lk hcd S len fun A outer s H vs Q E p ht hr h => body cdv A outer s H vs Q E p ht hr h
end Rg

/-! the law's own world: a dict; the mirror is the run's -/
namespace Rg
open PySem PySem.Spec PyProof.Rows L2
theorem hu_of {k : Nat} {A : Around} (r : Room k A) : A.units + 1 < cLine := by have := r.un; omega
theorem put_no {k : Key} {v : V} {r : List (Key × V)} (h : valV r k = none) : putK r k v = r ++ [(k, v)] := by
  unfold putK
  rw [valV_any, h]
  rfl
theorem put_pos {k : Key} {v u : V} {r : List (Key × V)} (h : valV r k = none) : putK ((k, u) :: r) k v = (k, v) :: r := by
  unfold putK
  rw [valV_any, valV_pos rfl, if_pos (by rfl), List.map_cons, if_pos (by rfl)]
  congr 1
  conv => rhs; rw [← List.map_id r]
  refine List.map_congr_left fun p hp => ?_
  rw [if_neg fun e => ?_]
  · rfl
  · have : (r.any fun kv => decide (kv.1 = k)) = true := List.any_eq_true.mpr ⟨p, hp, decide_eq_true e⟩
    rw [valV_any, h] at this
    cases this
theorem put_neg {k : Key} {v : V} {p : Key × V} {r : List (Key × V)} (e : ¬ p.1 = k) (h : (valV r k).isSome = true) : putK (p :: r) k v = p :: putK r k v := by
  unfold putK
  rw [valV_any, valV_any, valV_neg e, h, if_pos rfl, if_pos rfl, List.map_cons, if_neg e]
def wF (v0 v1 v2 v3 v4 v5 v6 v7 v8 : V) : List (Key × V) := [((Sum.inr ("segments" : Str) : Key), v0), ((Sum.inr ("base" : Str) : Key), v1), ((Sum.inr ("ring" : Str) : Key), v2), ((Sum.inr ("a" : Str) : Key), v3), ((Sum.inr ("pointers" : Str) : Key), v4), ((Sum.inr ("calls" : Str) : Key), v5), ((Sum.inr ("memory" : Str) : Key), v6), ((Sum.inr ("at" : Str) : Key), v7), ((Sum.inr ("touches" : Str) : Key), v8)]
theorem wF_segments {v0 v1 v2 v3 v4 v5 v6 v7 v8 : V} : valV (wF v0 v1 v2 v3 v4 v5 v6 v7 v8) (Sum.inr ("segments" : Str) : Key) = some v0 := by unfold wF; rw [valV_pos rfl]
theorem wF_base {v0 v1 v2 v3 v4 v5 v6 v7 v8 : V} : valV (wF v0 v1 v2 v3 v4 v5 v6 v7 v8) (Sum.inr ("base" : Str) : Key) = some v1 := by unfold wF; rw [valV_neg (by dsimp only; decide +kernel)]; rw [valV_pos rfl]
theorem wF_ring {v0 v1 v2 v3 v4 v5 v6 v7 v8 : V} : valV (wF v0 v1 v2 v3 v4 v5 v6 v7 v8) (Sum.inr ("ring" : Str) : Key) = some v2 := by unfold wF; rw [valV_neg (by dsimp only; decide +kernel)]; rw [valV_neg (by dsimp only; decide +kernel)]; rw [valV_pos rfl]
theorem wF_a {v0 v1 v2 v3 v4 v5 v6 v7 v8 : V} : valV (wF v0 v1 v2 v3 v4 v5 v6 v7 v8) (Sum.inr ("a" : Str) : Key) = some v3 := by unfold wF; rw [valV_neg (by dsimp only; decide +kernel)]; rw [valV_neg (by dsimp only; decide +kernel)]; rw [valV_neg (by dsimp only; decide +kernel)]; rw [valV_pos rfl]
theorem wF_pointers {v0 v1 v2 v3 v4 v5 v6 v7 v8 : V} : valV (wF v0 v1 v2 v3 v4 v5 v6 v7 v8) (Sum.inr ("pointers" : Str) : Key) = some v4 := by unfold wF; rw [valV_neg (by dsimp only; decide +kernel)]; rw [valV_neg (by dsimp only; decide +kernel)]; rw [valV_neg (by dsimp only; decide +kernel)]; rw [valV_neg (by dsimp only; decide +kernel)]; rw [valV_pos rfl]
theorem wF_calls {v0 v1 v2 v3 v4 v5 v6 v7 v8 : V} : valV (wF v0 v1 v2 v3 v4 v5 v6 v7 v8) (Sum.inr ("calls" : Str) : Key) = some v5 := by unfold wF; rw [valV_neg (by dsimp only; decide +kernel)]; rw [valV_neg (by dsimp only; decide +kernel)]; rw [valV_neg (by dsimp only; decide +kernel)]; rw [valV_neg (by dsimp only; decide +kernel)]; rw [valV_neg (by dsimp only; decide +kernel)]; rw [valV_pos rfl]
theorem wF_memory {v0 v1 v2 v3 v4 v5 v6 v7 v8 : V} : valV (wF v0 v1 v2 v3 v4 v5 v6 v7 v8) (Sum.inr ("memory" : Str) : Key) = some v6 := by unfold wF; rw [valV_neg (by dsimp only; decide +kernel)]; rw [valV_neg (by dsimp only; decide +kernel)]; rw [valV_neg (by dsimp only; decide +kernel)]; rw [valV_neg (by dsimp only; decide +kernel)]; rw [valV_neg (by dsimp only; decide +kernel)]; rw [valV_neg (by dsimp only; decide +kernel)]; rw [valV_pos rfl]
theorem wF_at {v0 v1 v2 v3 v4 v5 v6 v7 v8 : V} : valV (wF v0 v1 v2 v3 v4 v5 v6 v7 v8) (Sum.inr ("at" : Str) : Key) = some v7 := by unfold wF; rw [valV_neg (by dsimp only; decide +kernel)]; rw [valV_neg (by dsimp only; decide +kernel)]; rw [valV_neg (by dsimp only; decide +kernel)]; rw [valV_neg (by dsimp only; decide +kernel)]; rw [valV_neg (by dsimp only; decide +kernel)]; rw [valV_neg (by dsimp only; decide +kernel)]; rw [valV_neg (by dsimp only; decide +kernel)]; rw [valV_pos rfl]
theorem wF_touches {v0 v1 v2 v3 v4 v5 v6 v7 v8 : V} : valV (wF v0 v1 v2 v3 v4 v5 v6 v7 v8) (Sum.inr ("touches" : Str) : Key) = some v8 := by unfold wF; rw [valV_neg (by dsimp only; decide +kernel)]; rw [valV_neg (by dsimp only; decide +kernel)]; rw [valV_neg (by dsimp only; decide +kernel)]; rw [valV_neg (by dsimp only; decide +kernel)]; rw [valV_neg (by dsimp only; decide +kernel)]; rw [valV_neg (by dsimp only; decide +kernel)]; rw [valV_neg (by dsimp only; decide +kernel)]; rw [valV_neg (by dsimp only; decide +kernel)]; rw [valV_pos rfl]
theorem pw_ring {v0 v1 v2 v3 v4 v5 v6 v7 v8 y : V} : putK (wF v0 v1 v2 v3 v4 v5 v6 v7 v8) (Sum.inr ("ring" : Str) : Key) y = wF v0 v1 y v3 v4 v5 v6 v7 v8 := by unfold wF; rw [put_neg (by dsimp only; decide +kernel) (by rw [valV_neg (by dsimp only; decide +kernel)]; rw [valV_pos rfl]; rfl)]; rw [put_neg (by dsimp only; decide +kernel) (by rw [valV_pos rfl]; rfl)]; rw [put_pos (by rw [valV_neg (by dsimp only; decide +kernel)]; rw [valV_neg (by dsimp only; decide +kernel)]; rw [valV_neg (by dsimp only; decide +kernel)]; rw [valV_neg (by dsimp only; decide +kernel)]; rw [valV_neg (by dsimp only; decide +kernel)]; rw [valV_neg (by dsimp only; decide +kernel)]; rfl)]
theorem pw_a {v0 v1 v2 v3 v4 v5 v6 v7 v8 y : V} : putK (wF v0 v1 v2 v3 v4 v5 v6 v7 v8) (Sum.inr ("a" : Str) : Key) y = wF v0 v1 v2 y v4 v5 v6 v7 v8 := by unfold wF; rw [put_neg (by dsimp only; decide +kernel) (by rw [valV_neg (by dsimp only; decide +kernel)]; rw [valV_neg (by dsimp only; decide +kernel)]; rw [valV_pos rfl]; rfl)]; rw [put_neg (by dsimp only; decide +kernel) (by rw [valV_neg (by dsimp only; decide +kernel)]; rw [valV_pos rfl]; rfl)]; rw [put_neg (by dsimp only; decide +kernel) (by rw [valV_pos rfl]; rfl)]; rw [put_pos (by rw [valV_neg (by dsimp only; decide +kernel)]; rw [valV_neg (by dsimp only; decide +kernel)]; rw [valV_neg (by dsimp only; decide +kernel)]; rw [valV_neg (by dsimp only; decide +kernel)]; rw [valV_neg (by dsimp only; decide +kernel)]; rfl)]
theorem pw_pointers {v0 v1 v2 v3 v4 v5 v6 v7 v8 y : V} : putK (wF v0 v1 v2 v3 v4 v5 v6 v7 v8) (Sum.inr ("pointers" : Str) : Key) y = wF v0 v1 v2 v3 y v5 v6 v7 v8 := by unfold wF; rw [put_neg (by dsimp only; decide +kernel) (by rw [valV_neg (by dsimp only; decide +kernel)]; rw [valV_neg (by dsimp only; decide +kernel)]; rw [valV_neg (by dsimp only; decide +kernel)]; rw [valV_pos rfl]; rfl)]; rw [put_neg (by dsimp only; decide +kernel) (by rw [valV_neg (by dsimp only; decide +kernel)]; rw [valV_neg (by dsimp only; decide +kernel)]; rw [valV_pos rfl]; rfl)]; rw [put_neg (by dsimp only; decide +kernel) (by rw [valV_neg (by dsimp only; decide +kernel)]; rw [valV_pos rfl]; rfl)]; rw [put_neg (by dsimp only; decide +kernel) (by rw [valV_pos rfl]; rfl)]; rw [put_pos (by rw [valV_neg (by dsimp only; decide +kernel)]; rw [valV_neg (by dsimp only; decide +kernel)]; rw [valV_neg (by dsimp only; decide +kernel)]; rw [valV_neg (by dsimp only; decide +kernel)]; rfl)]
theorem pw_at {v0 v1 v2 v3 v4 v5 v6 v7 v8 y : V} : putK (wF v0 v1 v2 v3 v4 v5 v6 v7 v8) (Sum.inr ("at" : Str) : Key) y = wF v0 v1 v2 v3 v4 v5 v6 y v8 := by unfold wF; rw [put_neg (by dsimp only; decide +kernel) (by rw [valV_neg (by dsimp only; decide +kernel)]; rw [valV_neg (by dsimp only; decide +kernel)]; rw [valV_neg (by dsimp only; decide +kernel)]; rw [valV_neg (by dsimp only; decide +kernel)]; rw [valV_neg (by dsimp only; decide +kernel)]; rw [valV_neg (by dsimp only; decide +kernel)]; rw [valV_pos rfl]; rfl)]; rw [put_neg (by dsimp only; decide +kernel) (by rw [valV_neg (by dsimp only; decide +kernel)]; rw [valV_neg (by dsimp only; decide +kernel)]; rw [valV_neg (by dsimp only; decide +kernel)]; rw [valV_neg (by dsimp only; decide +kernel)]; rw [valV_neg (by dsimp only; decide +kernel)]; rw [valV_pos rfl]; rfl)]; rw [put_neg (by dsimp only; decide +kernel) (by rw [valV_neg (by dsimp only; decide +kernel)]; rw [valV_neg (by dsimp only; decide +kernel)]; rw [valV_neg (by dsimp only; decide +kernel)]; rw [valV_neg (by dsimp only; decide +kernel)]; rw [valV_pos rfl]; rfl)]; rw [put_neg (by dsimp only; decide +kernel) (by rw [valV_neg (by dsimp only; decide +kernel)]; rw [valV_neg (by dsimp only; decide +kernel)]; rw [valV_neg (by dsimp only; decide +kernel)]; rw [valV_pos rfl]; rfl)]; rw [put_neg (by dsimp only; decide +kernel) (by rw [valV_neg (by dsimp only; decide +kernel)]; rw [valV_neg (by dsimp only; decide +kernel)]; rw [valV_pos rfl]; rfl)]; rw [put_neg (by dsimp only; decide +kernel) (by rw [valV_neg (by dsimp only; decide +kernel)]; rw [valV_pos rfl]; rfl)]; rw [put_neg (by dsimp only; decide +kernel) (by rw [valV_pos rfl]; rfl)]; rw [put_pos (by rw [valV_neg (by dsimp only; decide +kernel)]; rfl)]
theorem pb_calls {v0 v1 v2 v3 v4 v5 : V} : putK ([((Sum.inr ("segments" : Str) : Key), v0), ((Sum.inr ("base" : Str) : Key), v1), ((Sum.inr ("ring" : Str) : Key), v2), ((Sum.inr ("a" : Str) : Key), v3), ((Sum.inr ("pointers" : Str) : Key), v4)] : List (Key × V)) (Sum.inr ("calls" : Str) : Key) v5 = ([((Sum.inr ("segments" : Str) : Key), v0), ((Sum.inr ("base" : Str) : Key), v1), ((Sum.inr ("ring" : Str) : Key), v2), ((Sum.inr ("a" : Str) : Key), v3), ((Sum.inr ("pointers" : Str) : Key), v4), ((Sum.inr ("calls" : Str) : Key), v5)] : List (Key × V)) := by rw [put_no (by rw [valV_neg (by dsimp only; decide +kernel)]; rw [valV_neg (by dsimp only; decide +kernel)]; rw [valV_neg (by dsimp only; decide +kernel)]; rw [valV_neg (by dsimp only; decide +kernel)]; rw [valV_neg (by dsimp only; decide +kernel)]; rfl)]; rfl
theorem pb_memory {v0 v1 v2 v3 v4 v5 v6 : V} : putK ([((Sum.inr ("segments" : Str) : Key), v0), ((Sum.inr ("base" : Str) : Key), v1), ((Sum.inr ("ring" : Str) : Key), v2), ((Sum.inr ("a" : Str) : Key), v3), ((Sum.inr ("pointers" : Str) : Key), v4), ((Sum.inr ("calls" : Str) : Key), v5)] : List (Key × V)) (Sum.inr ("memory" : Str) : Key) v6 = ([((Sum.inr ("segments" : Str) : Key), v0), ((Sum.inr ("base" : Str) : Key), v1), ((Sum.inr ("ring" : Str) : Key), v2), ((Sum.inr ("a" : Str) : Key), v3), ((Sum.inr ("pointers" : Str) : Key), v4), ((Sum.inr ("calls" : Str) : Key), v5), ((Sum.inr ("memory" : Str) : Key), v6)] : List (Key × V)) := by rw [put_no (by rw [valV_neg (by dsimp only; decide +kernel)]; rw [valV_neg (by dsimp only; decide +kernel)]; rw [valV_neg (by dsimp only; decide +kernel)]; rw [valV_neg (by dsimp only; decide +kernel)]; rw [valV_neg (by dsimp only; decide +kernel)]; rw [valV_neg (by dsimp only; decide +kernel)]; rfl)]; rfl
theorem pb_at {v0 v1 v2 v3 v4 v5 v6 v7 : V} : putK ([((Sum.inr ("segments" : Str) : Key), v0), ((Sum.inr ("base" : Str) : Key), v1), ((Sum.inr ("ring" : Str) : Key), v2), ((Sum.inr ("a" : Str) : Key), v3), ((Sum.inr ("pointers" : Str) : Key), v4), ((Sum.inr ("calls" : Str) : Key), v5), ((Sum.inr ("memory" : Str) : Key), v6)] : List (Key × V)) (Sum.inr ("at" : Str) : Key) v7 = ([((Sum.inr ("segments" : Str) : Key), v0), ((Sum.inr ("base" : Str) : Key), v1), ((Sum.inr ("ring" : Str) : Key), v2), ((Sum.inr ("a" : Str) : Key), v3), ((Sum.inr ("pointers" : Str) : Key), v4), ((Sum.inr ("calls" : Str) : Key), v5), ((Sum.inr ("memory" : Str) : Key), v6), ((Sum.inr ("at" : Str) : Key), v7)] : List (Key × V)) := by rw [put_no (by rw [valV_neg (by dsimp only; decide +kernel)]; rw [valV_neg (by dsimp only; decide +kernel)]; rw [valV_neg (by dsimp only; decide +kernel)]; rw [valV_neg (by dsimp only; decide +kernel)]; rw [valV_neg (by dsimp only; decide +kernel)]; rw [valV_neg (by dsimp only; decide +kernel)]; rw [valV_neg (by dsimp only; decide +kernel)]; rfl)]; rfl
theorem pb_touches {v0 v1 v2 v3 v4 v5 v6 v7 v8 : V} : putK ([((Sum.inr ("segments" : Str) : Key), v0), ((Sum.inr ("base" : Str) : Key), v1), ((Sum.inr ("ring" : Str) : Key), v2), ((Sum.inr ("a" : Str) : Key), v3), ((Sum.inr ("pointers" : Str) : Key), v4), ((Sum.inr ("calls" : Str) : Key), v5), ((Sum.inr ("memory" : Str) : Key), v6), ((Sum.inr ("at" : Str) : Key), v7)] : List (Key × V)) (Sum.inr ("touches" : Str) : Key) v8 = ([((Sum.inr ("segments" : Str) : Key), v0), ((Sum.inr ("base" : Str) : Key), v1), ((Sum.inr ("ring" : Str) : Key), v2), ((Sum.inr ("a" : Str) : Key), v3), ((Sum.inr ("pointers" : Str) : Key), v4), ((Sum.inr ("calls" : Str) : Key), v5), ((Sum.inr ("memory" : Str) : Key), v6), ((Sum.inr ("at" : Str) : Key), v7), ((Sum.inr ("touches" : Str) : Key), v8)] : List (Key × V)) := by rw [put_no (by rw [valV_neg (by dsimp only; decide +kernel)]; rw [valV_neg (by dsimp only; decide +kernel)]; rw [valV_neg (by dsimp only; decide +kernel)]; rw [valV_neg (by dsimp only; decide +kernel)]; rw [valV_neg (by dsimp only; decide +kernel)]; rw [valV_neg (by dsimp only; decide +kernel)]; rw [valV_neg (by dsimp only; decide +kernel)]; rw [valV_neg (by dsimp only; decide +kernel)]; rfl)]; rfl
theorem pb_base {v0 v1 : V} : putK ([((Sum.inr ("segments" : Str) : Key), v0)] : List (Key × V)) (Sum.inr ("base" : Str) : Key) v1 = ([((Sum.inr ("segments" : Str) : Key), v0), ((Sum.inr ("base" : Str) : Key), v1)] : List (Key × V)) := by rw [put_no (by rw [valV_neg (by dsimp only; decide +kernel)]; rfl)]; rfl
theorem pb_ring {v0 v1 v2 : V} : putK ([((Sum.inr ("segments" : Str) : Key), v0), ((Sum.inr ("base" : Str) : Key), v1)] : List (Key × V)) (Sum.inr ("ring" : Str) : Key) v2 = ([((Sum.inr ("segments" : Str) : Key), v0), ((Sum.inr ("base" : Str) : Key), v1), ((Sum.inr ("ring" : Str) : Key), v2)] : List (Key × V)) := by rw [put_no (by rw [valV_neg (by dsimp only; decide +kernel)]; rw [valV_neg (by dsimp only; decide +kernel)]; rfl)]; rfl
theorem pb_a {v0 v1 v2 v3 : V} : putK ([((Sum.inr ("segments" : Str) : Key), v0), ((Sum.inr ("base" : Str) : Key), v1), ((Sum.inr ("ring" : Str) : Key), v2)] : List (Key × V)) (Sum.inr ("a" : Str) : Key) v3 = ([((Sum.inr ("segments" : Str) : Key), v0), ((Sum.inr ("base" : Str) : Key), v1), ((Sum.inr ("ring" : Str) : Key), v2), ((Sum.inr ("a" : Str) : Key), v3)] : List (Key × V)) := by rw [put_no (by rw [valV_neg (by dsimp only; decide +kernel)]; rw [valV_neg (by dsimp only; decide +kernel)]; rw [valV_neg (by dsimp only; decide +kernel)]; rfl)]; rfl
theorem pb_pointers {v0 v1 v2 v3 v4 : V} : putK ([((Sum.inr ("segments" : Str) : Key), v0), ((Sum.inr ("base" : Str) : Key), v1), ((Sum.inr ("ring" : Str) : Key), v2), ((Sum.inr ("a" : Str) : Key), v3)] : List (Key × V)) (Sum.inr ("pointers" : Str) : Key) v4 = ([((Sum.inr ("segments" : Str) : Key), v0), ((Sum.inr ("base" : Str) : Key), v1), ((Sum.inr ("ring" : Str) : Key), v2), ((Sum.inr ("a" : Str) : Key), v3), ((Sum.inr ("pointers" : Str) : Key), v4)] : List (Key × V)) := by rw [put_no (by rw [valV_neg (by dsimp only; decide +kernel)]; rw [valV_neg (by dsimp only; decide +kernel)]; rw [valV_neg (by dsimp only; decide +kernel)]; rw [valV_neg (by dsimp only; decide +kernel)]; rfl)]; rfl
theorem pb_merge {v0 v1 v2 v3 v4 : V} : mergeK [] ([((Sum.inr ("segments" : Str) : Key), v0), ((Sum.inr ("base" : Str) : Key), v1), ((Sum.inr ("ring" : Str) : Key), v2), ((Sum.inr ("a" : Str) : Key), v3), ((Sum.inr ("pointers" : Str) : Key), v4)] : List (Key × V)) = ([((Sum.inr ("segments" : Str) : Key), v0), ((Sum.inr ("base" : Str) : Key), v1), ((Sum.inr ("ring" : Str) : Key), v2), ((Sum.inr ("a" : Str) : Key), v3), ((Sum.inr ("pointers" : Str) : Key), v4)] : List (Key × V)) := by unfold mergeK; rw [List.foldl_cons, show putK ([] : List (Key × V)) (Sum.inr ("segments" : Str) : Key) v0 = [((Sum.inr ("segments" : Str) : Key), v0)] from put_no rfl, List.foldl_cons, pb_base, List.foldl_cons, pb_ring, List.foldl_cons, pb_a, List.foldl_cons, pb_pointers, List.foldl_nil]
/-- the world while the hand is at it -/
structure WA (H : Hp) (wd L : Addr) (b : Int) (lp lc lm lt : Addr) (as : List Addr) (s : Rn) : Prop where
  hx : H wd = some (.dK (wF (.ref L) (.int b) (.int s.ring) (.int s.a) (.ref lp) (.ref lc) (.ref lm) .non (.ref lt)))
  hp : ∃ v, H lp = some (.lst v) ∧ RpAll H v (s.pt.map ptD)
  hc : H lc = some (.lst [])
  hm : H lm = some (.lst (as.map V.ref))
  la : as.length = s.me.length
  ha : ∀ (i : Nat) (a : Addr) (ws : List Wd), as[i]? = some a → s.me[i]? = some ws → ∃ v, H a = some (.lst v) ∧ RpAll H v (ws.map Wd.d)
  ht : ∃ v, H lt = some (.lst v) ∧ RpAll H v (s.to.map toD)
  nd : (lp :: lc :: lm :: lt :: as).Nodup
section
variable {H H' : Hp} {wd L lp lc lm lt : Addr} {b : Int} {as : List Addr} {s : Rn}
theorem WA.same (R : WA H wd L b lp lc lm lt as s) (e : Same H H') : WA H' wd L b lp lc lm lt as s where
  hx := e _ _ R.hx
  hp := let ⟨v, h, r⟩ := R.hp; ⟨v, e _ _ h, r.keep (Tk.of e)⟩
  hc := e _ _ R.hc
  hm := e _ _ R.hm
  la := R.la
  ha := fun i a ws h1 h2 => let ⟨v, h, r⟩ := R.ha i a ws h1 h2; ⟨v, e _ _ h, r.keep (Tk.of e)⟩
  ht := let ⟨v, h, r⟩ := R.ht; ⟨v, e _ _ h, r.keep (Tk.of e)⟩
  nd := R.nd
theorem Tk.dct {q : Addr} {o : HO} {kvs : List (Key × V)} (h : H q = some (.dK kvs)) : Tk H (upd H q o) := fun c xs e => by rw [upd_ne (ne_of e h (fun z => nomatch z))]; exact e
/-- a becomes another number -/
theorem WA.setA (R : WA H wd L b lp lc lm lt as s) (n : Int) : WA (upd H wd (.dK (putK (wF (.ref L) (.int b) (.int s.ring) (.int s.a) (.ref lp) (.ref lc) (.ref lm) .non (.ref lt)) (Sum.inr ("a" : Str) : Key) (.int n)))) wd L b lp lc lm lt as { s with a := n } := by
  rw [pw_a]
  have tk : Tk H (upd H wd (.dK (wF (.ref L) (.int b) (.int s.ring) (.int n) (.ref lp) (.ref lc) (.ref lm) .non (.ref lt)))) := Tk.dct R.hx
  have ne : ∀ {q : Addr} {v : List V}, H q = some (.lst v) → upd H wd (.dK (wF (.ref L) (.int b) (.int s.ring) (.int n) (.ref lp) (.ref lc) (.ref lm) .non (.ref lt))) q = some (.lst v) := fun {q v} h => (upd_ne (ne_of h R.hx (fun z => nomatch z))).trans h
  exact ⟨upd_same, let ⟨v, h, r⟩ := R.hp; ⟨v, ne h, r.keep tk⟩, ne R.hc, ne R.hm, R.la, fun i a ws h1 h2 => let ⟨v, h, r⟩ := R.ha i a ws h1 h2; ⟨v, ne h, r.keep tk⟩, let ⟨v, h, r⟩ := R.ht; ⟨v, ne h, r.keep tk⟩, R.nd⟩
theorem WA.wne (R : WA H wd L b lp lc lm lt as s) {q : Addr} {v : List V} (h : H q = some (.lst v)) : q ≠ wd := ne_of h R.hx (fun z => nomatch z)
theorem WA.setT (R : WA H wd L b lp lc lm lt as s) {v1 : List V} {to : List (Int × Int × Int × Str)} (r : RpAll H v1 (to.map toD)) : WA (upd H lt (.lst v1)) wd L b lp lc lm lt as { s with to := to } := by
  obtain ⟨v0, h0, _⟩ := R.ht
  have tk : Tk H (upd H lt (.lst v1)) := Tk.lst h0
  have hn := R.nd
  simp only [List.nodup_cons, List.mem_cons, not_or] at hn
  obtain ⟨⟨a1, a2, a3, a4⟩, ⟨b1, b2, b3⟩, ⟨c1, c2⟩, d1, n⟩ := hn
  exact ⟨(upd_ne (Ne.symm (R.wne h0))).trans R.hx, let ⟨v, h, r⟩ := R.hp; ⟨v, (upd_ne a3).trans h, r.keep tk⟩, (upd_ne b2).trans R.hc, (upd_ne c1).trans R.hm, R.la, fun i a ws h1 h2 => let ⟨v, h, r⟩ := R.ha i a ws h1 h2; ⟨v, (upd_ne (show a ≠ lt from fun z => d1 (z ▸ List.mem_of_getElem? h1))).trans h, r.keep tk⟩, ⟨v1, upd_same, r.keep tk⟩, R.nd⟩
theorem WA.setM (R : WA H wd L b lp lc lm lt as s) {g : Nat} {q : Addr} {v1 : List V} {ws : List Wd} (hq : as[g]? = some q) (r : RpAll H v1 (ws.map Wd.d)) : WA (upd H q (.lst v1)) wd L b lp lc lm lt as { s with me := s.me.set g ws } := by
  have hg : g < s.me.length := R.la ▸ (List.getElem?_eq_some_iff.mp hq).1
  obtain ⟨v0, h0, _⟩ := R.ha g q _ hq (List.getElem?_eq_getElem hg)
  have tk : Tk H (upd H q (.lst v1)) := Tk.lst h0
  have hn := R.nd
  simp only [List.nodup_cons, List.mem_cons, not_or] at hn
  obtain ⟨⟨a1, a2, a3, a4⟩, ⟨b1, b2, b3⟩, ⟨c1, c2⟩, d1, n⟩ := hn
  have mq := List.mem_of_getElem? hq
  refine ⟨(upd_ne (Ne.symm (R.wne h0))).trans R.hx, let ⟨v, h, r⟩ := R.hp; ⟨v, (upd_ne (show lp ≠ q from fun z => a4 (z.symm ▸ mq))).trans h, r.keep tk⟩, (upd_ne (show lc ≠ q from fun z => b3 (z.symm ▸ mq))).trans R.hc, (upd_ne (show lm ≠ q from fun z => c2 (z.symm ▸ mq))).trans R.hm, by show as.length = (s.me.set g ws).length; rw [List.length_set]; exact R.la, fun i a ws' h1 h2 => ?_, let ⟨v, h, r⟩ := R.ht; ⟨v, (upd_ne (show lt ≠ q from fun z => d1 (z.symm ▸ mq))).trans h, r.keep tk⟩, R.nd⟩
  have h2' : (s.me.set g ws)[i]? = some ws' := h2
  by_cases e : i = g
  · subst e
    rw [List.getElem?_set_self hg] at h2'
    cases h2'
    rw [hq] at h1
    cases h1
    exact ⟨v1, upd_same, r.keep tk⟩
  · rw [List.getElem?_set_ne (Ne.symm e)] at h2'
    obtain ⟨v, e1, e2⟩ := R.ha i a ws' h1 h2'
    refine ⟨v, (upd_ne fun z => e ?_).trans e1, e2.keep tk⟩
    have l1 := (List.getElem?_eq_some_iff.mp h1)
    have l2 := (List.getElem?_eq_some_iff.mp hq)
    exact (List.getElem_inj (h₀ := l1.1) (h₁ := l2.1) n).mp (l1.2.trans (z.trans l2.2.symm))
end
theorem rd_dget {td ty : TE} {σ : L2.St} {H : Hp} {Q : VK} (h : td σ H fun x H1 => ty σ H1 fun y H2 => ∃ a v, x = V.ref a ∧ DGet H2 a y (some v) ∧ Q v H2) : tDGet td ty σ H Q := h
theorem dg {H : Hp} {a : Addr} {kvs : List (Key × V)} {k : Str} {v : V} (e : H a = some (.dK kvs)) (h : valV kvs (Sum.inr k) = some v) : DGet H a (.str k) (some v) := h ▸ DGet.k (k := Sum.inr k) e
theorem rd_dput {td ty tv : TE} {D : Ends} {σ : L2.St} {H : Hp} (h : tv σ H fun v H1 => td σ H1 fun x H2 => ty σ H2 fun y H3 => ∃ a H4, x = V.ref a ∧ DPut H3 a y v H4 ∧ D.nx σ H4) : sDPut td ty tv D σ H := h
end Rg

/-! pointers by the hand -/
namespace Rg
open PySem PySem.Spec PyProof.Rows L2
theorem mx2 {a b : Int} : nuMax2 (.int a) (.int b) = some (.int (mx a b)) := by
  have h : nuLt (.int a) (.int b) = some (decide (a < b)) := rfl
  unfold nuMax2 mx
  rw [h]
  by_cases c : a < b
  · rw [decide_eq_true c, if_pos (show b > a from c)]; rfl
  · rw [decide_eq_false c, if_neg (show ¬ b > a from c)]; rfl
theorem mx3 {a b c : Int} : nuMax3 (.int a) (.int b) (.int c) = some (.int (mx (mx a b) c)) := by
  unfold nuMax3
  rw [mx2]
  exact mx2
theorem rd_max3 {a b c : Int} {H : Hp} {Q : VK} (h : Q (.int (mx (mx a b) c)) H) : rNuC3 nuMax3 [.int a, .int b, .int c] H Q := ⟨_, _, _, _, rfl, mx3, h⟩
section
variable {H H' : Hp} {wd L lp lc lm lt : Addr} {b : Int} {as : List Addr} {s : Rn}
theorem WA.setP (R : WA H wd L b lp lc lm lt as s) {v1 : List V} {pt : List Pt} (r : RpAll H v1 (pt.map ptD)) : WA (upd H lp (.lst v1)) wd L b lp lc lm lt as { s with pt := pt } := by
  obtain ⟨v0, h0, _⟩ := R.hp
  have tk : Tk H (upd H lp (.lst v1)) := Tk.lst h0
  have hn := R.nd
  simp only [List.nodup_cons, List.mem_cons, not_or] at hn
  obtain ⟨⟨a1, a2, a3, a4⟩, ⟨b1, b2, b3⟩, ⟨c1, c2⟩, d1, n⟩ := hn
  exact ⟨(upd_ne (Ne.symm (R.wne h0))).trans R.hx, ⟨v1, upd_same, r.keep tk⟩, (upd_ne (Ne.symm a1)).trans R.hc, (upd_ne (Ne.symm a2)).trans R.hm, R.la, fun i a ws h1 h2 => let ⟨v, h, r⟩ := R.ha i a ws h1 h2; ⟨v, (upd_ne (show a ≠ lp from fun z => a4 (z ▸ List.mem_of_getElem? h1))).trans h, r.keep tk⟩, let ⟨v, h, r⟩ := R.ht; ⟨v, (upd_ne (Ne.symm a3)).trans h, r.keep tk⟩, R.nd⟩
end
end Rg

/-! the law's own world, rows that run too -/
namespace Rg
open PySem PySem.Spec PyProof.Rows L2
/-- where the rows run: None, or a list of two -/
def AtV (H : Hp) (no : List Addr) (va : V) : Option (Int × Int) → Prop
  | none => va = .non
  | some (g, p) => ∃ q, va = .ref q ∧ H q = some (.lst [.int g, .int p]) ∧ q ∉ no
def CaAll (H : Hp) (no : List Addr) : List V → List (Int × Option (Int × Int)) → Prop
  | [], [] => True
  | u :: v, c :: r => (∃ q va, u = .ref q ∧ H q = some (.tup [.int c.1, va]) ∧ AtV H no va c.2) ∧ CaAll H no v r
  | _, _ => False
theorem AtV.keep {H H' : Hp} {no no' : List Addr} {va : V} (h : ∀ q v, H q = some (.lst v) → q ∉ no → H' q = some (.lst v) ∧ q ∉ no') : ∀ {w : Option (Int × Int)}, AtV H no va w → AtV H' no' va w
  | none, e => e
  | some (_, _), ⟨q, e, h1, h2⟩ => ⟨q, e, (h q _ h1 h2).1, (h q _ h1 h2).2⟩
theorem CaAll.keep {H H' : Hp} {no no' : List Addr} (h : ∀ q v, H q = some (.lst v) → q ∉ no → H' q = some (.lst v) ∧ q ∉ no') (tk : Tk H H') : ∀ {v : List V} {ca : List (Int × Option (Int × Int))}, CaAll H no v ca → CaAll H' no' v ca
  | [], [], _ => trivial
  | _ :: _, _ :: _, ⟨⟨q, va, e, h1, h2⟩, t⟩ => ⟨⟨q, va, e, tk _ _ h1, h2.keep h⟩, CaAll.keep h tk t⟩
  | [], _ :: _, h => h.elim
  | _ :: _, [], h => h.elim
theorem CaAll.len {H : Hp} {no : List Addr} : ∀ {v : List V} {ca : List (Int × Option (Int × Int))}, CaAll H no v ca → v.length = ca.length
  | [], [], _ => rfl
  | _ :: _, _ :: _, ⟨_, t⟩ => by rw [List.length_cons, List.length_cons, t.len]
  | [], _ :: _, h => h.elim
  | _ :: _, [], h => h.elim
theorem CaAll.snoc {H : Hp} {no : List Addr} {u : V} {c : Int × Option (Int × Int)} (hu : ∃ q va, u = .ref q ∧ H q = some (.tup [.int c.1, va]) ∧ AtV H no va c.2) : ∀ {v : List V} {ca : List (Int × Option (Int × Int))}, CaAll H no v ca → CaAll H no (v ++ [u]) (ca ++ [c])
  | [], [], _ => ⟨hu, trivial⟩
  | _ :: _, _ :: _, ⟨h, t⟩ => ⟨h, t.snoc hu⟩
  | [], _ :: _, h => h.elim
  | _ :: _, [], h => h.elim
theorem CaAll.unsnoc {H : Hp} {no : List Addr} : ∀ {v : List V} {ca : List (Int × Option (Int × Int))} {c : Int × Option (Int × Int)}, CaAll H no v ca → ca.getLast? = some c → ∃ v' q va, v = v' ++ [.ref q] ∧ H q = some (.tup [.int c.1, va]) ∧ AtV H no va c.2 ∧ CaAll H no v' ca.dropLast
  | [], [], _, _, e => by cases e
  | [u], [c1], c, ⟨⟨q, va, e0, h1, h2⟩, _⟩, e => by
    subst e0
    cases e
    exact ⟨[], q, va, rfl, h1, h2, trivial⟩
  | u :: u' :: v, c1 :: c2 :: r, c, ⟨h, t⟩, e => by
    rw [List.getLast?_cons_cons] at e
    obtain ⟨v', q, va, e1, h1, h2, t'⟩ := CaAll.unsnoc t e
    exact ⟨u :: v', q, va, by rw [e1]; rfl, h1, h2, h, t'⟩
  | [_], _ :: _ :: _, _, ⟨_, h⟩, _ => h.elim
  | _ :: _ :: _, [_], _, ⟨_, h⟩, _ => h.elim
  | [], _ :: _, _, h, _ => h.elim
  | _ :: _, [], _, h, _ => h.elim
/-- the world while a deed is done -/
structure WG (H : Hp) (wd L : Addr) (b : Int) (lp lc lm lt : Addr) (as : List Addr) (va : V) (s : Rn) : Prop where
  hx : H wd = some (.dK (wF (.ref L) (.int b) (.int s.ring) (.int s.a) (.ref lp) (.ref lc) (.ref lm) va (.ref lt)))
  hp : ∃ v, H lp = some (.lst v) ∧ RpAll H v (s.pt.map ptD)
  hc : ∃ v, H lc = some (.lst v) ∧ CaAll H (lp :: lc :: lm :: lt :: as) v s.ca
  hm : H lm = some (.lst (as.map V.ref))
  la : as.length = s.me.length
  ha : ∀ (i : Nat) (a : Addr) (ws : List Wd), as[i]? = some a → s.me[i]? = some ws → ∃ v, H a = some (.lst v) ∧ RpAll H v (ws.map Wd.d)
  ht : ∃ v, H lt = some (.lst v) ∧ RpAll H v (s.to.map toD)
  nd : (lp :: lc :: lm :: lt :: as).Nodup
  hv : AtV H (lp :: lc :: lm :: lt :: as) va s.wh
section
variable {H H' : Hp} {wd L lp lc lm lt : Addr} {b : Int} {as : List Addr} {va : V} {s : Rn}
theorem WG.same (R : WG H wd L b lp lc lm lt as va s) (e : Same H H') : WG H' wd L b lp lc lm lt as va s where
  hx := e _ _ R.hx
  hp := let ⟨v, h, r⟩ := R.hp; ⟨v, e _ _ h, r.keep (Tk.of e)⟩
  hc := let ⟨v, h, r⟩ := R.hc; ⟨v, e _ _ h, r.keep (fun q v h n => ⟨e _ _ h, n⟩) (Tk.of e)⟩
  hm := e _ _ R.hm
  la := R.la
  ha := fun i a ws h1 h2 => let ⟨v, h, r⟩ := R.ha i a ws h1 h2; ⟨v, e _ _ h, r.keep (Tk.of e)⟩
  ht := let ⟨v, h, r⟩ := R.ht; ⟨v, e _ _ h, r.keep (Tk.of e)⟩
  nd := R.nd
  hv := R.hv.keep fun q v h n => ⟨e _ _ h, n⟩
theorem WG.wne (R : WG H wd L b lp lc lm lt as va s) {q : Addr} {v : List V} (h : H q = some (.lst v)) : q ≠ wd := ne_of h R.hx (fun z => nomatch z)
/-- one of the lists becomes another -/
theorem WG.lists (R : WG H wd L b lp lc lm lt as va s) {q : Addr} {v0 v1 : List V} (hq : H q = some (.lst v0)) (hn : q ∈ lp :: lc :: lm :: lt :: as) (s' : Rn) (er : s'.ring = s.ring) (ea : s'.a = s.a) (ew : s'.wh = s.wh) (el : s'.me.length = s.me.length)
    (h1 : (q = lp ∧ RpAll H v1 (s'.pt.map ptD)) ∨ (q ≠ lp ∧ s'.pt = s.pt)) (h2 : (q = lc ∧ CaAll H (lp :: lc :: lm :: lt :: as) v1 s'.ca) ∨ (q ≠ lc ∧ s'.ca = s.ca)) (h3 : q ≠ lm) (h4 : (q = lt ∧ RpAll H v1 (s'.to.map toD)) ∨ (q ≠ lt ∧ s'.to = s.to))
    (h5 : ∀ (i : Nat) (a : Addr) (ws : List Wd), as[i]? = some a → s'.me[i]? = some ws → (a = q ∧ RpAll H v1 (ws.map Wd.d)) ∨ (a ≠ q ∧ s.me[i]? = some ws)) : WG (upd H q (.lst v1)) wd L b lp lc lm lt as va s' := by
  have tk : Tk H (upd H q (.lst v1)) := Tk.lst hq
  have kp : ∀ c v, H c = some (.lst v) → c ∉ lp :: lc :: lm :: lt :: as → upd H q (.lst v1) c = some (.lst v) ∧ c ∉ lp :: lc :: lm :: lt :: as := fun c v h n => ⟨(upd_ne fun (z : c = q) => n (by rw [z]; exact hn)).trans h, n⟩
  refine ⟨?_, ?_, ?_, (upd_ne (Ne.symm h3)).trans R.hm, R.la.trans el.symm, fun i a ws e1 e2 => ?_, ?_, R.nd, ?_⟩
  · rw [er, ea]
    exact (upd_ne (Ne.symm (R.wne hq))).trans R.hx
  · rcases h1 with ⟨rfl, h⟩ | ⟨h, e⟩
    · exact ⟨v1, upd_same, h.keep tk⟩
    · obtain ⟨v, e1, r⟩ := R.hp
      rw [e]
      exact ⟨v, (upd_ne (Ne.symm h)).trans e1, r.keep tk⟩
  · rcases h2 with ⟨rfl, h⟩ | ⟨h, e⟩
    · exact ⟨v1, upd_same, h.keep kp tk⟩
    · obtain ⟨v, e1, r⟩ := R.hc
      rw [e]
      exact ⟨v, (upd_ne (Ne.symm h)).trans e1, r.keep kp tk⟩
  · rcases h5 i a ws e1 e2 with ⟨rfl, h⟩ | ⟨h, e⟩
    · exact ⟨v1, upd_same, h.keep tk⟩
    · obtain ⟨v, e3, r⟩ := R.ha i a ws e1 e
      exact ⟨v, (upd_ne h).trans e3, r.keep tk⟩
  · rcases h4 with ⟨rfl, h⟩ | ⟨h, e⟩
    · exact ⟨v1, upd_same, h.keep tk⟩
    · obtain ⟨v, e1, r⟩ := R.ht
      rw [e]
      exact ⟨v, (upd_ne (Ne.symm h)).trans e1, r.keep tk⟩
  · rw [ew]
    exact R.hv.keep kp
theorem WG.setT (R : WG H wd L b lp lc lm lt as va s) {v1 : List V} {to : List (Int × Int × Int × Str)} (r : RpAll H v1 (to.map toD)) : WG (upd H lt (.lst v1)) wd L b lp lc lm lt as va { s with to := to } := by
  obtain ⟨v0, h0, _⟩ := R.ht
  have hn := R.nd
  simp only [List.nodup_cons, List.mem_cons, not_or] at hn
  obtain ⟨⟨a1, a2, a3, a4⟩, ⟨b1, b2, b3⟩, ⟨c1, c2⟩, d1, n⟩ := hn
  exact R.lists h0 (by simp) _ rfl rfl rfl rfl (.inr ⟨Ne.symm a3, rfl⟩) (.inr ⟨Ne.symm b2, rfl⟩) (Ne.symm c1) (.inl ⟨rfl, r⟩) fun i a ws e1 e2 => .inr ⟨fun z => d1 (z ▸ List.mem_of_getElem? e1), e2⟩
theorem WG.setP (R : WG H wd L b lp lc lm lt as va s) {v1 : List V} {pt : List Pt} (r : RpAll H v1 (pt.map ptD)) : WG (upd H lp (.lst v1)) wd L b lp lc lm lt as va { s with pt := pt } := by
  obtain ⟨v0, h0, _⟩ := R.hp
  have hn := R.nd
  simp only [List.nodup_cons, List.mem_cons, not_or] at hn
  obtain ⟨⟨a1, a2, a3, a4⟩, ⟨b1, b2, b3⟩, ⟨c1, c2⟩, d1, n⟩ := hn
  exact R.lists h0 (by simp) _ rfl rfl rfl rfl (.inl ⟨rfl, r⟩) (.inr ⟨a1, rfl⟩) a2 (.inr ⟨a3, rfl⟩) fun i a ws e1 e2 => .inr ⟨fun z => a4 (z ▸ List.mem_of_getElem? e1), e2⟩
theorem WG.setC (R : WG H wd L b lp lc lm lt as va s) {v1 : List V} {ca : List (Int × Option (Int × Int))} (r : CaAll H (lp :: lc :: lm :: lt :: as) v1 ca) : WG (upd H lc (.lst v1)) wd L b lp lc lm lt as va { s with ca := ca } := by
  obtain ⟨v0, h0, _⟩ := R.hc
  have hn := R.nd
  simp only [List.nodup_cons, List.mem_cons, not_or] at hn
  obtain ⟨⟨a1, a2, a3, a4⟩, ⟨b1, b2, b3⟩, ⟨c1, c2⟩, d1, n⟩ := hn
  exact R.lists h0 (by simp) _ rfl rfl rfl rfl (.inr ⟨Ne.symm a1, rfl⟩) (.inl ⟨rfl, r⟩) b1 (.inr ⟨b2, rfl⟩) fun i a ws e1 e2 => .inr ⟨fun z => b3 (z ▸ List.mem_of_getElem? e1), e2⟩
theorem WG.setM (R : WG H wd L b lp lc lm lt as va s) {g : Nat} {q : Addr} {v1 : List V} {ws : List Wd} (hq : as[g]? = some q) (r : RpAll H v1 (ws.map Wd.d)) : WG (upd H q (.lst v1)) wd L b lp lc lm lt as va { s with me := s.me.set g ws } := by
  have hg : g < s.me.length := R.la ▸ (List.getElem?_eq_some_iff.mp hq).1
  obtain ⟨v0, h0, _⟩ := R.ha g q _ hq (List.getElem?_eq_getElem hg)
  have hn := R.nd
  simp only [List.nodup_cons, List.mem_cons, not_or] at hn
  obtain ⟨⟨a1, a2, a3, a4⟩, ⟨b1, b2, b3⟩, ⟨c1, c2⟩, d1, n⟩ := hn
  have mq := List.mem_of_getElem? hq
  refine R.lists h0 (by simp [mq]) _ rfl rfl rfl (by show (s.me.set g ws).length = s.me.length; rw [List.length_set]) (.inr ⟨fun z => a4 (z ▸ mq), rfl⟩) (.inr ⟨fun z => b3 (z ▸ mq), rfl⟩) (fun z => c2 (z ▸ mq)) (.inr ⟨fun z => d1 (z ▸ mq), rfl⟩) fun i a ws' h1 h2 => ?_
  have h2' : (s.me.set g ws)[i]? = some ws' := h2
  by_cases e : i = g
  · subst e
    rw [List.getElem?_set_self hg] at h2'
    cases h2'
    rw [hq] at h1
    cases h1
    exact .inl ⟨rfl, r⟩
  · rw [List.getElem?_set_ne (Ne.symm e)] at h2'
    refine .inr ⟨fun z => e ?_, h2'⟩
    have l1 := (List.getElem?_eq_some_iff.mp h1)
    have l2 := (List.getElem?_eq_some_iff.mp hq)
    exact (List.getElem_inj (h₀ := l1.1) (h₁ := l2.1) n).mp (l1.2.trans (z.trans l2.2.symm))
/-- the dict becomes another -/
theorem WG.dict (R : WG H wd L b lp lc lm lt as va s) (s' : Rn) {va' : V} (ep : s'.pt = s.pt) (ec : s'.ca = s.ca) (em : s'.me = s.me) (et : s'.to = s.to) (hv : AtV H (lp :: lc :: lm :: lt :: as) va' s'.wh) :
    WG (upd H wd (.dK (wF (.ref L) (.int b) (.int s'.ring) (.int s'.a) (.ref lp) (.ref lc) (.ref lm) va' (.ref lt)))) wd L b lp lc lm lt as va' s' := by
  have tk : Tk H (upd H wd (.dK (wF (.ref L) (.int b) (.int s'.ring) (.int s'.a) (.ref lp) (.ref lc) (.ref lm) va' (.ref lt)))) := Tk.dct R.hx
  have ne : ∀ {q : Addr} {v : List V}, H q = some (.lst v) → upd H wd (.dK (wF (.ref L) (.int b) (.int s'.ring) (.int s'.a) (.ref lp) (.ref lc) (.ref lm) va' (.ref lt))) q = some (.lst v) := fun {q v} h => (upd_ne (ne_of h R.hx (fun z => nomatch z))).trans h
  exact ⟨upd_same, let ⟨v, h, r⟩ := R.hp; ⟨v, ne h, ep ▸ r.keep tk⟩, let ⟨v, h, r⟩ := R.hc; ⟨v, ne h, ec ▸ r.keep (fun q v h n => ⟨ne h, n⟩) tk⟩, ne R.hm, em ▸ R.la, fun i a ws h1 h2 => let ⟨v, h, r⟩ := R.ha i a ws h1 (em ▸ h2); ⟨v, ne h, r.keep tk⟩, let ⟨v, h, r⟩ := R.ht; ⟨v, ne h, et ▸ r.keep tk⟩, R.nd, hv.keep fun q v h n => ⟨ne h, n⟩⟩
theorem WG.setA (R : WG H wd L b lp lc lm lt as va s) (n : Int) : WG (upd H wd (.dK (putK (wF (.ref L) (.int b) (.int s.ring) (.int s.a) (.ref lp) (.ref lc) (.ref lm) va (.ref lt)) (Sum.inr ("a" : Str) : Key) (.int n)))) wd L b lp lc lm lt as va { s with a := n } := by
  rw [pw_a]
  exact R.dict { s with a := n } rfl rfl rfl rfl R.hv
/-- the pointers become another list -/
theorem WG.newP (R : WG H wd L b lp lc lm lt as va s) {lq : Addr} {v1 : List V} {pt : List Pt} (hq : H lq = some (.lst v1)) (r : RpAll H v1 (pt.map ptD)) (h2 : lq ∉ lp :: lc :: lm :: lt :: as) (hc : ∃ v, H lc = some (.lst v) ∧ CaAll H (lq :: lc :: lm :: lt :: as) v s.ca) (hv : AtV H (lq :: lc :: lm :: lt :: as) va s.wh) :
    WG (upd H wd (.dK (wF (.ref L) (.int b) (.int s.ring) (.int s.a) (.ref lq) (.ref lc) (.ref lm) va (.ref lt)))) wd L b lq lc lm lt as va { s with pt := pt } := by
  have tk : Tk H (upd H wd (.dK (wF (.ref L) (.int b) (.int s.ring) (.int s.a) (.ref lq) (.ref lc) (.ref lm) va (.ref lt)))) := Tk.dct R.hx
  have ne : ∀ {q : Addr} {v : List V}, H q = some (.lst v) → upd H wd (.dK (wF (.ref L) (.int b) (.int s.ring) (.int s.a) (.ref lq) (.ref lc) (.ref lm) va (.ref lt))) q = some (.lst v) := fun {q v} h => (upd_ne (ne_of h R.hx (fun z => nomatch z))).trans h
  have hn := R.nd
  simp only [List.mem_cons, not_or] at h2
  refine ⟨upd_same, ⟨v1, ne hq, r.keep tk⟩, let ⟨v, h, r⟩ := hc; ⟨v, ne h, r.keep (fun q v h n => ⟨ne h, n⟩) tk⟩, ne R.hm, R.la, fun i a ws h1 h2 => let ⟨v, h, r⟩ := R.ha i a ws h1 h2; ⟨v, ne h, r.keep tk⟩, let ⟨v, h, r⟩ := R.ht; ⟨v, ne h, r.keep tk⟩, ?_, hv.keep fun q v h n => ⟨ne h, n⟩⟩
  have hn' := (List.nodup_cons.mp hn).2
  refine List.nodup_cons.mpr ⟨?_, hn'⟩
  simp only [List.mem_cons, not_or]
  exact h2.2
end
/-- two readings of one def -/
theorem FnOk.or {P : Program} {w : World} {K : PySem.W.Frag} {mg : Str → Option Value} {base : Heap} {CX : CXT} {k : Nat} {f : Addr} {fd : FuncData} {ps : List Str} {sp sp' : Sp} (A : FnOk P w K mg base CX k f fd ps sp) (B : FnOk P w K mg base CX k f fd ps sp') : FnOk P w K mg base CX k f fd ps (fun vs H Q E => sp vs H Q E ∨ sp' vs H Q E) :=
  ⟨fun vs H Q E h => h.elim (A.len vs H Q E) (B.len vs H Q E), fun A1 o s H a us vs Q E r e b v h => h.elim (A.run A1 o s H a us vs Q E r e b v) (B.run A1 o s H a us vs Q E r e b v)⟩
structure WGt (H0 H : Hp) (wd L : Addr) (b : Int) (s : Rn) : Prop where
  ex : ∃ lp lc lm lt as va, WG H wd L b lp lc lm lt as va s ∧ ∀ a ∈ wd :: lp :: lc :: lm :: lt :: as, H0 a = none
  sm : Same H0 H
theorem WGt.same {H0 H H' : Hp} {wd L : Addr} {b : Int} {s : Rn} (R : WGt H0 H wd L b s) (e : Same H H') : WGt H0 H' wd L b s :=
  let ⟨lp, lc, lm, lt, as, va, r, n⟩ := R.ex; ⟨⟨lp, lc, lm, lt, as, va, r.same e, n⟩, R.sm.trans e⟩
def fltG : Option Str → V
  | none => .non
  | some c => .str c
def GEnd (Q : VK) (H0 H : Hp) (wd L : Addr) (b : Int) (res : Rn × Option Str) : Prop := ∀ H', WGt H0 H' wd L b res.1 → Tk H H' → Q (fltG res.2) H'
end Rg

namespace Rg
open PySem PySem.Spec L2
def top (i : Nat) : Stmt := PySem.Challenge.pw_ringgates_k30_whole_any_lists_judged.main.body.getD i (.Pass ⟨0, 0, 0, 0⟩)
abbrev s_RingError__init : Stmt := inClass (top 1) 0
theorem sc_RingError__init : FnScope ["self", "what"] ["self", "what"] (defScope s_RingError__init) := ⟨rfl, rfl, rfl, by decide +kernel, rfl, by decide +kernel, by decide +kernel⟩
abbrev s_NoMachine__init : Stmt := inClass (top 2) 0
theorem sc_NoMachine__init : FnScope ["self", "what"] ["self", "what"] (defScope s_NoMachine__init) := ⟨rfl, rfl, rfl, by decide +kernel, rfl, by decide +kernel, by decide +kernel⟩
abbrev s_NoSegment__init : Stmt := inClass (top 3) 0
theorem sc_NoSegment__init : FnScope ["self", "what"] ["self", "what"] (defScope s_NoSegment__init) := ⟨rfl, rfl, rfl, by decide +kernel, rfl, by decide +kernel, by decide +kernel⟩
abbrev s_is_whole : Stmt := top 13
theorem sc_is_whole : FnScope ["number"] ["number"] (defScope s_is_whole) := ⟨rfl, rfl, rfl, by decide +kernel, rfl, by decide +kernel, by decide +kernel⟩
abbrev s_is_below : Stmt := top 14
theorem sc_is_below : FnScope ["number", "bound"] ["number", "bound"] (defScope s_is_below) := ⟨rfl, rfl, rfl, by decide +kernel, rfl, by decide +kernel, by decide +kernel⟩
abbrev s_is_ring : Stmt := top 15
theorem sc_is_ring : FnScope ["number"] ["number"] (defScope s_is_ring) := ⟨rfl, rfl, rfl, by decide +kernel, rfl, by decide +kernel, by decide +kernel⟩
abbrev s_number_fits : Stmt := top 16
theorem sc_number_fits : FnScope ["letter", "number", "many"] ["letter", "number", "many"] (defScope s_number_fits) := ⟨rfl, rfl, rfl, by decide +kernel, rfl, by decide +kernel, by decide +kernel⟩
abbrev s_row_fits : Stmt := top 17
theorem sc_row_fits : FnScope ["row", "many", "letters", "letter", "number"] ["row", "many"] (defScope s_row_fits) := ⟨rfl, rfl, rfl, by decide +kernel, rfl, by decide +kernel, by decide +kernel⟩
abbrev s_word_fits : Stmt := top 18
theorem sc_word_fits : FnScope ["word", "base", "many", "ring", "segment", "place"] ["word", "base", "many"] (defScope s_word_fits) := ⟨rfl, rfl, rfl, by decide +kernel, rfl, by decide +kernel, by decide +kernel⟩
abbrev s_brackets_fit : Stmt := top 19
theorem sc_brackets_fit : FnScope ["brackets", "r1", "r2", "r3", "ring"] ["brackets"] (defScope s_brackets_fit) := ⟨rfl, rfl, rfl, by decide +kernel, rfl, by decide +kernel, by decide +kernel⟩
abbrev s_segment_fits : Stmt := top 20
theorem sc_segment_fits : FnScope ["segment", "base", "many", "brackets", "rights", "gates", "words", "rows", "word", "row"] ["segment", "base", "many"] (defScope s_segment_fits) := ⟨rfl, rfl, rfl, by decide +kernel, rfl, by decide +kernel, by decide +kernel⟩
abbrev s_Machine__init : Stmt := inClass (top 23) 0
theorem sc_Machine__init : FnScope ["self", "segments", "base", "many", "number", "segment"] ["self", "segments", "base"] (defScope s_Machine__init) := ⟨rfl, rfl, rfl, by decide +kernel, rfl, by decide +kernel, by decide +kernel⟩
abbrev s_Machine_segment : Stmt := inClass (top 23) 1
theorem sc_Machine_segment : FnScope ["self", "number"] ["self", "number"] (defScope s_Machine_segment) := ⟨rfl, rfl, rfl, by decide +kernel, rfl, by decide +kernel, by decide +kernel⟩
abbrev s_Machine__len : Stmt := inClass (top 23) 2
theorem sc_Machine__len : FnScope ["self"] ["self"] (defScope s_Machine__len) := ⟨rfl, rfl, rfl, by decide +kernel, rfl, by decide +kernel, by decide +kernel⟩
abbrev s_Machine__eq : Stmt := inClass (top 23) 3
theorem sc_Machine__eq : FnScope ["self", "other"] ["self", "other"] (defScope s_Machine__eq) := ⟨rfl, rfl, rfl, by decide +kernel, rfl, by decide +kernel, by decide +kernel⟩
abbrev s_Machine__ne : Stmt := inClass (top 23) 4
theorem sc_Machine__ne : FnScope ["self", "other"] ["self", "other"] (defScope s_Machine__ne) := ⟨rfl, rfl, rfl, by decide +kernel, rfl, by decide +kernel, by decide +kernel⟩
abbrev s_may_read : Stmt := top 24
theorem sc_may_read : FnScope ["segment", "ring", "brackets", "rights"] ["segment", "ring"] (defScope s_may_read) := ⟨rfl, rfl, rfl, by decide +kernel, rfl, by decide +kernel, by decide +kernel⟩
abbrev s_may_write : Stmt := top 25
theorem sc_may_write : FnScope ["segment", "ring", "brackets", "rights"] ["segment", "ring"] (defScope s_may_write) := ⟨rfl, rfl, rfl, by decide +kernel, rfl, by decide +kernel, by decide +kernel⟩
abbrev s_may_run : Stmt := top 26
theorem sc_may_run : FnScope ["segment", "ring", "brackets", "rights"] ["segment", "ring"] (defScope s_may_run) := ⟨rfl, rfl, rfl, by decide +kernel, rfl, by decide +kernel, by decide +kernel⟩
abbrev s_Fault__init : Stmt := inClass (top 28) 0
theorem sc_Fault__init : FnScope ["self", "cause"] ["self", "cause"] (defScope s_Fault__init) := ⟨rfl, rfl, rfl, by decide +kernel, rfl, by decide +kernel, by decide +kernel⟩
abbrev s_entered : Stmt := top 29
theorem sc_entered : FnScope ["segment", "place", "e", "r1", "r2", "r3", "rights", "gates", "words", "rows"] ["segment", "place", "e"] (defScope s_entered) := ⟨rfl, rfl, rfl, by decide +kernel, rfl, by decide +kernel, by decide +kernel⟩
abbrev s_keeps : Stmt := top 31
theorem sc_keeps : FnScope ["machine", "ring", "steps", "touches", "touch", "step"] ["machine", "ring", "steps", "touches"] (defScope s_keeps) := ⟨rfl, rfl, rfl, by decide +kernel, rfl, by decide +kernel, by decide +kernel⟩
abbrev s_touch_fits : Stmt := top 32
theorem sc_touch_fits : FnScope ["machine", "touch", "ring", "number", "place", "way", "segment"] ["machine", "touch"] (defScope s_touch_fits) := ⟨rfl, rfl, rfl, by decide +kernel, rfl, by decide +kernel, by decide +kernel⟩
abbrev s_step_fits : Stmt := top 33
theorem sc_step_fits : FnScope ["machine", "step", "ring", "number", "place", "calls", "segment"] ["machine", "step"] (defScope s_step_fits) := ⟨rfl, rfl, rfl, by decide +kernel, rfl, by decide +kernel, by decide +kernel⟩
abbrev s_begins_well : Stmt := top 34
theorem sc_begins_well : FnScope ["machine", "ring", "steps"] ["machine", "ring", "steps"] (defScope s_begins_well) := ⟨rfl, rfl, rfl, by decide +kernel, rfl, by decide +kernel, by decide +kernel⟩
abbrev s_goes_on_well : Stmt := top 35
theorem sc_goes_on_well : FnScope ["machine", "steps", "last", "step", "behind"] ["machine", "steps"] (defScope s_goes_on_well) := ⟨rfl, rfl, rfl, by decide +kernel, rfl, by decide +kernel, by decide +kernel⟩
abbrev s_follows : Stmt := top 36
theorem sc_follows : FnScope ["machine", "step", "behind", "last", "ring", "number", "place", "calls", "word"] ["machine", "step", "behind", "last"] (defScope s_follows) := ⟨rfl, rfl, rfl, by decide +kernel, rfl, by decide +kernel, by decide +kernel⟩
abbrev s_is_entered : Stmt := top 37
theorem sc_is_entered : FnScope ["machine", "step", "from_ring", "ring", "number", "place", "calls", "segment", "e"] ["machine", "step", "from_ring"] (defScope s_is_entered) := ⟨rfl, rfl, rfl, by decide +kernel, rfl, by decide +kernel, by decide +kernel⟩
abbrev s_ring_led_to : Stmt := top 38
theorem sc_ring_led_to : FnScope ["segment", "place", "e"] ["segment", "place", "e"] (defScope s_ring_led_to) := ⟨rfl, rfl, rfl, by decide +kernel, rfl, by decide +kernel, by decide +kernel⟩
abbrev s_is_come_back_to : Stmt := top 39
theorem sc_is_come_back_to : FnScope ["step", "call", "ring", "number", "place", "calls"] ["step", "call"] (defScope s_is_come_back_to) := ⟨rfl, rfl, rfl, by decide +kernel, rfl, by decide +kernel, by decide +kernel⟩
abbrev s_law_deck : Stmt := top 41
theorem sc_law_deck : FnScope ["script", "great", "fold", "cell"] ["script"] (defScope s_law_deck) := ⟨rfl, rfl, rfl, by decide +kernel, rfl, by decide +kernel, by decide +kernel⟩
abbrev s_law_take : Stmt := top 42
theorem sc_law_take : FnScope ["deck", "many", "drawn", "k", "mixed"] ["deck", "many"] (defScope s_law_take) := ⟨rfl, rfl, rfl, by decide +kernel, rfl, by decide +kernel, by decide +kernel⟩
abbrev s_law_number : Stmt := top 43
theorem sc_law_number : FnScope ["deck", "pick"] ["deck"] (defScope s_law_number) := ⟨rfl, rfl, rfl, by decide +kernel, rfl, by decide +kernel, by decide +kernel⟩
abbrev s_law_word : Stmt := top 44
theorem sc_law_word : FnScope ["deck", "many", "scale"] ["deck", "many", "scale"] (defScope s_law_word) := ⟨rfl, rfl, rfl, by decide +kernel, rfl, by decide +kernel, by decide +kernel⟩
abbrev s_law_row : Stmt := top 45
theorem sc_law_row : FnScope ["deck", "many", "p", "q", "pick", "far"] ["deck", "many"] (defScope s_law_row) := ⟨rfl, rfl, rfl, by decide +kernel, rfl, by decide +kernel, by decide +kernel⟩
abbrev s_law_segment : Stmt := top 46
theorem sc_law_segment : FnScope ["deck", "many", "scale", "least", "middle", "last", "rights", "words", "rows", "gates", "k"] ["deck", "many", "scale"] (defScope s_law_segment) := ⟨rfl, rfl, rfl, by decide +kernel, rfl, by decide +kernel, by decide +kernel⟩
abbrev s_law_machine : Stmt := top 47
theorem sc_law_machine : FnScope ["deck", "many", "scale", "k"] ["deck"] (defScope s_law_machine) := ⟨rfl, rfl, rfl, by decide +kernel, rfl, by decide +kernel, by decide +kernel⟩
abbrev s_law_stand : Stmt := top 48
theorem sc_law_stand : FnScope ["deck", "segments", "scale", "many", "home", "pointers", "k", "one", "memory", "segment", "words", "word"] ["deck", "segments", "scale"] (defScope s_law_stand) := ⟨rfl, rfl, rfl, by decide +kernel, rfl, by decide +kernel, by decide +kernel⟩
abbrev s_law_segment_at : Stmt := top 49
theorem sc_law_segment_at : FnScope ["segments", "number"] ["segments", "number"] (defScope s_law_segment_at) := ⟨rfl, rfl, rfl, by decide +kernel, rfl, by decide +kernel, by decide +kernel⟩
abbrev s_law_touch_good : Stmt := top 50
theorem sc_law_touch_good : FnScope ["segments", "touch", "ring", "number", "place", "letter", "segment"] ["segments", "touch"] (defScope s_law_touch_good) := ⟨rfl, rfl, rfl, by decide +kernel, rfl, by decide +kernel, by decide +kernel⟩
abbrev s_law_step_row : Stmt := top 51
theorem sc_law_step_row : FnScope ["segments", "step", "segment"] ["segments", "step"] (defScope s_law_step_row) := ⟨rfl, rfl, rfl, by decide +kernel, rfl, by decide +kernel, by decide +kernel⟩
abbrev s_law_led : Stmt := top 52
theorem sc_law_led : FnScope ["segment", "place", "ring", "low", "middle", "last"] ["segment", "place", "ring"] (defScope s_law_led) := ⟨rfl, rfl, rfl, by decide +kernel, rfl, by decide +kernel, by decide +kernel⟩
abbrev s_law_entered : Stmt := top 53
theorem sc_law_entered : FnScope ["segments", "ring", "step", "one"] ["segments", "ring", "step"] (defScope s_law_entered) := ⟨rfl, rfl, rfl, by decide +kernel, rfl, by decide +kernel, by decide +kernel⟩
abbrev s_law_behind : Stmt := top 54
theorem sc_law_behind : FnScope ["segments", "steps", "at", "before", "step", "word", "some", "one"] ["segments", "steps", "at"] (defScope s_law_behind) := ⟨rfl, rfl, rfl, by decide +kernel, rfl, by decide +kernel, by decide +kernel⟩
abbrev s_law_keeps : Stmt := top 55
theorem sc_law_keeps : FnScope ["segments", "ring", "steps", "touches", "touch", "step", "at"] ["segments", "ring", "steps", "touches"] (defScope s_law_keeps) := ⟨rfl, rfl, rfl, by decide +kernel, rfl, by decide +kernel, by decide +kernel⟩
abbrev s_law_spoilt : Stmt := top 56
theorem sc_law_spoilt : FnScope ["deck", "rows", "far", "at", "pick", "row", "part", "other"] ["deck", "rows", "far"] (defScope s_law_spoilt) := ⟨rfl, rfl, rfl, by decide +kernel, rfl, by decide +kernel, by decide +kernel⟩
abbrev s_law_entry_drawn : Stmt := top 57
theorem sc_law_entry_drawn : FnScope ["deck", "segments", "ring", "calls", "some", "segment", "place", "led", "k"] ["deck", "segments", "ring", "calls"] (defScope s_law_entry_drawn) := ⟨rfl, rfl, rfl, by decide +kernel, rfl, by decide +kernel, by decide +kernel⟩
abbrev s_law_steps_drawn : Stmt := top 58
theorem sc_law_steps_drawn : FnScope ["deck", "segments", "ring", "steps", "k", "last", "row", "word", "some", "one"] ["deck", "segments", "ring"] (defScope s_law_steps_drawn) := ⟨rfl, rfl, rfl, by decide +kernel, rfl, by decide +kernel, by decide +kernel⟩
abbrev s_law_touches_drawn : Stmt := top 59
theorem sc_law_touches_drawn : FnScope ["deck", "segments", "found", "k", "segment", "ring", "place"] ["deck", "segments"] (defScope s_law_touches_drawn) := ⟨rfl, rfl, rfl, by decide +kernel, rfl, by decide +kernel, by decide +kernel⟩
abbrev s_law : Stmt := top 60
theorem sc_law : FnScope ["script", "deck", "turn", "rows", "scale", "scene", "hand", "ran", "touched", "k", "one", "other", "found"] ["script"] (defScope s_law) := ⟨rfl, rfl, rfl, by decide +kernel, rfl, by decide +kernel, by decide +kernel⟩
end Rg

namespace Rg
open PySem PySem.Spec L2
local macro_rules | `(tactic| walk_at "rd1") => `(tactic| first
  | with_reducible refine rd_seq ?_
  | with_reducible refine rd_asg ?_
  | ((with_reducible show tVar _ _ _ _); refine rd_var rfl ?_)
  | with_reducible refine rd_c ?_
  | with_reducible refine rd_op ?_
  | with_reducible refine rd_I0 ?_
  | with_reducible refine rd_name ?_
  | with_reducible refine rd_ret ?_
  | with_reducible refine rd_ifs ?_
  | with_reducible refine rd_test ?_
  | with_reducible refine rd_tB ?_
  | with_reducible refine rd_bl ?_
  | with_reducible refine rd_drop ?_
  | with_reducible refine rd_nil ?_
  | with_reducible refine rd_cons ?_
  | with_reducible refine rd_call ?_
  | with_reducible refine rd_cb ?_
  | with_reducible refine rd_tup ?_
  | with_reducible refine rd_lst ?_
  | with_reducible refine rd_and ?_
  | with_reducible refine rd_or ?_
  | with_reducible refine rd_not ?_
  | with_reducible refine rd_andV ?_
  | with_reducible refine rd_orV ?_
  | with_reducible refine rd_notV ?_
  | with_reducible refine rd_chain ?_
  | with_reducible refine rd_un ?_
  | with_reducible refine rd_isN ?_
  | with_reducible refine rd_bm ?_
  | with_reducible refine rd_bm0 ?_
  | with_reducible refine rd_gsub ?_
  | with_reducible refine rd_sl ?_
  | with_reducible refine rd_gt ?_
  | with_reducible refine rd_yes ?_
  | with_reducible refine rd_gcons ?_
  | with_reducible refine rd_gnil ?_
  | with_reducible refine rd_part ?_
  | with_reducible refine rd_nopart ?_
  | ((with_reducible show gTup _ _ _ _ _ _ _); refine rd_gtup (by first | assumption | exact upd_same) rfl ?_)
  | ((with_reducible show gLst _ _ _ _ _ _ _); refine rd_glst (by first | assumption | exact upd_same) rfl ?_)
  | ((with_reducible show rIsi _ _ _ _); first | refine rd_isi (b := true) (.ty _) (.base (by first | exact .int _ | exact .str _ | exact .bl _ | exact .non | exact .tup (by assumption) | exact .lst (by assumption))) (kit_ty (by decide +kernel)) ?_ | refine rd_isi (b := false) (.ty _) (.base (by first | exact .int _ | exact .str _ | exact .bl _ | exact .non | exact .tup (by assumption) | exact .lst (by assumption))) (kit_ty (by decide +kernel)) ?_)
  | with_reducible refine rd_fld ?_
  | with_reducible refine rd_sfld ?_
  | with_reducible refine rd_meth ?_
  | with_reducible refine rd_make ?_
  | with_reducible refine rd_makeK ?_
  | with_reducible refine rd_U ?_
  | with_reducible refine rd_makeKS ?_
  | with_reducible refine rd_callN ?_
  | with_reducible refine rd_rs ?_
  | with_reducible refine rd_rf ?_
  | with_reducible refine rd_star ?_
  | with_reducible refine rd_callS ?_
  | with_reducible refine rd_for ?_
  | with_reducible refine rd_lc ?_
  | with_reducible refine rd_ilist ?_
  | with_reducible refine rd_itup ?_
  | with_reducible refine rd_irng ?_
  | with_reducible refine rd_izipS ?_
  | with_reducible refine rd_ienum ?_
  | with_reducible refine rd_ienT ?_
  | with_reducible refine rd_next ?_
  | with_reducible refine rd_eq rfl ?_
  | with_reducible refine rd_ne rfl ?_
  | with_reducible refine iteT ?_
  | with_reducible refine iteF ?_
  | with_reducible refine rd_ifnT ?_
  | with_reducible refine rd_ifnF ?_
  | ((with_reducible show rI (fun _ j => (0 : Int) < j) _ _ _ _ _); refine rd_mod (by omega) ?_)
  | with_reducible refine rd_new rfl ?_
  | ((with_reducible show rIxL _ _ (V.int 0) _ _); refine rd_ixL0 (by first | assumption | exact upd_same) ?_)
  | ((with_reducible show rIxL _ _ _ _ _); refine rd_ixL (by first | assumption | exact upd_same) rfl ?_)
  | ((with_reducible show rSetL _ _ _ _ _); refine rd_setL (by first | assumption | exact upd_same) rfl ?_)
  | ((with_reducible show rI CMul _ _ _ _ _); refine rd_mul (by first | exact Or.inl ⟨by omega, by omega⟩ | exact Or.inr ⟨by omega, by omega⟩) ?_)
  | ((with_reducible show tyV _ "list" _ _ ∧ _); refine rd_tyL (by first | assumption | exact upd_same) ?_)
  | ((with_reducible show rIxT _ _ (V.int 0) _ _); refine rd_ixT0 (by first | assumption | exact upd_same) ?_)
  | ((with_reducible show rIxT _ _ _ _ _); refine rd_ixT (by first | assumption | exact upd_same) rfl ?_))
local macro_rules | `(tactic| walk_at "rdn1") => `(tactic| first
  | with_reducible refine rd_seq ?_
  | with_reducible refine rd_asg ?_
  | ((with_reducible show tVar _ _ _ _); refine rd_var rfl ?_)
  | with_reducible refine rd_c ?_
  | with_reducible refine rd_op ?_
  | with_reducible refine rd_I0 ?_
  | with_reducible refine rd_name ?_
  | with_reducible refine rd_ret ?_
  | with_reducible refine rd_ifs ?_
  | with_reducible refine rd_test ?_
  | with_reducible refine rd_tB ?_
  | with_reducible refine rd_bl ?_
  | with_reducible refine rd_drop ?_
  | with_reducible refine rd_nil ?_
  | with_reducible refine rd_cons ?_
  | with_reducible refine rd_call ?_
  | with_reducible refine rd_cb ?_
  | with_reducible refine rd_tup ?_
  | with_reducible refine rd_lst ?_
  | with_reducible refine rd_and ?_
  | with_reducible refine rd_or ?_
  | with_reducible refine rd_not ?_
  | with_reducible refine rd_notV ?_
  | with_reducible refine rd_chain ?_
  | with_reducible refine rd_un ?_
  | with_reducible refine rd_isN ?_
  | with_reducible refine rd_bm ?_
  | with_reducible refine rd_bm0 ?_
  | with_reducible refine rd_gsub ?_
  | with_reducible refine rd_sl ?_
  | with_reducible refine rd_gt ?_
  | with_reducible refine rd_yes ?_
  | with_reducible refine rd_gcons ?_
  | with_reducible refine rd_gnil ?_
  | with_reducible refine rd_part ?_
  | with_reducible refine rd_nopart ?_
  | ((with_reducible show gTup _ _ _ _ _ _ _); refine rd_gtup (by first | assumption | exact upd_same) rfl ?_)
  | ((with_reducible show gLst _ _ _ _ _ _ _); refine rd_glst (by first | assumption | exact upd_same) rfl ?_)
  | ((with_reducible show rIsi _ _ _ _); first | refine rd_isi (b := true) (.ty _) (.base (by first | exact .int _ | exact .str _ | exact .bl _ | exact .non | exact .tup (by assumption) | exact .lst (by assumption))) (kit_ty (by decide +kernel)) ?_ | refine rd_isi (b := false) (.ty _) (.base (by first | exact .int _ | exact .str _ | exact .bl _ | exact .non | exact .tup (by assumption) | exact .lst (by assumption))) (kit_ty (by decide +kernel)) ?_)
  | with_reducible refine rd_fld ?_
  | with_reducible refine rd_sfld ?_
  | with_reducible refine rd_meth ?_
  | with_reducible refine rd_make ?_
  | with_reducible refine rd_makeK ?_
  | with_reducible refine rd_U ?_
  | with_reducible refine rd_makeKS ?_
  | with_reducible refine rd_callN ?_
  | with_reducible refine rd_rs ?_
  | with_reducible refine rd_rf ?_
  | with_reducible refine rd_star ?_
  | with_reducible refine rd_callS ?_
  | with_reducible refine rd_for ?_
  | with_reducible refine rd_lc ?_
  | with_reducible refine rd_ilist ?_
  | with_reducible refine rd_itup ?_
  | with_reducible refine rd_irng ?_
  | with_reducible refine rd_izipS ?_
  | with_reducible refine rd_ienum ?_
  | with_reducible refine rd_ienT ?_
  | with_reducible refine rd_next ?_
  | with_reducible refine rd_eq rfl ?_
  | with_reducible refine rd_ne rfl ?_
  | with_reducible refine iteT ?_
  | with_reducible refine iteF ?_
  | with_reducible refine rd_ifnT ?_
  | with_reducible refine rd_ifnF ?_
  | ((with_reducible show rI (fun _ j => (0 : Int) < j) _ _ _ _ _); refine rd_mod (by omega) ?_)
  | with_reducible refine rd_new rfl ?_
  | ((with_reducible show rIxL _ _ (V.int 0) _ _); refine rd_ixL0 (by first | assumption | exact upd_same) ?_)
  | ((with_reducible show rIxL _ _ _ _ _); refine rd_ixL (by first | assumption | exact upd_same) rfl ?_)
  | ((with_reducible show rSetL _ _ _ _ _); refine rd_setL (by first | assumption | exact upd_same) rfl ?_)
  | ((with_reducible show rI CMul _ _ _ _ _); refine rd_mul (by first | exact Or.inl ⟨by omega, by omega⟩ | exact Or.inr ⟨by omega, by omega⟩) ?_)
  | ((with_reducible show tyV _ "list" _ _ ∧ _); refine rd_tyL (by first | assumption | exact upd_same) ?_)
  | ((with_reducible show rIxT _ _ (V.int 0) _ _); refine rd_ixT0 (by first | assumption | exact upd_same) ?_)
  | ((with_reducible show rIxT _ _ _ _ _); refine rd_ixT (by first | assumption | exact upd_same) rfl ?_))
local macro_rules | `(tactic| walk_at "rd") => `(tactic| (repeat (first | walk_at "rd1" | dsimp only)))
local macro_rules | `(tactic| walk_at "rds") => `(tactic| (dsimp only [cxOf, Cx.nox, Cx.wish, Cx.blk, L2.start]; walk_at "rd"))
local macro_rules | `(tactic| walk_at "rdn") => `(tactic| (repeat (first | walk_at "rdn1" | dsimp only)))
section
variable {P : Program} {w : World} {K : PySem.W.Frag} {mg : Str → Option Value} {base : Heap}

theorem big_div {i m : Int} (h0 : 0 < m) (h1 : m ≤ 1000000000000000000000000000000000000000000000000000000000000) : CDivW i m := wide_div (b := 200) h0 (Nat.lt_of_le_of_lt (show m.natAbs ≤ 1000000000000000000000000000000000000000000000000000000000000 by omega) (by decide +kernel)) (by decide) (by decide)
theorem mod_nn {a b : Int} (h : 0 < b) : 0 ≤ a % b ∧ a % b < b := ⟨Int.emod_nonneg _ (by omega), Int.emod_lt_of_pos _ h⟩
theorem ne_snoc (gs : List Int) (z : Int) : PyData.eqv (.list ((gs ++ [z]).map .int)) (.list []) = false := by cases gs <;> rfl
theorem at_lastI (gs : List Int) (z : Int) : atI ((gs ++ [z]).map V.int) (-1) = some (.int z) := by
  rw [List.map_append]
  exact at_last
def spDeck (K : PySem.W.Frag) : Sp := fun vs H Q _ => ∃ (a : Addr) (ns : List Int), vs = [.ref a] ∧ SqL K H a (ns.map V.int) ∧ ns.length ≤ 63 ∧ ∀ (t g : Addr) (H' : Hp), Same H H' → H t = none → H g = none → Deck H' t g 0 → Q (.ref t) H'
theorem ok_deck {f : Addr} {fd : FuncData} (B : BT mg) (F : Fun K "_law_deck" "_law_deck" s_law_deck f fd) (hm : mg "_law_deck" = some (.ref f)) : Cal P w K mg base "_law_deck" 1 ["script"] (spDeck K) := by
  refine ⟨f, fd, hm, F.kp, F.binds (ps := ["script"]) fun _ _ _ _ _ _ us hl => match us, hl with | [_], _ => rfl, ?_⟩
  refine F.ok sc_law_deck (fun vs H Q E h => ?_) (fun cdv A outer s H vs Q E hr h => ?_)
  · obtain ⟨a, ns, rfl, _⟩ := h
    rfl
  · obtain ⟨a, ns, rfl, hS, hl, k⟩ := h
    refine ⟨_, (pss_cons (ps_set (i := 1) sc_law_deck.nd rfl (Or.inl rfl) (pe_lst pa_nil))
 (pss_cons (ps_set (i := 2) sc_law_deck.nd rfl (Or.inl rfl) pe_int)
 (pss_cons (ps_for PassesOwn.never rfl (pi_listK (K := K) (pv 0)) (pg_name (i := 3) sc_law_deck.nd rfl (Or.inl rfl))
 (pss_cons (ps_set (i := 2) sc_law_deck.nd rfl (Or.inl rfl) (pe_op op_mod (pe_op op_add (pe_op op_mul (pv 2) pe_int) (pv 3)) pe_int))
 (pss_one (ps_if (pt_cmpR op_ge (pe_callB call_abs rfl B.g_abs (by decide +kernel) (pa_cons (pv 3) pa_nil)) (pe_powc (v := 1000000000000000000) (by decide +kernel) (by decide +kernel)) (nomark _)) (pss_one (ps_expr (pe_bm PySem.F.plainAttrs_list PySem.F.slot_list_insert PySem.F.type_list_insert mt_insert (pv 1) (pa_cons pe_int (pa_cons (pe_op op_sub (pe_callB call_abs rfl B.g_abs (by decide +kernel) (pa_cons (pv 3) pa_nil)) (pe_powc (v := 1000000000000000000) (by decide +kernel) (by decide +kernel))) pa_nil))))) pss_nil))))
 (pss_one (ps_ret (pe_lst (pa_cons (pv 1) (pa_cons (pv 2) (pa_cons pe_int pa_nil))))))))), ?_⟩
    walk_at "rds"
    intro g hg
    walk_at "rd"
    refine ⟨_, rfl, ⟨_, (same_upd hg).seq hS⟩, ?_⟩
    refine for_inv (walk_list (xs := ns.map V.int)) (fun i σ' H' => ∃ (fo : Int) (c1 : Option V) (gs : List Int), σ' = [some (.ref a), some (.ref g), some (.int fo), c1] ∧ 0 ≤ fo ∧ fo < 2305843009213693952 ∧ Same H H' ∧ H' g = some (.lst (gs.map V.int)) ∧ (∀ z ∈ gs, 0 ≤ z) ∧ gs.length ≤ i) ?_ ?_ ?_ ?_
    · exact ⟨_, none, [], rfl, by decide, by decide, same_upd hg, upd_same, fun z hz => (nomatch hz), Nat.le_refl _⟩
    · rintro i σ1 H1 hi ⟨fo, c1, gs, rfl, _, _, s1, _⟩
      exact s1.seq hS
    · rintro B' i x σ1 H1 H2 hi ⟨fo, c1, gs, rfl, f0, f1, s1, hg1, hgs, hgl⟩ ⟨rfl, hx⟩
      rw [List.getElem?_map] at hx
      obtain ⟨z, hz, rfl⟩ := Option.map_eq_some_iff.mp hx
      have hi' : i < 63 := by simp at hi; omega
      walk_at "rd"
      refine ⟨_, rfl, ?_⟩
      walk_at "rd"
      have fm := mod_nn (a := fo * 1000003 + z) (b := 2305843009213693951) (by decide)
      refine rd_ifd (fun hc => ?_) (fun hc => ?_)
      · walk_at "rd"
        refine ⟨_, rfl, ?_⟩
        walk_at "rd"
        refine ⟨g, _, 0, _, rfl, rfl, hg1, by rw [List.length_map]; exact small1000 (by omega), by decide, by decide, ?_⟩
        walk_at "rd"
        refine ⟨_, _, _ :: gs, rfl, fm.1, by omega, fun b o e => ?_, upd_same, ?_, by simp; omega⟩
        · rw [upd_ne (ne_of_none e hg)]
          exact s1 b o e
        · intro y hy
          rcases List.mem_cons.mp hy with h | h
          · rw [h]
            omega
          · exact hgs y h
      · walk_at "rd"
        exact ⟨_, _, gs, rfl, fm.1, by omega, s1, hg1, hgs, by omega⟩
    · rintro σ1 H1 ⟨fo, c1, gs, rfl, f0, f1, s1, hg1, hgs, _⟩
      walk_at "rd"
      intro t ht
      walk_at "rd"
      exact k t g _ (s1.trans (same_upd ht)) (s1.free ht) hg ⟨Ne.symm (ne_of_none hg1 ht), gs, fo, 0, upd_same, by rw [upd_ne (ne_of_none hg1 ht)]; exact hg1, hgs, f0, f1, by decide, by decide⟩
def spTake : Sp := fun vs H Q _ => ∃ (t g : Addr) (n : Nat) (m : Int), vs = [.ref t, .int m] ∧ Deck H t g n ∧ n ≤ 1000000 ∧ 0 < m ∧ m ≤ 1000000000000000000000000000000000000000000000000000000000000 ∧
  ∀ (r : Int) (H' : Hp), 0 ≤ r → r < m → Deck H' t g (n + 1) → Kp t g H H' → Q (.int r) H'
theorem use_take {t g : Addr} {n : Nat} {m : Int} {H : Hp} {Q : VK} {E : XK} (T : Deck H t g n) (hn : n ≤ 1000000) (h0 : 0 < m) (h1 : m ≤ 1000000000000000000000000000000000000000000000000000000000000)
    (h : ∀ (r : Int) (H' : Hp), 0 ≤ r → r < m → Deck H' t g (n + 1) → Kp t g H H' → Q (.int r) H') : spTake [.ref t, .int m] H Q E := ⟨t, g, n, m, rfl, T, hn, h0, h1, h⟩
theorem ok_take {f : Addr} {fd : FuncData} (F : Fun K "_law_take" "_law_take" s_law_take f fd) (hm : mg "_law_take" = some (.ref f)) : Cal P w K mg base "_law_take" 1 ["deck", "many"] spTake := by
  refine ⟨f, fd, hm, F.kp, F.binds (ps := ["deck", "many"]) fun _ _ _ _ _ _ us hl => match us, hl with | [_, _], _ => rfl, ?_⟩
  refine F.ok sc_law_take (fun vs H Q E h => ?_) (fun cdv A outer s H vs Q E hr h => ?_)
  · obtain ⟨t, g, n, m, rfl, _⟩ := h
    rfl
  · obtain ⟨t, g, n, m, rfl, T, hn, hm0, hm1, k⟩ := h
    refine ⟨_, (pss_cons (ps_while PassesOwn.never (PW.pt (pw_and (pt_cmpR (r := rNeD K) (op_neD hr.units) (pe_ix (r := rIxL K) ix_list (pv 0) pe_int (fun _ _ => rfl)) (pe_lst pa_nil) (nomark _)) (pw_and1 (pt_cmpR op_lt (pe_ix (r := rIxL K) ix_list (pe_ix (r := rIxL K) ix_list (pv 0) pe_int (fun _ _ => rfl)) (pe_un un_neg pe_int) (fun _ _ => rfl)) pe_int (nomark _))))) (pss_one (ps_expr (pe_bm0 PySem.F.plainAttrs_list PySem.F.slot_list_pop PySem.F.type_list_pop mt_pop (pe_ix (r := rIxL K) ix_list (pv 0) pe_int (fun _ _ => rfl))))))
 (pss_cons (ps_if (pt_cmpR (r := rNeD K) (op_neD hr.units) (pe_ix (r := rIxL K) ix_list (pv 0) pe_int (fun _ _ => rfl)) (pe_lst pa_nil) (nomark _)) (pss_cons (ps_set (i := 2) sc_law_take.nd rfl (Or.inl rfl) (pe_op op_mod (pe_ix (r := rIxL K) ix_list (pe_ix (r := rIxL K) ix_list (pv 0) pe_int (fun _ _ => rfl)) (pe_un un_neg pe_int) (fun _ _ => rfl)) (pv 1)))
 (pss_cons (ps_asg (pe_op op_fdivW (pe_ix (r := rIxL K) ix_list (pe_ix (r := rIxL K) ix_list (pv 0) pe_int (fun _ _ => rfl)) (pe_un un_neg pe_int) (fun _ _ => rfl)) (pv 1)) (pg_sub (pe_ix (r := rIxL K) ix_list (pv 0) pe_int (fun _ _ => rfl)) (pe_un un_neg pe_int) set_list))
 (pss_one (ps_ret (pv 2))))) pss_nil)
 (pss_cons (ps_asg (pe_op op_add (pe_ix (r := rIxL K) ix_list (pv 0) pe_int (fun _ _ => rfl)) pe_int) (pg_sub (pv 0) pe_int set_list))
 (pss_cons (ps_set (i := 3) sc_law_take.nd rfl (Or.inl rfl) (pe_ix (r := rIxL K) ix_list (pv 0) pe_int (fun _ _ => rfl)))
 (pss_cons (ps_set (i := 4) sc_law_take.nd rfl (Or.inl rfl) (pe_op op_add (pe_op op_mul (pe_op op_add (pe_ix (r := rIxL K) ix_list (pv 0) pe_int (fun _ _ => rfl)) pe_int) (pe_op op_pow (pe_op op_add (pv 3) pe_int) pe_int)) (pe_op op_mul pe_int (pv 3))))
 (pss_one (ps_ret (pe_op op_mod (pe_op op_fdivW (pe_op op_mod (pe_op op_pow (pe_op op_mod (pv 4) pe_int) pe_int) pe_int) pe_int) (pv 1))))))))), ?_⟩
    walk_at "rds"
    refine while_inv (fun i σ' H' => σ' = [some (.ref t), some (.int m), none, none, none] ∧ Deck H' t g n ∧ Kp t g H H' ∧ ∃ xs : List V, H' g = some (.lst xs) ∧ xs.length = i) ?_ ?_ ?_
    · obtain ⟨xs, e⟩ := T.hg
      exact ⟨xs.length, rfl, T, Kp.refl _ _ _, xs, e, rfl⟩
    · rintro i σ1 H1 ⟨rfl, T1, k1, _⟩
      obtain ⟨ne, gs, fo, c, h1, h2, h3, h4, h5, h6, h7⟩ := id T1
      walk_at "rd"
      intro p hp
      have s1 := same_upd (o := .lst []) hp
      have e1 := s1 _ _ h1
      have e2 := s1 _ _ h2
      refine rd_neD (d := .list (gs.map .int)) (e := .list []) (.lst (SqL.of e2) (RpAll.ints gs).dp) (.lst (SqL.of upd_same) .nil) (shaped_ints gs) rfl ?_
      walk_at "rd"
      rcases List.eq_nil_or_concat gs with rfl | ⟨gs', z, rfl⟩
      · refine rd_ifbF rfl ?_
        walk_at "rd"
        refine rd_pow ⟨by decide, by decide, by omega⟩ ?_
        walk_at "rd"
        refine rd_pow ⟨by decide, by decide, ?_⟩ ?_
        · have := mod_nn (a := (fo + 40503) * (c + 1 + 5) ^ (3 : Int).toNat + 69621 * (c + 1)) (b := 2305843009213693951) (by decide)
          omega
        walk_at "rd"
        refine rd_fdivW (wide_div (b := 8) (by decide) (by decide) (by decide) (by decide)) ?_
        walk_at "rd"
        refine k _ _ (mod_nn hm0).1 (mod_nn hm0).2 ⟨ne, [], fo, c + 1, upd_same, by rw [upd_ne ne.symm]; exact e2, h3, h4, h5, by omega, by omega⟩ ((k1.trans (Kp.of s1)).trans Kp.t)
      · rw [List.concat_eq_append] at *
        rw [ne_snoc]
        walk_at "rd"
        refine rd_ixL e2 (at_lastI gs' z) ?_
        walk_at "rd"
        refine rd_ixL e2 (at_lastI gs' z) ?_
        walk_at "rd"
        refine rd_fdivW (big_div hm0 hm1) ?_
        walk_at "rd"
        refine rd_setL e2 (by rw [List.length_map, List.length_append]; exact ix_last) ?_
        walk_at "rd"
        have hz := h3 z (by simp)
        refine k _ _ (mod_nn hm0).1 (mod_nn hm0).2 ⟨ne, gs' ++ [z / m], fo, c, by rw [upd_ne ne]; exact e1, ?_, fun y hy => ?_, h4, h5, h6, by omega⟩ ((k1.trans (Kp.of s1)).trans Kp.g)
        · rw [upd_same, List.map_append, List.map_append]
          simp
        · rcases List.mem_append.mp hy with h | h
          · exact h3 y (List.mem_append_left _ h)
          · rw [List.mem_singleton.mp h]
            exact Int.ediv_nonneg hz (by omega)
    · rintro B hx i σ1 H1 ⟨rfl, T1, k1, xs, hxs, hi⟩
      obtain ⟨ne, gs, fo, c, h1, h2, h3, h4, h5, h6, h7⟩ := id T1
      have ex : xs = gs.map V.int := by rw [hxs] at h2; injection h2 with z; injection z
      subst ex
      walk_at "rd"
      intro p hp
      have s1 := same_upd (o := .lst []) hp
      have e1 := s1 _ _ h1
      have e2 := s1 _ _ h2
      refine rd_neD (d := .list (gs.map .int)) (e := .list []) (.lst (SqL.of e2) (RpAll.ints gs).dp) (.lst (SqL.of upd_same) .nil) (shaped_ints gs) rfl ?_
      walk_at "rd"
      rcases List.eq_nil_or_concat gs with rfl | ⟨gs', z, rfl⟩
      · refine rd_ifbF rfl ?_
        walk_at "rd"
        exact hx 0 _ _ ⟨rfl, T1.same s1, k1.trans (Kp.of s1), [], e2, rfl⟩
      · rw [List.concat_eq_append] at *
        rw [ne_snoc]
        walk_at "rd"
        refine rd_ixL e2 (at_lastI gs' z) ?_
        walk_at "rd"
        refine rd_ifd (fun ha => ?_) (fun ha => ?_)
        · refine ⟨_, fun σ' H' h => h, ?_⟩
          walk_at "rd"
          refine ⟨g, _, .int z, rfl, rfl, e2, by simp, ?_⟩
          have ed : ((gs' ++ [z]).map V.int).dropLast = gs'.map V.int := by rw [List.map_append]; simp
          rw [ed]
          walk_at "rd"
          refine ⟨gs'.length, by simp at hi; omega, rfl, ⟨ne, gs', fo, c, by rw [upd_ne ne]; exact e1, upd_same, fun y hy => h3 y (List.mem_append_left _ hy), h4, h5, h6, h7⟩, (k1.trans (Kp.of s1)).trans Kp.g, _, upd_same, by simp⟩
        · walk_at "rd"
          exact hx _ _ _ ⟨rfl, T1.same s1, k1.trans (Kp.of s1), _, e2, hi⟩

end
end Rg

namespace Rg
open PySem PySem.Spec L2
local macro_rules | `(tactic| walk_at "rd1") => `(tactic| first
  | with_reducible refine rd_seq ?_
  | with_reducible refine rd_asg ?_
  | ((with_reducible show tVar _ _ _ _); refine rd_var rfl ?_)
  | with_reducible refine rd_c ?_
  | with_reducible refine rd_op ?_
  | with_reducible refine rd_I0 ?_
  | with_reducible refine rd_name ?_
  | with_reducible refine rd_ret ?_
  | with_reducible refine rd_ifs ?_
  | with_reducible refine rd_test ?_
  | with_reducible refine rd_tB ?_
  | with_reducible refine rd_bl ?_
  | with_reducible refine rd_drop ?_
  | with_reducible refine rd_nil ?_
  | with_reducible refine rd_cons ?_
  | with_reducible refine rd_call ?_
  | with_reducible refine rd_cb ?_
  | with_reducible refine rd_tup ?_
  | with_reducible refine rd_lst ?_
  | with_reducible refine rd_and ?_
  | with_reducible refine rd_or ?_
  | with_reducible refine rd_not ?_
  | with_reducible refine rd_andV ?_
  | with_reducible refine rd_orV ?_
  | with_reducible refine rd_notV ?_
  | with_reducible refine rd_chain ?_
  | with_reducible refine rd_un ?_
  | with_reducible refine rd_isN ?_
  | with_reducible refine rd_bm ?_
  | with_reducible refine rd_bm0 ?_
  | with_reducible refine rd_gsub ?_
  | with_reducible refine rd_sl ?_
  | with_reducible refine rd_gt ?_
  | with_reducible refine rd_yes ?_
  | with_reducible refine rd_gcons ?_
  | with_reducible refine rd_gnil ?_
  | with_reducible refine rd_part ?_
  | with_reducible refine rd_nopart ?_
  | ((with_reducible show gTup _ _ _ _ _ _ _); refine rd_gtup (by first | assumption | exact upd_same) rfl ?_)
  | ((with_reducible show gLst _ _ _ _ _ _ _); refine rd_glst (by first | assumption | exact upd_same) rfl ?_)
  | ((with_reducible show rIsi _ _ _ _); first | refine rd_isi (b := true) (.ty _) (.base (by first | exact .int _ | exact .str _ | exact .bl _ | exact .non | exact .tup (by assumption) | exact .lst (by assumption))) (kit_ty (by decide +kernel)) ?_ | refine rd_isi (b := false) (.ty _) (.base (by first | exact .int _ | exact .str _ | exact .bl _ | exact .non | exact .tup (by assumption) | exact .lst (by assumption))) (kit_ty (by decide +kernel)) ?_)
  | with_reducible refine rd_fld ?_
  | with_reducible refine rd_sfld ?_
  | with_reducible refine rd_meth ?_
  | with_reducible refine rd_make ?_
  | with_reducible refine rd_makeK ?_
  | with_reducible refine rd_U ?_
  | with_reducible refine rd_makeKS ?_
  | with_reducible refine rd_callN ?_
  | with_reducible refine rd_rs ?_
  | with_reducible refine rd_rf ?_
  | with_reducible refine rd_star ?_
  | with_reducible refine rd_callS ?_
  | with_reducible refine rd_for ?_
  | with_reducible refine rd_lc ?_
  | with_reducible refine rd_ilist ?_
  | with_reducible refine rd_itup ?_
  | with_reducible refine rd_irng ?_
  | with_reducible refine rd_izipS ?_
  | with_reducible refine rd_ienum ?_
  | with_reducible refine rd_ienT ?_
  | with_reducible refine rd_next ?_
  | with_reducible refine rd_eq rfl ?_
  | with_reducible refine rd_ne rfl ?_
  | with_reducible refine iteT ?_
  | with_reducible refine iteF ?_
  | with_reducible refine rd_ifnT ?_
  | with_reducible refine rd_ifnF ?_
  | ((with_reducible show rI (fun _ j => (0 : Int) < j) _ _ _ _ _); refine rd_mod (by omega) ?_)
  | with_reducible refine rd_new rfl ?_
  | ((with_reducible show rIxL _ _ (V.int 0) _ _); refine rd_ixL0 (by first | assumption | exact upd_same) ?_)
  | ((with_reducible show rIxL _ _ _ _ _); refine rd_ixL (by first | assumption | exact upd_same) rfl ?_)
  | ((with_reducible show rSetL _ _ _ _ _); refine rd_setL (by first | assumption | exact upd_same) rfl ?_)
  | ((with_reducible show rI CMul _ _ _ _ _); refine rd_mul (by first | exact Or.inl ⟨by omega, by omega⟩ | exact Or.inr ⟨by omega, by omega⟩) ?_)
  | ((with_reducible show tyV _ "list" _ _ ∧ _); refine rd_tyL (by first | assumption | exact upd_same) ?_)
  | ((with_reducible show rIxT _ _ (V.int 0) _ _); refine rd_ixT0 (by first | assumption | exact upd_same) ?_)
  | ((with_reducible show rIxT _ _ _ _ _); refine rd_ixT (by first | assumption | exact upd_same) rfl ?_))
local macro_rules | `(tactic| walk_at "rdn1") => `(tactic| first
  | with_reducible refine rd_seq ?_
  | with_reducible refine rd_asg ?_
  | ((with_reducible show tVar _ _ _ _); refine rd_var rfl ?_)
  | with_reducible refine rd_c ?_
  | with_reducible refine rd_op ?_
  | with_reducible refine rd_I0 ?_
  | with_reducible refine rd_name ?_
  | with_reducible refine rd_ret ?_
  | with_reducible refine rd_ifs ?_
  | with_reducible refine rd_test ?_
  | with_reducible refine rd_tB ?_
  | with_reducible refine rd_bl ?_
  | with_reducible refine rd_drop ?_
  | with_reducible refine rd_nil ?_
  | with_reducible refine rd_cons ?_
  | with_reducible refine rd_call ?_
  | with_reducible refine rd_cb ?_
  | with_reducible refine rd_tup ?_
  | with_reducible refine rd_lst ?_
  | with_reducible refine rd_and ?_
  | with_reducible refine rd_or ?_
  | with_reducible refine rd_not ?_
  | with_reducible refine rd_notV ?_
  | with_reducible refine rd_chain ?_
  | with_reducible refine rd_un ?_
  | with_reducible refine rd_isN ?_
  | with_reducible refine rd_bm ?_
  | with_reducible refine rd_bm0 ?_
  | with_reducible refine rd_gsub ?_
  | with_reducible refine rd_sl ?_
  | with_reducible refine rd_gt ?_
  | with_reducible refine rd_yes ?_
  | with_reducible refine rd_gcons ?_
  | with_reducible refine rd_gnil ?_
  | with_reducible refine rd_part ?_
  | with_reducible refine rd_nopart ?_
  | ((with_reducible show gTup _ _ _ _ _ _ _); refine rd_gtup (by first | assumption | exact upd_same) rfl ?_)
  | ((with_reducible show gLst _ _ _ _ _ _ _); refine rd_glst (by first | assumption | exact upd_same) rfl ?_)
  | ((with_reducible show rIsi _ _ _ _); first | refine rd_isi (b := true) (.ty _) (.base (by first | exact .int _ | exact .str _ | exact .bl _ | exact .non | exact .tup (by assumption) | exact .lst (by assumption))) (kit_ty (by decide +kernel)) ?_ | refine rd_isi (b := false) (.ty _) (.base (by first | exact .int _ | exact .str _ | exact .bl _ | exact .non | exact .tup (by assumption) | exact .lst (by assumption))) (kit_ty (by decide +kernel)) ?_)
  | with_reducible refine rd_fld ?_
  | with_reducible refine rd_sfld ?_
  | with_reducible refine rd_meth ?_
  | with_reducible refine rd_make ?_
  | with_reducible refine rd_makeK ?_
  | with_reducible refine rd_U ?_
  | with_reducible refine rd_makeKS ?_
  | with_reducible refine rd_callN ?_
  | with_reducible refine rd_rs ?_
  | with_reducible refine rd_rf ?_
  | with_reducible refine rd_star ?_
  | with_reducible refine rd_callS ?_
  | with_reducible refine rd_for ?_
  | with_reducible refine rd_lc ?_
  | with_reducible refine rd_ilist ?_
  | with_reducible refine rd_itup ?_
  | with_reducible refine rd_irng ?_
  | with_reducible refine rd_izipS ?_
  | with_reducible refine rd_ienum ?_
  | with_reducible refine rd_ienT ?_
  | with_reducible refine rd_next ?_
  | with_reducible refine rd_eq rfl ?_
  | with_reducible refine rd_ne rfl ?_
  | with_reducible refine iteT ?_
  | with_reducible refine iteF ?_
  | with_reducible refine rd_ifnT ?_
  | with_reducible refine rd_ifnF ?_
  | ((with_reducible show rI (fun _ j => (0 : Int) < j) _ _ _ _ _); refine rd_mod (by omega) ?_)
  | with_reducible refine rd_new rfl ?_
  | ((with_reducible show rIxL _ _ (V.int 0) _ _); refine rd_ixL0 (by first | assumption | exact upd_same) ?_)
  | ((with_reducible show rIxL _ _ _ _ _); refine rd_ixL (by first | assumption | exact upd_same) rfl ?_)
  | ((with_reducible show rSetL _ _ _ _ _); refine rd_setL (by first | assumption | exact upd_same) rfl ?_)
  | ((with_reducible show rI CMul _ _ _ _ _); refine rd_mul (by first | exact Or.inl ⟨by omega, by omega⟩ | exact Or.inr ⟨by omega, by omega⟩) ?_)
  | ((with_reducible show tyV _ "list" _ _ ∧ _); refine rd_tyL (by first | assumption | exact upd_same) ?_)
  | ((with_reducible show rIxT _ _ (V.int 0) _ _); refine rd_ixT0 (by first | assumption | exact upd_same) ?_)
  | ((with_reducible show rIxT _ _ _ _ _); refine rd_ixT (by first | assumption | exact upd_same) rfl ?_))
local macro_rules | `(tactic| walk_at "rd") => `(tactic| (repeat (first | walk_at "rd1" | dsimp only)))
local macro_rules | `(tactic| walk_at "rds") => `(tactic| (dsimp only [cxOf, Cx.nox, Cx.wish, Cx.blk, L2.start]; walk_at "rd"))
local macro_rules | `(tactic| walk_at "rdn") => `(tactic| (repeat (first | walk_at "rdn1" | dsimp only)))
section
variable {P : Program} {w : World} {K : PySem.W.Frag} {mg : Str → Option Value} {base : Heap}

/-- a number of either sign -/
def spNumber : Sp := fun vs H Q _ => ∃ (t g : Addr) (n : Nat), vs = [.ref t] ∧ Deck H t g n ∧ n ≤ 900000 ∧
  ∀ (r : Int) (H' : Hp), -1000000000000000000000000000000000000000000000000000000000000 < r → r < 1000000000000000000000000000000000000000000000000000000000000 → Deck H' t g (n + 3) → Kp t g H H' → Q (.int r) H'
theorem use_number {t g : Addr} {n : Nat} {H : Hp} {Q : VK} {E : XK} (T : Deck H t g n) (hn : n ≤ 900000)
    (h : ∀ (r : Int) (H' : Hp), -1000000000000000000000000000000000000000000000000000000000000 < r → r < 1000000000000000000000000000000000000000000000000000000000000 → Deck H' t g (n + 3) → Kp t g H H' → Q (.int r) H') : spNumber [.ref t] H Q E := ⟨t, g, n, rfl, T, hn, h⟩
theorem ok_number {f : Addr} {fd : FuncData} (B : BT mg) (F : Fun K "_law_number" "_law_number" s_law_number f fd) (hm : mg "_law_number" = some (.ref f)) (C_law_take : Cal P w K mg base "_law_take" 1 ["deck", "many"] spTake) :
    Cal P w K mg base "_law_number" 2 ["deck"] spNumber := by
  refine ⟨f, fd, hm, F.kp, F.binds (ps := ["deck"]) fun _ _ _ _ _ _ us hl => match us, hl with | [_], _ => rfl, ?_⟩
  refine F.ok sc_law_number (fun vs H Q E h => ?_) (fun cdv A outer s H vs Q E hr h => ?_)
  · obtain ⟨t, g, n, rfl, _⟩ := h
    rfl
  · obtain ⟨t, g, n, rfl, T, hn, k⟩ := h
    refine ⟨_, (pss_cons (ps_set (i := 1) sc_law_number.nd rfl (Or.inl rfl) (pe_cal C_law_take (hr.mono (by omega)) rfl (pa_cons (pv 0) (pa_cons pe_int pa_nil))))
 (pss_cons (ps_if (pt_cmpR op_eq (pv 1) pe_int (nomark _)) (pss_one (ps_ret (pe_op op_mul (pe_ix (r := rIxL K) ix_list (pe_lst (pa_cons pe_int (pa_cons (pe_un un_neg pe_int) pa_nil))) (pe_cal C_law_take (hr.mono (by omega)) rfl (pa_cons (pv 0) (pa_cons pe_int pa_nil))) (fun _ _ => rfl)) (pe_op op_add (pe_powc (v := 100000000000000000000000000000000000000000000000000000000000) (by decide +kernel) (by decide +kernel)) (pe_cal C_law_take (hr.mono (by omega)) rfl (pa_cons (pv 0) (pa_cons pe_int pa_nil))))))) pss_nil)
 (pss_one (ps_ret (pe_ix (r := rIxL K) ix_list (pe_lst (pa_cons pe_int (pa_cons pe_int (pa_cons pe_int (pa_cons pe_int (pa_cons pe_int (pa_cons pe_int (pa_cons (pe_un un_neg pe_int) (pa_cons pe_int (pa_cons pe_int (pa_cons pe_int (pa_cons pe_int pa_nil)))))))))))) (pv 1) (fun _ _ => rfl)))))), ?_⟩
    walk_at "rds"
    refine use_take T (by omega) (by decide) (by decide) fun r1 H1 ra rb T1 k1 => ?_
    walk_at "rd"
    refine rd_ifI (fun hc => ?_) (fun hc => ?_)
    · walk_at "rd"
      intro p hp
      walk_at "rd"
      refine use_take (T1.new hp) (by omega) (by decide) (by decide) fun r2 H2 rc rd' T2 k2 => ?_
      obtain ⟨z, hz, ez⟩ := at_int (l := [1, -1]) rc rd'
      refine rd_ixL (k2 _ _ upd_same (T1.net hp) (T1.neg hp)) ez ?_
      have hz' : z = 1 ∨ z = -1 := by simpa using hz
      walk_at "rd"
      refine use_take T2 (by omega) (by decide) (by decide) fun r3 H3 re rf T3 k3 => ?_
      walk_at "rd"
      refine k _ _ ?_ ?_ T3 (((k1.trans (Kp.new hp)).trans k2).trans k3)
      · rcases hz' with rfl | rfl <;> omega
      · rcases hz' with rfl | rfl <;> omega
    · walk_at "rd"
      intro p hp
      walk_at "rd"
      obtain ⟨z, hz, ez⟩ := at_int (l := [0, 0, 1, 1, 2, 3, -1, 5, 9, 0, 1]) ra (show r1 < 11 by omega)
      refine rd_ixL upd_same ez ?_
      have hz' : -1 ≤ z ∧ z ≤ 9 := by
        simp at hz
        omega
      exact k _ _ (by omega) (by omega) ((T1.new hp).mono (by omega)) (k1.trans (Kp.new hp))
def WdBig : Wd → Prop
  | .num n => n < 1000000000000000000000000000000000000000000000000000000000000
  | .ptr _ _ p => p < 1000000000000000000000000000000000000000000000000000000000000
/-- a word -/
def spWord : Sp := fun vs H Q _ => ∃ (t g : Addr) (n : Nat) (m b : Int), vs = [.ref t, .int m, .int b] ∧ Deck H t g n ∧ n ≤ 900000 ∧ 0 < m ∧ m ≤ 8 ∧ 2 ≤ b ∧ b ≤ 1000000000000000000000000000000000000000000000000000000000000 ∧
  ∀ (v : V) (x : Wd) (H' : Hp), Rp H' v x.d → wdFits x b m = true → WdBig x → Deck H' t g (n + 4) → Kp t g H H' → Q v H'
theorem use_word {t g : Addr} {n : Nat} {m b : Int} {H : Hp} {Q : VK} {E : XK} (T : Deck H t g n) (hn : n ≤ 900000) (h0 : 0 < m) (h1 : m ≤ 8) (h2 : 2 ≤ b) (h3 : b ≤ 1000000000000000000000000000000000000000000000000000000000000)
    (h : ∀ (v : V) (x : Wd) (H' : Hp), Rp H' v x.d → wdFits x b m = true → WdBig x → Deck H' t g (n + 4) → Kp t g H H' → Q v H') : spWord [.ref t, .int m, .int b] H Q E := ⟨t, g, n, m, b, rfl, T, hn, h0, h1, h2, h3, h⟩
theorem ok_word {f : Addr} {fd : FuncData} (B : BT mg) (F : Fun K "_law_word" "_law_word" s_law_word f fd) (hm : mg "_law_word" = some (.ref f)) (C_law_take : Cal P w K mg base "_law_take" 1 ["deck", "many"] spTake) :
    Cal P w K mg base "_law_word" 2 ["deck", "many", "scale"] spWord := by
  refine ⟨f, fd, hm, F.kp, F.binds (ps := ["deck", "many", "scale"]) fun _ _ _ _ _ _ us hl => match us, hl with | [_, _, _], _ => rfl, ?_⟩
  refine F.ok sc_law_word (fun vs H Q E h => ?_) (fun cdv A outer s H vs Q E hr h => ?_)
  · obtain ⟨t, g, n, m, b, rfl, _⟩ := h
    rfl
  · obtain ⟨t, g, n, m, b, rfl, T, hn, m0, m8, b2, bB, k⟩ := h
    refine ⟨_, (pss_cons (ps_if (pt_cmpR op_eq (pe_cal C_law_take (hr.mono (by omega)) rfl (pa_cons (pv 0) (pa_cons pe_int pa_nil))) pe_int (nomark _)) (pss_one (ps_ret (pe_tup (pa_cons pe_str (pa_cons (pe_cal C_law_take (hr.mono (by omega)) rfl (pa_cons (pv 0) (pa_cons (pe_callB (call_min2 rfl) rfl B.g_min (by decide +kernel) (pa_cons (pv 2) (pa_cons (pe_powc (v := 1000000000) (by decide +kernel) (by decide +kernel)) pa_nil))) pa_nil))) pa_nil))))) pss_nil)
 (pss_one (ps_ret (pe_tup (pa_cons pe_str (pa_cons (pe_cal C_law_take (hr.mono (by omega)) rfl (pa_cons (pv 0) (pa_cons pe_int pa_nil))) (pa_cons (pe_cal C_law_take (hr.mono (by omega)) rfl (pa_cons (pv 0) (pa_cons (pv 1) pa_nil))) (pa_cons (pe_cal C_law_take (hr.mono (by omega)) rfl (pa_cons (pv 0) (pa_cons pe_int pa_nil))) pa_nil)))))))), ?_⟩
    walk_at "rds"
    refine use_take T (by omega) (by decide) (by decide) fun r1 H1 a1 b1 T1 k1 => ?_
    walk_at "rd"
    refine rd_ifI (fun hc => ?_) (fun hc => ?_)
    · walk_at "rd"
      refine ⟨_, _, rfl, ?_⟩
      walk_at "rd"
      have hmin : 0 < (if (1000000000 : Int) < b then (1000000000 : Int) else b) ∧ (if (1000000000 : Int) < b then (1000000000 : Int) else b) ≤ b := by split <;> omega
      refine use_take T1 (by omega) hmin.1 (by omega) fun r2 H2 a2 b2' T2 k2 => ?_
      walk_at "rd"
      intro p3 h3
      exact k _ (.num r2) _ (.tup upd_same (.cons (.str _) (.cons (.int _) .nil))) (below_of a2 (by omega)) (show r2 < 1000000000000000000000000000000000000000000000000000000000000 by omega) ((T2.new h3).mono (by omega)) ((k1.trans k2).trans (Kp.new h3))
    · walk_at "rd"
      refine use_take T1 (by omega) (by decide) (by decide) fun r2 H2 a2 b2' T2 k2 => ?_
      walk_at "rd"
      refine use_take T2 (by omega) m0 (by omega) fun r3 H3 a3 b3 T3 k3 => ?_
      walk_at "rd"
      refine use_take T3 (by omega) (by decide) (by decide) fun r4 H4 a4 b4 T4 k4 => ?_
      walk_at "rd"
      intro p5 h5
      exact k _ (.ptr r2 r3 r4) _ (.tup upd_same (.cons (.str _) (.cons (.int _) (.cons (.int _) (.cons (.int _) .nil))))) (by show (below r2 8 && (below r3 m && decide (0 ≤ r4))) = true; rw [below_of a2 b2', below_of a3 b3, decide_eq_true a4]; rfl) (show r4 < 1000000000000000000000000000000000000000000000000000000000000 by omega) ((T4.new h5).mono (by omega)) ((((k1.trans k2).trans k3).trans k4).trans (Kp.new h5))
theorem row_ok {w : Str} {ns : List Int} {l : Str} {m : Int} (h : formOf w = some l) (hl : l.cps.size = ns.length) (hf : fitsNs l.cps.toList ns m = true) : RwForm ⟨w, ns⟩ ∧ rowFits ⟨w, ns⟩ m = true := by
  refine ⟨⟨l, h, hl⟩, ?_⟩
  unfold rowFits
  show (match formOf w with | some l => fitsNs l.cps.toList ns m | none => false) = true
  rw [h]
  exact hf
/-- numbers of a row: none beyond sixty figures -/
def RwBig (r : Rw) : Prop := ∀ z ∈ r.ns, -1000000000000000000000000000000000000000000000000000000000000 < z ∧ z < 1000000000000000000000000000000000000000000000000000000000000
def spRow : Sp := fun vs H Q _ => ∃ (t g : Addr) (n : Nat) (m : Int), vs = [.ref t, .int m] ∧ Deck H t g n ∧ n ≤ 800000 ∧ 0 < m ∧ m ≤ 8 ∧
  ∀ (v : V) (r : Rw) (H' : Hp), Rp H' v r.d → RwForm r → rowFits r m = true → RwBig r → Deck H' t g (n + 10) → Kp t g H H' → Q v H'
theorem use_row {t g : Addr} {n : Nat} {m : Int} {H : Hp} {Q : VK} {E : XK} (T : Deck H t g n) (hn : n ≤ 800000) (h0 : 0 < m) (h1 : m ≤ 8)
    (h : ∀ (v : V) (r : Rw) (H' : Hp), Rp H' v r.d → RwForm r → rowFits r m = true → RwBig r → Deck H' t g (n + 10) → Kp t g H H' → Q v H') : spRow [.ref t, .int m] H Q E := ⟨t, g, n, m, rfl, T, hn, h0, h1, h⟩
theorem big1 {a : Int} (h : -1000000000000000000000000000000000000000000000000000000000000 < a ∧ a < 1000000000000000000000000000000000000000000000000000000000000) {w : Str} : RwBig ⟨w, [a]⟩ := fun z hz => by rw [List.mem_singleton.mp hz]; exact h
theorem big2 {a b : Int} (h1 : -1000000000000000000000000000000000000000000000000000000000000 < a ∧ a < 1000000000000000000000000000000000000000000000000000000000000) (h2 : -1000000000000000000000000000000000000000000000000000000000000 < b ∧ b < 1000000000000000000000000000000000000000000000000000000000000) {w : Str} : RwBig ⟨w, [a, b]⟩ := fun z hz => by
  rcases List.mem_cons.mp hz with e | e
  · rw [e]; exact h1
  · rw [List.mem_singleton.mp e]; exact h2
theorem big3 {a b c : Int} (h1 : -1000000000000000000000000000000000000000000000000000000000000 < a ∧ a < 1000000000000000000000000000000000000000000000000000000000000) (h2 : -1000000000000000000000000000000000000000000000000000000000000 < b ∧ b < 1000000000000000000000000000000000000000000000000000000000000) (h3 : -1000000000000000000000000000000000000000000000000000000000000 < c ∧ c < 1000000000000000000000000000000000000000000000000000000000000) {w : Str} : RwBig ⟨w, [a, b, c]⟩ := fun z hz => by
  rcases List.mem_cons.mp hz with e | e
  · rw [e]; exact h1
  · exact big2 (w := w) h2 h3 z e
theorem ok_row {f : Addr} {fd : FuncData} (B : BT mg) (F : Fun K "_law_row" "_law_row" s_law_row f fd) (hm : mg "_law_row" = some (.ref f)) (C_law_take : Cal P w K mg base "_law_take" 1 ["deck", "many"] spTake) (C_law_number : Cal P w K mg base "_law_number" 2 ["deck"] spNumber) :
    Cal P w K mg base "_law_row" 3 ["deck", "many"] spRow := by
  refine ⟨f, fd, hm, F.kp, F.binds (ps := ["deck", "many"]) fun _ _ _ _ _ _ us hl => match us, hl with | [_, _], _ => rfl, ?_⟩
  refine F.ok sc_law_row (fun vs H Q E h => ?_) (fun cdv A outer s H vs Q E hr h => ?_)
  · obtain ⟨t, g, n, m, rfl, _⟩ := h
    rfl
  · obtain ⟨t, g, n, m, rfl, T, hn, m0, m8, k⟩ := h
    refine ⟨_, (pss_cons (ps_set (i := 2) sc_law_row.nd rfl (Or.inl rfl) (pe_cal C_law_take (hr.mono (by omega)) rfl (pa_cons (pv 0) (pa_cons pe_int pa_nil))))
 (pss_cons (ps_set (i := 3) sc_law_row.nd rfl (Or.inl rfl) (pe_cal C_law_take (hr.mono (by omega)) rfl (pa_cons (pv 0) (pa_cons pe_int pa_nil))))
 (pss_cons (ps_set (i := 4) sc_law_row.nd rfl (Or.inl rfl) (pe_cal C_law_take (hr.mono (by omega)) rfl (pa_cons (pv 0) (pa_cons pe_int pa_nil))))
 (pss_cons (ps_if (pt_cmpR op_lt (pv 4) pe_int (nomark _)) (pss_one (ps_ret (pe_ix (r := rIxL K) ix_list (pe_lst (pa_cons (pe_tup (pa_cons pe_str (pa_cons (pe_cal C_law_number (hr.mono (by omega)) rfl (pa_cons (pv 0) pa_nil)) pa_nil))) (pa_cons (pe_tup (pa_cons pe_str (pa_cons (pe_cal C_law_number (hr.mono (by omega)) rfl (pa_cons (pv 0) pa_nil)) pa_nil))) pa_nil))) (pv 4) (fun _ _ => rfl)))) pss_nil)
 (pss_cons (ps_if (pt_cmpR op_lt (pv 4) pe_int (nomark _)) (pss_cons (ps_set (i := 5) sc_law_row.nd rfl (Or.inl rfl) (pe_ix (r := rIxL K) ix_list (pe_lst (pa_cons pe_int (pa_cons pe_int (pa_cons pe_int (pa_cons (pe_cal C_law_number (hr.mono (by omega)) rfl (pa_cons (pv 0) pa_nil)) pa_nil))))) (pe_cal C_law_take (hr.mono (by omega)) rfl (pa_cons (pv 0) (pa_cons pe_int pa_nil))) (fun _ _ => rfl)))
 (pss_one (ps_ret (pe_tup (pa_cons (pe_ix (r := rIxL K) ix_list (pe_lst (pa_cons pe_str (pa_cons pe_str (pa_cons pe_str (pa_cons pe_str pa_nil))))) (pe_op op_sub (pv 4) pe_int) (fun _ _ => rfl)) (pa_cons (pv 2) (pa_cons (pv 5) pa_nil))))))) pss_nil)
 (pss_cons (ps_if (pt_cmpR op_lt (pv 4) pe_int (nomark _)) (pss_cons (ps_set (i := 5) sc_law_row.nd rfl (Or.inl rfl) (pe_ix (r := rIxL K) ix_list (pe_lst (pa_cons pe_int (pa_cons pe_int (pa_cons pe_int (pa_cons (pe_cal C_law_number (hr.mono (by omega)) rfl (pa_cons (pv 0) pa_nil)) pa_nil))))) (pe_cal C_law_take (hr.mono (by omega)) rfl (pa_cons (pv 0) (pa_cons pe_int pa_nil))) (fun _ _ => rfl)))
 (pss_one (ps_ret (pe_tup (pa_cons (pe_ix (r := rIxL K) ix_list (pe_lst (pa_cons pe_str (pa_cons pe_str (pa_cons pe_str pa_nil)))) (pe_op op_sub (pv 4) pe_int) (fun _ _ => rfl)) (pa_cons (pv 3) (pa_cons (pv 2) (pa_cons (pv 5) pa_nil)))))))) pss_nil)
 (pss_cons (ps_if (pt_cmpR op_lt (pv 4) pe_int (nomark _)) (pss_one (ps_ret (pe_tup (pa_cons pe_str (pa_cons (pv 3) (pa_cons (pe_cal C_law_take (hr.mono (by omega)) rfl (pa_cons (pv 0) (pa_cons (pv 1) pa_nil))) (pa_cons (pe_ix (r := rIxL K) ix_list (pe_lst (pa_cons pe_int (pa_cons pe_int (pa_cons pe_int (pa_cons pe_int (pa_cons (pe_cal C_law_number (hr.mono (by omega)) rfl (pa_cons (pv 0) pa_nil)) pa_nil)))))) (pe_cal C_law_take (hr.mono (by omega)) rfl (pa_cons (pv 0) (pa_cons pe_int pa_nil))) (fun _ _ => rfl)) pa_nil))))))) pss_nil)
 (pss_cons (ps_if (pt_cmpR op_lt (pv 4) pe_int (nomark _)) (pss_one (ps_ret (pe_tup (pa_cons pe_str (pa_cons (pv 2) pa_nil))))) pss_nil)
 (pss_cons (ps_if (pt_cmpR op_lt (pv 4) pe_int (nomark _)) (pss_one (ps_ret (pe_tup (pa_cons (pe_ix (r := rIxL K) ix_list (pe_lst (pa_cons pe_str (pa_cons pe_str pa_nil))) (pe_op op_sub (pv 4) pe_int) (fun _ _ => rfl)) (pa_cons (pe_ix (r := rIxL K) ix_list (pe_lst (pa_cons pe_int (pa_cons pe_int (pa_cons pe_int (pa_cons pe_int (pa_cons pe_int (pa_cons (pe_cal C_law_number (hr.mono (by omega)) rfl (pa_cons (pv 0) pa_nil)) pa_nil))))))) (pe_cal C_law_take (hr.mono (by omega)) rfl (pa_cons (pv 0) (pa_cons pe_int pa_nil))) (fun _ _ => rfl)) pa_nil))))) pss_nil)
 (pss_one (ps_ret (pe_tup (pa_cons pe_str pa_nil))))))))))))), ?_⟩
    walk_at "rds"
    refine use_take T (by omega) (by decide) (by decide) fun p H1 a1 b1 T1 k1 => ?_
    walk_at "rd"
    refine use_take T1 (by omega) (by decide) (by decide) fun q H2 a2 b2 T2 k2 => ?_
    walk_at "rd"
    refine use_take T2 (by omega) (by decide) (by decide) fun pk H3 a3 b3 T3 k3 => ?_
    have kk := (k1.trans k2).trans k3
    have bp : -1000000000000000000000000000000000000000000000000000000000000 < p ∧ p < 1000000000000000000000000000000000000000000000000000000000000 := ⟨by omega, by omega⟩
    have bq : -1000000000000000000000000000000000000000000000000000000000000 < q ∧ q < 1000000000000000000000000000000000000000000000000000000000000 := ⟨by omega, by omega⟩
    walk_at "rd"
    refine rd_ifd (fun c1 => ?_) (fun c1 => ?_)
    · walk_at "rd"
      refine use_number T3 (by omega) fun z H4 a4 b4 T4 k4 => ?_
      walk_at "rd"
      intro p5 h5
      walk_at "rd"
      refine use_number (T4.new h5) (by omega) fun z2 H6 a6 b6 T6 k6 => ?_
      walk_at "rd"
      intro p7 h7
      walk_at "rd"
      intro p8 h8
      walk_at "rd"
      have e5 : upd (upd H6 p7 (.tup [.str "add", .int z2])) p8 (.lst [.ref p5, .ref p7]) p5 = some (.tup [.str "set", .int z]) := (same_upd h8) _ _ ((same_upd h7) _ _ (k6.dk (T4.new h5) _ _ upd_same))
      have Tz := ((T6.new (o := .tup [.str "add", .int z2]) h7).new (o := .lst [.ref p5, .ref p7]) h8)
      have kz := ((((kk.trans k4).trans (Kp.new (o := .tup [.str "set", .int z]) h5)).trans k6).trans (Kp.new (o := .tup [.str "add", .int z2]) h7)).trans (Kp.new (o := .lst [.ref p5, .ref p7]) h8)
      have hp2 : pk = 0 ∨ pk = 1 := by omega
      rcases hp2 with rfl | rfl
      · obtain ⟨o1, o2⟩ := row_ok (w := "set") (l := "n") (ns := [z]) (m := m) (by decide +kernel) rfl rfl
        refine rd_ixL (v := .ref p5) upd_same rfl ?_
        exact k _ ⟨"set", [z]⟩ _ (.tup e5 (.cons (.str _) (.cons (.int _) .nil))) o1 o2 (big1 ⟨a4, b4⟩) (Tz.mono (by omega)) kz
      · obtain ⟨o1, o2⟩ := row_ok (w := "add") (l := "n") (ns := [z2]) (m := m) (by decide +kernel) rfl rfl
        refine rd_ixL (v := .ref p7) upd_same rfl ?_
        exact k _ ⟨"add", [z2]⟩ _ (.tup ((same_upd h8) _ _ upd_same) (.cons (.str _) (.cons (.int _) .nil))) o1 o2 (big1 ⟨a6, b6⟩) (Tz.mono (by omega)) kz
    walk_at "rd"
    refine rd_ifd (fun c2 => ?_) (fun c2 => ?_)
    · walk_at "rd"
      refine use_number T3 (by omega) fun z H4 a4 b4 T4 k4 => ?_
      walk_at "rd"
      intro p5 h5
      walk_at "rd"
      refine use_take (T4.new h5) (by omega) (by decide) (by decide) fun i5 H6 a6 b6 T6 k6 => ?_
      obtain ⟨fr, hfr, efr⟩ := at_int (l := [0, 0, 1, z]) a6 b6
      refine rd_ixL (k6 _ _ upd_same (T4.net h5) (T4.neg h5)) efr ?_
      have bf : -1000000000000000000000000000000000000000000000000000000000000 < fr ∧ fr < 1000000000000000000000000000000000000000000000000000000000000 := by
        have : fr = 0 ∨ fr = 1 ∨ fr = z := by simpa using hfr
        omega
      have kz := ((kk.trans k4).trans (Kp.new (o := .lst [.int 0, .int 0, .int 1, .int z]) h5)).trans k6
      walk_at "rd"
      intro p7 h7
      walk_at "rd"
      obtain ⟨w, hw, ew⟩ := at_str (l := ["load", "store", "load", "store"]) (r := pk - 2) (by omega) (by show pk - 2 < 4; omega)
      refine rd_ixL upd_same ew ?_
      have fw : formOf w = some ("pn" : Str) := (by decide +kernel : ∀ w ∈ (["load", "store", "load", "store"] : List Str), formOf w = some ("pn" : Str)) w hw
      walk_at "rd"
      intro p8 h8
      obtain ⟨o1, o2⟩ := row_ok (ns := [p, fr]) (m := m) fw rfl (by show (below p 4 && (true && true)) = true; rw [below_of a1 b1]; rfl)
      exact k _ ⟨w, [p, fr]⟩ _ (.tup upd_same (.cons (.str _) (.cons (.int _) (.cons (.int _) .nil)))) o1 o2 (big2 bp bf) (((T6.new h7).new h8).mono (by omega)) ((kz.trans (Kp.new h7)).trans (Kp.new h8))
    walk_at "rd"
    refine rd_ifd (fun c3 => ?_) (fun c3 => ?_)
    · walk_at "rd"
      refine use_number T3 (by omega) fun z H4 a4 b4 T4 k4 => ?_
      walk_at "rd"
      intro p5 h5
      walk_at "rd"
      refine use_take (T4.new h5) (by omega) (by decide) (by decide) fun i5 H6 a6 b6 T6 k6 => ?_
      obtain ⟨fr, hfr, efr⟩ := at_int (l := [0, 0, 1, z]) a6 b6
      refine rd_ixL (k6 _ _ upd_same (T4.net h5) (T4.neg h5)) efr ?_
      have bf : -1000000000000000000000000000000000000000000000000000000000000 < fr ∧ fr < 1000000000000000000000000000000000000000000000000000000000000 := by
        have : fr = 0 ∨ fr = 1 ∨ fr = z := by simpa using hfr
        omega
      have kz := ((kk.trans k4).trans (Kp.new (o := .lst [.int 0, .int 0, .int 1, .int z]) h5)).trans k6
      walk_at "rd"
      intro p7 h7
      walk_at "rd"
      obtain ⟨w, hw, ew⟩ := at_str (l := ["fetch", "keep", "move"]) (r := pk - 6) (by omega) (by show pk - 6 < 3; omega)
      refine rd_ixL upd_same ew ?_
      have fw : formOf w = some ("ppn" : Str) := (by decide +kernel : ∀ w ∈ (["fetch", "keep", "move"] : List Str), formOf w = some ("ppn" : Str)) w hw
      walk_at "rd"
      intro p8 h8
      obtain ⟨o1, o2⟩ := row_ok (ns := [q, p, fr]) (m := m) fw rfl (by show (below q 4 && (below p 4 && (true && true))) = true; rw [below_of a1 b1, below_of a2 b2]; rfl)
      exact k _ ⟨w, [q, p, fr]⟩ _ (.tup upd_same (.cons (.str _) (.cons (.int _) (.cons (.int _) (.cons (.int _) .nil))))) o1 o2 (big3 bq bp bf) (((T6.new h7).new h8).mono (by omega)) ((kz.trans (Kp.new h7)).trans (Kp.new h8))
    walk_at "rd"
    refine rd_ifd (fun c4 => ?_) (fun c4 => ?_)
    · walk_at "rd"
      refine use_take T3 (by omega) m0 (by omega) fun sg H4 a4 b4 T4 k4 => ?_
      walk_at "rd"
      refine use_number T4 (by omega) fun z H5 a5 b5 T5 k5 => ?_
      walk_at "rd"
      intro p6 h6
      walk_at "rd"
      refine use_take (T5.new h6) (by omega) (by decide) (by decide) fun i5 H7 a7 b7 T7 k7 => ?_
      obtain ⟨fr, hfr, efr⟩ := at_int (l := [0, 0, 1, 2, z]) a7 b7
      refine rd_ixL (k7 _ _ upd_same (T5.net h6) (T5.neg h6)) efr ?_
      have bf : -1000000000000000000000000000000000000000000000000000000000000 < fr ∧ fr < 1000000000000000000000000000000000000000000000000000000000000 := by
        have : fr = 0 ∨ fr = 1 ∨ fr = 2 ∨ fr = z := by simpa using hfr
        omega
      walk_at "rd"
      intro p8 h8
      obtain ⟨o1, o2⟩ := row_ok (w := "aim") (l := "psn") (ns := [q, sg, fr]) (m := m) (by decide +kernel) rfl (by show (below q 4 && (below sg m && (true && true))) = true; rw [below_of a2 b2, below_of a4 b4]; rfl)
      exact k _ ⟨"aim", [q, sg, fr]⟩ _ (.tup upd_same (.cons (.str _) (.cons (.int _) (.cons (.int _) (.cons (.int _) .nil))))) o1 o2 (big3 bq ⟨by omega, by omega⟩ bf) ((T7.new h8).mono (by omega)) (((((kk.trans k4).trans k5).trans (Kp.new h6)).trans k7).trans (Kp.new h8))
    walk_at "rd"
    refine rd_ifd (fun c5 => ?_) (fun c5 => ?_)
    · walk_at "rd"
      intro p8 h8
      obtain ⟨o1, o2⟩ := row_ok (w := "call") (l := "p") (ns := [p]) (m := m) (by decide +kernel) rfl (by show (below p 4 && true) = true; rw [below_of a1 b1]; rfl)
      exact k _ ⟨"call", [p]⟩ _ (.tup upd_same (.cons (.str _) (.cons (.int _) .nil))) o1 o2 (big1 bp) ((T3.new h8).mono (by omega)) (kk.trans (Kp.new h8))
    walk_at "rd"
    refine rd_ifd (fun c6 => ?_) (fun c6 => ?_)
    · walk_at "rd"
      intro p7 h7
      walk_at "rd"
      obtain ⟨w, hw, ew⟩ := at_str (l := ["zero", "go"]) (r := pk - 13) (by omega) (by show pk - 13 < 2; omega)
      refine rd_ixL upd_same ew ?_
      have fw : formOf w = some ("n" : Str) := (by decide +kernel : ∀ w ∈ (["zero", "go"] : List Str), formOf w = some ("n" : Str)) w hw
      walk_at "rd"
      refine use_number (T3.new h7) (by omega) fun z H5 a5 b5 T5 k5 => ?_
      walk_at "rd"
      intro p6 h6
      walk_at "rd"
      refine use_take (T5.new h6) (by omega) (by decide) (by decide) fun i5 H7 a7 b7 T7 k7 => ?_
      obtain ⟨fr, hfr, efr⟩ := at_int (l := [0, 1, 2, 3, 4, z]) a7 b7
      refine rd_ixL (k7 _ _ upd_same (T5.net h6) (T5.neg h6)) efr ?_
      have bf : -1000000000000000000000000000000000000000000000000000000000000 < fr ∧ fr < 1000000000000000000000000000000000000000000000000000000000000 := by
        have : fr = 0 ∨ fr = 1 ∨ fr = 2 ∨ fr = 3 ∨ fr = 4 ∨ fr = z := by simpa using hfr
        omega
      walk_at "rd"
      intro p8 h8
      obtain ⟨o1, o2⟩ := row_ok (ns := [fr]) (m := m) fw rfl rfl
      exact k _ ⟨w, [fr]⟩ _ (.tup upd_same (.cons (.str _) (.cons (.int _) .nil))) o1 o2 (big1 bf) ((T7.new h8).mono (by omega)) (((((kk.trans (Kp.new h7)).trans k5).trans (Kp.new h6)).trans k7).trans (Kp.new h8))
    walk_at "rd"
    intro p8 h8
    obtain ⟨o1, o2⟩ := row_ok (w := "return") (l := "") (ns := []) (m := m) (by decide +kernel) rfl rfl
    exact k _ ⟨"return", []⟩ _ (.tup upd_same (.cons (.str _) .nil)) o1 o2 (fun z hz => (nomatch hz)) ((T3.new h8).mono (by omega)) (kk.trans (Kp.new h8))

end
end Rg

namespace Rg
open PySem PySem.Spec L2
local macro_rules | `(tactic| walk_at "rd1") => `(tactic| first
  | with_reducible refine rd_seq ?_
  | with_reducible refine rd_asg ?_
  | ((with_reducible show tVar _ _ _ _); refine rd_var rfl ?_)
  | with_reducible refine rd_c ?_
  | with_reducible refine rd_op ?_
  | with_reducible refine rd_I0 ?_
  | with_reducible refine rd_name ?_
  | with_reducible refine rd_ret ?_
  | with_reducible refine rd_ifs ?_
  | with_reducible refine rd_test ?_
  | with_reducible refine rd_tB ?_
  | with_reducible refine rd_bl ?_
  | with_reducible refine rd_drop ?_
  | with_reducible refine rd_nil ?_
  | with_reducible refine rd_cons ?_
  | with_reducible refine rd_call ?_
  | with_reducible refine rd_cb ?_
  | with_reducible refine rd_tup ?_
  | with_reducible refine rd_lst ?_
  | with_reducible refine rd_and ?_
  | with_reducible refine rd_or ?_
  | with_reducible refine rd_not ?_
  | with_reducible refine rd_andV ?_
  | with_reducible refine rd_orV ?_
  | with_reducible refine rd_notV ?_
  | with_reducible refine rd_chain ?_
  | with_reducible refine rd_un ?_
  | with_reducible refine rd_isN ?_
  | with_reducible refine rd_bm ?_
  | with_reducible refine rd_bm0 ?_
  | with_reducible refine rd_gsub ?_
  | with_reducible refine rd_sl ?_
  | with_reducible refine rd_gt ?_
  | with_reducible refine rd_yes ?_
  | with_reducible refine rd_gcons ?_
  | with_reducible refine rd_gnil ?_
  | with_reducible refine rd_part ?_
  | with_reducible refine rd_nopart ?_
  | ((with_reducible show gTup _ _ _ _ _ _ _); refine rd_gtup (by first | assumption | exact upd_same) rfl ?_)
  | ((with_reducible show gLst _ _ _ _ _ _ _); refine rd_glst (by first | assumption | exact upd_same) rfl ?_)
  | ((with_reducible show rIsi _ _ _ _); first | refine rd_isi (b := true) (.ty _) (.base (by first | exact .int _ | exact .str _ | exact .bl _ | exact .non | exact .tup (by assumption) | exact .lst (by assumption))) (kit_ty (by decide +kernel)) ?_ | refine rd_isi (b := false) (.ty _) (.base (by first | exact .int _ | exact .str _ | exact .bl _ | exact .non | exact .tup (by assumption) | exact .lst (by assumption))) (kit_ty (by decide +kernel)) ?_)
  | with_reducible refine rd_fld ?_
  | with_reducible refine rd_sfld ?_
  | with_reducible refine rd_meth ?_
  | with_reducible refine rd_make ?_
  | with_reducible refine rd_makeK ?_
  | with_reducible refine rd_U ?_
  | with_reducible refine rd_makeKS ?_
  | with_reducible refine rd_callN ?_
  | with_reducible refine rd_rs ?_
  | with_reducible refine rd_rf ?_
  | with_reducible refine rd_star ?_
  | with_reducible refine rd_callS ?_
  | with_reducible refine rd_for ?_
  | with_reducible refine rd_lc ?_
  | with_reducible refine rd_ilist ?_
  | with_reducible refine rd_itup ?_
  | with_reducible refine rd_irng ?_
  | with_reducible refine rd_izipS ?_
  | with_reducible refine rd_ienum ?_
  | with_reducible refine rd_ienT ?_
  | with_reducible refine rd_next ?_
  | with_reducible refine rd_eq rfl ?_
  | with_reducible refine rd_ne rfl ?_
  | with_reducible refine iteT ?_
  | with_reducible refine iteF ?_
  | with_reducible refine rd_ifnT ?_
  | with_reducible refine rd_ifnF ?_
  | ((with_reducible show rI (fun _ j => (0 : Int) < j) _ _ _ _ _); refine rd_mod (by omega) ?_)
  | with_reducible refine rd_new rfl ?_
  | ((with_reducible show rIxL _ _ (V.int 0) _ _); refine rd_ixL0 (by first | assumption | exact upd_same) ?_)
  | ((with_reducible show rIxL _ _ _ _ _); refine rd_ixL (by first | assumption | exact upd_same) rfl ?_)
  | ((with_reducible show rSetL _ _ _ _ _); refine rd_setL (by first | assumption | exact upd_same) rfl ?_)
  | ((with_reducible show rI CMul _ _ _ _ _); refine rd_mul (by first | exact Or.inl ⟨by omega, by omega⟩ | exact Or.inr ⟨by omega, by omega⟩) ?_)
  | ((with_reducible show tyV _ "list" _ _ ∧ _); refine rd_tyL (by first | assumption | exact upd_same) ?_)
  | ((with_reducible show rIxT _ _ (V.int 0) _ _); refine rd_ixT0 (by first | assumption | exact upd_same) ?_)
  | ((with_reducible show rIxT _ _ _ _ _); refine rd_ixT (by first | assumption | exact upd_same) rfl ?_))
local macro_rules | `(tactic| walk_at "rdn1") => `(tactic| first
  | with_reducible refine rd_seq ?_
  | with_reducible refine rd_asg ?_
  | ((with_reducible show tVar _ _ _ _); refine rd_var rfl ?_)
  | with_reducible refine rd_c ?_
  | with_reducible refine rd_op ?_
  | with_reducible refine rd_I0 ?_
  | with_reducible refine rd_name ?_
  | with_reducible refine rd_ret ?_
  | with_reducible refine rd_ifs ?_
  | with_reducible refine rd_test ?_
  | with_reducible refine rd_tB ?_
  | with_reducible refine rd_bl ?_
  | with_reducible refine rd_drop ?_
  | with_reducible refine rd_nil ?_
  | with_reducible refine rd_cons ?_
  | with_reducible refine rd_call ?_
  | with_reducible refine rd_cb ?_
  | with_reducible refine rd_tup ?_
  | with_reducible refine rd_lst ?_
  | with_reducible refine rd_and ?_
  | with_reducible refine rd_or ?_
  | with_reducible refine rd_not ?_
  | with_reducible refine rd_notV ?_
  | with_reducible refine rd_chain ?_
  | with_reducible refine rd_un ?_
  | with_reducible refine rd_isN ?_
  | with_reducible refine rd_bm ?_
  | with_reducible refine rd_bm0 ?_
  | with_reducible refine rd_gsub ?_
  | with_reducible refine rd_sl ?_
  | with_reducible refine rd_gt ?_
  | with_reducible refine rd_yes ?_
  | with_reducible refine rd_gcons ?_
  | with_reducible refine rd_gnil ?_
  | with_reducible refine rd_part ?_
  | with_reducible refine rd_nopart ?_
  | ((with_reducible show gTup _ _ _ _ _ _ _); refine rd_gtup (by first | assumption | exact upd_same) rfl ?_)
  | ((with_reducible show gLst _ _ _ _ _ _ _); refine rd_glst (by first | assumption | exact upd_same) rfl ?_)
  | ((with_reducible show rIsi _ _ _ _); first | refine rd_isi (b := true) (.ty _) (.base (by first | exact .int _ | exact .str _ | exact .bl _ | exact .non | exact .tup (by assumption) | exact .lst (by assumption))) (kit_ty (by decide +kernel)) ?_ | refine rd_isi (b := false) (.ty _) (.base (by first | exact .int _ | exact .str _ | exact .bl _ | exact .non | exact .tup (by assumption) | exact .lst (by assumption))) (kit_ty (by decide +kernel)) ?_)
  | with_reducible refine rd_fld ?_
  | with_reducible refine rd_sfld ?_
  | with_reducible refine rd_meth ?_
  | with_reducible refine rd_make ?_
  | with_reducible refine rd_makeK ?_
  | with_reducible refine rd_U ?_
  | with_reducible refine rd_makeKS ?_
  | with_reducible refine rd_callN ?_
  | with_reducible refine rd_rs ?_
  | with_reducible refine rd_rf ?_
  | with_reducible refine rd_star ?_
  | with_reducible refine rd_callS ?_
  | with_reducible refine rd_for ?_
  | with_reducible refine rd_lc ?_
  | with_reducible refine rd_ilist ?_
  | with_reducible refine rd_itup ?_
  | with_reducible refine rd_irng ?_
  | with_reducible refine rd_izipS ?_
  | with_reducible refine rd_ienum ?_
  | with_reducible refine rd_ienT ?_
  | with_reducible refine rd_next ?_
  | with_reducible refine rd_eq rfl ?_
  | with_reducible refine rd_ne rfl ?_
  | with_reducible refine iteT ?_
  | with_reducible refine iteF ?_
  | with_reducible refine rd_ifnT ?_
  | with_reducible refine rd_ifnF ?_
  | ((with_reducible show rI (fun _ j => (0 : Int) < j) _ _ _ _ _); refine rd_mod (by omega) ?_)
  | with_reducible refine rd_new rfl ?_
  | ((with_reducible show rIxL _ _ (V.int 0) _ _); refine rd_ixL0 (by first | assumption | exact upd_same) ?_)
  | ((with_reducible show rIxL _ _ _ _ _); refine rd_ixL (by first | assumption | exact upd_same) rfl ?_)
  | ((with_reducible show rSetL _ _ _ _ _); refine rd_setL (by first | assumption | exact upd_same) rfl ?_)
  | ((with_reducible show rI CMul _ _ _ _ _); refine rd_mul (by first | exact Or.inl ⟨by omega, by omega⟩ | exact Or.inr ⟨by omega, by omega⟩) ?_)
  | ((with_reducible show tyV _ "list" _ _ ∧ _); refine rd_tyL (by first | assumption | exact upd_same) ?_)
  | ((with_reducible show rIxT _ _ (V.int 0) _ _); refine rd_ixT0 (by first | assumption | exact upd_same) ?_)
  | ((with_reducible show rIxT _ _ _ _ _); refine rd_ixT (by first | assumption | exact upd_same) rfl ?_))
local macro_rules | `(tactic| walk_at "rd") => `(tactic| (repeat (first | walk_at "rd1" | dsimp only)))
local macro_rules | `(tactic| walk_at "rds") => `(tactic| (dsimp only [cxOf, Cx.nox, Cx.wish, Cx.blk, L2.start]; walk_at "rd"))
local macro_rules | `(tactic| walk_at "rdn") => `(tactic| (repeat (first | walk_at "rdn1" | dsimp only)))
section
variable {P : Program} {w : World} {K : PySem.W.Frag} {mg : Str → Option Value} {base : Heap}

def SgBig (x : Sg) : Prop := (∀ r ∈ x.rs, RwBig r) ∧ ∀ y ∈ x.ws, WdBig y
def spSegment : Sp := fun vs H Q _ => ∃ (t g : Addr) (n : Nat) (m b : Int), vs = [.ref t, .int m, .int b] ∧ Deck H t g n ∧ n ≤ 700000 ∧ 0 < m ∧ m ≤ 8 ∧ 2 ≤ b ∧ b ≤ 1000000000000000000000000000000000000000000000000000000000000 ∧
  ∀ (v : V) (x : Sg) (H' : Hp), Rp H' v x.d → SgForm x → sgFits x b m = true → SgBig x → Deck H' t g (n + 100) → Kp t g H H' → Q v H'
theorem use_segment {t g : Addr} {n : Nat} {m b : Int} {H : Hp} {Q : VK} {E : XK} (T : Deck H t g n) (hn : n ≤ 700000) (h0 : 0 < m) (h1 : m ≤ 8) (h2 : 2 ≤ b) (h3 : b ≤ 1000000000000000000000000000000000000000000000000000000000000)
    (h : ∀ (v : V) (x : Sg) (H' : Hp), Rp H' v x.d → SgForm x → sgFits x b m = true → SgBig x → Deck H' t g (n + 100) → Kp t g H H' → Q v H') : spSegment [.ref t, .int m, .int b] H Q E := ⟨t, g, n, m, b, rfl, T, hn, h0, h1, h2, h3, h⟩
theorem ok_segment {f : Addr} {fd : FuncData} (B : BT mg) (F : Fun K "_law_segment" "_law_segment" s_law_segment f fd) (hm : mg "_law_segment" = some (.ref f)) (C_law_take : Cal P w K mg base "_law_take" 1 ["deck", "many"] spTake)
    (C_law_word : Cal P w K mg base "_law_word" 2 ["deck", "many", "scale"] spWord) (C_law_row : Cal P w K mg base "_law_row" 3 ["deck", "many"] spRow) :
    Cal P w K mg base "_law_segment" 4 ["deck", "many", "scale"] spSegment := by
  refine ⟨f, fd, hm, F.kp, F.binds (ps := ["deck", "many", "scale"]) fun _ _ _ _ _ _ us hl => match us, hl with | [_, _, _], _ => rfl, ?_⟩
  refine F.ok sc_law_segment (fun vs H Q E h => ?_) (fun cdv A outer s H vs Q E hr h => ?_)
  · obtain ⟨t, g, n, m, b, rfl, _⟩ := h
    rfl
  · obtain ⟨t, g, n, m, b, rfl, T, hn, m0, m8, b2, bB, k⟩ := h
    refine ⟨_, (pss_cons (ps_set (i := 3) sc_law_segment.nd rfl (Or.inl rfl) (pe_ix (r := rIxL K) ix_list (pe_lst (pa_cons pe_int (pa_cons pe_int (pa_cons pe_int (pa_cons pe_int (pa_cons pe_int (pa_cons pe_int (pa_cons (pe_cal C_law_take (hr.mono (by omega)) rfl (pa_cons (pv 0) (pa_cons pe_int pa_nil))) pa_nil)))))))) (pe_cal C_law_take (hr.mono (by omega)) rfl (pa_cons (pv 0) (pa_cons pe_int pa_nil))) (fun _ _ => rfl)))
 (pss_cons (ps_set (i := 4) sc_law_segment.nd rfl (Or.inl rfl) (pe_callB (call_min2 rfl) rfl B.g_min (by decide +kernel) (pa_cons pe_int (pa_cons (pe_op op_add (pv 3) (pe_ix (r := rIxL K) ix_list (pe_lst (pa_cons pe_int (pa_cons pe_int (pa_cons pe_int (pa_cons pe_int (pa_cons pe_int pa_nil)))))) (pe_cal C_law_take (hr.mono (by omega)) rfl (pa_cons (pv 0) (pa_cons pe_int pa_nil))) (fun _ _ => rfl))) pa_nil))))
 (pss_cons (ps_set (i := 5) sc_law_segment.nd rfl (Or.inl rfl) (pe_callB (call_min2 rfl) rfl B.g_min (by decide +kernel) (pa_cons pe_int (pa_cons (pe_op op_add (pv 4) (pe_ix (r := rIxL K) ix_list (pe_lst (pa_cons pe_int (pa_cons pe_int (pa_cons pe_int (pa_cons pe_int pa_nil))))) (pe_cal C_law_take (hr.mono (by omega)) rfl (pa_cons (pv 0) (pa_cons pe_int pa_nil))) (fun _ _ => rfl))) pa_nil))))
 (pss_cons (ps_set (i := 6) sc_law_segment.nd rfl (Or.inl rfl) (pe_ix (r := rIxL K) ix_list (pe_lst (pa_cons pe_str (pa_cons pe_str (pa_cons pe_str (pa_cons pe_str (pa_cons pe_str (pa_cons pe_str (pa_cons pe_str (pa_cons pe_str (pa_cons pe_str (pa_cons pe_str (pa_cons pe_str pa_nil)))))))))))) (pe_cal C_law_take (hr.mono (by omega)) rfl (pa_cons (pv 0) (pa_cons pe_int pa_nil))) (fun _ _ => rfl)))
 (pss_cons (ps_set (i := 7) sc_law_segment.nd rfl (Or.inl rfl) (pe_callTy (cr_tupOf (K := K)) rfl B.g_tuple (by decide +kernel) (pa_cons (pe_lc (own := [("k", 10)]) (g := gName 10) (tt := tYes) rfl sc_law_segment.nd (pi_range1 rfl B.g_range (pa_cons (pe_cal C_law_take (hr.mono (by omega)) rfl (pa_cons (pv 0) (pa_cons pe_int pa_nil))) pa_nil)) (blkOk_by (own := [("k", 10)]) (N := ["deck", "many", "scale", "least", "middle", "last", "rights", "words", "rows", "gates", "k"]) (sc := defScope s_law_segment) (by decide +kernel)) (fun _ _ _ _ _ => (pg_name (i := 10) sc_law_segment.nd rfl (by first | exact Or.inl rfl | exact Or.inr rfl))) (fun _ _ _ _ _ => pts_nil) (fun _ _ _ _ _ => (pe_cal C_law_word (hr.mono (by omega)) rfl (pa_cons (pv 0) (pa_cons (pv 1) (pa_cons (pv 2) pa_nil)))))) pa_nil)))
 (pss_cons (ps_setLc (i := 8) (own := [("k", 10)]) (g := gName 10) (tt := tYes) rfl sc_law_segment.nd rfl rfl (sw_true rfl rfl rfl (by decide +kernel)) (pi_range1 rfl B.g_range (pa_cons (pe_cal C_law_take (hr.mono (by omega)) rfl (pa_cons (pv 0) (pa_cons pe_int pa_nil))) pa_nil)) (blkOk_by (own := [("k", 10)]) (N := ["deck", "many", "scale", "least", "middle", "last", "rights", "words", "rows", "gates", "k"]) (sc := defScope s_law_segment) (by decide +kernel)) (fun _ _ _ _ _ => (pg_name (i := 10) sc_law_segment.nd rfl (by first | exact Or.inl rfl | exact Or.inr rfl))) (fun _ _ _ _ _ => pts_nil) (fun _ _ _ _ _ => (pe_cal C_law_row (hr.mono (by omega)) rfl (pa_cons (pv 0) (pa_cons (pv 1) pa_nil)))))
 (pss_cons (ps_if (PW.pt (pw_and (pt_cmpR (r := rNeD K) (op_neD hr.units) (pv 8) (pe_lst pa_nil) (nomark _)) (pw_and1 (pt_cmpR op_eq (pe_cal C_law_take (hr.mono (by omega)) rfl (pa_cons (pv 0) (pa_cons pe_int pa_nil))) pe_int (nomark _))))) (pss_one (ps_expr (pe_bm PySem.F.plainAttrs_list PySem.F.slot_list_append PySem.F.type_list_append mt_append (pv 8) (pa_cons (pe_tup (pa_cons pe_str pa_nil)) pa_nil)))) pss_nil)
 (pss_cons (ps_set (i := 9) sc_law_segment.nd rfl (Or.inl rfl) (pe_cal C_law_take (hr.mono (by omega)) rfl (pa_cons (pv 0) (pa_cons (pe_op op_add (pe_callB (cr_lenS (K := K)) rfl B.g_len PySem.boot_len (pa_cons (pv 8) pa_nil)) pe_int) pa_nil))))
 (pss_one (ps_ret (pe_tup (pa_cons (pe_tup (pa_cons (pv 3) (pa_cons (pv 4) (pa_cons (pv 5) pa_nil)))) (pa_cons (pv 6) (pa_cons (pv 9) (pa_cons (pv 7) (pa_cons (pe_callTy (cr_tupOf (K := K)) rfl B.g_tuple (by decide +kernel) (pa_cons (pv 8) pa_nil)) pa_nil)))))))))))))))), ?_⟩
    walk_at "rds"
    refine use_take T (by omega) (by decide) (by decide) fun r1 H1 a1 b1 T1 k1 => ?_
    walk_at "rd"
    intro p1 h1
    walk_at "rd"
    refine use_take (T1.new h1) (by omega) (by decide) (by decide) fun r2 H2 a2 b2' T2 k2 => ?_
    obtain ⟨lo, hlo, elo⟩ := at_int (l := [0, 0, 1, 3, 4, 7, r1]) a2 b2'
    refine rd_ixL (k2 _ _ upd_same (T1.net h1) (T1.neg h1)) elo ?_
    have blo : 0 ≤ lo ∧ lo < 8 := by
      have : lo = 0 ∨ lo = 1 ∨ lo = 3 ∨ lo = 4 ∨ lo = 7 ∨ lo = r1 := by simpa using hlo
      omega
    have kA := (k1.trans (Kp.new (o := .lst [.int 0, .int 0, .int 1, .int 3, .int 4, .int 7, .int r1]) h1)).trans k2
    walk_at "rd"
    intro p3 h3
    walk_at "rd"
    refine use_take (T2.new h3) (by omega) (by decide) (by decide) fun r4 H4 a4 b4 T4 k4 => ?_
    obtain ⟨dm, hdm, edm⟩ := at_int (l := [0, 0, 1, 3, 7]) a4 b4
    refine rd_ixL (k4 _ _ upd_same (T2.net h3) (T2.neg h3)) edm ?_
    have bdm : 0 ≤ dm := by
      have : dm = 0 ∨ dm = 1 ∨ dm = 3 ∨ dm = 7 := by simpa using hdm
      omega
    walk_at "rd"
    refine ⟨_, _, rfl, ?_⟩
    have bmi : lo ≤ (if lo + dm < 7 then lo + dm else 7) ∧ (if lo + dm < 7 then lo + dm else 7) < 8 := by split <;> omega
    generalize (if lo + dm < 7 then lo + dm else (7 : Int)) = mi at bmi
    have kB := (kA.trans (Kp.new (o := .lst [.int 0, .int 0, .int 1, .int 3, .int 7]) h3)).trans k4
    walk_at "rd"
    intro p5 h5
    walk_at "rd"
    refine use_take (T4.new h5) (by omega) (by decide) (by decide) fun r6 H6 a6 b6 T6 k6 => ?_
    obtain ⟨dl, hdl, edl⟩ := at_int (l := [0, 1, 4, 7]) a6 b6
    refine rd_ixL (k6 _ _ upd_same (T4.net h5) (T4.neg h5)) edl ?_
    have bdl : 0 ≤ dl := by
      have : dl = 0 ∨ dl = 1 ∨ dl = 4 ∨ dl = 7 := by simpa using hdl
      omega
    walk_at "rd"
    refine ⟨_, _, rfl, ?_⟩
    have bla : mi ≤ (if mi + dl < 7 then mi + dl else 7) ∧ (if mi + dl < 7 then mi + dl else 7) < 8 := by split <;> omega
    generalize (if mi + dl < 7 then mi + dl else (7 : Int)) = la at bla
    have kC := (kB.trans (Kp.new (o := .lst [.int 0, .int 1, .int 4, .int 7]) h5)).trans k6
    walk_at "rd"
    intro p7 h7
    walk_at "rd"
    refine use_take (T6.new h7) (by omega) (by decide) (by decide) fun r8 H8 a8 b8 T8 k8 => ?_
    obtain ⟨ri, hri, er⟩ := at_str (l := ["rwx", "rwx", "rx", "rw", "x", "wx", "r", "w", "rwx", "rx", ""]) a8 b8
    refine rd_ixL (k8 _ _ upd_same (T6.net h7) (T6.neg h7)) er ?_
    have fri : riFits ri = true := (by decide +kernel : ∀ x ∈ (["rwx", "rwx", "rx", "rw", "x", "wx", "r", "w", "rwx", "rx", ""] : List Str), riFits x = true) ri hri
    have kD : Kp t g H H8 := (kC.trans (Kp.new h7)).trans k8
    walk_at "rd"
    refine use_take T8 (by omega) (by decide) (by decide) fun nw H9 a9 b9 T9 k9 => ?_
    walk_at "rd"
    refine ⟨nw, rfl, by omega, by omega, fun D6 hD6 => ?_⟩
    refine lc_it (walk_range (n := nw.toNat)) (DeckL t g D6 H9 (n + 6) 4 (fun d => ∃ x : Wd, d = x.d ∧ (wdFits x b m = true ∧ WdBig x))) (DeckL.start (T9.mono (by omega)) hD6) (fun _ _ _ _ => trivial) ?_ ?_
    · rintro i x Ha Hb hi p ⟨rfl, rfl⟩
      walk_at "rd"
      refine ⟨rfl, ?_⟩
      walk_at "rd"
      refine use_word p.deck (by omega) m0 m8 b2 bB fun v x Hc rv fx bx Tc kc => ?_
      exact p.step (T9.mono (by omega)) hD6 (by omega) Tc (by omega) kc rv ⟨x, rfl, fx, bx⟩
    rintro Ha ⟨vs6, ds6, e6, ra6, hl6, hp6, Ta, ka⟩
    obtain ⟨ws, rfl, hws⟩ := map_of ds6 hp6
    have lw : ws.length ≤ 16 := by simp at hl6; omega
    have kE := (kD.trans k9).trans ka
    walk_at "rd"
    refine ⟨D6, vs6, rfl, .inl ⟨SqL.of e6, fun pw hpw => ?_⟩⟩
    have Tb := Ta.new (o := .tup vs6) hpw
    have kF : Kp t g H (upd Ha pw (.tup vs6)) := kE.trans (Kp.new hpw)
    have hpw1 : upd Ha pw (.tup vs6) pw = some (.tup vs6) := upd_same
    have raw1 := ra6.keep (Tk.new (o := .tup vs6) hpw)
    generalize upd Ha pw (.tup vs6) = Hb at Tb kF hpw1 raw1
    walk_at "rd"
    refine use_take Tb (by omega) (by decide) (by decide) fun nr Hc a10 b10 Tc kc => ?_
    have kG := kF.trans kc
    have hpw2 := kc.dk Tb _ _ hpw1
    have raw2 := raw1.keep (kc.dk Tb)
    walk_at "rd"
    refine ⟨nr, rfl, by omega, by omega, fun D8 hD8 => ?_⟩
    have Tc' : Deck Hc t g (n + 30) := Tc.mono (by omega)
    refine lc_it (walk_range (n := nr.toNat)) (DeckL t g D8 Hc (n + 30) 10 (fun d => ∃ x : Rw, d = x.d ∧ (RwForm x ∧ rowFits x m = true ∧ RwBig x))) (DeckL.start Tc' hD8) (fun _ _ _ _ => trivial) ?_ ?_
    · rintro i x Hd He hi p ⟨rfl, rfl⟩
      walk_at "rd"
      refine ⟨rfl, ?_⟩
      walk_at "rd"
      refine use_row p.deck (by omega) m0 m8 fun v x Hf rv fo fx bx Tf kf => ?_
      exact p.step Tc' hD8 (by omega) Tf (by omega) kf rv ⟨x, rfl, fo, fx, bx⟩
    rintro Hd ⟨vs8, ds8, e8, ra8, hl8, hp8, Td, kd⟩
    obtain ⟨rs0, rfl, hrs0⟩ := map_of ds8 hp8
    rw [List.length_map] at hl8
    refine rd_seqH (fun H' => ∃ (vs : List V) (rs : List Rw), H' D8 = some (.lst vs) ∧ RpAll H' vs (rs.map Rw.d) ∧ rs.length ≤ 24 ∧ (∀ x ∈ rs, RwForm x ∧ rowFits x m = true ∧ RwBig x) ∧ Deck H' t g (n + 95) ∧ Kp t g Hc H') (fun R hR => ?_) ?_
    · walk_at "rd"
      intro pe hpe
      have se := same_upd (o := .lst []) hpe
      have e8' := se _ _ e8
      have laid : ∀ rs : List Rw, (∀ x ∈ rs, RwForm x) → rs.length ≤ 1000 → SeqAt.shaped (.list (rs.map Rw.d)) = true := fun rs h hl => shaped_of (j := 3) (lay_map rs fun x hx => Rw.lay (h x hx)) ⟨by rw [List.length_map]; omega, fun d hd => by obtain ⟨x, hx, rfl⟩ := List.mem_map.mp hd; exact Rw.ok (h x hx)⟩ (by decide)
      refine rd_neD (d := .list (rs0.map Rw.d)) (e := .list []) (.lst (SqL.of e8') (ra8.keep (Tk.of se)).dp) (.lst (SqL.of upd_same) .nil) (laid rs0 (fun x hx => (hrs0 x hx).1) (by omega)) rfl ?_
      have Te := Td.same se
      have ke := kd.trans (Kp.of se)
      have rae := ra8.keep (Tk.of se)
      generalize upd Hd pe (.lst []) = He at e8' Te ke rae
      walk_at "rd"
      refine rd_ifb (fun _ => ?_) (fun _ => ?_)
      case refine_2 =>
        walk_at "rd"
        exact hR _ ⟨vs8, rs0, e8', rae, by omega, hrs0, Te.mono (by omega), ke⟩
      walk_at "rd"
      refine use_take Te (by omega) (by decide) (by decide) fun rz Hf a11 b11 Tf kf => ?_
      have e9 := kf _ _ e8' (Tc.net hD8) (Tc.neg hD8)
      have raf := rae.keep (kf.dk Te)
      walk_at "rd"
      refine rd_ifI (fun _ => ?_) (fun _ => ?_)
      case refine_2 =>
        walk_at "rd"
        exact hR _ ⟨vs8, rs0, e9, raf, by omega, hrs0, Tf.mono (by omega), ke.trans kf⟩
      walk_at "rd"
      intro pq hpq
      have sq := same_upd (o := .tup [.str "return"]) hpq
      walk_at "rd"
      have e10 := sq _ _ e9
      refine rd_append e10 (by rw [ra8.length, List.length_map]; exact small1000 (by omega)) ?_
      walk_at "rd"
      have tk : Tk (upd Hf pq (.tup [.str "return"])) (upd (upd Hf pq (.tup [.str "return"])) D8 (.lst (vs8 ++ [.ref pq]))) := Tk.lst e10
      refine hR _ ⟨vs8 ++ [.ref pq], rs0 ++ [⟨"return", []⟩], upd_same, ?_, by rw [List.length_append]; show rs0.length + 1 ≤ 24; omega, fun x hx => ?_, ((Tf.same sq).put (Tc.net hD8) (Tc.neg hD8)).mono (by omega), ((ke.trans kf).trans (Kp.of sq)).put hD8⟩
      · rw [List.map_append]
        exact ((raf.keep (Tk.of sq)).keep tk).append (.cons (.tup (tk _ _ upd_same) (.cons (.str _) .nil)) .nil)
      · rcases List.mem_append.mp hx with h | h
        · exact hrs0 x h
        · rw [List.mem_singleton.mp h]
          obtain ⟨o1, o2⟩ := row_ok (w := "return") (l := "") (ns := []) (m := m) (by decide +kernel) rfl rfl
          exact ⟨o1, o2, fun z hz => (nomatch hz)⟩
    rintro He ⟨vsr, rs, er8, rar, lr, hrs, Te, ke⟩
    have hpw3 := ke.dk Tc _ _ hpw2
    have raw3 := raw2.keep (ke.dk Tc)
    have lr' : vsr.length = rs.length := by rw [rar.length, List.length_map]
    have kH := kG.trans ke
    walk_at "rd"
    refine ⟨D8, vsr, rfl, .inl (SqL.of er8), ?_⟩
    walk_at "rd"
    refine use_take Te (by omega) (by omega) (by omega) fun ga Hf a12 b12 Tf kf => ?_
    have er9 := kf _ _ er8 (Tc.net hD8) (Tc.neg hD8)
    have hpw4 := kf.dk Te _ _ hpw3
    have raw4 := raw3.keep (kf.dk Te)
    have rar4 := rar.keep (kf.dk Te)
    walk_at "rd"
    intro pb hpb
    walk_at "rd"
    have sb := same_upd (o := .tup [.int lo, .int mi, .int la]) hpb
    refine ⟨D8, vsr, rfl, .inl ⟨SqL.of (sb _ _ er9), fun pr hpr => ?_⟩⟩
    walk_at "rd"
    intro pz hpz
    have tk1 := Tk.new (o := .tup [.int lo, .int mi, .int la]) hpb
    have tk2 := Tk.new (o := .tup vsr) hpr
    have tk3 := Tk.new (o := .tup [.ref pb, .str ri, .int ga, .ref pw, .ref pr]) hpz
    have tk := (tk1.trans tk2).trans tk3
    refine k (.ref pz) ⟨lo, mi, la, ri, ga, ws, rs⟩ _ ?_ (fun r hr => (hrs r hr).1) ?_ ⟨fun r hr => (hrs r hr).2.2, fun y hy => (hws y hy).2⟩ ((((Tf.new hpb).new hpr).new hpz).mono (by omega)) ((((kH.trans kf).trans (Kp.new hpb)).trans (Kp.new hpr)).trans (Kp.new hpz))
    · exact .tup upd_same (.cons (.tup (tk3 _ _ (tk2 _ _ upd_same)) (.cons (.int _) (.cons (.int _) (.cons (.int _) .nil)))) (.cons (.str _) (.cons (.int _) (.cons (.tup (tk _ _ hpw4) (raw4.keep tk)) (.cons (.tup (tk3 _ _ upd_same) (rar4.keep tk)) .nil)))))
    · unfold sgFits brFits
      dsimp only
      rw [below_of blo.1 blo.2, below_of (show 0 ≤ mi by omega) bmi.2, below_of (show 0 ≤ la by omega) bla.2, decide_eq_true bmi.1, decide_eq_true bla.1, fri, below_of a12 (by rw [← lr']; exact b12), decide_eq_true lw, decide_eq_true lr,
        List.all_eq_true.mpr fun x hx => (hws x hx).1, List.all_eq_true.mpr fun x hx => (hrs x hx).2.1]
      rfl
def spMachine : Sp := fun vs H Q _ => ∃ (t g : Addr) (n : Nat), vs = [.ref t] ∧ Deck H t g n ∧ n ≤ 600000 ∧
  ∀ (p L : Addr) (us : List V) (xs : List Sg) (b : Int) (H' : Hp), H L = none → H' p = some (.tup [.ref L, .int b]) → H' L = some (.lst us) → RpAll H' us (xs.map Sg.d) → 1 ≤ xs.length → xs.length ≤ 8 → 2 ≤ b → b ≤ 1000000000000000000000000000000000000000000000000000000000000 → (∀ x ∈ xs, SgForm x ∧ sgFits x b xs.length = true) → (∀ x ∈ xs, SgBig x) → Deck H' t g (n + 900) → Kp t g H H' → Q (.ref p) H'
theorem ok_machine {f : Addr} {fd : FuncData} (B : BT mg) (F : Fun K "_law_machine" "_law_machine" s_law_machine f fd) (hm : mg "_law_machine" = some (.ref f)) (C_law_take : Cal P w K mg base "_law_take" 1 ["deck", "many"] spTake) (C_law_segment : Cal P w K mg base "_law_segment" 4 ["deck", "many", "scale"] spSegment) :
    Cal P w K mg base "_law_machine" 5 ["deck"] spMachine := by
  refine ⟨f, fd, hm, F.kp, F.binds (ps := ["deck"]) fun _ _ _ _ _ _ us hl => match us, hl with | [_], _ => rfl, ?_⟩
  refine F.ok sc_law_machine (fun vs H Q E h => ?_) (fun cdv A outer s H vs Q E hr h => ?_)
  · obtain ⟨t, g, n, rfl, _⟩ := h
    rfl
  · obtain ⟨t, g, n, rfl, T, hn, k⟩ := h
    refine ⟨_, (pss_cons (ps_set (i := 1) sc_law_machine.nd rfl (Or.inr rfl) (pe_op op_add pe_int (pe_cal C_law_take (hr.mono (by omega)) rfl (pa_cons (pv 0) (pa_cons (pe_ix (r := rIxL K) ix_list (pe_lst (pa_cons pe_int (pa_cons pe_int pa_nil))) (pe_callTy call_int1 rfl B.g_int (by decide +kernel) (pa_cons (pe_cmpR op_eq (pe_cal C_law_take (hr.mono (by omega)) rfl (pa_cons (pv 0) (pa_cons pe_int pa_nil))) pe_int (nomark _)) pa_nil)) (fun _ _ => rfl)) pa_nil)))))
 (pss_cons (ps_set (i := 2) sc_law_machine.nd rfl (Or.inr rfl) (pe_ix (r := rIxL K) ix_list (pe_lst (pa_cons pe_int (pa_cons pe_int (pa_cons pe_int (pa_cons pe_int (pa_cons (pe_op op_sub (pe_powc (v := 1000000000000000000000000000000000000000000000000000000000000) (by decide +kernel) (by decide +kernel)) pe_int) pa_nil)))))) (pe_cal C_law_take (hr.mono (by omega)) rfl (pa_cons (pv 0) (pa_cons pe_int pa_nil))) (fun _ _ => rfl)))
 (pss_one (ps_ret (pe_tup (pa_cons (pe_lc (own := [("k", 3)]) (g := gName 3) (tt := tYes) rfl sc_law_machine.nd (pi_range1 rfl B.g_range (pa_cons (pv 1) pa_nil)) (blkOk_by (own := [("k", 3)]) (N := ["deck", "many", "scale", "k"]) (sc := defScope s_law_machine) (by decide +kernel)) (fun _ _ _ _ _ => (pg_name (i := 3) sc_law_machine.nd rfl (by first | exact Or.inl rfl | exact Or.inr rfl))) (fun _ _ _ _ _ => pts_nil) (fun _ _ _ _ _ => (pe_cal C_law_segment (hr.mono (by omega)) rfl (pa_cons (pv 0) (pa_cons (pv 1) (pa_cons (pv 2) pa_nil)))))) (pa_cons (pv 2) pa_nil))))))), ?_⟩
    walk_at "rds"
    intro p1 h1
    walk_at "rd"
    refine use_take (T.new h1) (by omega) (by decide) (by decide) fun r1 H1 a1 b1 T1 k1 => ?_
    walk_at "rd"
    refine .inr ⟨_, rfl, ?_⟩
    have hw : ∃ z : Int, 0 < z ∧ z ≤ 8 ∧ atI [V.int 5, V.int 8] (if decide (V.int r1 = V.int 7) = true then 1 else 0) = some (.int z) := by
      by_cases hz : r1 = 7
      · subst hz
        exact ⟨8, by decide, by decide, rfl⟩
      · have : ¬ V.int r1 = V.int 7 := fun e => hz (by injection e)
        rw [decide_eq_false this]
        exact ⟨5, by decide, by decide, rfl⟩
    obtain ⟨z, z0, z8, ez⟩ := hw
    refine rd_ixL (k1 _ _ upd_same (T.net h1) (T.neg h1)) ez ?_
    walk_at "rd"
    refine use_take T1 (by omega) z0 (by omega) fun r2 H2 a2 b2 T2 k2 => ?_
    have kA := ((Kp.new h1).trans k1).trans k2
    walk_at "rd"
    intro p3 h3
    walk_at "rd"
    refine use_take (T2.new h3) (by omega) (by decide) (by decide) fun r4 H4 a4 b4 T4 k4 => ?_
    obtain ⟨b, hb, eb⟩ := at_int (l := [2, 3, 5, 16, 1000000000000000000000000000000000000000000000000000000000000 - 1]) a4 b4
    refine rd_ixL (k4 _ _ upd_same (T2.net h3) (T2.neg h3)) eb ?_
    have bb : 2 ≤ b ∧ b ≤ 1000000000000000000000000000000000000000000000000000000000000 := by
      have : b = 2 ∨ b = 3 ∨ b = 5 ∨ b = 16 ∨ b = 1000000000000000000000000000000000000000000000000000000000000 - 1 := by simpa using hb
      omega
    have kB := (kA.trans (Kp.new h3)).trans k4
    walk_at "rd"
    refine ⟨_, rfl, by omega, by omega, fun D hD => ?_⟩
    refine lc_it (walk_range (n := (1 + r2).toNat)) (DeckL t g D H4 (n + 3) 100 (fun d => ∃ x : Sg, d = x.d ∧ (SgForm x ∧ sgFits x b (1 + r2) = true ∧ SgBig x))) (DeckL.start T4 hD) (fun _ _ _ _ => trivial) ?_ ?_
    · rintro i x H5 H6 hi p ⟨rfl, rfl⟩
      walk_at "rd"
      refine ⟨rfl, ?_⟩
      walk_at "rd"
      refine use_segment p.deck (by omega) (by omega) (by omega) bb.1 bb.2 fun v x H7 rv fo fx bx T7 k7 => ?_
      exact p.step T4 hD (by omega) T7 (by omega) k7 rv ⟨x, rfl, fo, fx, bx⟩
    rintro H5 ⟨us, ds, e5, ra5, hl, hp5, T5, k5⟩
    obtain ⟨xs, rfl, hxs⟩ := map_of ds hp5
    rw [List.length_map] at hl
    have hm' : (1 + r2 : Int) = xs.length := by omega
    rw [hm'] at hxs
    have hD' : H D = none := T4.kfree kB hD
    walk_at "rd"
    intro pz hpz
    have sz := same_upd (o := .tup [.ref D, .int b]) hpz
    exact k pz D us xs b _ hD' upd_same (sz _ _ e5) (ra5.keep (Tk.of sz)) (by omega) (by omega) bb.1 bb.2 (fun x hx => ⟨(hxs x hx).1, (hxs x hx).2.1⟩) (fun x hx => (hxs x hx).2.2) ((T5.new hpz).mono (by omega)) ((kB.trans k5).trans (Kp.new hpz))

end
end Rg

namespace Rg
open PySem PySem.Spec L2
local macro_rules | `(tactic| walk_at "rd1") => `(tactic| first
  | with_reducible refine rd_seq ?_
  | with_reducible refine rd_asg ?_
  | ((with_reducible show tVar _ _ _ _); refine rd_var rfl ?_)
  | with_reducible refine rd_c ?_
  | with_reducible refine rd_op ?_
  | with_reducible refine rd_I0 ?_
  | with_reducible refine rd_name ?_
  | with_reducible refine rd_ret ?_
  | with_reducible refine rd_ifs ?_
  | with_reducible refine rd_test ?_
  | with_reducible refine rd_tB ?_
  | with_reducible refine rd_bl ?_
  | with_reducible refine rd_drop ?_
  | with_reducible refine rd_nil ?_
  | with_reducible refine rd_cons ?_
  | with_reducible refine rd_call ?_
  | with_reducible refine rd_cb ?_
  | with_reducible refine rd_tup ?_
  | with_reducible refine rd_lst ?_
  | with_reducible refine rd_and ?_
  | with_reducible refine rd_or ?_
  | with_reducible refine rd_not ?_
  | with_reducible refine rd_andV ?_
  | with_reducible refine rd_orV ?_
  | with_reducible refine rd_notV ?_
  | with_reducible refine rd_chain ?_
  | with_reducible refine rd_un ?_
  | with_reducible refine rd_isN ?_
  | with_reducible refine rd_bm ?_
  | with_reducible refine rd_bm0 ?_
  | with_reducible refine rd_gsub ?_
  | with_reducible refine rd_sl ?_
  | with_reducible refine rd_gt ?_
  | with_reducible refine rd_yes ?_
  | with_reducible refine rd_gcons ?_
  | with_reducible refine rd_gnil ?_
  | with_reducible refine rd_part ?_
  | with_reducible refine rd_nopart ?_
  | ((with_reducible show gTup _ _ _ _ _ _ _); refine rd_gtup (by first | assumption | exact upd_same) rfl ?_)
  | ((with_reducible show gLst _ _ _ _ _ _ _); refine rd_glst (by first | assumption | exact upd_same) rfl ?_)
  | ((with_reducible show rIsi _ _ _ _); first | refine rd_isi (b := true) (.ty _) (.base (by first | exact .int _ | exact .str _ | exact .bl _ | exact .non | exact .tup (by assumption) | exact .lst (by assumption))) (kit_ty (by decide +kernel)) ?_ | refine rd_isi (b := false) (.ty _) (.base (by first | exact .int _ | exact .str _ | exact .bl _ | exact .non | exact .tup (by assumption) | exact .lst (by assumption))) (kit_ty (by decide +kernel)) ?_)
  | with_reducible refine rd_fld ?_
  | with_reducible refine rd_sfld ?_
  | with_reducible refine rd_meth ?_
  | with_reducible refine rd_make ?_
  | with_reducible refine rd_makeK ?_
  | with_reducible refine rd_U ?_
  | with_reducible refine rd_makeKS ?_
  | with_reducible refine rd_callN ?_
  | with_reducible refine rd_rs ?_
  | with_reducible refine rd_rf ?_
  | with_reducible refine rd_star ?_
  | with_reducible refine rd_callS ?_
  | with_reducible refine rd_for ?_
  | with_reducible refine rd_lc ?_
  | with_reducible refine rd_ilist ?_
  | with_reducible refine rd_itup ?_
  | with_reducible refine rd_irng ?_
  | with_reducible refine rd_izipS ?_
  | with_reducible refine rd_ienum ?_
  | with_reducible refine rd_ienT ?_
  | with_reducible refine rd_next ?_
  | with_reducible refine rd_eq rfl ?_
  | with_reducible refine rd_ne rfl ?_
  | with_reducible refine iteT ?_
  | with_reducible refine iteF ?_
  | with_reducible refine rd_ifnT ?_
  | with_reducible refine rd_ifnF ?_
  | ((with_reducible show rI (fun _ j => (0 : Int) < j) _ _ _ _ _); refine rd_mod (by omega) ?_)
  | with_reducible refine rd_new rfl ?_
  | ((with_reducible show rIxL _ _ (V.int 0) _ _); refine rd_ixL0 (by first | assumption | exact upd_same) ?_)
  | ((with_reducible show rIxL _ _ _ _ _); refine rd_ixL (by first | assumption | exact upd_same) rfl ?_)
  | ((with_reducible show rSetL _ _ _ _ _); refine rd_setL (by first | assumption | exact upd_same) rfl ?_)
  | ((with_reducible show rI CMul _ _ _ _ _); refine rd_mul (by first | exact Or.inl ⟨by omega, by omega⟩ | exact Or.inr ⟨by omega, by omega⟩) ?_)
  | ((with_reducible show tyV _ "list" _ _ ∧ _); refine rd_tyL (by first | assumption | exact upd_same) ?_)
  | ((with_reducible show rIxT _ _ (V.int 0) _ _); refine rd_ixT0 (by first | assumption | exact upd_same) ?_)
  | ((with_reducible show rIxT _ _ _ _ _); refine rd_ixT (by first | assumption | exact upd_same) rfl ?_))
local macro_rules | `(tactic| walk_at "rdn1") => `(tactic| first
  | with_reducible refine rd_seq ?_
  | with_reducible refine rd_asg ?_
  | ((with_reducible show tVar _ _ _ _); refine rd_var rfl ?_)
  | with_reducible refine rd_c ?_
  | with_reducible refine rd_op ?_
  | with_reducible refine rd_I0 ?_
  | with_reducible refine rd_name ?_
  | with_reducible refine rd_ret ?_
  | with_reducible refine rd_ifs ?_
  | with_reducible refine rd_test ?_
  | with_reducible refine rd_tB ?_
  | with_reducible refine rd_bl ?_
  | with_reducible refine rd_drop ?_
  | with_reducible refine rd_nil ?_
  | with_reducible refine rd_cons ?_
  | with_reducible refine rd_call ?_
  | with_reducible refine rd_cb ?_
  | with_reducible refine rd_tup ?_
  | with_reducible refine rd_lst ?_
  | with_reducible refine rd_and ?_
  | with_reducible refine rd_or ?_
  | with_reducible refine rd_not ?_
  | with_reducible refine rd_notV ?_
  | with_reducible refine rd_chain ?_
  | with_reducible refine rd_un ?_
  | with_reducible refine rd_isN ?_
  | with_reducible refine rd_bm ?_
  | with_reducible refine rd_bm0 ?_
  | with_reducible refine rd_gsub ?_
  | with_reducible refine rd_sl ?_
  | with_reducible refine rd_gt ?_
  | with_reducible refine rd_yes ?_
  | with_reducible refine rd_gcons ?_
  | with_reducible refine rd_gnil ?_
  | with_reducible refine rd_part ?_
  | with_reducible refine rd_nopart ?_
  | ((with_reducible show gTup _ _ _ _ _ _ _); refine rd_gtup (by first | assumption | exact upd_same) rfl ?_)
  | ((with_reducible show gLst _ _ _ _ _ _ _); refine rd_glst (by first | assumption | exact upd_same) rfl ?_)
  | ((with_reducible show rIsi _ _ _ _); first | refine rd_isi (b := true) (.ty _) (.base (by first | exact .int _ | exact .str _ | exact .bl _ | exact .non | exact .tup (by assumption) | exact .lst (by assumption))) (kit_ty (by decide +kernel)) ?_ | refine rd_isi (b := false) (.ty _) (.base (by first | exact .int _ | exact .str _ | exact .bl _ | exact .non | exact .tup (by assumption) | exact .lst (by assumption))) (kit_ty (by decide +kernel)) ?_)
  | with_reducible refine rd_fld ?_
  | with_reducible refine rd_sfld ?_
  | with_reducible refine rd_meth ?_
  | with_reducible refine rd_make ?_
  | with_reducible refine rd_makeK ?_
  | with_reducible refine rd_U ?_
  | with_reducible refine rd_makeKS ?_
  | with_reducible refine rd_callN ?_
  | with_reducible refine rd_rs ?_
  | with_reducible refine rd_rf ?_
  | with_reducible refine rd_star ?_
  | with_reducible refine rd_callS ?_
  | with_reducible refine rd_for ?_
  | with_reducible refine rd_lc ?_
  | with_reducible refine rd_ilist ?_
  | with_reducible refine rd_itup ?_
  | with_reducible refine rd_irng ?_
  | with_reducible refine rd_izipS ?_
  | with_reducible refine rd_ienum ?_
  | with_reducible refine rd_ienT ?_
  | with_reducible refine rd_next ?_
  | with_reducible refine rd_eq rfl ?_
  | with_reducible refine rd_ne rfl ?_
  | with_reducible refine iteT ?_
  | with_reducible refine iteF ?_
  | with_reducible refine rd_ifnT ?_
  | with_reducible refine rd_ifnF ?_
  | ((with_reducible show rI (fun _ j => (0 : Int) < j) _ _ _ _ _); refine rd_mod (by omega) ?_)
  | with_reducible refine rd_new rfl ?_
  | ((with_reducible show rIxL _ _ (V.int 0) _ _); refine rd_ixL0 (by first | assumption | exact upd_same) ?_)
  | ((with_reducible show rIxL _ _ _ _ _); refine rd_ixL (by first | assumption | exact upd_same) rfl ?_)
  | ((with_reducible show rSetL _ _ _ _ _); refine rd_setL (by first | assumption | exact upd_same) rfl ?_)
  | ((with_reducible show rI CMul _ _ _ _ _); refine rd_mul (by first | exact Or.inl ⟨by omega, by omega⟩ | exact Or.inr ⟨by omega, by omega⟩) ?_)
  | ((with_reducible show tyV _ "list" _ _ ∧ _); refine rd_tyL (by first | assumption | exact upd_same) ?_)
  | ((with_reducible show rIxT _ _ (V.int 0) _ _); refine rd_ixT0 (by first | assumption | exact upd_same) ?_)
  | ((with_reducible show rIxT _ _ _ _ _); refine rd_ixT (by first | assumption | exact upd_same) rfl ?_))
local macro_rules | `(tactic| walk_at "rd") => `(tactic| (repeat (first | walk_at "rd1" | dsimp only)))
local macro_rules | `(tactic| walk_at "rds") => `(tactic| (dsimp only [cxOf, Cx.nox, Cx.wish, Cx.blk, L2.start]; walk_at "rd"))
local macro_rules | `(tactic| walk_at "rdn") => `(tactic| (repeat (first | walk_at "rdn1" | dsimp only)))
section
variable {P : Program} {w : World} {K : PySem.W.Frag} {mg : Str → Option Value} {base : Heap}

def spWhole : Sp := fun vs H Q _ => ∃ i : Int, vs = [.int i] ∧ Q (.bl true) H
theorem ok_whole {f : Addr} {fd : FuncData} (B : BT mg) (F : Fun K "is_whole" "is_whole" s_is_whole f fd) (hm : mg "is_whole" = some (.ref f)) : Cal P w K mg base "is_whole" 1 ["number"] spWhole := by
  refine ⟨f, fd, hm, F.kp, F.binds (ps := ["number"]) fun _ _ _ _ _ _ us hl => match us, hl with | [_], _ => rfl, ?_⟩
  refine F.ok sc_is_whole (fun vs H Q E h => ?_) (fun cdv A outer s H vs Q E hr h => ?_)
  · obtain ⟨i, rfl, _⟩ := h
    rfl
  · obtain ⟨i, rfl, k⟩ := h
    refine ⟨_, (pss_one (ps_ret (pe_and (pe_callB (r := rIsi K) call_isi rfl B.g_isinstance (by decide +kernel) (pa_cons (pv 0) (pa_cons (pe_bltn (v := .ty "int") rfl B.g_int (by decide +kernel) rfl) pa_nil))) (pe_one (pe_not (pe_callB (r := rIsi K) call_isi rfl B.g_isinstance (by decide +kernel) (pa_cons (pv 0) (pa_cons (pe_bltn (v := .ty "bool") rfl B.g_bool (by decide +kernel) rfl) pa_nil)))))))), ?_⟩
    walk_at "rds"
    exact k
def spBelow : Sp := fun vs H Q _ => ∃ i b : Int, vs = [.int i, .int b] ∧ Q (.bl (below i b)) H
theorem ok_below {f : Addr} {fd : FuncData} (B : BT mg) (F : Fun K "is_below" "is_below" s_is_below f fd) (hm : mg "is_below" = some (.ref f)) (C_is_whole : Cal P w K mg base "is_whole" 1 ["number"] spWhole) : Cal P w K mg base "is_below" 2 ["number", "bound"] spBelow := by
  refine ⟨f, fd, hm, F.kp, F.binds (ps := ["number", "bound"]) fun _ _ _ _ _ _ us hl => match us, hl with | [_, _], _ => rfl, ?_⟩
  refine F.ok sc_is_below (fun vs H Q E h => ?_) (fun cdv A outer s H vs Q E hr h => ?_)
  · obtain ⟨i, b, rfl, _⟩ := h
    rfl
  · obtain ⟨i, b, rfl, k⟩ := h
    refine ⟨_, (pss_one (ps_ret (pe_and (pe_cal C_is_whole (hr.mono (by omega)) rfl (pa_cons (pv 0) pa_nil)) (pe_one (pe_chain op_le op_lt pe_int (pv 0) (pv 1)))))), ?_⟩
    walk_at "rds"
    refine ⟨i, rfl, ?_⟩
    walk_at "rd"
    refine rd_ifd (fun h0 => ?_) (fun h0 => ?_)
    · walk_at "rd"
      unfold below at k
      rw [decide_eq_true h0] at k
      exact k
    · unfold below at k
      rw [decide_eq_false h0] at k
      exact k
def spRing : Sp := fun vs H Q _ => ∃ i : Int, vs = [.int i] ∧ Q (.bl (below i 8)) H
theorem ok_ring {f : Addr} {fd : FuncData} (B : BT mg) (F : Fun K "is_ring" "is_ring" s_is_ring f fd) (hm : mg "is_ring" = some (.ref f)) (G_RINGS : GI mg "RINGS" 8) (C_is_below : Cal P w K mg base "is_below" 2 ["number", "bound"] spBelow) : Cal P w K mg base "is_ring" 3 ["number"] spRing := by
  refine ⟨f, fd, hm, F.kp, F.binds (ps := ["number"]) fun _ _ _ _ _ _ us hl => match us, hl with | [_], _ => rfl, ?_⟩
  refine F.ok sc_is_ring (fun vs H Q E h => ?_) (fun cdv A outer s H vs Q E hr h => ?_)
  · obtain ⟨i, rfl, _⟩ := h
    rfl
  · obtain ⟨i, rfl, k⟩ := h
    refine ⟨_, (pss_one (ps_ret (pe_cal C_is_below (hr.mono (by omega)) rfl (pa_cons (pv 0) (pa_cons (pe_gi G_RINGS rfl) pa_nil))))), ?_⟩
    walk_at "rds"
    exact ⟨i, 8, rfl, k⟩
def spNFits : Sp := fun vs H Q _ => ∃ (c : Nat) (i m : Int), vs = [.str ⟨#[c]⟩, .int i, .int m] ∧ Q (.bl (numFits c i m)) H
theorem sign_eq {c d : Nat} : ((⟨#[c]⟩ : Str) = ⟨#[d]⟩) ↔ c = d := ⟨fun h => by injection h with h; simpa using h, fun h => by rw [h]⟩
theorem ok_nfits {f : Addr} {fd : FuncData} (B : BT mg) (F : Fun K "number_fits" "number_fits" s_number_fits f fd) (hm : mg "number_fits" = some (.ref f)) (G_POINTERS : GI mg "POINTERS" 4) (C_is_whole : Cal P w K mg base "is_whole" 1 ["number"] spWhole) (C_is_below : Cal P w K mg base "is_below" 2 ["number", "bound"] spBelow) :
    Cal P w K mg base "number_fits" 3 ["letter", "number", "many"] spNFits := by
  refine ⟨f, fd, hm, F.kp, F.binds (ps := ["letter", "number", "many"]) fun _ _ _ _ _ _ us hl => match us, hl with | [_, _, _], _ => rfl, ?_⟩
  refine F.ok sc_number_fits (fun vs H Q E h => ?_) (fun cdv A outer s H vs Q E hr h => ?_)
  · obtain ⟨c, i, m, rfl, _⟩ := h
    rfl
  · obtain ⟨c, i, m, rfl, k⟩ := h
    refine ⟨_, (pss_cons (ps_if (pt_cmpR op_eq (pv 0) pe_str (nomark _)) (pss_one (ps_ret (pe_cal C_is_below (hr.mono (by omega)) rfl (pa_cons (pv 1) (pa_cons (pe_gi G_POINTERS rfl) pa_nil))))) pss_nil)
 (pss_cons (ps_if (pt_cmpR op_eq (pv 0) pe_str (nomark _)) (pss_one (ps_ret (pe_cal C_is_below (hr.mono (by omega)) rfl (pa_cons (pv 1) (pa_cons (pv 2) pa_nil))))) pss_nil)
 (pss_one (ps_ret (pe_cal C_is_whole (hr.mono (by omega)) rfl (pa_cons (pv 1) pa_nil)))))), ?_⟩
    walk_at "rds"
    unfold numFits at k
    refine rd_ifS (fun h => ?_) (fun h => ?_)
    · have e : c = 112 := sign_eq.mp (h.trans (by decide +kernel : ("p" : Str) = ⟨#[112]⟩))
      rw [if_pos e] at k
      walk_at "rd"
      exact ⟨i, 4, rfl, k⟩
    · have e : ¬ c = 112 := fun z => h ((sign_eq.mpr z).trans (by decide +kernel : (⟨#[112]⟩ : Str) = "p"))
      rw [if_neg e] at k
      walk_at "rd"
      refine rd_ifS (fun h => ?_) (fun h => ?_)
      · have e : c = 115 := sign_eq.mp (h.trans (by decide +kernel : ("s" : Str) = ⟨#[115]⟩))
        rw [if_pos e] at k
        walk_at "rd"
        exact ⟨i, m, rfl, k⟩
      · have e : ¬ c = 115 := fun z => h ((sign_eq.mpr z).trans (by decide +kernel : (⟨#[115]⟩ : Str) = "s"))
        rw [if_neg e] at k
        walk_at "rd"
        exact ⟨i, rfl, k⟩
def spRowFits : Sp := fun vs H Q _ => ∃ (v : V) (r : Rw) (m : Int), vs = [v, .int m] ∧ Rp H v r.d ∧ RwForm r ∧ ∀ H', Same H H' → Q (.bl (rowFits r m)) H'
theorem ok_rowFits {f : Addr} {fd : FuncData} (B : BT mg) (F : Fun K "row_fits" "row_fits" s_row_fits f fd) (hm : mg "row_fits" = some (.ref f)) (G_ROW_FORMS : GFo K w mg) (C_number_fits : Cal P w K mg base "number_fits" 3 ["letter", "number", "many"] spNFits) :
    Cal P w K mg base "row_fits" 4 ["row", "many"] spRowFits := by
  refine ⟨f, fd, hm, F.kp, F.binds (ps := ["row", "many"]) fun _ _ _ _ _ _ us hl => match us, hl with | [_, _], _ => rfl, ?_⟩
  refine F.ok sc_row_fits (fun vs H Q E h => ?_) (fun cdv A outer s H vs Q E hr h => ?_)
  · obtain ⟨v, r, m, rfl, _⟩ := h
    rfl
  · obtain ⟨v, ⟨op, ns⟩, m, rfl, hv, ⟨l, hl, hlen⟩, k⟩ := h
    refine ⟨_, (pss_cons (ps_set (i := 2) sc_row_fits.nd rfl (Or.inl rfl) (pe_kget (pe_fo G_ROW_FORMS rfl) (pe_ix (r := rIxT K) ix_tup (pv 0) pe_int (fun _ _ => rfl)) ⟨rfl, rfl, rfl, rfl⟩))
 (pss_cons (ps_if (PW.pt (pw_or (pt_cmpR op_isN (pv 2) pe_non (nomark _)) (pw_or1 (pt_cmpR op_ne (pe_callB (cr_lenS (K := K)) rfl B.g_len PySem.boot_len (pa_cons (pv 0) pa_nil)) (pe_op op_add (pe_callB call_len_str rfl B.g_len PySem.boot_len (pa_cons (pv 2) pa_nil)) pe_int) (nomark _))))) (pss_one (ps_ret pe_bl)) pss_nil)
 (pss_one (ps_ret (pe_callB (r := rAll K) (cr_all rfl) rfl B.g_all (by decide +kernel) (pa_cons (pe_lc (own := [("letter", 3), ("number", 4)]) (g := gTup K 2 (gCons (gName 3) (gCons (gName 4) (gNil)))) (tt := tYes) rfl sc_row_fits.nd (pi_zipS rfl B.g_zip (pa_cons (pv 2) (pa_cons (pe_slice (r := rSlT K) sl_tup (pv 0) (po_some pe_int) po_none) pa_nil))) (blkOk_by (own := [("letter", 3), ("number", 4)]) (N := ["row", "many", "letters", "letter", "number"]) (sc := defScope s_row_fits) (by decide +kernel)) (fun _ _ _ _ _ => (pg_tup (by rfl) (pgs_cons (pg_name (i := 3) sc_row_fits.nd rfl (by first | exact Or.inl rfl | exact Or.inr rfl)) (pgs_cons (pg_name (i := 4) sc_row_fits.nd rfl (by first | exact Or.inl rfl | exact Or.inr rfl)) pgs_nil)))) (fun _ _ _ _ _ => pts_nil) (fun _ _ _ _ _ => (pe_cal C_number_fits (hr.mono (by omega)) rfl (pa_cons (pv 3) (pa_cons (pv 4) (pa_cons (pv 1) pa_nil)))))) pa_nil)))))), ?_⟩
    obtain ⟨p, xs, rfl, hp, ha⟩ := hv.tup_inv
    obtain ⟨x0, xr, rfl, h0, hr'⟩ := ha.cons_inv
    have e0 := h0.str_inv
    subst e0
    have er := hr'.ints_inv
    subst er
    walk_at "rds"
    refine rd_fo (w := w) ?_ ?_
    · walk_at "rd"
      refine ⟨_, l, rfl, hl, ?_⟩
      walk_at "rd"
      refine ⟨rfl, ?_⟩
      walk_at "rd"
      refine rd_ifF (fun z => nomatch z) ?_
      walk_at "rd"
      refine ⟨p, _, rfl, .inr (SqT.of hp), ?_⟩
      walk_at "rd"
      refine ⟨l, rfl, Nat.le_trans (form_len hl) (by decide), ?_⟩
      walk_at "rd"
      refine rd_ifIn (fun e => ?_) (fun e => ?_)
      · walk_at "rd"
        refine ⟨1, rfl, ?_⟩
        walk_at "rd"
        refine rd_cut1 hp fun q hq => ?_
        walk_at "rd"
        refine ⟨l, q, _, rfl, SqT.of upd_same, fun D hD => ?_⟩
        have hz : (l.cps.toList.zip ns).length = ns.length := by rw [List.length_zip, Array.length_toList]; simp at hlen; omega
        refine lc_it (walk_zipS (ys := ns.map V.int) (n := ns.length) (by rw [List.length_map]; simp at hlen; omega)) (CompL D (upd H q (.tup (ns.map V.int))) (l.cps.toList.zip ns) (fun z => V.bl (numFits z.1 z.2 m))) (CompL.start hD) (fun i H' _ p => SqT.of (p.2 _ _ upd_same)) ?_ ?_
        · rintro i x H2 H3 hi p ⟨T, a, b, rfl, hT, rfl, ea, eb⟩
          have hi' : i < l.cps.size := by simp at hlen; omega
          dsimp only at ea eb
          rw [Array.getElem?_eq_getElem hi'] at ea
          rw [List.getElem?_map, List.getElem?_eq_getElem hi] at eb
          cases ea
          cases eb
          walk_at "rd"
          refine ⟨rfl, ?_⟩
          walk_at "rd"
          refine ⟨_, _, _, rfl, ?_⟩
          have l3 := form_len hl
          have l4 : ns.length ≤ 3 := by simp at hlen; have : l.length = l.cps.size := rfl; omega
          refine p.step hD (by omega) (b := (l.cps[i], ns[i])) ?_ (same_upd hT) rfl
          exact List.getElem?_zip_eq_some.mpr ⟨by simp [hi'], by simp [hi]⟩
        · intro H2 p
          have hd := p.end hz.symm
          walk_at "rd"
          refine rd_all (f := fun z : Nat × Int => numFits z.1 z.2 m) hd ?_
          rw [fits_zip]
          have := k H2 ((same_upd hq).trans p.2)
          unfold rowFits at this
          dsimp only at this
          rw [hl] at this
          exact this
      · exact absurd (by simp at hlen ⊢; have : l.length = l.cps.size := rfl; omega) e
    · rintro R R' hR ⟨v, e1, h1⟩
      refine ⟨v, e1, ?_⟩
      obtain ⟨p, xs, i, v, a, b, c, d, q⟩ := h1
      exact ⟨p, xs, i, v, a, b, c, d, hR _ _ q⟩

end
end Rg

namespace Rg
open PySem PySem.Spec L2
local macro_rules | `(tactic| walk_at "rd1") => `(tactic| first
  | with_reducible refine rd_seq ?_
  | with_reducible refine rd_asg ?_
  | ((with_reducible show tVar _ _ _ _); refine rd_var rfl ?_)
  | with_reducible refine rd_c ?_
  | with_reducible refine rd_op ?_
  | with_reducible refine rd_I0 ?_
  | with_reducible refine rd_name ?_
  | with_reducible refine rd_ret ?_
  | with_reducible refine rd_ifs ?_
  | with_reducible refine rd_test ?_
  | with_reducible refine rd_tB ?_
  | with_reducible refine rd_bl ?_
  | with_reducible refine rd_drop ?_
  | with_reducible refine rd_nil ?_
  | with_reducible refine rd_cons ?_
  | with_reducible refine rd_call ?_
  | with_reducible refine rd_cb ?_
  | with_reducible refine rd_tup ?_
  | with_reducible refine rd_lst ?_
  | with_reducible refine rd_and ?_
  | with_reducible refine rd_or ?_
  | with_reducible refine rd_not ?_
  | with_reducible refine rd_andV ?_
  | with_reducible refine rd_orV ?_
  | with_reducible refine rd_notV ?_
  | with_reducible refine rd_chain ?_
  | with_reducible refine rd_un ?_
  | with_reducible refine rd_isN ?_
  | with_reducible refine rd_bm ?_
  | with_reducible refine rd_bm0 ?_
  | with_reducible refine rd_gsub ?_
  | with_reducible refine rd_sl ?_
  | with_reducible refine rd_gt ?_
  | with_reducible refine rd_yes ?_
  | with_reducible refine rd_gcons ?_
  | with_reducible refine rd_gnil ?_
  | with_reducible refine rd_part ?_
  | with_reducible refine rd_nopart ?_
  | ((with_reducible show gTup _ _ _ _ _ _ _); refine rd_gtup (by first | assumption | exact upd_same) rfl ?_)
  | ((with_reducible show gLst _ _ _ _ _ _ _); refine rd_glst (by first | assumption | exact upd_same) rfl ?_)
  | ((with_reducible show rIsi _ _ _ _); first | refine rd_isi (b := true) (.ty _) (.base (by first | exact .int _ | exact .str _ | exact .bl _ | exact .non | exact .tup (by assumption) | exact .lst (by assumption))) (kit_ty (by decide +kernel)) ?_ | refine rd_isi (b := false) (.ty _) (.base (by first | exact .int _ | exact .str _ | exact .bl _ | exact .non | exact .tup (by assumption) | exact .lst (by assumption))) (kit_ty (by decide +kernel)) ?_)
  | with_reducible refine rd_fld ?_
  | with_reducible refine rd_sfld ?_
  | with_reducible refine rd_meth ?_
  | with_reducible refine rd_make ?_
  | with_reducible refine rd_makeK ?_
  | with_reducible refine rd_U ?_
  | with_reducible refine rd_makeKS ?_
  | with_reducible refine rd_callN ?_
  | with_reducible refine rd_rs ?_
  | with_reducible refine rd_rf ?_
  | with_reducible refine rd_star ?_
  | with_reducible refine rd_callS ?_
  | with_reducible refine rd_for ?_
  | with_reducible refine rd_lc ?_
  | with_reducible refine rd_ilist ?_
  | with_reducible refine rd_itup ?_
  | with_reducible refine rd_irng ?_
  | with_reducible refine rd_izipS ?_
  | with_reducible refine rd_ienum ?_
  | with_reducible refine rd_ienT ?_
  | with_reducible refine rd_next ?_
  | with_reducible refine rd_eq rfl ?_
  | with_reducible refine rd_ne rfl ?_
  | with_reducible refine iteT ?_
  | with_reducible refine iteF ?_
  | with_reducible refine rd_ifnT ?_
  | with_reducible refine rd_ifnF ?_
  | ((with_reducible show rI (fun _ j => (0 : Int) < j) _ _ _ _ _); refine rd_mod (by omega) ?_)
  | with_reducible refine rd_new rfl ?_
  | ((with_reducible show rIxL _ _ (V.int 0) _ _); refine rd_ixL0 (by first | assumption | exact upd_same) ?_)
  | ((with_reducible show rIxL _ _ _ _ _); refine rd_ixL (by first | assumption | exact upd_same) rfl ?_)
  | ((with_reducible show rSetL _ _ _ _ _); refine rd_setL (by first | assumption | exact upd_same) rfl ?_)
  | ((with_reducible show rI CMul _ _ _ _ _); refine rd_mul (by first | exact Or.inl ⟨by omega, by omega⟩ | exact Or.inr ⟨by omega, by omega⟩) ?_)
  | ((with_reducible show tyV _ "list" _ _ ∧ _); refine rd_tyL (by first | assumption | exact upd_same) ?_)
  | ((with_reducible show rIxT _ _ (V.int 0) _ _); refine rd_ixT0 (by first | assumption | exact upd_same) ?_)
  | ((with_reducible show rIxT _ _ _ _ _); refine rd_ixT (by first | assumption | exact upd_same) rfl ?_))
local macro_rules | `(tactic| walk_at "rdn1") => `(tactic| first
  | with_reducible refine rd_seq ?_
  | with_reducible refine rd_asg ?_
  | ((with_reducible show tVar _ _ _ _); refine rd_var rfl ?_)
  | with_reducible refine rd_c ?_
  | with_reducible refine rd_op ?_
  | with_reducible refine rd_I0 ?_
  | with_reducible refine rd_name ?_
  | with_reducible refine rd_ret ?_
  | with_reducible refine rd_ifs ?_
  | with_reducible refine rd_test ?_
  | with_reducible refine rd_tB ?_
  | with_reducible refine rd_bl ?_
  | with_reducible refine rd_drop ?_
  | with_reducible refine rd_nil ?_
  | with_reducible refine rd_cons ?_
  | with_reducible refine rd_call ?_
  | with_reducible refine rd_cb ?_
  | with_reducible refine rd_tup ?_
  | with_reducible refine rd_lst ?_
  | with_reducible refine rd_and ?_
  | with_reducible refine rd_or ?_
  | with_reducible refine rd_not ?_
  | with_reducible refine rd_notV ?_
  | with_reducible refine rd_chain ?_
  | with_reducible refine rd_un ?_
  | with_reducible refine rd_isN ?_
  | with_reducible refine rd_bm ?_
  | with_reducible refine rd_bm0 ?_
  | with_reducible refine rd_gsub ?_
  | with_reducible refine rd_sl ?_
  | with_reducible refine rd_gt ?_
  | with_reducible refine rd_yes ?_
  | with_reducible refine rd_gcons ?_
  | with_reducible refine rd_gnil ?_
  | with_reducible refine rd_part ?_
  | with_reducible refine rd_nopart ?_
  | ((with_reducible show gTup _ _ _ _ _ _ _); refine rd_gtup (by first | assumption | exact upd_same) rfl ?_)
  | ((with_reducible show gLst _ _ _ _ _ _ _); refine rd_glst (by first | assumption | exact upd_same) rfl ?_)
  | ((with_reducible show rIsi _ _ _ _); first | refine rd_isi (b := true) (.ty _) (.base (by first | exact .int _ | exact .str _ | exact .bl _ | exact .non | exact .tup (by assumption) | exact .lst (by assumption))) (kit_ty (by decide +kernel)) ?_ | refine rd_isi (b := false) (.ty _) (.base (by first | exact .int _ | exact .str _ | exact .bl _ | exact .non | exact .tup (by assumption) | exact .lst (by assumption))) (kit_ty (by decide +kernel)) ?_)
  | with_reducible refine rd_fld ?_
  | with_reducible refine rd_sfld ?_
  | with_reducible refine rd_meth ?_
  | with_reducible refine rd_make ?_
  | with_reducible refine rd_makeK ?_
  | with_reducible refine rd_U ?_
  | with_reducible refine rd_makeKS ?_
  | with_reducible refine rd_callN ?_
  | with_reducible refine rd_rs ?_
  | with_reducible refine rd_rf ?_
  | with_reducible refine rd_star ?_
  | with_reducible refine rd_callS ?_
  | with_reducible refine rd_for ?_
  | with_reducible refine rd_lc ?_
  | with_reducible refine rd_ilist ?_
  | with_reducible refine rd_itup ?_
  | with_reducible refine rd_irng ?_
  | with_reducible refine rd_izipS ?_
  | with_reducible refine rd_ienum ?_
  | with_reducible refine rd_ienT ?_
  | with_reducible refine rd_next ?_
  | with_reducible refine rd_eq rfl ?_
  | with_reducible refine rd_ne rfl ?_
  | with_reducible refine iteT ?_
  | with_reducible refine iteF ?_
  | with_reducible refine rd_ifnT ?_
  | with_reducible refine rd_ifnF ?_
  | ((with_reducible show rI (fun _ j => (0 : Int) < j) _ _ _ _ _); refine rd_mod (by omega) ?_)
  | with_reducible refine rd_new rfl ?_
  | ((with_reducible show rIxL _ _ (V.int 0) _ _); refine rd_ixL0 (by first | assumption | exact upd_same) ?_)
  | ((with_reducible show rIxL _ _ _ _ _); refine rd_ixL (by first | assumption | exact upd_same) rfl ?_)
  | ((with_reducible show rSetL _ _ _ _ _); refine rd_setL (by first | assumption | exact upd_same) rfl ?_)
  | ((with_reducible show rI CMul _ _ _ _ _); refine rd_mul (by first | exact Or.inl ⟨by omega, by omega⟩ | exact Or.inr ⟨by omega, by omega⟩) ?_)
  | ((with_reducible show tyV _ "list" _ _ ∧ _); refine rd_tyL (by first | assumption | exact upd_same) ?_)
  | ((with_reducible show rIxT _ _ (V.int 0) _ _); refine rd_ixT0 (by first | assumption | exact upd_same) ?_)
  | ((with_reducible show rIxT _ _ _ _ _); refine rd_ixT (by first | assumption | exact upd_same) rfl ?_))
local macro_rules | `(tactic| walk_at "rd") => `(tactic| (repeat (first | walk_at "rd1" | dsimp only)))
local macro_rules | `(tactic| walk_at "rds") => `(tactic| (dsimp only [cxOf, Cx.nox, Cx.wish, Cx.blk, L2.start]; walk_at "rd"))
local macro_rules | `(tactic| walk_at "rdn") => `(tactic| (repeat (first | walk_at "rdn1" | dsimp only)))
section
variable {P : Program} {w : World} {K : PySem.W.Frag} {mg : Str → Option Value} {base : Heap}

def spWordFits : Sp := fun vs H Q _ => ∃ (v : V) (x : Wd) (b m : Int), vs = [v, .int b, .int m] ∧ Rp H v x.d ∧ ∀ H', Same H H' → Q (.bl (wdFits x b m)) H'
theorem ok_wordFits {f : Addr} {fd : FuncData} (B : BT mg) (F : Fun K "word_fits" "word_fits" s_word_fits f fd) (hm : mg "word_fits" = some (.ref f)) (C_is_whole : Cal P w K mg base "is_whole" 1 ["number"] spWhole) (C_is_below : Cal P w K mg base "is_below" 2 ["number", "bound"] spBelow) (C_is_ring : Cal P w K mg base "is_ring" 3 ["number"] spRing) :
    Cal P w K mg base "word_fits" 4 ["word", "base", "many"] spWordFits := by
  refine ⟨f, fd, hm, F.kp, F.binds (ps := ["word", "base", "many"]) fun _ _ _ _ _ _ us hl => match us, hl with | [_, _, _], _ => rfl, ?_⟩
  refine F.ok sc_word_fits (fun vs H Q E h => ?_) (fun cdv A outer s H vs Q E hr h => ?_)
  · obtain ⟨v, x, b, m, rfl, _⟩ := h
    rfl
  · obtain ⟨v, x, b, m, rfl, hv, k⟩ := h
    refine ⟨_, (pss_cons (ps_if (pt_cmpR op_eq (pe_ix (r := rIxT K) ix_tup (pv 0) pe_int (fun _ _ => rfl)) pe_str (nomark _)) (pss_one (ps_ret (pe_cal C_is_below (hr.mono (by omega)) rfl (pa_cons (pe_ix (r := rIxT K) ix_tup (pv 0) pe_int (fun _ _ => rfl)) (pa_cons (pv 1) pa_nil))))) pss_nil)
 (pss_cons (ps_asg (pe_slice (r := rSlT K) sl_tup (pv 0) (po_some pe_int) po_none) (pg_tup (by rfl) (pgs_cons (pg_name (i := 3) sc_word_fits.nd rfl (Or.inl rfl)) (pgs_cons (pg_name (i := 4) sc_word_fits.nd rfl (Or.inl rfl)) (pgs_cons (pg_name (i := 5) sc_word_fits.nd rfl (Or.inl rfl)) pgs_nil)))))
 (pss_one (ps_ret (pe_and (pe_cal C_is_ring (hr.mono (by omega)) rfl (pa_cons (pv 3) pa_nil)) (pe_and (pe_cal C_is_below (hr.mono (by omega)) rfl (pa_cons (pv 4) (pa_cons (pv 2) pa_nil))) (pe_and (pe_cal C_is_whole (hr.mono (by omega)) rfl (pa_cons (pv 5) pa_nil)) (pe_one (pe_cmpR op_ge (pv 5) pe_int (nomark _)))))))))), ?_⟩
    cases x with
    | num n =>
      obtain ⟨p, xs, rfl, hp, ha⟩ := hv.tup_inv
      obtain ⟨x0, xr, rfl, h0, ha⟩ := ha.cons_inv
      obtain ⟨x1, xr, rfl, h1, ha⟩ := ha.cons_inv
      have e := ha.nil_inv; subst e
      have e := h0.str_inv; subst e
      have e := h1.int_inv; subst e
      walk_at "rds"
      refine rd_ifT rfl ?_
      walk_at "rd"
      exact ⟨n, b, rfl, k _ (Same.refl _)⟩
    | ptr r sg pl =>
      obtain ⟨p, xs, rfl, hp, ha⟩ := hv.tup_inv
      obtain ⟨x0, xr, rfl, h0, ha⟩ := ha.cons_inv
      obtain ⟨x1, xr, rfl, h1, ha⟩ := ha.cons_inv
      obtain ⟨x2, xr, rfl, h2, ha⟩ := ha.cons_inv
      obtain ⟨x3, xr, rfl, h3, ha⟩ := ha.cons_inv
      have e := ha.nil_inv; subst e
      have e := h0.str_inv; subst e
      have e := h1.int_inv; subst e
      have e := h2.int_inv; subst e
      have e := h3.int_inv; subst e
      walk_at "rds"
      refine rd_ifF (by decide +kernel) ?_
      walk_at "rd"
      refine ⟨1, rfl, ?_⟩
      walk_at "rd"
      refine rd_cut1 hp fun q hq => ?_
      have k' : Q (.bl (below r 8 && (below sg m && decide (0 ≤ pl)))) (upd H q (.tup [.int r, .int sg, .int pl])) := k _ (same_upd hq)
      walk_at "rd"
      refine ⟨r, rfl, ?_⟩
      walk_at "rd"
      refine rd_ifb (fun hb => ?_) (fun hb => ?_)
      · rw [hb] at k'
        walk_at "rd"
        refine ⟨sg, m, rfl, ?_⟩
        walk_at "rd"
        refine rd_ifb (fun hb => ?_) (fun hb => ?_)
        · rw [hb] at k'
          walk_at "rd"
          refine ⟨pl, rfl, ?_⟩
          walk_at "rd"
          exact k'
        · rw [hb] at k'
          exact k'
      · rw [hb] at k'
        exact k'
def spBrFits : Sp := fun vs H Q _ => ∃ (v : V) (a b c : Int), vs = [v] ∧ Rp H v (.tuple [.int a, .int b, .int c]) ∧ ∀ H', Same H H' → Q (.bl (brFits a b c)) H'
theorem ok_brFits {f : Addr} {fd : FuncData} (B : BT mg) (F : Fun K "brackets_fit" "brackets_fit" s_brackets_fit f fd) (hm : mg "brackets_fit" = some (.ref f)) (C_is_ring : Cal P w K mg base "is_ring" 3 ["number"] spRing) :
    Cal P w K mg base "brackets_fit" 4 ["brackets"] spBrFits := by
  refine ⟨f, fd, hm, F.kp, F.binds (ps := ["brackets"]) fun _ _ _ _ _ _ us hl => match us, hl with | [_], _ => rfl, ?_⟩
  refine F.ok sc_brackets_fit (fun vs H Q E h => ?_) (fun cdv A outer s H vs Q E hr h => ?_)
  · obtain ⟨v, a, b, c, rfl, _⟩ := h
    rfl
  · obtain ⟨v, a, b, c, rfl, hv, k⟩ := h
    refine ⟨_, (pss_cons (ps_if (PW.pt (pw_or (pt_not (pt_val (pe_callB (r := rIsi K) call_isi rfl B.g_isinstance (by decide +kernel) (pa_cons (pv 0) (pa_cons (pe_bltn (v := .ty "tuple") rfl B.g_tuple (by decide +kernel) rfl) pa_nil))))) (pw_or1 (pt_cmpR op_ne (pe_callB (cr_lenS (K := K)) rfl B.g_len PySem.boot_len (pa_cons (pv 0) pa_nil)) pe_int (nomark _))))) (pss_one (ps_ret pe_bl)) pss_nil)
 (pss_cons (ps_if (pt_not (pt_val (pe_callB (r := rAll K) (cr_all rfl) rfl B.g_all (by decide +kernel) (pa_cons (pe_lc (own := [("ring", 4)]) (g := gName 4) (tt := tYes) rfl sc_brackets_fit.nd (pi_tupK (K := K) (pv 0)) (blkOk_by (own := [("ring", 4)]) (N := ["brackets", "r1", "r2", "r3", "ring"]) (sc := defScope s_brackets_fit) (by decide +kernel)) (fun _ _ _ _ _ => (pg_name (i := 4) sc_brackets_fit.nd rfl (by first | exact Or.inl rfl | exact Or.inr rfl))) (fun _ _ _ _ _ => pts_nil) (fun _ _ _ _ _ => (pe_cal C_is_ring (hr.mono (by omega)) rfl (pa_cons (pv 4) pa_nil)))) pa_nil)))) (pss_one (ps_ret pe_bl)) pss_nil)
 (pss_cons (ps_asg (pv 0) (pg_tup (by rfl) (pgs_cons (pg_name (i := 1) sc_brackets_fit.nd rfl (Or.inl rfl)) (pgs_cons (pg_name (i := 2) sc_brackets_fit.nd rfl (Or.inl rfl)) (pgs_cons (pg_name (i := 3) sc_brackets_fit.nd rfl (Or.inl rfl)) pgs_nil)))))
 (pss_one (ps_ret (pe_chain op_le op_le (pv 1) (pv 2) (pv 3))))))), ?_⟩
    obtain ⟨p, xs, rfl, hp, ha⟩ := hv.tup_inv
    have e := RpAll.ints_inv (ns := [a, b, c]) ha
    subst e
    replace hp : H p = some (.tup [.int a, .int b, .int c]) := hp
    walk_at "rds"
    refine ⟨p, _, rfl, .inr (SqT.of hp), ?_⟩
    walk_at "rd"
    refine rd_ifIn (fun e => ?_) (fun e => absurd rfl e)
    walk_at "rd"
    refine ⟨p, rfl, ⟨_, SqT.of hp⟩, fun D hD => ?_⟩
    refine lc_it (walk_tup (xs := [V.int a, V.int b, V.int c])) (CompL D H [a, b, c] (fun z => V.bl (below z 8))) (CompL.start hD) (fun i H' _ p => SqT.of (p.2 _ _ hp)) ?_ ?_
    · rintro i x H2 H3 hi pc ⟨rfl, hx⟩
      have hx' : ([a, b, c].map V.int)[i]? = some x := hx
      rw [List.getElem?_map] at hx'
      obtain ⟨z, hz, rfl⟩ := Option.map_eq_some_iff.mp hx'
      walk_at "rd"
      refine ⟨rfl, ?_⟩
      walk_at "rd"
      refine ⟨z, rfl, ?_⟩
      exact pc.step hD (by simp at hi; omega) hz (Same.refl _) rfl
    · intro H2 pc
      have hd := pc.end rfl
      have k2 := k H2 pc.2
      have hp2 := pc.2 _ _ hp
      walk_at "rd"
      refine rd_all (f := fun z : Int => below z 8) hd ?_
      walk_at "rd"
      unfold brFits at k2
      refine rd_ifn (fun hb => ?_) (fun hb => ?_)
      · have hb' : below a 8 = true ∧ below b 8 = true ∧ below c 8 = true := by simpa using hb
        rw [hb'.1, hb'.2.1, hb'.2.2] at k2
        walk_at "rd"
        refine rd_ifd (fun h => ?_) (fun h => ?_)
        · rw [decide_eq_true h] at k2
          walk_at "rd"
          exact k2
        · rw [decide_eq_false h] at k2
          exact k2
      · have e : (below a 8 && (below b 8 && (below c 8 && (decide (a ≤ b) && decide (b ≤ c))))) = false := by
          have hb' : (below a 8 && (below b 8 && (below c 8 && true))) = false := hb
          revert hb'
          cases below a 8 <;> cases below b 8 <;> cases below c 8 <;> simp
        rw [e] at k2
        walk_at "rd"
        exact k2
def spSgFits : Sp := fun vs H Q _ => ∃ (v : V) (x : Sg) (b m : Int), vs = [v, .int b, .int m] ∧ Rp H v x.d ∧ SgForm x ∧ x.ws.length ≤ 900 ∧ x.rs.length ≤ 900 ∧ ∀ H', Same H H' → Q (.bl (sgFits x b m)) H'
theorem ok_sgFits {f : Addr} {fd : FuncData} (B : BT mg) (F : Fun K "segment_fits" "segment_fits" s_segment_fits f fd) (hm : mg "segment_fits" = some (.ref f)) (G_RIGHTS : GTu K mg "RIGHTS" (rightsL.map V.str)) (G_MOST_WORDS : GI mg "MOST_WORDS" 16) (G_MOST_ROWS : GI mg "MOST_ROWS" 24)
    (C_is_below : Cal P w K mg base "is_below" 2 ["number", "bound"] spBelow) (C_brackets_fit : Cal P w K mg base "brackets_fit" 4 ["brackets"] spBrFits) (C_word_fits : Cal P w K mg base "word_fits" 4 ["word", "base", "many"] spWordFits) (C_row_fits : Cal P w K mg base "row_fits" 4 ["row", "many"] spRowFits) :
    Cal P w K mg base "segment_fits" 5 ["segment", "base", "many"] spSgFits := by
  refine ⟨f, fd, hm, F.kp, F.binds (ps := ["segment", "base", "many"]) fun _ _ _ _ _ _ us hl => match us, hl with | [_, _, _], _ => rfl, ?_⟩
  refine F.ok sc_segment_fits (fun vs H Q E h => ?_) (fun cdv A outer s H vs Q E hr h => ?_)
  · obtain ⟨v, x, b, m, rfl, _⟩ := h
    rfl
  · obtain ⟨v, ⟨r1, r2, r3, ri, ga, ws, rs⟩, b, m, rfl, hv, fo, lw, lr, k⟩ := h
    refine ⟨_, (pss_cons (ps_asg (pv 0) (pg_tup (by rfl) (pgs_cons (pg_name (i := 3) sc_segment_fits.nd rfl (Or.inl rfl)) (pgs_cons (pg_name (i := 4) sc_segment_fits.nd rfl (Or.inl rfl)) (pgs_cons (pg_name (i := 5) sc_segment_fits.nd rfl (Or.inl rfl)) (pgs_cons (pg_name (i := 6) sc_segment_fits.nd rfl (Or.inl rfl)) (pgs_cons (pg_name (i := 7) sc_segment_fits.nd rfl (Or.inl rfl)) pgs_nil)))))))
 (pss_cons (ps_if (PW.pt (pw_or (pt_not (pt_val (pe_cal C_brackets_fit (hr.mono (by omega)) rfl (pa_cons (pv 3) pa_nil)))) (pw_or (pt_cmpR (r := rIn K true) op_notIn_seq (pv 4) (pe_gt G_RIGHTS rfl) (by rfl)) (pw_or1 (pt_not (pt_val (pe_cal C_is_below (hr.mono (by omega)) rfl (pa_cons (pv 5) (pa_cons (pe_op op_add (pe_callB (cr_lenS (K := K)) rfl B.g_len PySem.boot_len (pa_cons (pv 7) pa_nil)) pe_int) pa_nil))))))))) (pss_one (ps_ret pe_bl)) pss_nil)
 (pss_cons (ps_if (PW.pt (pw_or (pt_cmpR op_gt (pe_callB (cr_lenS (K := K)) rfl B.g_len PySem.boot_len (pa_cons (pv 6) pa_nil)) (pe_gi G_MOST_WORDS rfl) (nomark _)) (pw_or1 (pt_cmpR op_gt (pe_callB (cr_lenS (K := K)) rfl B.g_len PySem.boot_len (pa_cons (pv 7) pa_nil)) (pe_gi G_MOST_ROWS rfl) (nomark _))))) (pss_one (ps_ret pe_bl)) pss_nil)
 (pss_cons (ps_if (pt_not (pt_val (pe_callB (r := rAll K) (cr_all rfl) rfl B.g_all (by decide +kernel) (pa_cons (pe_lc (own := [("word", 8)]) (g := gName 8) (tt := tYes) rfl sc_segment_fits.nd (pi_tupK (K := K) (pv 6)) (blkOk_by (own := [("word", 8)]) (N := ["segment", "base", "many", "brackets", "rights", "gates", "words", "rows", "word", "row"]) (sc := defScope s_segment_fits) (by decide +kernel)) (fun _ _ _ _ _ => (pg_name (i := 8) sc_segment_fits.nd rfl (by first | exact Or.inl rfl | exact Or.inr rfl))) (fun _ _ _ _ _ => pts_nil) (fun _ _ _ _ _ => (pe_cal C_word_fits (hr.mono (by omega)) rfl (pa_cons (pv 8) (pa_cons (pv 1) (pa_cons (pv 2) pa_nil)))))) pa_nil)))) (pss_one (ps_ret pe_bl)) pss_nil)
 (pss_one (ps_ret (pe_callB (r := rAll K) (cr_all rfl) rfl B.g_all (by decide +kernel) (pa_cons (pe_lc (own := [("row", 9)]) (g := gName 9) (tt := tYes) rfl sc_segment_fits.nd (pi_tupK (K := K) (pv 7)) (blkOk_by (own := [("row", 9)]) (N := ["segment", "base", "many", "brackets", "rights", "gates", "words", "rows", "word", "row"]) (sc := defScope s_segment_fits) (by decide +kernel)) (fun _ _ _ _ _ => (pg_name (i := 9) sc_segment_fits.nd rfl (by first | exact Or.inl rfl | exact Or.inr rfl))) (fun _ _ _ _ _ => pts_nil) (fun _ _ _ _ _ => (pe_cal C_row_fits (hr.mono (by omega)) rfl (pa_cons (pv 9) (pa_cons (pv 2) pa_nil))))) pa_nil)))))))), ?_⟩
    obtain ⟨p, xs, rfl, hp, ha⟩ := hv.tup_inv
    obtain ⟨x0, xr, rfl, h0, ha⟩ := ha.cons_inv
    obtain ⟨x1, xr, rfl, h1, ha⟩ := ha.cons_inv
    obtain ⟨x2, xr, rfl, h2, ha⟩ := ha.cons_inv
    obtain ⟨x3, xr, rfl, h3, ha⟩ := ha.cons_inv
    obtain ⟨x4, xr, rfl, h4, ha⟩ := ha.cons_inv
    have e := ha.nil_inv; subst e
    have e := h1.str_inv; subst e
    have e := h2.int_inv; subst e
    obtain ⟨pw, vw, rfl, hpw, haw⟩ := h3.tup_inv
    obtain ⟨pr, vr, rfl, hpr, har⟩ := h4.tup_inv
    dsimp only at haw har fo lw lr
    have lvw : vw.length = ws.length := by rw [haw.length, List.length_map]
    have lvr : vr.length = rs.length := by rw [har.length, List.length_map]
    unfold sgFits at k
    dsimp only at k
    walk_at "rds"
    refine ⟨_, r1, r2, r3, rfl, h0, fun H1 s1 => ?_⟩
    walk_at "rd"
    refine rd_ifn (fun hb => ?_) (fun hb => ?_)
    case refine_2 =>
      have := k H1 s1
      rw [hb] at this
      walk_at "rd"
      exact this
    rw [hb] at k
    walk_at "rd"
    intro aR hR
    refine rd_notInT (hR H1) rfl (by rfl) ?_
    walk_at "rd"
    refine rd_ifn (fun hb => ?_) (fun hb => ?_)
    case refine_2 =>
      have := k H1 s1
      rw [show riFits ri = false from hb] at this
      walk_at "rd"
      exact this
    rw [show riFits ri = true from hb] at k
    walk_at "rd"
    refine ⟨pr, vr, rfl, .inr (SqT.of (s1 _ _ hpr)), ?_⟩
    walk_at "rd"
    refine ⟨ga, _, rfl, ?_⟩
    walk_at "rd"
    refine rd_ifn (fun hb => ?_) (fun hb => ?_)
    case refine_2 =>
      have := k H1 s1
      rw [show below ga (rs.length + 1) = false by rw [← lvr]; exact hb] at this
      walk_at "rd"
      exact this
    rw [show below ga (rs.length + 1) = true by rw [← lvr]; exact hb] at k
    walk_at "rd"
    refine ⟨pw, vw, rfl, .inr (SqT.of (s1 _ _ hpw)), ?_⟩
    walk_at "rd"
    refine rd_ifd (fun hb => ?_) (fun hb => ?_)
    · have := k H1 s1
      rw [decide_eq_false (show ¬ ws.length ≤ 16 by omega)] at this
      walk_at "rd"
      exact this
    rw [decide_eq_true (show ws.length ≤ 16 by omega)] at k
    walk_at "rd"
    refine ⟨pr, vr, rfl, .inr (SqT.of (s1 _ _ hpr)), ?_⟩
    walk_at "rd"
    refine rd_ifd (fun hb => ?_) (fun hb => ?_)
    · have := k H1 s1
      rw [decide_eq_false (show ¬ rs.length ≤ 24 by omega)] at this
      walk_at "rd"
      exact this
    rw [decide_eq_true (show rs.length ≤ 24 by omega)] at k
    walk_at "rd"
    refine ⟨pw, rfl, ⟨_, SqT.of (s1 _ _ hpw)⟩, fun D hD => ?_⟩
    refine lc_it (walk_tup (xs := vw)) (CompL D H1 ws (fun z => V.bl (wdFits z b m))) (CompL.start hD) (fun i H' _ p => SqT.of (p.2 _ _ (s1 _ _ hpw))) ?_ ?_
    · rintro i x H2 H3 hi pc ⟨rfl, hx⟩
      obtain ⟨d, hd, rd'⟩ := haw.get hx
      rw [List.getElem?_map] at hd
      obtain ⟨z, hz, rfl⟩ := Option.map_eq_some_iff.mp hd
      walk_at "rd"
      refine ⟨rfl, ?_⟩
      walk_at "rd"
      refine ⟨x, z, b, m, rfl, rd'.keep (Tk.of (s1.trans pc.2)), fun H4 s4 => ?_⟩
      exact pc.step hD (by omega) hz s4 rfl
    intro H2 pc
    have hd := pc.end lvw
    have s2 := s1.trans pc.2
    walk_at "rd"
    refine rd_all (f := fun z : Wd => wdFits z b m) hd ?_
    walk_at "rd"
    refine rd_ifn (fun hb => ?_) (fun hb => ?_)
    case refine_2 =>
      have := k H2 s2
      rw [hb] at this
      walk_at "rd"
      exact this
    rw [hb] at k
    walk_at "rd"
    refine ⟨pr, rfl, ⟨_, SqT.of (s2 _ _ hpr)⟩, fun D2 hD2 => ?_⟩
    refine lc_it (walk_tup (xs := vr)) (CompL D2 H2 rs (fun z => V.bl (rowFits z m))) (CompL.start hD2) (fun i H' _ p => SqT.of (p.2 _ _ (s2 _ _ hpr))) ?_ ?_
    · rintro i x H3 H4 hi pc ⟨rfl, hx⟩
      obtain ⟨d, hd, rd'⟩ := har.get hx
      rw [List.getElem?_map] at hd
      obtain ⟨z, hz, rfl⟩ := Option.map_eq_some_iff.mp hd
      walk_at "rd"
      refine ⟨rfl, ?_⟩
      walk_at "rd"
      refine ⟨x, z, m, rfl, rd'.keep (Tk.of (s2.trans pc.2)), fo z (List.mem_of_getElem? hz), fun H4 s4 => ?_⟩
      exact pc.step hD2 (by omega) hz s4 rfl
    intro H3 pc
    have hd := pc.end lvr
    have s3 := s2.trans pc.2
    walk_at "rd"
    refine rd_all (f := fun z : Rw => rowFits z m) hd ?_
    exact k H3 s3

end
end Rg

namespace Rg
open PySem PySem.Spec L2
local macro_rules | `(tactic| walk_at "rd1") => `(tactic| first
  | with_reducible refine rd_seq ?_
  | with_reducible refine rd_asg ?_
  | ((with_reducible show tVar _ _ _ _); refine rd_var rfl ?_)
  | with_reducible refine rd_c ?_
  | with_reducible refine rd_op ?_
  | with_reducible refine rd_I0 ?_
  | with_reducible refine rd_name ?_
  | with_reducible refine rd_ret ?_
  | with_reducible refine rd_ifs ?_
  | with_reducible refine rd_test ?_
  | with_reducible refine rd_tB ?_
  | with_reducible refine rd_bl ?_
  | with_reducible refine rd_drop ?_
  | with_reducible refine rd_nil ?_
  | with_reducible refine rd_cons ?_
  | with_reducible refine rd_call ?_
  | with_reducible refine rd_cb ?_
  | with_reducible refine rd_tup ?_
  | with_reducible refine rd_lst ?_
  | with_reducible refine rd_and ?_
  | with_reducible refine rd_or ?_
  | with_reducible refine rd_not ?_
  | with_reducible refine rd_andV ?_
  | with_reducible refine rd_orV ?_
  | with_reducible refine rd_notV ?_
  | with_reducible refine rd_chain ?_
  | with_reducible refine rd_un ?_
  | with_reducible refine rd_isN ?_
  | with_reducible refine rd_bm ?_
  | with_reducible refine rd_bm0 ?_
  | with_reducible refine rd_gsub ?_
  | with_reducible refine rd_sl ?_
  | with_reducible refine rd_gt ?_
  | with_reducible refine rd_yes ?_
  | with_reducible refine rd_gcons ?_
  | with_reducible refine rd_gnil ?_
  | with_reducible refine rd_part ?_
  | with_reducible refine rd_nopart ?_
  | ((with_reducible show gTup _ _ _ _ _ _ _); refine rd_gtup (by first | assumption | exact upd_same) rfl ?_)
  | ((with_reducible show gLst _ _ _ _ _ _ _); refine rd_glst (by first | assumption | exact upd_same) rfl ?_)
  | ((with_reducible show rIsi _ _ _ _); first | refine rd_isi (b := true) (.ty _) (.base (by first | exact .int _ | exact .str _ | exact .bl _ | exact .non | exact .tup (by assumption) | exact .lst (by assumption))) (kit_ty (by decide +kernel)) ?_ | refine rd_isi (b := false) (.ty _) (.base (by first | exact .int _ | exact .str _ | exact .bl _ | exact .non | exact .tup (by assumption) | exact .lst (by assumption))) (kit_ty (by decide +kernel)) ?_)
  | with_reducible refine rd_fld ?_
  | with_reducible refine rd_sfld ?_
  | with_reducible refine rd_meth ?_
  | with_reducible refine rd_make ?_
  | with_reducible refine rd_makeK ?_
  | with_reducible refine rd_U ?_
  | with_reducible refine rd_makeKS ?_
  | with_reducible refine rd_callN ?_
  | with_reducible refine rd_rs ?_
  | with_reducible refine rd_rf ?_
  | with_reducible refine rd_star ?_
  | with_reducible refine rd_callS ?_
  | with_reducible refine rd_for ?_
  | with_reducible refine rd_lc ?_
  | with_reducible refine rd_ilist ?_
  | with_reducible refine rd_itup ?_
  | with_reducible refine rd_irng ?_
  | with_reducible refine rd_izipS ?_
  | with_reducible refine rd_ienum ?_
  | with_reducible refine rd_ienT ?_
  | with_reducible refine rd_next ?_
  | with_reducible refine rd_eq rfl ?_
  | with_reducible refine rd_ne rfl ?_
  | with_reducible refine iteT ?_
  | with_reducible refine iteF ?_
  | with_reducible refine rd_ifnT ?_
  | with_reducible refine rd_ifnF ?_
  | ((with_reducible show rI (fun _ j => (0 : Int) < j) _ _ _ _ _); refine rd_mod (by omega) ?_)
  | with_reducible refine rd_new rfl ?_
  | ((with_reducible show rIxL _ _ (V.int 0) _ _); refine rd_ixL0 (by first | assumption | exact upd_same) ?_)
  | ((with_reducible show rIxL _ _ _ _ _); refine rd_ixL (by first | assumption | exact upd_same) rfl ?_)
  | ((with_reducible show rSetL _ _ _ _ _); refine rd_setL (by first | assumption | exact upd_same) rfl ?_)
  | ((with_reducible show rI CMul _ _ _ _ _); refine rd_mul (by first | exact Or.inl ⟨by omega, by omega⟩ | exact Or.inr ⟨by omega, by omega⟩) ?_)
  | ((with_reducible show tyV _ "list" _ _ ∧ _); refine rd_tyL (by first | assumption | exact upd_same) ?_)
  | ((with_reducible show rIxT _ _ (V.int 0) _ _); refine rd_ixT0 (by first | assumption | exact upd_same) ?_)
  | ((with_reducible show rIxT _ _ _ _ _); refine rd_ixT (by first | assumption | exact upd_same) rfl ?_))
local macro_rules | `(tactic| walk_at "rdn1") => `(tactic| first
  | with_reducible refine rd_seq ?_
  | with_reducible refine rd_asg ?_
  | ((with_reducible show tVar _ _ _ _); refine rd_var rfl ?_)
  | with_reducible refine rd_c ?_
  | with_reducible refine rd_op ?_
  | with_reducible refine rd_I0 ?_
  | with_reducible refine rd_name ?_
  | with_reducible refine rd_ret ?_
  | with_reducible refine rd_ifs ?_
  | with_reducible refine rd_test ?_
  | with_reducible refine rd_tB ?_
  | with_reducible refine rd_bl ?_
  | with_reducible refine rd_drop ?_
  | with_reducible refine rd_nil ?_
  | with_reducible refine rd_cons ?_
  | with_reducible refine rd_call ?_
  | with_reducible refine rd_cb ?_
  | with_reducible refine rd_tup ?_
  | with_reducible refine rd_lst ?_
  | with_reducible refine rd_and ?_
  | with_reducible refine rd_or ?_
  | with_reducible refine rd_not ?_
  | with_reducible refine rd_notV ?_
  | with_reducible refine rd_chain ?_
  | with_reducible refine rd_un ?_
  | with_reducible refine rd_isN ?_
  | with_reducible refine rd_bm ?_
  | with_reducible refine rd_bm0 ?_
  | with_reducible refine rd_gsub ?_
  | with_reducible refine rd_sl ?_
  | with_reducible refine rd_gt ?_
  | with_reducible refine rd_yes ?_
  | with_reducible refine rd_gcons ?_
  | with_reducible refine rd_gnil ?_
  | with_reducible refine rd_part ?_
  | with_reducible refine rd_nopart ?_
  | ((with_reducible show gTup _ _ _ _ _ _ _); refine rd_gtup (by first | assumption | exact upd_same) rfl ?_)
  | ((with_reducible show gLst _ _ _ _ _ _ _); refine rd_glst (by first | assumption | exact upd_same) rfl ?_)
  | ((with_reducible show rIsi _ _ _ _); first | refine rd_isi (b := true) (.ty _) (.base (by first | exact .int _ | exact .str _ | exact .bl _ | exact .non | exact .tup (by assumption) | exact .lst (by assumption))) (kit_ty (by decide +kernel)) ?_ | refine rd_isi (b := false) (.ty _) (.base (by first | exact .int _ | exact .str _ | exact .bl _ | exact .non | exact .tup (by assumption) | exact .lst (by assumption))) (kit_ty (by decide +kernel)) ?_)
  | with_reducible refine rd_fld ?_
  | with_reducible refine rd_sfld ?_
  | with_reducible refine rd_meth ?_
  | with_reducible refine rd_make ?_
  | with_reducible refine rd_makeK ?_
  | with_reducible refine rd_U ?_
  | with_reducible refine rd_makeKS ?_
  | with_reducible refine rd_callN ?_
  | with_reducible refine rd_rs ?_
  | with_reducible refine rd_rf ?_
  | with_reducible refine rd_star ?_
  | with_reducible refine rd_callS ?_
  | with_reducible refine rd_for ?_
  | with_reducible refine rd_lc ?_
  | with_reducible refine rd_ilist ?_
  | with_reducible refine rd_itup ?_
  | with_reducible refine rd_irng ?_
  | with_reducible refine rd_izipS ?_
  | with_reducible refine rd_ienum ?_
  | with_reducible refine rd_ienT ?_
  | with_reducible refine rd_next ?_
  | with_reducible refine rd_eq rfl ?_
  | with_reducible refine rd_ne rfl ?_
  | with_reducible refine iteT ?_
  | with_reducible refine iteF ?_
  | with_reducible refine rd_ifnT ?_
  | with_reducible refine rd_ifnF ?_
  | ((with_reducible show rI (fun _ j => (0 : Int) < j) _ _ _ _ _); refine rd_mod (by omega) ?_)
  | with_reducible refine rd_new rfl ?_
  | ((with_reducible show rIxL _ _ (V.int 0) _ _); refine rd_ixL0 (by first | assumption | exact upd_same) ?_)
  | ((with_reducible show rIxL _ _ _ _ _); refine rd_ixL (by first | assumption | exact upd_same) rfl ?_)
  | ((with_reducible show rSetL _ _ _ _ _); refine rd_setL (by first | assumption | exact upd_same) rfl ?_)
  | ((with_reducible show rI CMul _ _ _ _ _); refine rd_mul (by first | exact Or.inl ⟨by omega, by omega⟩ | exact Or.inr ⟨by omega, by omega⟩) ?_)
  | ((with_reducible show tyV _ "list" _ _ ∧ _); refine rd_tyL (by first | assumption | exact upd_same) ?_)
  | ((with_reducible show rIxT _ _ (V.int 0) _ _); refine rd_ixT0 (by first | assumption | exact upd_same) ?_)
  | ((with_reducible show rIxT _ _ _ _ _); refine rd_ixT (by first | assumption | exact upd_same) rfl ?_))
local macro_rules | `(tactic| walk_at "rd") => `(tactic| (repeat (first | walk_at "rd1" | dsimp only)))
local macro_rules | `(tactic| walk_at "rds") => `(tactic| (dsimp only [cxOf, Cx.nox, Cx.wish, Cx.blk, L2.start]; walk_at "rd"))
local macro_rules | `(tactic| walk_at "rdn") => `(tactic| (repeat (first | walk_at "rdn1" | dsimp only)))
section
variable {P : Program} {w : World} {K : PySem.W.Frag} {mg : Str → Option Value} {base : Heap}

theorem ok_init {f C : Addr} {fd : FuncData} (B : BT mg) (T : MC K mg C) (F : FunD K "__init__" "Machine.__init__" (defArgs s_Machine__init) (defBody s_Machine__init) (defScope s_Machine__init) [] [("base", .int 16)] f fd) (G_MOST_SEGMENTS : GI mg "MOST_SEGMENTS" 8) (G_LEAST_BASE : GI mg "LEAST_BASE" 2)
    (C_is_whole : Cal P w K mg base "is_whole" 1 ["number"] spWhole) (C_segment_fits : Cal P w K mg base "segment_fits" 5 ["segment", "base", "many"] spSgFits) :
    FnOk P w K mg base CX0 6 f fd ["self", "segments", "base"] (spInit C) := by
  refine F.ok sc_Machine__init (fun vs H Q E h => ?_) (fun cdv A outer s H vs Q E hr h => ?_)
  · obtain ⟨x, dx, L, us, xs, b, rfl, _⟩ := h
    rfl
  · obtain ⟨x, dx, L, us, xs, b, rfl, hx, hL, ha, l1, l8, b2, hs, k⟩ := h
    refine ⟨_, PSs.nox (pss_cons (ps_set (i := 3) sc_Machine__init.nd rfl (Or.inl rfl) (pe_callB (cr_lenS (K := K)) rfl B.g_len PySem.boot_len (pa_cons (pv 1) pa_nil)))
 (pss_cons (ps_if (PW.pt (pw_or (pt_not (pt_chain op_le op_le pe_int (pv 3) (pe_gi G_MOST_SEGMENTS rfl))) (pw_or (pt_not (pt_val (pe_cal C_is_whole (hr.mono (by omega)) rfl (pa_cons (pv 2) pa_nil)))) (pw_or1 (pt_cmpR op_lt (pv 2) (pe_gi G_LEAST_BASE rfl) (nomark _)))))) (pss_one ps_never) pss_nil)
 (pss_cons (ps_for PassesOwn.never rfl (pi_enum rfl B.g_enumerate (pa_cons (pv 1) pa_nil)) (pg_tup (by rfl) (pgs_cons (pg_name (i := 4) sc_Machine__init.nd rfl (Or.inl rfl)) (pgs_cons (pg_name (i := 5) sc_Machine__init.nd rfl (Or.inl rfl)) pgs_nil)))
 (pss_one (ps_if (pt_not (pt_val (pe_cal C_segment_fits (hr.mono (by omega)) rfl (pa_cons (pv 5) (pa_cons (pv 2) (pa_cons (pv 3) pa_nil)))))) (pss_one ps_never) pss_nil)))
 (pss_cons (ps_fldK (K := K) (pv 0) (pe_callTy (cr_tupOf (K := K)) rfl B.g_tuple (by decide +kernel) (pa_cons (pv 1) pa_nil)) rfl)
 (pss_one (ps_fldK (K := K) (pv 0) (pv 2) rfl)))))), ?_⟩
    have lu : us.length = xs.length := by rw [ha.length, List.length_map]
    walk_at "rds"
    refine ⟨L, us, rfl, .inl (SqL.of hL), ?_⟩
    walk_at "rd"
    refine rd_ifT (by omega) ?_
    walk_at "rd"
    rw [decide_eq_true (show ((us.length : Nat) : Int) ≤ 8 by omega)]
    walk_at "rd"
    refine ⟨b, rfl, ?_⟩
    walk_at "rd"
    refine rd_ifF (by omega) ?_
    walk_at "rd"
    refine ⟨L, us, rfl, SqL.of hL, ?_⟩
    refine for_inv walk_enum (fun i σ' H' => (∃ c1 c2, σ' = [some (.ref x), some (.ref L), some (.int b), some (.int us.length), c1, c2]) ∧ Same H H') ⟨⟨_, _, rfl⟩, Same.refl _⟩ (fun i σ' H' _ p => SqL.of (p.2 _ _ hL)) ?_ ?_
    · rintro B' i v σ1 H1 H2 hi ⟨⟨c1, c2, rfl⟩, s1⟩ ⟨T', y, z, rfl, hT, rfl, ey, ez⟩
      cases ey
      obtain ⟨d, hd, rz⟩ := ha.get ez
      rw [List.getElem?_map] at hd
      obtain ⟨sg, hsg, rfl⟩ := Option.map_eq_some_iff.mp hd
      obtain ⟨fo, fi⟩ := hs sg (List.mem_of_getElem? hsg)
      have sm := sg_small fi
      walk_at "rd"
      refine ⟨z, sg, b, _, rfl, rz.keep (Tk.of (s1.trans (same_upd hT))), fo, by omega, by omega, fun H3 s3 => ?_⟩
      rw [lu, fi]
      walk_at "rd"
      exact ⟨⟨_, _, rfl⟩, s1.trans ((same_upd hT).trans s3)⟩
    · rintro σ1 H1 ⟨⟨c1, c2, rfl⟩, s1⟩
      walk_at "rd"
      refine ⟨L, us, rfl, .inl ⟨SqL.of (s1 _ _ hL), fun q hq => ?_⟩⟩
      walk_at "rd"
      have hx1 := s1 _ _ hx
      refine ⟨x, C, dx, [], rfl, (same_upd hq) _ _ hx1, T.cl, T.nS, (by show 0 < 1000; decide), ?_⟩
      walk_at "rd"
      refine ⟨x, C, dx, _, rfl, upd_same, T.cl, T.nB, (by show 1 < 1000; decide), ?_⟩
      refine k _ ⟨dx, q, upd_same, ?_⟩ fun c o e hc => ?_
      · have hqx : q ≠ x := Ne.symm (ne_of_none hx1 hq)
        rw [upd_ne hqx, upd_ne hqx, upd_same]
      · rw [upd_ne hc, upd_ne hc]
        exact (same_upd hq) _ _ (s1 _ _ e)
theorem ok_segAt {f C : Addr} {fd : FuncData} (B : BT mg) (T : MC K mg C) (M : Meth K C "segment" f) (F : Fun K "segment" "Machine.segment" s_Machine_segment f fd) (C_is_below : Cal P w K mg base "is_below" 2 ["number", "bound"] spBelow) : Mth P w K mg base C "segment" 3 ["self", "number"] (spSegAt C) := by
  refine ⟨f, fd, M, F.binds (ps := ["self", "number"]) fun _ _ _ _ _ _ us hl => match us, hl with | [_, _], _ => rfl, ?_⟩
  refine F.ok sc_Machine_segment (fun vs H Q E h => ?_) (fun cdv A outer s H vs Q E hr h => ?_)
  · obtain ⟨x, us, b, k, v, rfl, _⟩ := h
    rfl
  · obtain ⟨x, us, b, i, v, rfl, ⟨dx, q, h1, h2⟩, i0, i1, hv, k⟩ := h
    refine ⟨_, (pss_cons (ps_if (pt_not (pt_val (pe_cal C_is_below (hr.mono (by omega)) rfl (pa_cons (pv 1) (pa_cons (pe_callB (cr_lenS (K := K)) rfl B.g_len PySem.boot_len (pa_cons (pe_fldK (K := K) (pv 0) rfl) pa_nil)) pa_nil))))) (pss_one ps_never) pss_nil)
 (pss_one (ps_ret (pe_ix (r := rIxT K) ix_tup (pe_fldK (K := K) (pv 0) rfl) (pv 1) (fun _ _ => rfl))))), ?_⟩
    walk_at "rds"
    refine ⟨x, C, dx, _, _, rfl, h1, T.cl, T.nS, mFlds_s q b, ?_⟩
    walk_at "rd"
    refine ⟨q, us, rfl, .inr (SqT.of h2), ?_⟩
    walk_at "rd"
    refine ⟨i, _, rfl, ?_⟩
    rw [below_of i0 i1]
    walk_at "rd"
    refine ⟨x, C, dx, _, _, rfl, h1, T.cl, T.nS, mFlds_s q b, ?_⟩
    walk_at "rd"
    refine rd_ixT h2 (at_of (by omega) hv) ?_
    exact k
theorem ok_len {f C : Addr} {fd : FuncData} (B : BT mg) (T : MC K mg C) (M : Meth K C "__len__" f) (F : Fun K "__len__" "Machine.__len__" s_Machine__len f fd) : Mth P w K mg base C "__len__" 1 ["self"] (spLen C) := by
  refine ⟨f, fd, M, F.binds (ps := ["self"]) fun _ _ _ _ _ _ us hl => match us, hl with | [_], _ => rfl, ?_⟩
  refine F.ok sc_Machine__len (fun vs H Q E h => ?_) (fun cdv A outer s H vs Q E hr h => ?_)
  · obtain ⟨x, us, b, rfl, _⟩ := h
    rfl
  · obtain ⟨x, us, b, rfl, ⟨dx, q, h1, h2⟩, k⟩ := h
    refine ⟨_, (pss_one (ps_ret (pe_callB (cr_lenS (K := K)) rfl B.g_len PySem.boot_len (pa_cons (pe_fldK (K := K) (pv 0) rfl) pa_nil)))), ?_⟩
    walk_at "rds"
    refine ⟨x, C, dx, _, _, rfl, h1, T.cl, T.nS, mFlds_s q b, ?_⟩
    walk_at "rd"
    exact ⟨q, us, rfl, .inr (SqT.of h2), k⟩

end
end Rg

namespace Rg
open PySem PySem.Spec L2
local macro_rules | `(tactic| walk_at "rd1") => `(tactic| first
  | with_reducible refine rd_seq ?_
  | with_reducible refine rd_asg ?_
  | ((with_reducible show tVar _ _ _ _); refine rd_var rfl ?_)
  | with_reducible refine rd_c ?_
  | with_reducible refine rd_op ?_
  | with_reducible refine rd_I0 ?_
  | with_reducible refine rd_name ?_
  | with_reducible refine rd_ret ?_
  | with_reducible refine rd_ifs ?_
  | with_reducible refine rd_test ?_
  | with_reducible refine rd_tB ?_
  | with_reducible refine rd_bl ?_
  | with_reducible refine rd_drop ?_
  | with_reducible refine rd_nil ?_
  | with_reducible refine rd_cons ?_
  | with_reducible refine rd_call ?_
  | with_reducible refine rd_cb ?_
  | with_reducible refine rd_tup ?_
  | with_reducible refine rd_lst ?_
  | with_reducible refine rd_and ?_
  | with_reducible refine rd_or ?_
  | with_reducible refine rd_not ?_
  | with_reducible refine rd_andV ?_
  | with_reducible refine rd_orV ?_
  | with_reducible refine rd_notV ?_
  | with_reducible refine rd_chain ?_
  | with_reducible refine rd_un ?_
  | with_reducible refine rd_isN ?_
  | with_reducible refine rd_bm ?_
  | with_reducible refine rd_bm0 ?_
  | with_reducible refine rd_gsub ?_
  | with_reducible refine rd_sl ?_
  | with_reducible refine rd_gt ?_
  | with_reducible refine rd_yes ?_
  | with_reducible refine rd_gcons ?_
  | with_reducible refine rd_gnil ?_
  | with_reducible refine rd_part ?_
  | with_reducible refine rd_nopart ?_
  | ((with_reducible show gTup _ _ _ _ _ _ _); refine rd_gtup (by first | assumption | exact upd_same) rfl ?_)
  | ((with_reducible show gLst _ _ _ _ _ _ _); refine rd_glst (by first | assumption | exact upd_same) rfl ?_)
  | ((with_reducible show rIsi _ _ _ _); first | refine rd_isi (b := true) (.ty _) (.base (by first | exact .int _ | exact .str _ | exact .bl _ | exact .non | exact .tup (by assumption) | exact .lst (by assumption))) (kit_ty (by decide +kernel)) ?_ | refine rd_isi (b := false) (.ty _) (.base (by first | exact .int _ | exact .str _ | exact .bl _ | exact .non | exact .tup (by assumption) | exact .lst (by assumption))) (kit_ty (by decide +kernel)) ?_)
  | with_reducible refine rd_fld ?_
  | with_reducible refine rd_sfld ?_
  | with_reducible refine rd_meth ?_
  | with_reducible refine rd_make ?_
  | with_reducible refine rd_makeK ?_
  | with_reducible refine rd_U ?_
  | with_reducible refine rd_makeKS ?_
  | with_reducible refine rd_callN ?_
  | with_reducible refine rd_rs ?_
  | with_reducible refine rd_rf ?_
  | with_reducible refine rd_star ?_
  | with_reducible refine rd_callS ?_
  | with_reducible refine rd_for ?_
  | with_reducible refine rd_lc ?_
  | with_reducible refine rd_ilist ?_
  | with_reducible refine rd_itup ?_
  | with_reducible refine rd_irng ?_
  | with_reducible refine rd_izipS ?_
  | with_reducible refine rd_ienum ?_
  | with_reducible refine rd_ienT ?_
  | with_reducible refine rd_next ?_
  | with_reducible refine rd_eq rfl ?_
  | with_reducible refine rd_ne rfl ?_
  | with_reducible refine iteT ?_
  | with_reducible refine iteF ?_
  | with_reducible refine rd_ifnT ?_
  | with_reducible refine rd_ifnF ?_
  | ((with_reducible show rI (fun _ j => (0 : Int) < j) _ _ _ _ _); refine rd_mod (by omega) ?_)
  | with_reducible refine rd_new rfl ?_
  | ((with_reducible show rIxL _ _ (V.int 0) _ _); refine rd_ixL0 (by first | assumption | exact upd_same) ?_)
  | ((with_reducible show rIxL _ _ _ _ _); refine rd_ixL (by first | assumption | exact upd_same) rfl ?_)
  | ((with_reducible show rSetL _ _ _ _ _); refine rd_setL (by first | assumption | exact upd_same) rfl ?_)
  | ((with_reducible show rI CMul _ _ _ _ _); refine rd_mul (by first | exact Or.inl ⟨by omega, by omega⟩ | exact Or.inr ⟨by omega, by omega⟩) ?_)
  | ((with_reducible show tyV _ "list" _ _ ∧ _); refine rd_tyL (by first | assumption | exact upd_same) ?_)
  | ((with_reducible show rIxT _ _ (V.int 0) _ _); refine rd_ixT0 (by first | assumption | exact upd_same) ?_)
  | ((with_reducible show rIxT _ _ _ _ _); refine rd_ixT (by first | assumption | exact upd_same) rfl ?_))
local macro_rules | `(tactic| walk_at "rdn1") => `(tactic| first
  | with_reducible refine rd_seq ?_
  | with_reducible refine rd_asg ?_
  | ((with_reducible show tVar _ _ _ _); refine rd_var rfl ?_)
  | with_reducible refine rd_c ?_
  | with_reducible refine rd_op ?_
  | with_reducible refine rd_I0 ?_
  | with_reducible refine rd_name ?_
  | with_reducible refine rd_ret ?_
  | with_reducible refine rd_ifs ?_
  | with_reducible refine rd_test ?_
  | with_reducible refine rd_tB ?_
  | with_reducible refine rd_bl ?_
  | with_reducible refine rd_drop ?_
  | with_reducible refine rd_nil ?_
  | with_reducible refine rd_cons ?_
  | with_reducible refine rd_call ?_
  | with_reducible refine rd_cb ?_
  | with_reducible refine rd_tup ?_
  | with_reducible refine rd_lst ?_
  | with_reducible refine rd_and ?_
  | with_reducible refine rd_or ?_
  | with_reducible refine rd_not ?_
  | with_reducible refine rd_notV ?_
  | with_reducible refine rd_chain ?_
  | with_reducible refine rd_un ?_
  | with_reducible refine rd_isN ?_
  | with_reducible refine rd_bm ?_
  | with_reducible refine rd_bm0 ?_
  | with_reducible refine rd_gsub ?_
  | with_reducible refine rd_sl ?_
  | with_reducible refine rd_gt ?_
  | with_reducible refine rd_yes ?_
  | with_reducible refine rd_gcons ?_
  | with_reducible refine rd_gnil ?_
  | with_reducible refine rd_part ?_
  | with_reducible refine rd_nopart ?_
  | ((with_reducible show gTup _ _ _ _ _ _ _); refine rd_gtup (by first | assumption | exact upd_same) rfl ?_)
  | ((with_reducible show gLst _ _ _ _ _ _ _); refine rd_glst (by first | assumption | exact upd_same) rfl ?_)
  | ((with_reducible show rIsi _ _ _ _); first | refine rd_isi (b := true) (.ty _) (.base (by first | exact .int _ | exact .str _ | exact .bl _ | exact .non | exact .tup (by assumption) | exact .lst (by assumption))) (kit_ty (by decide +kernel)) ?_ | refine rd_isi (b := false) (.ty _) (.base (by first | exact .int _ | exact .str _ | exact .bl _ | exact .non | exact .tup (by assumption) | exact .lst (by assumption))) (kit_ty (by decide +kernel)) ?_)
  | with_reducible refine rd_fld ?_
  | with_reducible refine rd_sfld ?_
  | with_reducible refine rd_meth ?_
  | with_reducible refine rd_make ?_
  | with_reducible refine rd_makeK ?_
  | with_reducible refine rd_U ?_
  | with_reducible refine rd_makeKS ?_
  | with_reducible refine rd_callN ?_
  | with_reducible refine rd_rs ?_
  | with_reducible refine rd_rf ?_
  | with_reducible refine rd_star ?_
  | with_reducible refine rd_callS ?_
  | with_reducible refine rd_for ?_
  | with_reducible refine rd_lc ?_
  | with_reducible refine rd_ilist ?_
  | with_reducible refine rd_itup ?_
  | with_reducible refine rd_irng ?_
  | with_reducible refine rd_izipS ?_
  | with_reducible refine rd_ienum ?_
  | with_reducible refine rd_ienT ?_
  | with_reducible refine rd_next ?_
  | with_reducible refine rd_eq rfl ?_
  | with_reducible refine rd_ne rfl ?_
  | with_reducible refine iteT ?_
  | with_reducible refine iteF ?_
  | with_reducible refine rd_ifnT ?_
  | with_reducible refine rd_ifnF ?_
  | ((with_reducible show rI (fun _ j => (0 : Int) < j) _ _ _ _ _); refine rd_mod (by omega) ?_)
  | with_reducible refine rd_new rfl ?_
  | ((with_reducible show rIxL _ _ (V.int 0) _ _); refine rd_ixL0 (by first | assumption | exact upd_same) ?_)
  | ((with_reducible show rIxL _ _ _ _ _); refine rd_ixL (by first | assumption | exact upd_same) rfl ?_)
  | ((with_reducible show rSetL _ _ _ _ _); refine rd_setL (by first | assumption | exact upd_same) rfl ?_)
  | ((with_reducible show rI CMul _ _ _ _ _); refine rd_mul (by first | exact Or.inl ⟨by omega, by omega⟩ | exact Or.inr ⟨by omega, by omega⟩) ?_)
  | ((with_reducible show tyV _ "list" _ _ ∧ _); refine rd_tyL (by first | assumption | exact upd_same) ?_)
  | ((with_reducible show rIxT _ _ (V.int 0) _ _); refine rd_ixT0 (by first | assumption | exact upd_same) ?_)
  | ((with_reducible show rIxT _ _ _ _ _); refine rd_ixT (by first | assumption | exact upd_same) rfl ?_))
local macro_rules | `(tactic| walk_at "rd") => `(tactic| (repeat (first | walk_at "rd1" | dsimp only)))
local macro_rules | `(tactic| walk_at "rds") => `(tactic| (dsimp only [cxOf, Cx.nox, Cx.wish, Cx.blk, L2.start]; walk_at "rd"))
local macro_rules | `(tactic| walk_at "rdn") => `(tactic| (repeat (first | walk_at "rdn1" | dsimp only)))
section
variable {P : Program} {w : World} {K : PySem.W.Frag} {mg : Str → Option Value} {base : Heap}

theorem ok_REinit {f : Addr} {fd : FuncData} (F : Fun K "__init__" "RingError.__init__" s_RingError__init f fd) (gVE : mg "ValueError" = none) (vV : PySem.W.findCls K (.type "ValueError") (.type "type") "__init__" = some (.val (.builtin "ValueError.__init__"))) : FnOk P w K mg base CX0 1 f fd ["self", "what"] (spRE K) := by
  refine F.ok sc_RingError__init (fun vs H Q E h => ?_) (fun cdv A outer s H vs Q E hr h => ?_)
  · obtain ⟨a, C, v, rfl, _⟩ := h
    rfl
  · obtain ⟨a, C, v, rfl, hi, T, hw, ha, k⟩ := h
    refine ⟨_, (pss_cons (ps_expr (pe_veinit rfl gVE vV (pa_cons (pv 0) (pa_cons (pe_joined (.cons pe_str (.cons (pe_fmtX (pv 1)) .nil))) pa_nil))))
 (pss_one (ps_ost (pv 0) (pv 1)))), ?_⟩
    walk_at "rds"
    refine ⟨_, rfl, _, rfl, by decide +kernel, _, rfl, hi, fun y hy => ⟨_, rfl, ?_, a, C, _, rfl, by show 1 ≤ 1000; decide, T, ha, ?_⟩⟩
    · rw [Str.length_append]
      have h9 : ((Str.empty ++ "refused: " : Str)).length = 9 := by decide +kernel
      rw [h9, sizeLine_eq]
      exact Nat.le_trans (Nat.add_le_add_left hy 9) (by decide)
    · refine ⟨_, rfl, _, rfl, a, C, rfl, T, hw, .inl ⟨ha, fun dx hd ne => ?_⟩⟩
      exact k dx hd ne

end
end Rg

namespace Rg
open PySem PySem.Spec L2
local macro_rules | `(tactic| walk_at "rd1") => `(tactic| first
  | with_reducible refine rd_seq ?_
  | with_reducible refine rd_asg ?_
  | ((with_reducible show tVar _ _ _ _); refine rd_var rfl ?_)
  | with_reducible refine rd_c ?_
  | with_reducible refine rd_op ?_
  | with_reducible refine rd_I0 ?_
  | with_reducible refine rd_name ?_
  | with_reducible refine rd_ret ?_
  | with_reducible refine rd_ifs ?_
  | with_reducible refine rd_test ?_
  | with_reducible refine rd_tB ?_
  | with_reducible refine rd_bl ?_
  | with_reducible refine rd_drop ?_
  | with_reducible refine rd_nil ?_
  | with_reducible refine rd_cons ?_
  | with_reducible refine rd_call ?_
  | with_reducible refine rd_cb ?_
  | with_reducible refine rd_tup ?_
  | with_reducible refine rd_lst ?_
  | with_reducible refine rd_and ?_
  | with_reducible refine rd_or ?_
  | with_reducible refine rd_not ?_
  | with_reducible refine rd_andV ?_
  | with_reducible refine rd_orV ?_
  | with_reducible refine rd_notV ?_
  | with_reducible refine rd_chain ?_
  | with_reducible refine rd_un ?_
  | with_reducible refine rd_isN ?_
  | with_reducible refine rd_bm ?_
  | with_reducible refine rd_bm0 ?_
  | with_reducible refine rd_gsub ?_
  | with_reducible refine rd_sl ?_
  | with_reducible refine rd_gt ?_
  | with_reducible refine rd_yes ?_
  | with_reducible refine rd_gcons ?_
  | with_reducible refine rd_gnil ?_
  | with_reducible refine rd_part ?_
  | with_reducible refine rd_nopart ?_
  | ((with_reducible show gTup _ _ _ _ _ _ _); refine rd_gtup (by first | assumption | exact upd_same) rfl ?_)
  | ((with_reducible show gLst _ _ _ _ _ _ _); refine rd_glst (by first | assumption | exact upd_same) rfl ?_)
  | ((with_reducible show rIsi _ _ _ _); first | refine rd_isi (b := true) (.ty _) (.base (by first | exact .int _ | exact .str _ | exact .bl _ | exact .non | exact .tup (by assumption) | exact .lst (by assumption))) (kit_ty (by decide +kernel)) ?_ | refine rd_isi (b := false) (.ty _) (.base (by first | exact .int _ | exact .str _ | exact .bl _ | exact .non | exact .tup (by assumption) | exact .lst (by assumption))) (kit_ty (by decide +kernel)) ?_)
  | with_reducible refine rd_fld ?_
  | with_reducible refine rd_sfld ?_
  | with_reducible refine rd_meth ?_
  | with_reducible refine rd_make ?_
  | with_reducible refine rd_makeK ?_
  | with_reducible refine rd_U ?_
  | with_reducible refine rd_makeKS ?_
  | with_reducible refine rd_callN ?_
  | with_reducible refine rd_rs ?_
  | with_reducible refine rd_rf ?_
  | with_reducible refine rd_star ?_
  | with_reducible refine rd_callS ?_
  | with_reducible refine rd_for ?_
  | with_reducible refine rd_lc ?_
  | with_reducible refine rd_ilist ?_
  | with_reducible refine rd_itup ?_
  | with_reducible refine rd_irng ?_
  | with_reducible refine rd_izipS ?_
  | with_reducible refine rd_ienum ?_
  | with_reducible refine rd_ienT ?_
  | with_reducible refine rd_next ?_
  | with_reducible refine rd_eq rfl ?_
  | with_reducible refine rd_ne rfl ?_
  | with_reducible refine iteT ?_
  | with_reducible refine iteF ?_
  | with_reducible refine rd_ifnT ?_
  | with_reducible refine rd_ifnF ?_
  | ((with_reducible show rI (fun _ j => (0 : Int) < j) _ _ _ _ _); refine rd_mod (by omega) ?_)
  | with_reducible refine rd_new rfl ?_
  | ((with_reducible show rIxL _ _ (V.int 0) _ _); refine rd_ixL0 (by first | assumption | exact upd_same) ?_)
  | ((with_reducible show rIxL _ _ _ _ _); refine rd_ixL (by first | assumption | exact upd_same) rfl ?_)
  | ((with_reducible show rSetL _ _ _ _ _); refine rd_setL (by first | assumption | exact upd_same) rfl ?_)
  | ((with_reducible show rI CMul _ _ _ _ _); refine rd_mul (by first | exact Or.inl ⟨by omega, by omega⟩ | exact Or.inr ⟨by omega, by omega⟩) ?_)
  | ((with_reducible show tyV _ "list" _ _ ∧ _); refine rd_tyL (by first | assumption | exact upd_same) ?_)
  | ((with_reducible show rIxT _ _ (V.int 0) _ _); refine rd_ixT0 (by first | assumption | exact upd_same) ?_)
  | ((with_reducible show rIxT _ _ _ _ _); refine rd_ixT (by first | assumption | exact upd_same) rfl ?_))
local macro_rules | `(tactic| walk_at "rdn1") => `(tactic| first
  | with_reducible refine rd_seq ?_
  | with_reducible refine rd_asg ?_
  | ((with_reducible show tVar _ _ _ _); refine rd_var rfl ?_)
  | with_reducible refine rd_c ?_
  | with_reducible refine rd_op ?_
  | with_reducible refine rd_I0 ?_
  | with_reducible refine rd_name ?_
  | with_reducible refine rd_ret ?_
  | with_reducible refine rd_ifs ?_
  | with_reducible refine rd_test ?_
  | with_reducible refine rd_tB ?_
  | with_reducible refine rd_bl ?_
  | with_reducible refine rd_drop ?_
  | with_reducible refine rd_nil ?_
  | with_reducible refine rd_cons ?_
  | with_reducible refine rd_call ?_
  | with_reducible refine rd_cb ?_
  | with_reducible refine rd_tup ?_
  | with_reducible refine rd_lst ?_
  | with_reducible refine rd_and ?_
  | with_reducible refine rd_or ?_
  | with_reducible refine rd_not ?_
  | with_reducible refine rd_notV ?_
  | with_reducible refine rd_chain ?_
  | with_reducible refine rd_un ?_
  | with_reducible refine rd_isN ?_
  | with_reducible refine rd_bm ?_
  | with_reducible refine rd_bm0 ?_
  | with_reducible refine rd_gsub ?_
  | with_reducible refine rd_sl ?_
  | with_reducible refine rd_gt ?_
  | with_reducible refine rd_yes ?_
  | with_reducible refine rd_gcons ?_
  | with_reducible refine rd_gnil ?_
  | with_reducible refine rd_part ?_
  | with_reducible refine rd_nopart ?_
  | ((with_reducible show gTup _ _ _ _ _ _ _); refine rd_gtup (by first | assumption | exact upd_same) rfl ?_)
  | ((with_reducible show gLst _ _ _ _ _ _ _); refine rd_glst (by first | assumption | exact upd_same) rfl ?_)
  | ((with_reducible show rIsi _ _ _ _); first | refine rd_isi (b := true) (.ty _) (.base (by first | exact .int _ | exact .str _ | exact .bl _ | exact .non | exact .tup (by assumption) | exact .lst (by assumption))) (kit_ty (by decide +kernel)) ?_ | refine rd_isi (b := false) (.ty _) (.base (by first | exact .int _ | exact .str _ | exact .bl _ | exact .non | exact .tup (by assumption) | exact .lst (by assumption))) (kit_ty (by decide +kernel)) ?_)
  | with_reducible refine rd_fld ?_
  | with_reducible refine rd_sfld ?_
  | with_reducible refine rd_meth ?_
  | with_reducible refine rd_make ?_
  | with_reducible refine rd_makeK ?_
  | with_reducible refine rd_U ?_
  | with_reducible refine rd_makeKS ?_
  | with_reducible refine rd_callN ?_
  | with_reducible refine rd_rs ?_
  | with_reducible refine rd_rf ?_
  | with_reducible refine rd_star ?_
  | with_reducible refine rd_callS ?_
  | with_reducible refine rd_for ?_
  | with_reducible refine rd_lc ?_
  | with_reducible refine rd_ilist ?_
  | with_reducible refine rd_itup ?_
  | with_reducible refine rd_irng ?_
  | with_reducible refine rd_izipS ?_
  | with_reducible refine rd_ienum ?_
  | with_reducible refine rd_ienT ?_
  | with_reducible refine rd_next ?_
  | with_reducible refine rd_eq rfl ?_
  | with_reducible refine rd_ne rfl ?_
  | with_reducible refine iteT ?_
  | with_reducible refine iteF ?_
  | with_reducible refine rd_ifnT ?_
  | with_reducible refine rd_ifnF ?_
  | ((with_reducible show rI (fun _ j => (0 : Int) < j) _ _ _ _ _); refine rd_mod (by omega) ?_)
  | with_reducible refine rd_new rfl ?_
  | ((with_reducible show rIxL _ _ (V.int 0) _ _); refine rd_ixL0 (by first | assumption | exact upd_same) ?_)
  | ((with_reducible show rIxL _ _ _ _ _); refine rd_ixL (by first | assumption | exact upd_same) rfl ?_)
  | ((with_reducible show rSetL _ _ _ _ _); refine rd_setL (by first | assumption | exact upd_same) rfl ?_)
  | ((with_reducible show rI CMul _ _ _ _ _); refine rd_mul (by first | exact Or.inl ⟨by omega, by omega⟩ | exact Or.inr ⟨by omega, by omega⟩) ?_)
  | ((with_reducible show tyV _ "list" _ _ ∧ _); refine rd_tyL (by first | assumption | exact upd_same) ?_)
  | ((with_reducible show rIxT _ _ (V.int 0) _ _); refine rd_ixT0 (by first | assumption | exact upd_same) ?_)
  | ((with_reducible show rIxT _ _ _ _ _); refine rd_ixT (by first | assumption | exact upd_same) rfl ?_))
local macro_rules | `(tactic| walk_at "rd") => `(tactic| (repeat (first | walk_at "rd1" | dsimp only)))
local macro_rules | `(tactic| walk_at "rds") => `(tactic| (dsimp only [cxOf, Cx.nox, Cx.wish, Cx.blk, L2.start]; walk_at "rd"))
local macro_rules | `(tactic| walk_at "rdn") => `(tactic| (repeat (first | walk_at "rdn1" | dsimp only)))
section
variable {P : Program} {w : World} {K : PySem.W.Frag} {mg : Str → Option Value} {base : Heap}

theorem ok_may_read {f : Addr} {fd : FuncData} (B : BT mg) (F : Fun K "may_read" "may_read" s_may_read f fd) (hm : mg "may_read" = some (.ref f)) : Cal P w K mg base "may_read" 1 ["segment", "ring"] (spMay mRead) := by
  refine ⟨f, fd, hm, F.kp, F.binds (ps := ["segment", "ring"]) fun _ _ _ _ _ _ us hl => match us, hl with | [_, _], _ => rfl, ?_⟩
  refine F.ok sc_may_read (fun vs H Q E h => ?_) (fun cdv A outer s H vs Q E hr h => ?_)
  · obtain ⟨v, x, e, rfl, _⟩ := h
    rfl
  · obtain ⟨v, ⟨r1, r2, r3, ri, ga, ws, rs⟩, e, rfl, hv, k⟩ := h
    refine ⟨_, (pss_cons (ps_asg (pe_slice (r := rSlT K) sl_tup (pv 0) po_none (po_some pe_int)) (pg_tup (by rfl) (pgs_cons (pg_name (i := 2) sc_may_read.nd rfl (Or.inl rfl)) (pgs_cons (pg_name (i := 3) sc_may_read.nd rfl (Or.inl rfl)) pgs_nil))))
 (pss_one (ps_ret (pe_and (pe_cmpR op_in_sign pe_str (pv 3) rfl) (pe_one (pe_cmpR op_le (pv 1) (pe_ix (r := rIxT K) ix_tup (pv 2) pe_int (fun _ _ => rfl)) (nomark _))))))), ?_⟩
    obtain ⟨p, xs, rfl, hp, ha⟩ := hv.tup_inv
    obtain ⟨x0, xr, rfl, h0, ha⟩ := ha.cons_inv
    obtain ⟨x1, xr, rfl, h1, ha⟩ := ha.cons_inv
    obtain ⟨x2, xr, rfl, h2, ha⟩ := ha.cons_inv
    have e1 := h1.str_inv; subst e1
    obtain ⟨pb, vb, rfl, hpb, hab⟩ := h0.tup_inv
    have eb := RpAll.ints_inv (ns := [r1, r2, r3]) hab
    subst eb
    replace hpb : H pb = some (.tup [.int r1, .int r2, .int r3]) := hpb
    walk_at "rds"
    refine ⟨2, rfl, ?_⟩
    refine rd_cut2 hp fun q hq => ?_
    have hpb2 := (same_upd (o := .tup [.ref pb, .str ri]) hq) _ _ hpb
    have k2 := k _ (same_upd (o := .tup [.ref pb, .str ri]) hq)
    unfold mRead has at k2
    dsimp only at k2
    walk_at "rd"
    refine ⟨114, ri, rfl, rfl, ?_⟩
    walk_at "rd"
    refine rd_ifd (fun hr => ?_) (fun hr => ?_)
    · rw [decide_eq_true hr] at k2
      walk_at "rd"
      exact k2
    · rw [decide_eq_false hr] at k2
      exact k2

theorem ok_may_write {f : Addr} {fd : FuncData} (B : BT mg) (F : Fun K "may_write" "may_write" s_may_write f fd) (hm : mg "may_write" = some (.ref f)) : Cal P w K mg base "may_write" 1 ["segment", "ring"] (spMay mWrite) := by
  refine ⟨f, fd, hm, F.kp, F.binds (ps := ["segment", "ring"]) fun _ _ _ _ _ _ us hl => match us, hl with | [_, _], _ => rfl, ?_⟩
  refine F.ok sc_may_write (fun vs H Q E h => ?_) (fun cdv A outer s H vs Q E hr h => ?_)
  · obtain ⟨v, x, e, rfl, _⟩ := h
    rfl
  · obtain ⟨v, ⟨r1, r2, r3, ri, ga, ws, rs⟩, e, rfl, hv, k⟩ := h
    refine ⟨_, (pss_cons (ps_asg (pe_slice (r := rSlT K) sl_tup (pv 0) po_none (po_some pe_int)) (pg_tup (by rfl) (pgs_cons (pg_name (i := 2) sc_may_write.nd rfl (Or.inl rfl)) (pgs_cons (pg_name (i := 3) sc_may_write.nd rfl (Or.inl rfl)) pgs_nil))))
 (pss_one (ps_ret (pe_and (pe_cmpR op_in_sign pe_str (pv 3) rfl) (pe_one (pe_cmpR op_le (pv 1) (pe_ix (r := rIxT K) ix_tup (pv 2) pe_int (fun _ _ => rfl)) (nomark _))))))), ?_⟩
    obtain ⟨p, xs, rfl, hp, ha⟩ := hv.tup_inv
    obtain ⟨x0, xr, rfl, h0, ha⟩ := ha.cons_inv
    obtain ⟨x1, xr, rfl, h1, ha⟩ := ha.cons_inv
    obtain ⟨x2, xr, rfl, h2, ha⟩ := ha.cons_inv
    have e1 := h1.str_inv; subst e1
    obtain ⟨pb, vb, rfl, hpb, hab⟩ := h0.tup_inv
    have eb := RpAll.ints_inv (ns := [r1, r2, r3]) hab
    subst eb
    replace hpb : H pb = some (.tup [.int r1, .int r2, .int r3]) := hpb
    walk_at "rds"
    refine ⟨2, rfl, ?_⟩
    refine rd_cut2 hp fun q hq => ?_
    have hpb2 := (same_upd (o := .tup [.ref pb, .str ri]) hq) _ _ hpb
    have k2 := k _ (same_upd (o := .tup [.ref pb, .str ri]) hq)
    unfold mWrite has at k2
    dsimp only at k2
    walk_at "rd"
    refine ⟨119, ri, rfl, rfl, ?_⟩
    walk_at "rd"
    refine rd_ifd (fun hr => ?_) (fun hr => ?_)
    · rw [decide_eq_true hr] at k2
      walk_at "rd"
      exact k2
    · rw [decide_eq_false hr] at k2
      exact k2

theorem ok_may_run {f : Addr} {fd : FuncData} (B : BT mg) (F : Fun K "may_run" "may_run" s_may_run f fd) (hm : mg "may_run" = some (.ref f)) : Cal P w K mg base "may_run" 1 ["segment", "ring"] (spMay mRun) := by
  refine ⟨f, fd, hm, F.kp, F.binds (ps := ["segment", "ring"]) fun _ _ _ _ _ _ us hl => match us, hl with | [_, _], _ => rfl, ?_⟩
  refine F.ok sc_may_run (fun vs H Q E h => ?_) (fun cdv A outer s H vs Q E hr h => ?_)
  · obtain ⟨v, x, e, rfl, _⟩ := h
    rfl
  · obtain ⟨v, ⟨r1, r2, r3, ri, ga, ws, rs⟩, e, rfl, hv, k⟩ := h
    refine ⟨_, (pss_cons (ps_asg (pe_slice (r := rSlT K) sl_tup (pv 0) po_none (po_some pe_int)) (pg_tup (by rfl) (pgs_cons (pg_name (i := 2) sc_may_run.nd rfl (Or.inl rfl)) (pgs_cons (pg_name (i := 3) sc_may_run.nd rfl (Or.inl rfl)) pgs_nil))))
 (pss_one (ps_ret (pe_and (pe_cmpR op_in_sign pe_str (pv 3) rfl) (pe_one (pe_chain op_le op_le (pe_ix (r := rIxT K) ix_tup (pv 2) pe_int (fun _ _ => rfl)) (pv 1) (pe_ix (r := rIxT K) ix_tup (pv 2) pe_int (fun _ _ => rfl)))))))), ?_⟩
    obtain ⟨p, xs, rfl, hp, ha⟩ := hv.tup_inv
    obtain ⟨x0, xr, rfl, h0, ha⟩ := ha.cons_inv
    obtain ⟨x1, xr, rfl, h1, ha⟩ := ha.cons_inv
    obtain ⟨x2, xr, rfl, h2, ha⟩ := ha.cons_inv
    have e1 := h1.str_inv; subst e1
    obtain ⟨pb, vb, rfl, hpb, hab⟩ := h0.tup_inv
    have eb := RpAll.ints_inv (ns := [r1, r2, r3]) hab
    subst eb
    replace hpb : H pb = some (.tup [.int r1, .int r2, .int r3]) := hpb
    walk_at "rds"
    refine ⟨2, rfl, ?_⟩
    refine rd_cut2 hp fun q hq => ?_
    have hpb2 := (same_upd (o := .tup [.ref pb, .str ri]) hq) _ _ hpb
    have k2 := k _ (same_upd (o := .tup [.ref pb, .str ri]) hq)
    unfold mRun has at k2
    dsimp only at k2
    walk_at "rd"
    refine ⟨120, ri, rfl, rfl, ?_⟩
    walk_at "rd"
    refine rd_ifd (fun hr => ?_) (fun hr => ?_)
    · rw [decide_eq_true hr] at k2
      walk_at "rd"
      refine rd_ifd (fun h => ?_) (fun h => ?_)
      · rw [decide_eq_true h] at k2
        walk_at "rd"
        exact k2
      · rw [decide_eq_false h] at k2
        exact k2
    · rw [decide_eq_false hr] at k2
      exact k2

end
end Rg

namespace Rg
open PySem PySem.Spec L2
local macro_rules | `(tactic| walk_at "rd1") => `(tactic| first
  | with_reducible refine rd_seq ?_
  | with_reducible refine rd_asg ?_
  | ((with_reducible show tVar _ _ _ _); refine rd_var rfl ?_)
  | with_reducible refine rd_c ?_
  | with_reducible refine rd_op ?_
  | with_reducible refine rd_I0 ?_
  | with_reducible refine rd_name ?_
  | with_reducible refine rd_ret ?_
  | with_reducible refine rd_ifs ?_
  | with_reducible refine rd_test ?_
  | with_reducible refine rd_tB ?_
  | with_reducible refine rd_bl ?_
  | with_reducible refine rd_drop ?_
  | with_reducible refine rd_nil ?_
  | with_reducible refine rd_cons ?_
  | with_reducible refine rd_call ?_
  | with_reducible refine rd_cb ?_
  | with_reducible refine rd_tup ?_
  | with_reducible refine rd_lst ?_
  | with_reducible refine rd_and ?_
  | with_reducible refine rd_or ?_
  | with_reducible refine rd_not ?_
  | with_reducible refine rd_andV ?_
  | with_reducible refine rd_orV ?_
  | with_reducible refine rd_notV ?_
  | with_reducible refine rd_chain ?_
  | with_reducible refine rd_un ?_
  | with_reducible refine rd_isN ?_
  | with_reducible refine rd_bm ?_
  | with_reducible refine rd_bm0 ?_
  | with_reducible refine rd_gsub ?_
  | with_reducible refine rd_sl ?_
  | with_reducible refine rd_gt ?_
  | with_reducible refine rd_yes ?_
  | with_reducible refine rd_gcons ?_
  | with_reducible refine rd_gnil ?_
  | with_reducible refine rd_part ?_
  | with_reducible refine rd_nopart ?_
  | ((with_reducible show gTup _ _ _ _ _ _ _); refine rd_gtup (by first | assumption | exact upd_same) rfl ?_)
  | ((with_reducible show gLst _ _ _ _ _ _ _); refine rd_glst (by first | assumption | exact upd_same) rfl ?_)
  | ((with_reducible show rIsi _ _ _ _); first | refine rd_isi (b := true) (.ty _) (.base (by first | exact .int _ | exact .str _ | exact .bl _ | exact .non | exact .tup (by assumption) | exact .lst (by assumption))) (kit_ty (by decide +kernel)) ?_ | refine rd_isi (b := false) (.ty _) (.base (by first | exact .int _ | exact .str _ | exact .bl _ | exact .non | exact .tup (by assumption) | exact .lst (by assumption))) (kit_ty (by decide +kernel)) ?_)
  | with_reducible refine rd_fld ?_
  | with_reducible refine rd_sfld ?_
  | with_reducible refine rd_meth ?_
  | with_reducible refine rd_make ?_
  | with_reducible refine rd_makeK ?_
  | with_reducible refine rd_U ?_
  | with_reducible refine rd_makeKS ?_
  | with_reducible refine rd_callN ?_
  | with_reducible refine rd_rs ?_
  | with_reducible refine rd_rf ?_
  | with_reducible refine rd_star ?_
  | with_reducible refine rd_callS ?_
  | with_reducible refine rd_for ?_
  | with_reducible refine rd_lc ?_
  | with_reducible refine rd_ilist ?_
  | with_reducible refine rd_itup ?_
  | with_reducible refine rd_irng ?_
  | with_reducible refine rd_izipS ?_
  | with_reducible refine rd_ienum ?_
  | with_reducible refine rd_ienT ?_
  | with_reducible refine rd_next ?_
  | with_reducible refine rd_eq rfl ?_
  | with_reducible refine rd_ne rfl ?_
  | with_reducible refine iteT ?_
  | with_reducible refine iteF ?_
  | with_reducible refine rd_ifnT ?_
  | with_reducible refine rd_ifnF ?_
  | ((with_reducible show rI (fun _ j => (0 : Int) < j) _ _ _ _ _); refine rd_mod (by omega) ?_)
  | with_reducible refine rd_new rfl ?_
  | ((with_reducible show rIxL _ _ (V.int 0) _ _); refine rd_ixL0 (by first | assumption | exact upd_same) ?_)
  | ((with_reducible show rIxL _ _ _ _ _); refine rd_ixL (by first | assumption | exact upd_same) rfl ?_)
  | ((with_reducible show rSetL _ _ _ _ _); refine rd_setL (by first | assumption | exact upd_same) rfl ?_)
  | ((with_reducible show rI CMul _ _ _ _ _); refine rd_mul (by first | exact Or.inl ⟨by omega, by omega⟩ | exact Or.inr ⟨by omega, by omega⟩) ?_)
  | ((with_reducible show tyV _ "list" _ _ ∧ _); refine rd_tyL (by first | assumption | exact upd_same) ?_)
  | ((with_reducible show rIxT _ _ (V.int 0) _ _); refine rd_ixT0 (by first | assumption | exact upd_same) ?_)
  | ((with_reducible show rIxT _ _ _ _ _); refine rd_ixT (by first | assumption | exact upd_same) rfl ?_))
local macro_rules | `(tactic| walk_at "rdn1") => `(tactic| first
  | with_reducible refine rd_seq ?_
  | with_reducible refine rd_asg ?_
  | ((with_reducible show tVar _ _ _ _); refine rd_var rfl ?_)
  | with_reducible refine rd_c ?_
  | with_reducible refine rd_op ?_
  | with_reducible refine rd_I0 ?_
  | with_reducible refine rd_name ?_
  | with_reducible refine rd_ret ?_
  | with_reducible refine rd_ifs ?_
  | with_reducible refine rd_test ?_
  | with_reducible refine rd_tB ?_
  | with_reducible refine rd_bl ?_
  | with_reducible refine rd_drop ?_
  | with_reducible refine rd_nil ?_
  | with_reducible refine rd_cons ?_
  | with_reducible refine rd_call ?_
  | with_reducible refine rd_cb ?_
  | with_reducible refine rd_tup ?_
  | with_reducible refine rd_lst ?_
  | with_reducible refine rd_and ?_
  | with_reducible refine rd_or ?_
  | with_reducible refine rd_not ?_
  | with_reducible refine rd_notV ?_
  | with_reducible refine rd_chain ?_
  | with_reducible refine rd_un ?_
  | with_reducible refine rd_isN ?_
  | with_reducible refine rd_bm ?_
  | with_reducible refine rd_bm0 ?_
  | with_reducible refine rd_gsub ?_
  | with_reducible refine rd_sl ?_
  | with_reducible refine rd_gt ?_
  | with_reducible refine rd_yes ?_
  | with_reducible refine rd_gcons ?_
  | with_reducible refine rd_gnil ?_
  | with_reducible refine rd_part ?_
  | with_reducible refine rd_nopart ?_
  | ((with_reducible show gTup _ _ _ _ _ _ _); refine rd_gtup (by first | assumption | exact upd_same) rfl ?_)
  | ((with_reducible show gLst _ _ _ _ _ _ _); refine rd_glst (by first | assumption | exact upd_same) rfl ?_)
  | ((with_reducible show rIsi _ _ _ _); first | refine rd_isi (b := true) (.ty _) (.base (by first | exact .int _ | exact .str _ | exact .bl _ | exact .non | exact .tup (by assumption) | exact .lst (by assumption))) (kit_ty (by decide +kernel)) ?_ | refine rd_isi (b := false) (.ty _) (.base (by first | exact .int _ | exact .str _ | exact .bl _ | exact .non | exact .tup (by assumption) | exact .lst (by assumption))) (kit_ty (by decide +kernel)) ?_)
  | with_reducible refine rd_fld ?_
  | with_reducible refine rd_sfld ?_
  | with_reducible refine rd_meth ?_
  | with_reducible refine rd_make ?_
  | with_reducible refine rd_makeK ?_
  | with_reducible refine rd_U ?_
  | with_reducible refine rd_makeKS ?_
  | with_reducible refine rd_callN ?_
  | with_reducible refine rd_rs ?_
  | with_reducible refine rd_rf ?_
  | with_reducible refine rd_star ?_
  | with_reducible refine rd_callS ?_
  | with_reducible refine rd_for ?_
  | with_reducible refine rd_lc ?_
  | with_reducible refine rd_ilist ?_
  | with_reducible refine rd_itup ?_
  | with_reducible refine rd_irng ?_
  | with_reducible refine rd_izipS ?_
  | with_reducible refine rd_ienum ?_
  | with_reducible refine rd_ienT ?_
  | with_reducible refine rd_next ?_
  | with_reducible refine rd_eq rfl ?_
  | with_reducible refine rd_ne rfl ?_
  | with_reducible refine iteT ?_
  | with_reducible refine iteF ?_
  | with_reducible refine rd_ifnT ?_
  | with_reducible refine rd_ifnF ?_
  | ((with_reducible show rI (fun _ j => (0 : Int) < j) _ _ _ _ _); refine rd_mod (by omega) ?_)
  | with_reducible refine rd_new rfl ?_
  | ((with_reducible show rIxL _ _ (V.int 0) _ _); refine rd_ixL0 (by first | assumption | exact upd_same) ?_)
  | ((with_reducible show rIxL _ _ _ _ _); refine rd_ixL (by first | assumption | exact upd_same) rfl ?_)
  | ((with_reducible show rSetL _ _ _ _ _); refine rd_setL (by first | assumption | exact upd_same) rfl ?_)
  | ((with_reducible show rI CMul _ _ _ _ _); refine rd_mul (by first | exact Or.inl ⟨by omega, by omega⟩ | exact Or.inr ⟨by omega, by omega⟩) ?_)
  | ((with_reducible show tyV _ "list" _ _ ∧ _); refine rd_tyL (by first | assumption | exact upd_same) ?_)
  | ((with_reducible show rIxT _ _ (V.int 0) _ _); refine rd_ixT0 (by first | assumption | exact upd_same) ?_)
  | ((with_reducible show rIxT _ _ _ _ _); refine rd_ixT (by first | assumption | exact upd_same) rfl ?_))
local macro_rules | `(tactic| walk_at "rd") => `(tactic| (repeat (first | walk_at "rd1" | dsimp only)))
local macro_rules | `(tactic| walk_at "rds") => `(tactic| (dsimp only [cxOf, Cx.nox, Cx.wish, Cx.blk, L2.start]; walk_at "rd"))
local macro_rules | `(tactic| walk_at "rdn") => `(tactic| (repeat (first | walk_at "rdn1" | dsimp only)))
section
variable {P : Program} {w : World} {K : PySem.W.Frag} {mg : Str → Option Value} {base : Heap}

theorem ok_Finit {f : Addr} {fd : FuncData} (F : Fun K "__init__" "Fault.__init__" s_Fault__init f fd) (gE : mg "Exception" = none) (vE : PySem.W.findCls K (.type "Exception") (.type "type") "__init__" = some (.val (.builtin "Exception.__init__"))) : FnOk P w K mg base CX0 1 f fd ["self", "cause"] (spFE K) := by
  refine F.ok sc_Fault__init (fun vs H Q E h => ?_) (fun cdv A outer s H vs Q E hr h => ?_)
  · obtain ⟨a, C, v, rfl, _⟩ := h
    rfl
  · obtain ⟨a, C, v, rfl, T, hw, ha, k⟩ := h
    refine ⟨_, (pss_cons (ps_expr (pe_eninit rfl gE vE (pa_cons (pv 0) (pa_cons (pv 1) pa_nil))))
 (pss_one (ps_est (pv 0) (pv 1)))), ?_⟩
    walk_at "rds"
    refine ⟨_, rfl, _, rfl, a, C, [v], rfl, by show 1 ≤ 1000; decide, T, ha, ?_⟩
    walk_at "rd"
    exact ⟨_, rfl, _, rfl, a, C, rfl, T, hw, ha, fun dx hd ne => k dx hd ne⟩
theorem mem_get {CR : Addr} {H : Hp} {x dx m : Addr} {hand : Int} {lp lm lc ls lt : Addr} {as : List Addr} {vw : V} {s : Rn} (r : RA CR H x dx m hand lp lm lc ls lt as vw s) {g : Int} (g0 : 0 ≤ g) (gN : g < (s.me.length : Int)) : ∃ q v, as[g.toNat]? = some q ∧ atI (as.map V.ref) g = some (.ref q) ∧ H q = some (.lst v) ∧ RpAll H v ((s.mem g).map Wd.d) := by
  have hg : g.toNat < as.length := by rw [r.la]; omega
  have e1 : as[g.toNat]? = some as[g.toNat] := List.getElem?_eq_getElem hg
  have e2 : s.me[g.toNat]? = some (s.mem g) := by
    unfold Rn.mem
    rw [List.getD_eq_getElem?_getD, List.getElem?_eq_getElem (by omega)]
    rfl
  obtain ⟨v, h1, h2⟩ := r.ha _ _ _ e1 e2
  exact ⟨as[g.toNat], v, e1, at_of (j := g.toNat) (by omega) (by rw [List.getElem?_map, e1]; rfl), h1, h2⟩
theorem ptr_mem {s : Rn} {p : Int} {z : Int × Int × Int} (h4 : s.pt.length = 4) (p0 : 0 ≤ p) (p4 : p < 4) (e : s.ptr p = some z) : some z ∈ s.pt := by
  have hl : p.toNat < s.pt.length := by omega
  unfold Rn.ptr at e
  rw [List.getD_eq_getElem?_getD, List.getElem?_eq_getElem hl] at e
  have e' : s.pt[p.toNat] = some z := e
  rw [← e']
  exact List.getElem_mem hl
theorem seg_get {C : Addr} {H0 : Hp} {m : Addr} {us : List V} {xs : List Sg} {b : Int} (M : Mch C H0 m us xs b) {g : Int} (g0 : 0 ≤ g) (gN : g < (xs.length : Int)) : ∃ v, us[g.toNat]? = some v ∧ Rp H0 v (sgAt xs g).d ∧ g < (us.length : Int) := by
  have lu : us.length = xs.length := by rw [M.rp.length, List.length_map]
  have hg : g.toNat < xs.length := by omega
  obtain ⟨v, h1, h2⟩ := M.rp.get2 (i := g.toNat) (d := (sgAt xs g).d) (by
    unfold sgAt
    rw [List.getElem?_map, List.getD_eq_getElem?_getD, List.getElem?_eq_getElem hg]
    rfl)
  exact ⟨v, h1, h2, by omega⟩
theorem spot_in {s : Rn} {p w e g pl : Int} {xs : List Sg} (wf : WF xs s) (p0 : 0 ≤ p) (p4 : p < 4) (h : spotR s p w = .ok (e, g, pl)) : 0 ≤ g ∧ g < (xs.length : Int) ∧ 0 ≤ pl ∧ pl < ((s.mem g).length : Int) := by
  unfold spotR at h
  cases e1 : s.ptr p with
  | none => rw [e1] at h; cases h
  | some z =>
    obtain ⟨r1, g1, pl1⟩ := z
    rw [e1] at h
    dsimp only at h
    obtain ⟨g0, gN, _⟩ := wf.ptg r1 g1 pl1 (ptr_mem wf.pt4 p0 p4 e1)
    by_cases hc : 0 ≤ pl1 + w ∧ pl1 + w < ((s.mem g1).length : Int)
    · rw [if_pos hc] at h
      cases h
      exact ⟨g0, gN, hc.1, hc.2⟩
    · rw [if_neg hc] at h
      cases h
theorem word_get {H : Hp} {v : List V} {s : Rn} {g pl : Int} (ram : RpAll H v ((s.mem g).map Wd.d)) (h0 : 0 ≤ pl) (h1 : pl < ((s.mem g).length : Int)) : ∃ u, atI v pl = some u ∧ Rp H u (s.wordAt g pl).d := by
  obtain ⟨u, hu, ru⟩ := ram.get2 (i := pl.toNat) (d := (s.wordAt g pl).d) (by
    unfold Rn.wordAt
    rw [List.getElem?_map, List.getD_eq_getElem?_getD, List.getElem?_eq_getElem (by omega)]
    rfl)
  exact ⟨u, at_of (by omega) hu, ru⟩

end
end Rg

namespace Rg
open PySem PySem.Spec L2
local macro_rules | `(tactic| walk_at "rd1") => `(tactic| first
  | with_reducible refine rd_seq ?_
  | with_reducible refine rd_asg ?_
  | ((with_reducible show tVar _ _ _ _); refine rd_var rfl ?_)
  | with_reducible refine rd_c ?_
  | with_reducible refine rd_op ?_
  | with_reducible refine rd_I0 ?_
  | with_reducible refine rd_name ?_
  | with_reducible refine rd_ret ?_
  | with_reducible refine rd_ifs ?_
  | with_reducible refine rd_test ?_
  | with_reducible refine rd_tB ?_
  | with_reducible refine rd_bl ?_
  | with_reducible refine rd_drop ?_
  | with_reducible refine rd_nil ?_
  | with_reducible refine rd_cons ?_
  | with_reducible refine rd_call ?_
  | with_reducible refine rd_cb ?_
  | with_reducible refine rd_tup ?_
  | with_reducible refine rd_lst ?_
  | with_reducible refine rd_and ?_
  | with_reducible refine rd_or ?_
  | with_reducible refine rd_not ?_
  | with_reducible refine rd_andV ?_
  | with_reducible refine rd_orV ?_
  | with_reducible refine rd_notV ?_
  | with_reducible refine rd_chain ?_
  | with_reducible refine rd_un ?_
  | with_reducible refine rd_isN ?_
  | with_reducible refine rd_bm ?_
  | with_reducible refine rd_bm0 ?_
  | with_reducible refine rd_gsub ?_
  | with_reducible refine rd_sl ?_
  | with_reducible refine rd_gt ?_
  | with_reducible refine rd_yes ?_
  | with_reducible refine rd_gcons ?_
  | with_reducible refine rd_gnil ?_
  | with_reducible refine rd_part ?_
  | with_reducible refine rd_nopart ?_
  | ((with_reducible show gTup _ _ _ _ _ _ _); refine rd_gtup (by first | assumption | exact upd_same) rfl ?_)
  | ((with_reducible show gLst _ _ _ _ _ _ _); refine rd_glst (by first | assumption | exact upd_same) rfl ?_)
  | ((with_reducible show rIsi _ _ _ _); first | refine rd_isi (b := true) (.ty _) (.base (by first | exact .int _ | exact .str _ | exact .bl _ | exact .non | exact .tup (by assumption) | exact .lst (by assumption))) (kit_ty (by decide +kernel)) ?_ | refine rd_isi (b := false) (.ty _) (.base (by first | exact .int _ | exact .str _ | exact .bl _ | exact .non | exact .tup (by assumption) | exact .lst (by assumption))) (kit_ty (by decide +kernel)) ?_)
  | with_reducible refine rd_fld ?_
  | with_reducible refine rd_sfld ?_
  | with_reducible refine rd_meth ?_
  | with_reducible refine rd_make ?_
  | with_reducible refine rd_makeK ?_
  | with_reducible refine rd_U ?_
  | with_reducible refine rd_makeKS ?_
  | with_reducible refine rd_callN ?_
  | with_reducible refine rd_rs ?_
  | with_reducible refine rd_rf ?_
  | with_reducible refine rd_star ?_
  | with_reducible refine rd_callS ?_
  | with_reducible refine rd_for ?_
  | with_reducible refine rd_lc ?_
  | with_reducible refine rd_ilist ?_
  | with_reducible refine rd_itup ?_
  | with_reducible refine rd_irng ?_
  | with_reducible refine rd_izipS ?_
  | with_reducible refine rd_ienum ?_
  | with_reducible refine rd_ienT ?_
  | with_reducible refine rd_next ?_
  | with_reducible refine rd_eq rfl ?_
  | with_reducible refine rd_ne rfl ?_
  | with_reducible refine iteT ?_
  | with_reducible refine iteF ?_
  | with_reducible refine rd_ifnT ?_
  | with_reducible refine rd_ifnF ?_
  | ((with_reducible show rI (fun _ j => (0 : Int) < j) _ _ _ _ _); refine rd_mod (by omega) ?_)
  | with_reducible refine rd_new rfl ?_
  | ((with_reducible show rIxL _ _ (V.int 0) _ _); refine rd_ixL0 (by first | assumption | exact upd_same) ?_)
  | ((with_reducible show rIxL _ _ _ _ _); refine rd_ixL (by first | assumption | exact upd_same) rfl ?_)
  | ((with_reducible show rSetL _ _ _ _ _); refine rd_setL (by first | assumption | exact upd_same) rfl ?_)
  | ((with_reducible show rI CMul _ _ _ _ _); refine rd_mul (by first | exact Or.inl ⟨by omega, by omega⟩ | exact Or.inr ⟨by omega, by omega⟩) ?_)
  | ((with_reducible show tyV _ "list" _ _ ∧ _); refine rd_tyL (by first | assumption | exact upd_same) ?_)
  | ((with_reducible show rIxT _ _ (V.int 0) _ _); refine rd_ixT0 (by first | assumption | exact upd_same) ?_)
  | ((with_reducible show rIxT _ _ _ _ _); refine rd_ixT (by first | assumption | exact upd_same) rfl ?_))
local macro_rules | `(tactic| walk_at "rdn1") => `(tactic| first
  | with_reducible refine rd_seq ?_
  | with_reducible refine rd_asg ?_
  | ((with_reducible show tVar _ _ _ _); refine rd_var rfl ?_)
  | with_reducible refine rd_c ?_
  | with_reducible refine rd_op ?_
  | with_reducible refine rd_I0 ?_
  | with_reducible refine rd_name ?_
  | with_reducible refine rd_ret ?_
  | with_reducible refine rd_ifs ?_
  | with_reducible refine rd_test ?_
  | with_reducible refine rd_tB ?_
  | with_reducible refine rd_bl ?_
  | with_reducible refine rd_drop ?_
  | with_reducible refine rd_nil ?_
  | with_reducible refine rd_cons ?_
  | with_reducible refine rd_call ?_
  | with_reducible refine rd_cb ?_
  | with_reducible refine rd_tup ?_
  | with_reducible refine rd_lst ?_
  | with_reducible refine rd_and ?_
  | with_reducible refine rd_or ?_
  | with_reducible refine rd_not ?_
  | with_reducible refine rd_notV ?_
  | with_reducible refine rd_chain ?_
  | with_reducible refine rd_un ?_
  | with_reducible refine rd_isN ?_
  | with_reducible refine rd_bm ?_
  | with_reducible refine rd_bm0 ?_
  | with_reducible refine rd_gsub ?_
  | with_reducible refine rd_sl ?_
  | with_reducible refine rd_gt ?_
  | with_reducible refine rd_yes ?_
  | with_reducible refine rd_gcons ?_
  | with_reducible refine rd_gnil ?_
  | with_reducible refine rd_part ?_
  | with_reducible refine rd_nopart ?_
  | ((with_reducible show gTup _ _ _ _ _ _ _); refine rd_gtup (by first | assumption | exact upd_same) rfl ?_)
  | ((with_reducible show gLst _ _ _ _ _ _ _); refine rd_glst (by first | assumption | exact upd_same) rfl ?_)
  | ((with_reducible show rIsi _ _ _ _); first | refine rd_isi (b := true) (.ty _) (.base (by first | exact .int _ | exact .str _ | exact .bl _ | exact .non | exact .tup (by assumption) | exact .lst (by assumption))) (kit_ty (by decide +kernel)) ?_ | refine rd_isi (b := false) (.ty _) (.base (by first | exact .int _ | exact .str _ | exact .bl _ | exact .non | exact .tup (by assumption) | exact .lst (by assumption))) (kit_ty (by decide +kernel)) ?_)
  | with_reducible refine rd_fld ?_
  | with_reducible refine rd_sfld ?_
  | with_reducible refine rd_meth ?_
  | with_reducible refine rd_make ?_
  | with_reducible refine rd_makeK ?_
  | with_reducible refine rd_U ?_
  | with_reducible refine rd_makeKS ?_
  | with_reducible refine rd_callN ?_
  | with_reducible refine rd_rs ?_
  | with_reducible refine rd_rf ?_
  | with_reducible refine rd_star ?_
  | with_reducible refine rd_callS ?_
  | with_reducible refine rd_for ?_
  | with_reducible refine rd_lc ?_
  | with_reducible refine rd_ilist ?_
  | with_reducible refine rd_itup ?_
  | with_reducible refine rd_irng ?_
  | with_reducible refine rd_izipS ?_
  | with_reducible refine rd_ienum ?_
  | with_reducible refine rd_ienT ?_
  | with_reducible refine rd_next ?_
  | with_reducible refine rd_eq rfl ?_
  | with_reducible refine rd_ne rfl ?_
  | with_reducible refine iteT ?_
  | with_reducible refine iteF ?_
  | with_reducible refine rd_ifnT ?_
  | with_reducible refine rd_ifnF ?_
  | ((with_reducible show rI (fun _ j => (0 : Int) < j) _ _ _ _ _); refine rd_mod (by omega) ?_)
  | with_reducible refine rd_new rfl ?_
  | ((with_reducible show rIxL _ _ (V.int 0) _ _); refine rd_ixL0 (by first | assumption | exact upd_same) ?_)
  | ((with_reducible show rIxL _ _ _ _ _); refine rd_ixL (by first | assumption | exact upd_same) rfl ?_)
  | ((with_reducible show rSetL _ _ _ _ _); refine rd_setL (by first | assumption | exact upd_same) rfl ?_)
  | ((with_reducible show rI CMul _ _ _ _ _); refine rd_mul (by first | exact Or.inl ⟨by omega, by omega⟩ | exact Or.inr ⟨by omega, by omega⟩) ?_)
  | ((with_reducible show tyV _ "list" _ _ ∧ _); refine rd_tyL (by first | assumption | exact upd_same) ?_)
  | ((with_reducible show rIxT _ _ (V.int 0) _ _); refine rd_ixT0 (by first | assumption | exact upd_same) ?_)
  | ((with_reducible show rIxT _ _ _ _ _); refine rd_ixT (by first | assumption | exact upd_same) rfl ?_))
local macro_rules | `(tactic| walk_at "rd") => `(tactic| (repeat (first | walk_at "rd1" | dsimp only)))
local macro_rules | `(tactic| walk_at "rds") => `(tactic| (dsimp only [cxOf, Cx.nox, Cx.wish, Cx.blk, L2.start]; walk_at "rd"))
local macro_rules | `(tactic| walk_at "rdn") => `(tactic| (repeat (first | walk_at "rdn1" | dsimp only)))
section
variable {P : Program} {w : World} {K : PySem.W.Frag} {mg : Str → Option Value} {base : Heap}

def spHand (CR CF : Addr) : Sp := fun vs H Q E => ∃ (H0 : Hp) (x m : Addr) (hand : Int) (s : Rn), vs = [.ref x] ∧ RunAt CR H0 H x m hand s ∧ (s.wh ≠ none → Q .non H) ∧ (s.wh = none → Flt CF E H "hand")
theorem wh_val {H : Hp} {v : V} {w : Option (Int × Int)} (h : Rp H v (whD w)) : (w = none ∧ v = .non) ∨ ∃ g p q, w = some (g, p) ∧ v = .ref q ∧ H q = some (.tup [.int g, .int p]) := by
  match w, h with
  | none, h => cases h; exact .inl ⟨rfl, rfl⟩
  | some (g, p), h =>
    obtain ⟨q, vs, rfl, hq, ha⟩ := Rp.tup_inv (show Rp H v (.tuple [.int g, .int p]) from h)
    have e := RpAll.ints_inv (ns := [g, p]) ha
    subst e
    exact .inr ⟨g, p, q, rfl, rfl, hq⟩
def spJump (CR : Addr) : Sp := fun vs H Q _ => ∃ (H0 : Hp) (x m : Addr) (hand j g p : Int) (s : Rn), vs = [.ref x, .int j] ∧ RunAt CR H0 H x m hand s ∧ s.wh = some (g, p) ∧ ∀ H', RunAt CR H0 H' x m hand { s with wh := some (g, j) } → Tk H H' → Q .non H'
def spNext (C CR CF : Addr) : Sp := fun vs H Q E => ∃ (H0 : Hp) (x m : Addr) (us : List V) (xs : List Sg) (b hand g p : Int) (s : Rn), vs = [.ref x] ∧ Mch C H0 m us xs b ∧ RunAt CR H0 H x m hand s ∧ s.wh = some (g, p) ∧ 0 ≤ g ∧ g < (xs.length : Int) ∧
  (0 ≤ p ∧ p < ((sgAt xs g).rs.length : Int) → ∀ v, Rp H v (((sgAt xs g).rs.getD p.toNat ⟨"return", []⟩)).d → Q v H) ∧ (¬ (0 ≤ p ∧ p < ((sgAt xs g).rs.length : Int)) → Flt CF E H "row")
def spForget (CR : Addr) : Sp := fun vs H Q _ => ∃ (H0 : Hp) (x m : Addr) (hand : Int) (s : Rn), vs = [.ref x] ∧ RunAt CR H0 H x m hand s ∧ ∀ H', RunAt CR H0 H' x m hand { s with a := 0, pt := [none, none, none, none] } → Tk H H' → (∀ b fs, H b = some (.xd fs) → H' b = some (.xd fs)) → Q .non H'
theorem run_free {CR : Addr} {H0 H : Hp} {x dx m : Addr} {hand : Int} {lp lm lc ls lt : Addr} {as : List Addr} {vw : V} {s : Rn} (r : RA CR H x dx m hand lp lm lc ls lt as vw s) {q : Addr} (hq : H q = none) : q ≠ lm ∧ q ≠ lc ∧ q ≠ ls ∧ q ≠ lt ∧ q ∉ as := by
  obtain ⟨_, h1, _⟩ := r.hc
  obtain ⟨_, h2, _⟩ := r.hs
  obtain ⟨_, h3, _⟩ := r.ht
  refine ⟨Ne.symm (ne_of_none r.hm hq), Ne.symm (ne_of_none h1 hq), Ne.symm (ne_of_none h2 hq), Ne.symm (ne_of_none h3 hq), fun hm => ?_⟩
  obtain ⟨i, hi, e⟩ := List.getElem_of_mem hm
  have hl : i < s.me.length := r.la ▸ hi
  obtain ⟨v, h4, _⟩ := r.ha i q _ (by rw [List.getElem?_eq_getElem hi, e]) (List.getElem?_eq_getElem hl)
  rw [hq] at h4
  cases h4
def Rn.sd (s : Rn) (hand : Int) : Sd := ⟨hand, s.a, s.pt, s.me⟩
def spStand (CR : Addr) : Sp := fun vs H Q _ => ∃ (H0 : Hp) (x m : Addr) (hand : Int) (s : Rn), vs = [.ref x] ∧ RunAt CR H0 H x m hand s ∧ s.me.length ≤ 900 ∧ ∀ (v : V) (H' : Hp), Rp H' v (s.sd hand).d → Same H H' → Q v H'

end
end Rg

namespace Rg
open PySem PySem.Spec L2
local macro_rules | `(tactic| walk_at "rd1") => `(tactic| first
  | with_reducible refine rd_seq ?_
  | with_reducible refine rd_asg ?_
  | ((with_reducible show tVar _ _ _ _); refine rd_var rfl ?_)
  | with_reducible refine rd_c ?_
  | with_reducible refine rd_op ?_
  | with_reducible refine rd_I0 ?_
  | with_reducible refine rd_name ?_
  | with_reducible refine rd_ret ?_
  | with_reducible refine rd_ifs ?_
  | with_reducible refine rd_test ?_
  | with_reducible refine rd_tB ?_
  | with_reducible refine rd_bl ?_
  | with_reducible refine rd_drop ?_
  | with_reducible refine rd_nil ?_
  | with_reducible refine rd_cons ?_
  | with_reducible refine rd_call ?_
  | with_reducible refine rd_cb ?_
  | with_reducible refine rd_tup ?_
  | with_reducible refine rd_lst ?_
  | with_reducible refine rd_and ?_
  | with_reducible refine rd_or ?_
  | with_reducible refine rd_not ?_
  | with_reducible refine rd_andV ?_
  | with_reducible refine rd_orV ?_
  | with_reducible refine rd_notV ?_
  | with_reducible refine rd_chain ?_
  | with_reducible refine rd_un ?_
  | with_reducible refine rd_isN ?_
  | with_reducible refine rd_bm ?_
  | with_reducible refine rd_bm0 ?_
  | with_reducible refine rd_gsub ?_
  | with_reducible refine rd_sl ?_
  | with_reducible refine rd_gt ?_
  | with_reducible refine rd_yes ?_
  | with_reducible refine rd_gcons ?_
  | with_reducible refine rd_gnil ?_
  | with_reducible refine rd_part ?_
  | with_reducible refine rd_nopart ?_
  | ((with_reducible show gTup _ _ _ _ _ _ _); refine rd_gtup (by first | assumption | exact upd_same) rfl ?_)
  | ((with_reducible show gLst _ _ _ _ _ _ _); refine rd_glst (by first | assumption | exact upd_same) rfl ?_)
  | ((with_reducible show rIsi _ _ _ _); first | refine rd_isi (b := true) (.ty _) (.base (by first | exact .int _ | exact .str _ | exact .bl _ | exact .non | exact .tup (by assumption) | exact .lst (by assumption))) (kit_ty (by decide +kernel)) ?_ | refine rd_isi (b := false) (.ty _) (.base (by first | exact .int _ | exact .str _ | exact .bl _ | exact .non | exact .tup (by assumption) | exact .lst (by assumption))) (kit_ty (by decide +kernel)) ?_)
  | with_reducible refine rd_fld ?_
  | with_reducible refine rd_sfld ?_
  | with_reducible refine rd_meth ?_
  | with_reducible refine rd_make ?_
  | with_reducible refine rd_makeK ?_
  | with_reducible refine rd_U ?_
  | with_reducible refine rd_makeKS ?_
  | with_reducible refine rd_callN ?_
  | with_reducible refine rd_rs ?_
  | with_reducible refine rd_rf ?_
  | with_reducible refine rd_star ?_
  | with_reducible refine rd_callS ?_
  | with_reducible refine rd_for ?_
  | with_reducible refine rd_lc ?_
  | with_reducible refine rd_ilist ?_
  | with_reducible refine rd_itup ?_
  | with_reducible refine rd_irng ?_
  | with_reducible refine rd_izipS ?_
  | with_reducible refine rd_ienum ?_
  | with_reducible refine rd_ienT ?_
  | with_reducible refine rd_next ?_
  | with_reducible refine rd_eq rfl ?_
  | with_reducible refine rd_ne rfl ?_
  | with_reducible refine iteT ?_
  | with_reducible refine iteF ?_
  | with_reducible refine rd_ifnT ?_
  | with_reducible refine rd_ifnF ?_
  | ((with_reducible show rI (fun _ j => (0 : Int) < j) _ _ _ _ _); refine rd_mod (by omega) ?_)
  | with_reducible refine rd_new rfl ?_
  | ((with_reducible show rIxL _ _ (V.int 0) _ _); refine rd_ixL0 (by first | assumption | exact upd_same) ?_)
  | ((with_reducible show rIxL _ _ _ _ _); refine rd_ixL (by first | assumption | exact upd_same) rfl ?_)
  | ((with_reducible show rSetL _ _ _ _ _); refine rd_setL (by first | assumption | exact upd_same) rfl ?_)
  | ((with_reducible show rI CMul _ _ _ _ _); refine rd_mul (by first | exact Or.inl ⟨by omega, by omega⟩ | exact Or.inr ⟨by omega, by omega⟩) ?_)
  | ((with_reducible show tyV _ "list" _ _ ∧ _); refine rd_tyL (by first | assumption | exact upd_same) ?_)
  | ((with_reducible show rIxT _ _ (V.int 0) _ _); refine rd_ixT0 (by first | assumption | exact upd_same) ?_)
  | ((with_reducible show rIxT _ _ _ _ _); refine rd_ixT (by first | assumption | exact upd_same) rfl ?_))
local macro_rules | `(tactic| walk_at "rdn1") => `(tactic| first
  | with_reducible refine rd_seq ?_
  | with_reducible refine rd_asg ?_
  | ((with_reducible show tVar _ _ _ _); refine rd_var rfl ?_)
  | with_reducible refine rd_c ?_
  | with_reducible refine rd_op ?_
  | with_reducible refine rd_I0 ?_
  | with_reducible refine rd_name ?_
  | with_reducible refine rd_ret ?_
  | with_reducible refine rd_ifs ?_
  | with_reducible refine rd_test ?_
  | with_reducible refine rd_tB ?_
  | with_reducible refine rd_bl ?_
  | with_reducible refine rd_drop ?_
  | with_reducible refine rd_nil ?_
  | with_reducible refine rd_cons ?_
  | with_reducible refine rd_call ?_
  | with_reducible refine rd_cb ?_
  | with_reducible refine rd_tup ?_
  | with_reducible refine rd_lst ?_
  | with_reducible refine rd_and ?_
  | with_reducible refine rd_or ?_
  | with_reducible refine rd_not ?_
  | with_reducible refine rd_notV ?_
  | with_reducible refine rd_chain ?_
  | with_reducible refine rd_un ?_
  | with_reducible refine rd_isN ?_
  | with_reducible refine rd_bm ?_
  | with_reducible refine rd_bm0 ?_
  | with_reducible refine rd_gsub ?_
  | with_reducible refine rd_sl ?_
  | with_reducible refine rd_gt ?_
  | with_reducible refine rd_yes ?_
  | with_reducible refine rd_gcons ?_
  | with_reducible refine rd_gnil ?_
  | with_reducible refine rd_part ?_
  | with_reducible refine rd_nopart ?_
  | ((with_reducible show gTup _ _ _ _ _ _ _); refine rd_gtup (by first | assumption | exact upd_same) rfl ?_)
  | ((with_reducible show gLst _ _ _ _ _ _ _); refine rd_glst (by first | assumption | exact upd_same) rfl ?_)
  | ((with_reducible show rIsi _ _ _ _); first | refine rd_isi (b := true) (.ty _) (.base (by first | exact .int _ | exact .str _ | exact .bl _ | exact .non | exact .tup (by assumption) | exact .lst (by assumption))) (kit_ty (by decide +kernel)) ?_ | refine rd_isi (b := false) (.ty _) (.base (by first | exact .int _ | exact .str _ | exact .bl _ | exact .non | exact .tup (by assumption) | exact .lst (by assumption))) (kit_ty (by decide +kernel)) ?_)
  | with_reducible refine rd_fld ?_
  | with_reducible refine rd_sfld ?_
  | with_reducible refine rd_meth ?_
  | with_reducible refine rd_make ?_
  | with_reducible refine rd_makeK ?_
  | with_reducible refine rd_U ?_
  | with_reducible refine rd_makeKS ?_
  | with_reducible refine rd_callN ?_
  | with_reducible refine rd_rs ?_
  | with_reducible refine rd_rf ?_
  | with_reducible refine rd_star ?_
  | with_reducible refine rd_callS ?_
  | with_reducible refine rd_for ?_
  | with_reducible refine rd_lc ?_
  | with_reducible refine rd_ilist ?_
  | with_reducible refine rd_itup ?_
  | with_reducible refine rd_irng ?_
  | with_reducible refine rd_izipS ?_
  | with_reducible refine rd_ienum ?_
  | with_reducible refine rd_ienT ?_
  | with_reducible refine rd_next ?_
  | with_reducible refine rd_eq rfl ?_
  | with_reducible refine rd_ne rfl ?_
  | with_reducible refine iteT ?_
  | with_reducible refine iteF ?_
  | with_reducible refine rd_ifnT ?_
  | with_reducible refine rd_ifnF ?_
  | ((with_reducible show rI (fun _ j => (0 : Int) < j) _ _ _ _ _); refine rd_mod (by omega) ?_)
  | with_reducible refine rd_new rfl ?_
  | ((with_reducible show rIxL _ _ (V.int 0) _ _); refine rd_ixL0 (by first | assumption | exact upd_same) ?_)
  | ((with_reducible show rIxL _ _ _ _ _); refine rd_ixL (by first | assumption | exact upd_same) rfl ?_)
  | ((with_reducible show rSetL _ _ _ _ _); refine rd_setL (by first | assumption | exact upd_same) rfl ?_)
  | ((with_reducible show rI CMul _ _ _ _ _); refine rd_mul (by first | exact Or.inl ⟨by omega, by omega⟩ | exact Or.inr ⟨by omega, by omega⟩) ?_)
  | ((with_reducible show tyV _ "list" _ _ ∧ _); refine rd_tyL (by first | assumption | exact upd_same) ?_)
  | ((with_reducible show rIxT _ _ (V.int 0) _ _); refine rd_ixT0 (by first | assumption | exact upd_same) ?_)
  | ((with_reducible show rIxT _ _ _ _ _); refine rd_ixT (by first | assumption | exact upd_same) rfl ?_))
local macro_rules | `(tactic| walk_at "rd") => `(tactic| (repeat (first | walk_at "rd1" | dsimp only)))
local macro_rules | `(tactic| walk_at "rds") => `(tactic| (dsimp only [cxOf, Cx.nox, Cx.wish, Cx.blk, L2.start]; walk_at "rd"))
local macro_rules | `(tactic| walk_at "rdn") => `(tactic| (repeat (first | walk_at "rdn1" | dsimp only)))
section
variable {P : Program} {w : World} {K : PySem.W.Frag} {mg : Str → Option Value} {base : Heap}

theorem mb {C : Addr} {H0 H : Hp} {m : Addr} {us : List V} {xs : List Sg} {b : Int} (M : Mch C H0 m us xs b) (e : Same H0 H) : ∃ dx q, H m = some (.ins C dx (mFlds q b)) := let ⟨dx, q, h, _⟩ := M.at_; ⟨dx, q, e _ _ h⟩
def one (ns : List Int) : Int := ns.getD 0 0
def two (ns : List Int) : Int := ns.getD 1 0
def three (ns : List Int) : Int := ns.getD 2 0
def ok1 (_ : List Sg) (ns : List Int) : Prop := ∃ a, ns = [a]
def okP2 (_ : List Sg) (ns : List Int) : Prop := ∃ p w, ns = [p, w] ∧ 0 ≤ p ∧ p < 4

end
end Rg

namespace Rg
open PySem PySem.Spec L2
local macro_rules | `(tactic| walk_at "rd1") => `(tactic| first
  | with_reducible refine rd_seq ?_
  | with_reducible refine rd_asg ?_
  | ((with_reducible show tVar _ _ _ _); refine rd_var rfl ?_)
  | with_reducible refine rd_c ?_
  | with_reducible refine rd_op ?_
  | with_reducible refine rd_I0 ?_
  | with_reducible refine rd_name ?_
  | with_reducible refine rd_ret ?_
  | with_reducible refine rd_ifs ?_
  | with_reducible refine rd_test ?_
  | with_reducible refine rd_tB ?_
  | with_reducible refine rd_bl ?_
  | with_reducible refine rd_drop ?_
  | with_reducible refine rd_nil ?_
  | with_reducible refine rd_cons ?_
  | with_reducible refine rd_call ?_
  | with_reducible refine rd_cb ?_
  | with_reducible refine rd_tup ?_
  | with_reducible refine rd_lst ?_
  | with_reducible refine rd_and ?_
  | with_reducible refine rd_or ?_
  | with_reducible refine rd_not ?_
  | with_reducible refine rd_andV ?_
  | with_reducible refine rd_orV ?_
  | with_reducible refine rd_notV ?_
  | with_reducible refine rd_chain ?_
  | with_reducible refine rd_un ?_
  | with_reducible refine rd_isN ?_
  | with_reducible refine rd_bm ?_
  | with_reducible refine rd_bm0 ?_
  | with_reducible refine rd_gsub ?_
  | with_reducible refine rd_sl ?_
  | with_reducible refine rd_gt ?_
  | with_reducible refine rd_yes ?_
  | with_reducible refine rd_gcons ?_
  | with_reducible refine rd_gnil ?_
  | with_reducible refine rd_part ?_
  | with_reducible refine rd_nopart ?_
  | ((with_reducible show gTup _ _ _ _ _ _ _); refine rd_gtup (by first | assumption | exact upd_same) rfl ?_)
  | ((with_reducible show gLst _ _ _ _ _ _ _); refine rd_glst (by first | assumption | exact upd_same) rfl ?_)
  | ((with_reducible show rIsi _ _ _ _); first | refine rd_isi (b := true) (.ty _) (.base (by first | exact .int _ | exact .str _ | exact .bl _ | exact .non | exact .tup (by assumption) | exact .lst (by assumption))) (kit_ty (by decide +kernel)) ?_ | refine rd_isi (b := false) (.ty _) (.base (by first | exact .int _ | exact .str _ | exact .bl _ | exact .non | exact .tup (by assumption) | exact .lst (by assumption))) (kit_ty (by decide +kernel)) ?_)
  | with_reducible refine rd_fld ?_
  | with_reducible refine rd_sfld ?_
  | with_reducible refine rd_meth ?_
  | with_reducible refine rd_make ?_
  | with_reducible refine rd_makeK ?_
  | with_reducible refine rd_U ?_
  | with_reducible refine rd_makeKS ?_
  | with_reducible refine rd_callN ?_
  | with_reducible refine rd_rs ?_
  | with_reducible refine rd_rf ?_
  | with_reducible refine rd_star ?_
  | with_reducible refine rd_callS ?_
  | with_reducible refine rd_for ?_
  | with_reducible refine rd_lc ?_
  | with_reducible refine rd_ilist ?_
  | with_reducible refine rd_itup ?_
  | with_reducible refine rd_irng ?_
  | with_reducible refine rd_izipS ?_
  | with_reducible refine rd_ienum ?_
  | with_reducible refine rd_ienT ?_
  | with_reducible refine rd_next ?_
  | with_reducible refine rd_eq rfl ?_
  | with_reducible refine rd_ne rfl ?_
  | with_reducible refine iteT ?_
  | with_reducible refine iteF ?_
  | with_reducible refine rd_ifnT ?_
  | with_reducible refine rd_ifnF ?_
  | ((with_reducible show rI (fun _ j => (0 : Int) < j) _ _ _ _ _); refine rd_mod (by omega) ?_)
  | with_reducible refine rd_new rfl ?_
  | ((with_reducible show rIxL _ _ (V.int 0) _ _); refine rd_ixL0 (by first | assumption | exact upd_same) ?_)
  | ((with_reducible show rIxL _ _ _ _ _); refine rd_ixL (by first | assumption | exact upd_same) rfl ?_)
  | ((with_reducible show rSetL _ _ _ _ _); refine rd_setL (by first | assumption | exact upd_same) rfl ?_)
  | ((with_reducible show rI CMul _ _ _ _ _); refine rd_mul (by first | exact Or.inl ⟨by omega, by omega⟩ | exact Or.inr ⟨by omega, by omega⟩) ?_)
  | ((with_reducible show tyV _ "list" _ _ ∧ _); refine rd_tyL (by first | assumption | exact upd_same) ?_)
  | ((with_reducible show rIxT _ _ (V.int 0) _ _); refine rd_ixT0 (by first | assumption | exact upd_same) ?_)
  | ((with_reducible show rIxT _ _ _ _ _); refine rd_ixT (by first | assumption | exact upd_same) rfl ?_))
local macro_rules | `(tactic| walk_at "rdn1") => `(tactic| first
  | with_reducible refine rd_seq ?_
  | with_reducible refine rd_asg ?_
  | ((with_reducible show tVar _ _ _ _); refine rd_var rfl ?_)
  | with_reducible refine rd_c ?_
  | with_reducible refine rd_op ?_
  | with_reducible refine rd_I0 ?_
  | with_reducible refine rd_name ?_
  | with_reducible refine rd_ret ?_
  | with_reducible refine rd_ifs ?_
  | with_reducible refine rd_test ?_
  | with_reducible refine rd_tB ?_
  | with_reducible refine rd_bl ?_
  | with_reducible refine rd_drop ?_
  | with_reducible refine rd_nil ?_
  | with_reducible refine rd_cons ?_
  | with_reducible refine rd_call ?_
  | with_reducible refine rd_cb ?_
  | with_reducible refine rd_tup ?_
  | with_reducible refine rd_lst ?_
  | with_reducible refine rd_and ?_
  | with_reducible refine rd_or ?_
  | with_reducible refine rd_not ?_
  | with_reducible refine rd_notV ?_
  | with_reducible refine rd_chain ?_
  | with_reducible refine rd_un ?_
  | with_reducible refine rd_isN ?_
  | with_reducible refine rd_bm ?_
  | with_reducible refine rd_bm0 ?_
  | with_reducible refine rd_gsub ?_
  | with_reducible refine rd_sl ?_
  | with_reducible refine rd_gt ?_
  | with_reducible refine rd_yes ?_
  | with_reducible refine rd_gcons ?_
  | with_reducible refine rd_gnil ?_
  | with_reducible refine rd_part ?_
  | with_reducible refine rd_nopart ?_
  | ((with_reducible show gTup _ _ _ _ _ _ _); refine rd_gtup (by first | assumption | exact upd_same) rfl ?_)
  | ((with_reducible show gLst _ _ _ _ _ _ _); refine rd_glst (by first | assumption | exact upd_same) rfl ?_)
  | ((with_reducible show rIsi _ _ _ _); first | refine rd_isi (b := true) (.ty _) (.base (by first | exact .int _ | exact .str _ | exact .bl _ | exact .non | exact .tup (by assumption) | exact .lst (by assumption))) (kit_ty (by decide +kernel)) ?_ | refine rd_isi (b := false) (.ty _) (.base (by first | exact .int _ | exact .str _ | exact .bl _ | exact .non | exact .tup (by assumption) | exact .lst (by assumption))) (kit_ty (by decide +kernel)) ?_)
  | with_reducible refine rd_fld ?_
  | with_reducible refine rd_sfld ?_
  | with_reducible refine rd_meth ?_
  | with_reducible refine rd_make ?_
  | with_reducible refine rd_makeK ?_
  | with_reducible refine rd_U ?_
  | with_reducible refine rd_makeKS ?_
  | with_reducible refine rd_callN ?_
  | with_reducible refine rd_rs ?_
  | with_reducible refine rd_rf ?_
  | with_reducible refine rd_star ?_
  | with_reducible refine rd_callS ?_
  | with_reducible refine rd_for ?_
  | with_reducible refine rd_lc ?_
  | with_reducible refine rd_ilist ?_
  | with_reducible refine rd_itup ?_
  | with_reducible refine rd_irng ?_
  | with_reducible refine rd_izipS ?_
  | with_reducible refine rd_ienum ?_
  | with_reducible refine rd_ienT ?_
  | with_reducible refine rd_next ?_
  | with_reducible refine rd_eq rfl ?_
  | with_reducible refine rd_ne rfl ?_
  | with_reducible refine iteT ?_
  | with_reducible refine iteF ?_
  | with_reducible refine rd_ifnT ?_
  | with_reducible refine rd_ifnF ?_
  | ((with_reducible show rI (fun _ j => (0 : Int) < j) _ _ _ _ _); refine rd_mod (by omega) ?_)
  | with_reducible refine rd_new rfl ?_
  | ((with_reducible show rIxL _ _ (V.int 0) _ _); refine rd_ixL0 (by first | assumption | exact upd_same) ?_)
  | ((with_reducible show rIxL _ _ _ _ _); refine rd_ixL (by first | assumption | exact upd_same) rfl ?_)
  | ((with_reducible show rSetL _ _ _ _ _); refine rd_setL (by first | assumption | exact upd_same) rfl ?_)
  | ((with_reducible show rI CMul _ _ _ _ _); refine rd_mul (by first | exact Or.inl ⟨by omega, by omega⟩ | exact Or.inr ⟨by omega, by omega⟩) ?_)
  | ((with_reducible show tyV _ "list" _ _ ∧ _); refine rd_tyL (by first | assumption | exact upd_same) ?_)
  | ((with_reducible show rIxT _ _ (V.int 0) _ _); refine rd_ixT0 (by first | assumption | exact upd_same) ?_)
  | ((with_reducible show rIxT _ _ _ _ _); refine rd_ixT (by first | assumption | exact upd_same) rfl ?_))
local macro_rules | `(tactic| walk_at "rd") => `(tactic| (repeat (first | walk_at "rd1" | dsimp only)))
local macro_rules | `(tactic| walk_at "rds") => `(tactic| (dsimp only [cxOf, Cx.nox, Cx.wish, Cx.blk, L2.start]; walk_at "rd"))
local macro_rules | `(tactic| walk_at "rdn") => `(tactic| (repeat (first | walk_at "rdn1" | dsimp only)))
section
variable {P : Program} {w : World} {K : PySem.W.Frag} {mg : Str → Option Value} {base : Heap}

theorem HA4_ok : True := trivial

theorem putn_machine {v0 : V} : putF ("machine" : Str) v0 ([] : List (Str × V)) = ([("machine", v0)] : List (Str × V)) := by rfl
theorem putn_hand {v0 v1 : V} : putF ("hand" : Str) v1 ([("machine", v0)] : List (Str × V)) = ([("machine", v0), ("hand", v1)] : List (Str × V)) := by unfold putF; rw [if_neg (by decide +kernel)]; rfl
theorem putn_ring {v0 v1 v2 : V} : putF ("ring" : Str) v2 ([("machine", v0), ("hand", v1)] : List (Str × V)) = ([("machine", v0), ("hand", v1), ("ring", v2)] : List (Str × V)) := by unfold putF; rw [if_neg (by decide +kernel)]; unfold putF; rw [if_neg (by decide +kernel)]; rfl
theorem putn_a {v0 v1 v2 v3 : V} : putF ("a" : Str) v3 ([("machine", v0), ("hand", v1), ("ring", v2)] : List (Str × V)) = ([("machine", v0), ("hand", v1), ("ring", v2), ("a", v3)] : List (Str × V)) := by unfold putF; rw [if_neg (by decide +kernel)]; unfold putF; rw [if_neg (by decide +kernel)]; unfold putF; rw [if_neg (by decide +kernel)]; rfl
theorem putn_pointers {v0 v1 v2 v3 v4 : V} : putF ("pointers" : Str) v4 ([("machine", v0), ("hand", v1), ("ring", v2), ("a", v3)] : List (Str × V)) = ([("machine", v0), ("hand", v1), ("ring", v2), ("a", v3), ("pointers", v4)] : List (Str × V)) := by unfold putF; rw [if_neg (by decide +kernel)]; unfold putF; rw [if_neg (by decide +kernel)]; unfold putF; rw [if_neg (by decide +kernel)]; unfold putF; rw [if_neg (by decide +kernel)]; rfl
theorem putn_memory {v0 v1 v2 v3 v4 v5 : V} : putF ("memory" : Str) v5 ([("machine", v0), ("hand", v1), ("ring", v2), ("a", v3), ("pointers", v4)] : List (Str × V)) = ([("machine", v0), ("hand", v1), ("ring", v2), ("a", v3), ("pointers", v4), ("memory", v5)] : List (Str × V)) := by unfold putF; rw [if_neg (by decide +kernel)]; unfold putF; rw [if_neg (by decide +kernel)]; unfold putF; rw [if_neg (by decide +kernel)]; unfold putF; rw [if_neg (by decide +kernel)]; unfold putF; rw [if_neg (by decide +kernel)]; rfl
theorem putn_where {v0 v1 v2 v3 v4 v5 v6 : V} : putF ("where" : Str) v6 ([("machine", v0), ("hand", v1), ("ring", v2), ("a", v3), ("pointers", v4), ("memory", v5)] : List (Str × V)) = ([("machine", v0), ("hand", v1), ("ring", v2), ("a", v3), ("pointers", v4), ("memory", v5), ("where", v6)] : List (Str × V)) := by unfold putF; rw [if_neg (by decide +kernel)]; unfold putF; rw [if_neg (by decide +kernel)]; unfold putF; rw [if_neg (by decide +kernel)]; unfold putF; rw [if_neg (by decide +kernel)]; unfold putF; rw [if_neg (by decide +kernel)]; unfold putF; rw [if_neg (by decide +kernel)]; rfl
theorem putn_calls {v0 v1 v2 v3 v4 v5 v6 v7 : V} : putF ("calls" : Str) v7 ([("machine", v0), ("hand", v1), ("ring", v2), ("a", v3), ("pointers", v4), ("memory", v5), ("where", v6)] : List (Str × V)) = ([("machine", v0), ("hand", v1), ("ring", v2), ("a", v3), ("pointers", v4), ("memory", v5), ("where", v6), ("calls", v7)] : List (Str × V)) := by unfold putF; rw [if_neg (by decide +kernel)]; unfold putF; rw [if_neg (by decide +kernel)]; unfold putF; rw [if_neg (by decide +kernel)]; unfold putF; rw [if_neg (by decide +kernel)]; unfold putF; rw [if_neg (by decide +kernel)]; unfold putF; rw [if_neg (by decide +kernel)]; unfold putF; rw [if_neg (by decide +kernel)]; rfl
theorem putn_steps {v0 v1 v2 v3 v4 v5 v6 v7 v8 : V} : putF ("steps" : Str) v8 ([("machine", v0), ("hand", v1), ("ring", v2), ("a", v3), ("pointers", v4), ("memory", v5), ("where", v6), ("calls", v7)] : List (Str × V)) = ([("machine", v0), ("hand", v1), ("ring", v2), ("a", v3), ("pointers", v4), ("memory", v5), ("where", v6), ("calls", v7), ("steps", v8)] : List (Str × V)) := by unfold putF; rw [if_neg (by decide +kernel)]; unfold putF; rw [if_neg (by decide +kernel)]; unfold putF; rw [if_neg (by decide +kernel)]; unfold putF; rw [if_neg (by decide +kernel)]; unfold putF; rw [if_neg (by decide +kernel)]; unfold putF; rw [if_neg (by decide +kernel)]; unfold putF; rw [if_neg (by decide +kernel)]; unfold putF; rw [if_neg (by decide +kernel)]; rfl
theorem putn_touches {v0 v1 v2 v3 v4 v5 v6 v7 v8 v9 : V} : putF ("touches" : Str) v9 ([("machine", v0), ("hand", v1), ("ring", v2), ("a", v3), ("pointers", v4), ("memory", v5), ("where", v6), ("calls", v7), ("steps", v8)] : List (Str × V)) = ([("machine", v0), ("hand", v1), ("ring", v2), ("a", v3), ("pointers", v4), ("memory", v5), ("where", v6), ("calls", v7), ("steps", v8), ("touches", v9)] : List (Str × V)) := by unfold putF; rw [if_neg (by decide +kernel)]; unfold putF; rw [if_neg (by decide +kernel)]; unfold putF; rw [if_neg (by decide +kernel)]; unfold putF; rw [if_neg (by decide +kernel)]; unfold putF; rw [if_neg (by decide +kernel)]; unfold putF; rw [if_neg (by decide +kernel)]; unfold putF; rw [if_neg (by decide +kernel)]; unfold putF; rw [if_neg (by decide +kernel)]; unfold putF; rw [if_neg (by decide +kernel)]; rfl

def initR (sd : Sd) : Rn := ⟨sd.ring, sd.a, sd.pt, sd.me, none, [], [], []⟩
def spRInit (CR : Addr) : Sp := fun vs H Q _ => ∃ (H0 : Hp) (x dx m : Addr) (v : V) (sd : Sd), vs = [.ref x, .ref m, v] ∧ H x = some (.ins CR dx []) ∧ H0 x = none ∧ Same H0 H ∧ Rp H v sd.d ∧ sd.me.length ≤ 900 ∧ ∀ H', RunAt CR H0 H' x m sd.ring (initR sd) → Tk H H' → Q .non H'

end
end Rg

namespace Rg
open PySem PySem.Spec L2
local macro_rules | `(tactic| walk_at "rd1") => `(tactic| first
  | with_reducible refine rd_seq ?_
  | with_reducible refine rd_asg ?_
  | ((with_reducible show tVar _ _ _ _); refine rd_var rfl ?_)
  | with_reducible refine rd_c ?_
  | with_reducible refine rd_op ?_
  | with_reducible refine rd_I0 ?_
  | with_reducible refine rd_name ?_
  | with_reducible refine rd_ret ?_
  | with_reducible refine rd_ifs ?_
  | with_reducible refine rd_test ?_
  | with_reducible refine rd_tB ?_
  | with_reducible refine rd_bl ?_
  | with_reducible refine rd_drop ?_
  | with_reducible refine rd_nil ?_
  | with_reducible refine rd_cons ?_
  | with_reducible refine rd_call ?_
  | with_reducible refine rd_cb ?_
  | with_reducible refine rd_tup ?_
  | with_reducible refine rd_lst ?_
  | with_reducible refine rd_and ?_
  | with_reducible refine rd_or ?_
  | with_reducible refine rd_not ?_
  | with_reducible refine rd_andV ?_
  | with_reducible refine rd_orV ?_
  | with_reducible refine rd_notV ?_
  | with_reducible refine rd_chain ?_
  | with_reducible refine rd_un ?_
  | with_reducible refine rd_isN ?_
  | with_reducible refine rd_bm ?_
  | with_reducible refine rd_bm0 ?_
  | with_reducible refine rd_gsub ?_
  | with_reducible refine rd_sl ?_
  | with_reducible refine rd_gt ?_
  | with_reducible refine rd_yes ?_
  | with_reducible refine rd_gcons ?_
  | with_reducible refine rd_gnil ?_
  | with_reducible refine rd_part ?_
  | with_reducible refine rd_nopart ?_
  | ((with_reducible show gTup _ _ _ _ _ _ _); refine rd_gtup (by first | assumption | exact upd_same) rfl ?_)
  | ((with_reducible show gLst _ _ _ _ _ _ _); refine rd_glst (by first | assumption | exact upd_same) rfl ?_)
  | ((with_reducible show rIsi _ _ _ _); first | refine rd_isi (b := true) (.ty _) (.base (by first | exact .int _ | exact .str _ | exact .bl _ | exact .non | exact .tup (by assumption) | exact .lst (by assumption))) (kit_ty (by decide +kernel)) ?_ | refine rd_isi (b := false) (.ty _) (.base (by first | exact .int _ | exact .str _ | exact .bl _ | exact .non | exact .tup (by assumption) | exact .lst (by assumption))) (kit_ty (by decide +kernel)) ?_)
  | with_reducible refine rd_fld ?_
  | with_reducible refine rd_sfld ?_
  | with_reducible refine rd_meth ?_
  | with_reducible refine rd_make ?_
  | with_reducible refine rd_makeK ?_
  | with_reducible refine rd_U ?_
  | with_reducible refine rd_makeKS ?_
  | with_reducible refine rd_callN ?_
  | with_reducible refine rd_rs ?_
  | with_reducible refine rd_rf ?_
  | with_reducible refine rd_star ?_
  | with_reducible refine rd_callS ?_
  | with_reducible refine rd_for ?_
  | with_reducible refine rd_lc ?_
  | with_reducible refine rd_ilist ?_
  | with_reducible refine rd_itup ?_
  | with_reducible refine rd_irng ?_
  | with_reducible refine rd_izipS ?_
  | with_reducible refine rd_ienum ?_
  | with_reducible refine rd_ienT ?_
  | with_reducible refine rd_next ?_
  | with_reducible refine rd_eq rfl ?_
  | with_reducible refine rd_ne rfl ?_
  | with_reducible refine iteT ?_
  | with_reducible refine iteF ?_
  | with_reducible refine rd_ifnT ?_
  | with_reducible refine rd_ifnF ?_
  | ((with_reducible show rI (fun _ j => (0 : Int) < j) _ _ _ _ _); refine rd_mod (by omega) ?_)
  | with_reducible refine rd_new rfl ?_
  | ((with_reducible show rIxL _ _ (V.int 0) _ _); refine rd_ixL0 (by first | assumption | exact upd_same) ?_)
  | ((with_reducible show rIxL _ _ _ _ _); refine rd_ixL (by first | assumption | exact upd_same) rfl ?_)
  | ((with_reducible show rSetL _ _ _ _ _); refine rd_setL (by first | assumption | exact upd_same) rfl ?_)
  | ((with_reducible show rI CMul _ _ _ _ _); refine rd_mul (by first | exact Or.inl ⟨by omega, by omega⟩ | exact Or.inr ⟨by omega, by omega⟩) ?_)
  | ((with_reducible show tyV _ "list" _ _ ∧ _); refine rd_tyL (by first | assumption | exact upd_same) ?_)
  | ((with_reducible show rIxT _ _ (V.int 0) _ _); refine rd_ixT0 (by first | assumption | exact upd_same) ?_)
  | ((with_reducible show rIxT _ _ _ _ _); refine rd_ixT (by first | assumption | exact upd_same) rfl ?_))
local macro_rules | `(tactic| walk_at "rdn1") => `(tactic| first
  | with_reducible refine rd_seq ?_
  | with_reducible refine rd_asg ?_
  | ((with_reducible show tVar _ _ _ _); refine rd_var rfl ?_)
  | with_reducible refine rd_c ?_
  | with_reducible refine rd_op ?_
  | with_reducible refine rd_I0 ?_
  | with_reducible refine rd_name ?_
  | with_reducible refine rd_ret ?_
  | with_reducible refine rd_ifs ?_
  | with_reducible refine rd_test ?_
  | with_reducible refine rd_tB ?_
  | with_reducible refine rd_bl ?_
  | with_reducible refine rd_drop ?_
  | with_reducible refine rd_nil ?_
  | with_reducible refine rd_cons ?_
  | with_reducible refine rd_call ?_
  | with_reducible refine rd_cb ?_
  | with_reducible refine rd_tup ?_
  | with_reducible refine rd_lst ?_
  | with_reducible refine rd_and ?_
  | with_reducible refine rd_or ?_
  | with_reducible refine rd_not ?_
  | with_reducible refine rd_notV ?_
  | with_reducible refine rd_chain ?_
  | with_reducible refine rd_un ?_
  | with_reducible refine rd_isN ?_
  | with_reducible refine rd_bm ?_
  | with_reducible refine rd_bm0 ?_
  | with_reducible refine rd_gsub ?_
  | with_reducible refine rd_sl ?_
  | with_reducible refine rd_gt ?_
  | with_reducible refine rd_yes ?_
  | with_reducible refine rd_gcons ?_
  | with_reducible refine rd_gnil ?_
  | with_reducible refine rd_part ?_
  | with_reducible refine rd_nopart ?_
  | ((with_reducible show gTup _ _ _ _ _ _ _); refine rd_gtup (by first | assumption | exact upd_same) rfl ?_)
  | ((with_reducible show gLst _ _ _ _ _ _ _); refine rd_glst (by first | assumption | exact upd_same) rfl ?_)
  | ((with_reducible show rIsi _ _ _ _); first | refine rd_isi (b := true) (.ty _) (.base (by first | exact .int _ | exact .str _ | exact .bl _ | exact .non | exact .tup (by assumption) | exact .lst (by assumption))) (kit_ty (by decide +kernel)) ?_ | refine rd_isi (b := false) (.ty _) (.base (by first | exact .int _ | exact .str _ | exact .bl _ | exact .non | exact .tup (by assumption) | exact .lst (by assumption))) (kit_ty (by decide +kernel)) ?_)
  | with_reducible refine rd_fld ?_
  | with_reducible refine rd_sfld ?_
  | with_reducible refine rd_meth ?_
  | with_reducible refine rd_make ?_
  | with_reducible refine rd_makeK ?_
  | with_reducible refine rd_U ?_
  | with_reducible refine rd_makeKS ?_
  | with_reducible refine rd_callN ?_
  | with_reducible refine rd_rs ?_
  | with_reducible refine rd_rf ?_
  | with_reducible refine rd_star ?_
  | with_reducible refine rd_callS ?_
  | with_reducible refine rd_for ?_
  | with_reducible refine rd_lc ?_
  | with_reducible refine rd_ilist ?_
  | with_reducible refine rd_itup ?_
  | with_reducible refine rd_irng ?_
  | with_reducible refine rd_izipS ?_
  | with_reducible refine rd_ienum ?_
  | with_reducible refine rd_ienT ?_
  | with_reducible refine rd_next ?_
  | with_reducible refine rd_eq rfl ?_
  | with_reducible refine rd_ne rfl ?_
  | with_reducible refine iteT ?_
  | with_reducible refine iteF ?_
  | with_reducible refine rd_ifnT ?_
  | with_reducible refine rd_ifnF ?_
  | ((with_reducible show rI (fun _ j => (0 : Int) < j) _ _ _ _ _); refine rd_mod (by omega) ?_)
  | with_reducible refine rd_new rfl ?_
  | ((with_reducible show rIxL _ _ (V.int 0) _ _); refine rd_ixL0 (by first | assumption | exact upd_same) ?_)
  | ((with_reducible show rIxL _ _ _ _ _); refine rd_ixL (by first | assumption | exact upd_same) rfl ?_)
  | ((with_reducible show rSetL _ _ _ _ _); refine rd_setL (by first | assumption | exact upd_same) rfl ?_)
  | ((with_reducible show rI CMul _ _ _ _ _); refine rd_mul (by first | exact Or.inl ⟨by omega, by omega⟩ | exact Or.inr ⟨by omega, by omega⟩) ?_)
  | ((with_reducible show tyV _ "list" _ _ ∧ _); refine rd_tyL (by first | assumption | exact upd_same) ?_)
  | ((with_reducible show rIxT _ _ (V.int 0) _ _); refine rd_ixT0 (by first | assumption | exact upd_same) ?_)
  | ((with_reducible show rIxT _ _ _ _ _); refine rd_ixT (by first | assumption | exact upd_same) rfl ?_))
local macro_rules | `(tactic| walk_at "rd") => `(tactic| (repeat (first | walk_at "rd1" | dsimp only)))
local macro_rules | `(tactic| walk_at "rds") => `(tactic| (dsimp only [cxOf, Cx.nox, Cx.wish, Cx.blk, L2.start]; walk_at "rd"))
local macro_rules | `(tactic| walk_at "rdn") => `(tactic| (repeat (first | walk_at "rdn1" | dsimp only)))
section
variable {P : Program} {w : World} {K : PySem.W.Frag} {mg : Str → Option Value} {base : Heap}

def fnOf (op : Str) : List Sg → Int → Rn → List Int → Rn × Option Str :=
  if op = "set" then fun _ b s ns => rSet b s (one ns)
  else if op = "add" then fun _ b s ns => rAdd b s (one ns)
  else if op = "load" then fun xs _ s ns => rLoad xs s (one ns) (two ns)
  else if op = "store" then fun xs _ s ns => rStore xs s (one ns) (two ns)
  else if op = "fetch" then fun xs _ s ns => rFetch xs s (one ns) (two ns) (three ns)
  else if op = "keep" then fun xs _ s ns => rKeep xs s (one ns) (two ns) (three ns)
  else if op = "aim" then fun _ _ s ns => rAim s (one ns) (two ns) (three ns)
  else if op = "move" then fun _ _ s ns => rMove s (one ns) (two ns) (three ns)
  else if op = "zero" then fun _ _ s ns => rZero s (one ns)
  else if op = "go" then fun _ _ s ns => rGo s (one ns)
  else if op = "call" then fun xs _ s ns => rCall xs s (one ns)
  else fun _ _ s _ => rRet s
def okOf (op : Str) : List Sg → List Int → Prop :=
  if op = "set" then ok1
  else if op = "add" then ok1
  else if op = "load" then okP2
  else if op = "store" then okP2
  else if op = "fetch" then fun _ ns => ∃ q p w, ns = [q, p, w] ∧ 0 ≤ q ∧ q < 4 ∧ 0 ≤ p ∧ p < 4
  else if op = "keep" then fun _ ns => ∃ q p w, ns = [q, p, w] ∧ 0 ≤ q ∧ q < 4 ∧ 0 ≤ p ∧ p < 4
  else if op = "aim" then fun xs ns => ∃ q g w, ns = [q, g, w] ∧ 0 ≤ q ∧ q < 4 ∧ 0 ≤ g ∧ g < (xs.length : Int)
  else if op = "move" then fun _ ns => ∃ q p n, ns = [q, p, n] ∧ 0 ≤ q ∧ q < 4 ∧ 0 ≤ p ∧ p < 4
  else if op = "zero" then ok1
  else if op = "go" then ok1
  else if op = "call" then fun _ ns => ∃ p, ns = [p] ∧ 0 ≤ p ∧ p < 4
  else fun _ ns => ns = []
/-- a def of the table, and what it promises -/
def GDo (C CR CF : Addr) (ops : List Str) (af : Str → Addr) (f : Addr) (sp : Sp) : Prop := ∃ op ∈ ops, f = af op ∧ sp = spDo C CR CF (fnOf op) (okOf op)
def spAct (C CR CF : Addr) (ops : List Str) : Sp := fun vs H Q E => ∃ (H0 : Hp) (x m : Addr) (us : List V) (xs : List Sg) (b hand : Int) (s : Rn) (v : V) (op : Str) (ns : List Int), vs = [.ref x, v] ∧ Mch C H0 m us xs b ∧ RunAt CR H0 H x m hand s ∧ WF xs s ∧ Rp H v (.tuple (.str op :: ns.map PyData.int)) ∧ op ∈ ops ∧ okOf op xs ns ∧ RunEnd CR CF Q E H0 H x m hand (fnOf op xs b s ns)

end
end Rg

namespace Rg
open PySem PySem.Spec L2
local macro_rules | `(tactic| walk_at "rd1") => `(tactic| first
  | with_reducible refine rd_seq ?_
  | with_reducible refine rd_asg ?_
  | ((with_reducible show tVar _ _ _ _); refine rd_var rfl ?_)
  | with_reducible refine rd_c ?_
  | with_reducible refine rd_op ?_
  | with_reducible refine rd_I0 ?_
  | with_reducible refine rd_name ?_
  | with_reducible refine rd_ret ?_
  | with_reducible refine rd_ifs ?_
  | with_reducible refine rd_test ?_
  | with_reducible refine rd_tB ?_
  | with_reducible refine rd_bl ?_
  | with_reducible refine rd_drop ?_
  | with_reducible refine rd_nil ?_
  | with_reducible refine rd_cons ?_
  | with_reducible refine rd_call ?_
  | with_reducible refine rd_cb ?_
  | with_reducible refine rd_tup ?_
  | with_reducible refine rd_lst ?_
  | with_reducible refine rd_and ?_
  | with_reducible refine rd_or ?_
  | with_reducible refine rd_not ?_
  | with_reducible refine rd_andV ?_
  | with_reducible refine rd_orV ?_
  | with_reducible refine rd_notV ?_
  | with_reducible refine rd_chain ?_
  | with_reducible refine rd_un ?_
  | with_reducible refine rd_isN ?_
  | with_reducible refine rd_bm ?_
  | with_reducible refine rd_bm0 ?_
  | with_reducible refine rd_gsub ?_
  | with_reducible refine rd_sl ?_
  | with_reducible refine rd_gt ?_
  | with_reducible refine rd_yes ?_
  | with_reducible refine rd_gcons ?_
  | with_reducible refine rd_gnil ?_
  | with_reducible refine rd_part ?_
  | with_reducible refine rd_nopart ?_
  | ((with_reducible show gTup _ _ _ _ _ _ _); refine rd_gtup (by first | assumption | exact upd_same) rfl ?_)
  | ((with_reducible show gLst _ _ _ _ _ _ _); refine rd_glst (by first | assumption | exact upd_same) rfl ?_)
  | ((with_reducible show rIsi _ _ _ _); first | refine rd_isi (b := true) (.ty _) (.base (by first | exact .int _ | exact .str _ | exact .bl _ | exact .non | exact .tup (by assumption) | exact .lst (by assumption))) (kit_ty (by decide +kernel)) ?_ | refine rd_isi (b := false) (.ty _) (.base (by first | exact .int _ | exact .str _ | exact .bl _ | exact .non | exact .tup (by assumption) | exact .lst (by assumption))) (kit_ty (by decide +kernel)) ?_)
  | with_reducible refine rd_fld ?_
  | with_reducible refine rd_sfld ?_
  | with_reducible refine rd_meth ?_
  | with_reducible refine rd_make ?_
  | with_reducible refine rd_makeK ?_
  | with_reducible refine rd_U ?_
  | with_reducible refine rd_makeKS ?_
  | with_reducible refine rd_callN ?_
  | with_reducible refine rd_rs ?_
  | with_reducible refine rd_rf ?_
  | with_reducible refine rd_star ?_
  | with_reducible refine rd_callS ?_
  | with_reducible refine rd_for ?_
  | with_reducible refine rd_lc ?_
  | with_reducible refine rd_ilist ?_
  | with_reducible refine rd_itup ?_
  | with_reducible refine rd_irng ?_
  | with_reducible refine rd_izipS ?_
  | with_reducible refine rd_ienum ?_
  | with_reducible refine rd_ienT ?_
  | with_reducible refine rd_next ?_
  | with_reducible refine rd_eq rfl ?_
  | with_reducible refine rd_ne rfl ?_
  | with_reducible refine iteT ?_
  | with_reducible refine iteF ?_
  | with_reducible refine rd_ifnT ?_
  | with_reducible refine rd_ifnF ?_
  | ((with_reducible show rI (fun _ j => (0 : Int) < j) _ _ _ _ _); refine rd_mod (by omega) ?_)
  | with_reducible refine rd_new rfl ?_
  | ((with_reducible show rIxL _ _ (V.int 0) _ _); refine rd_ixL0 (by first | assumption | exact upd_same) ?_)
  | ((with_reducible show rIxL _ _ _ _ _); refine rd_ixL (by first | assumption | exact upd_same) rfl ?_)
  | ((with_reducible show rSetL _ _ _ _ _); refine rd_setL (by first | assumption | exact upd_same) rfl ?_)
  | ((with_reducible show rI CMul _ _ _ _ _); refine rd_mul (by first | exact Or.inl ⟨by omega, by omega⟩ | exact Or.inr ⟨by omega, by omega⟩) ?_)
  | ((with_reducible show tyV _ "list" _ _ ∧ _); refine rd_tyL (by first | assumption | exact upd_same) ?_)
  | ((with_reducible show rIxT _ _ (V.int 0) _ _); refine rd_ixT0 (by first | assumption | exact upd_same) ?_)
  | ((with_reducible show rIxT _ _ _ _ _); refine rd_ixT (by first | assumption | exact upd_same) rfl ?_))
local macro_rules | `(tactic| walk_at "rdn1") => `(tactic| first
  | with_reducible refine rd_seq ?_
  | with_reducible refine rd_asg ?_
  | ((with_reducible show tVar _ _ _ _); refine rd_var rfl ?_)
  | with_reducible refine rd_c ?_
  | with_reducible refine rd_op ?_
  | with_reducible refine rd_I0 ?_
  | with_reducible refine rd_name ?_
  | with_reducible refine rd_ret ?_
  | with_reducible refine rd_ifs ?_
  | with_reducible refine rd_test ?_
  | with_reducible refine rd_tB ?_
  | with_reducible refine rd_bl ?_
  | with_reducible refine rd_drop ?_
  | with_reducible refine rd_nil ?_
  | with_reducible refine rd_cons ?_
  | with_reducible refine rd_call ?_
  | with_reducible refine rd_cb ?_
  | with_reducible refine rd_tup ?_
  | with_reducible refine rd_lst ?_
  | with_reducible refine rd_and ?_
  | with_reducible refine rd_or ?_
  | with_reducible refine rd_not ?_
  | with_reducible refine rd_notV ?_
  | with_reducible refine rd_chain ?_
  | with_reducible refine rd_un ?_
  | with_reducible refine rd_isN ?_
  | with_reducible refine rd_bm ?_
  | with_reducible refine rd_bm0 ?_
  | with_reducible refine rd_gsub ?_
  | with_reducible refine rd_sl ?_
  | with_reducible refine rd_gt ?_
  | with_reducible refine rd_yes ?_
  | with_reducible refine rd_gcons ?_
  | with_reducible refine rd_gnil ?_
  | with_reducible refine rd_part ?_
  | with_reducible refine rd_nopart ?_
  | ((with_reducible show gTup _ _ _ _ _ _ _); refine rd_gtup (by first | assumption | exact upd_same) rfl ?_)
  | ((with_reducible show gLst _ _ _ _ _ _ _); refine rd_glst (by first | assumption | exact upd_same) rfl ?_)
  | ((with_reducible show rIsi _ _ _ _); first | refine rd_isi (b := true) (.ty _) (.base (by first | exact .int _ | exact .str _ | exact .bl _ | exact .non | exact .tup (by assumption) | exact .lst (by assumption))) (kit_ty (by decide +kernel)) ?_ | refine rd_isi (b := false) (.ty _) (.base (by first | exact .int _ | exact .str _ | exact .bl _ | exact .non | exact .tup (by assumption) | exact .lst (by assumption))) (kit_ty (by decide +kernel)) ?_)
  | with_reducible refine rd_fld ?_
  | with_reducible refine rd_sfld ?_
  | with_reducible refine rd_meth ?_
  | with_reducible refine rd_make ?_
  | with_reducible refine rd_makeK ?_
  | with_reducible refine rd_U ?_
  | with_reducible refine rd_makeKS ?_
  | with_reducible refine rd_callN ?_
  | with_reducible refine rd_rs ?_
  | with_reducible refine rd_rf ?_
  | with_reducible refine rd_star ?_
  | with_reducible refine rd_callS ?_
  | with_reducible refine rd_for ?_
  | with_reducible refine rd_lc ?_
  | with_reducible refine rd_ilist ?_
  | with_reducible refine rd_itup ?_
  | with_reducible refine rd_irng ?_
  | with_reducible refine rd_izipS ?_
  | with_reducible refine rd_ienum ?_
  | with_reducible refine rd_ienT ?_
  | with_reducible refine rd_next ?_
  | with_reducible refine rd_eq rfl ?_
  | with_reducible refine rd_ne rfl ?_
  | with_reducible refine iteT ?_
  | with_reducible refine iteF ?_
  | with_reducible refine rd_ifnT ?_
  | with_reducible refine rd_ifnF ?_
  | ((with_reducible show rI (fun _ j => (0 : Int) < j) _ _ _ _ _); refine rd_mod (by omega) ?_)
  | with_reducible refine rd_new rfl ?_
  | ((with_reducible show rIxL _ _ (V.int 0) _ _); refine rd_ixL0 (by first | assumption | exact upd_same) ?_)
  | ((with_reducible show rIxL _ _ _ _ _); refine rd_ixL (by first | assumption | exact upd_same) rfl ?_)
  | ((with_reducible show rSetL _ _ _ _ _); refine rd_setL (by first | assumption | exact upd_same) rfl ?_)
  | ((with_reducible show rI CMul _ _ _ _ _); refine rd_mul (by first | exact Or.inl ⟨by omega, by omega⟩ | exact Or.inr ⟨by omega, by omega⟩) ?_)
  | ((with_reducible show tyV _ "list" _ _ ∧ _); refine rd_tyL (by first | assumption | exact upd_same) ?_)
  | ((with_reducible show rIxT _ _ (V.int 0) _ _); refine rd_ixT0 (by first | assumption | exact upd_same) ?_)
  | ((with_reducible show rIxT _ _ _ _ _); refine rd_ixT (by first | assumption | exact upd_same) rfl ?_))
local macro_rules | `(tactic| walk_at "rd") => `(tactic| (repeat (first | walk_at "rd1" | dsimp only)))
local macro_rules | `(tactic| walk_at "rds") => `(tactic| (dsimp only [cxOf, Cx.nox, Cx.wish, Cx.blk, L2.start]; walk_at "rd"))
local macro_rules | `(tactic| walk_at "rdn") => `(tactic| (repeat (first | walk_at "rdn1" | dsimp only)))
section
variable {P : Program} {w : World} {K : PySem.W.Frag} {mg : Str → Option Value} {base : Heap}

/-- a row of the machine -/
def rowAt (xs : List Sg) (g p : Int) : Rw := (sgAt xs g).rs.getD p.toNat ⟨"return", []⟩
def Rn.stepTo (s : Rn) (g p : Int) : Rn := { s with st := s.st ++ [(s.ring, g, p, (s.ca.length : Int))], wh := some (g, p + 1) }
def goR (xs : List Sg) (b : Int) : Nat → Rn → Rn × Option Str
  | 0, s => match s.wh with
    | none => (s, none)
    | some (g, p) => if 0 ≤ p ∧ p < ((sgAt xs g).rs.length : Int) then (s, some "long") else (s, some "row")
  | n + 1, s => match s.wh with
    | none => (s, none)
    | some (g, p) => if 0 ≤ p ∧ p < ((sgAt xs g).rs.length : Int) then (match fnOf (rowAt xs g p).op xs b (s.stepTo g p) (rowAt xs g p).ns with
      | (s', none) => goR xs b n s'
      | (s', some c) => (s', some c)) else (s, some "row")
/-- what the rows that run on ask -/
def OnPre (ops : List Str) (xs : List Sg) (b : Int) (n : Nat) (s : Rn) : Prop := s.wh = none ∨ ((∀ z ∈ actOps, z ∈ ops) ∧ WF xs s ∧ s.st = [] ∧ s.to.length ≤ 1 ∧ ∃ n0, n0 ≤ 800 ∧ (n = n0 ∨ (n0 ≤ n ∧ (goR xs b n0 s).2 ≠ some ("long" : Str))))
def spActOn (C CR CF : Addr) (ops : List Str) : Sp := fun vs H Q E => ∃ (H0 : Hp) (x m : Addr) (us : List V) (xs : List Sg) (b hand : Int) (s : Rn) (most : Int), vs = [.ref x, .int most] ∧ Mch C H0 m us xs b ∧ RunAt CR H0 H x m hand s ∧ OnPre ops xs b most.toNat s ∧ RunEnd CR CF Q E H0 H x m hand (goR xs b most.toNat s)
def Rn.lost (s : Rn) : Rn := { s with a := 0, pt := [none, none, none, none] }
def deedR (xs : List Sg) (b : Int) (n : Nat) (s : Rn) (op : Str) (ns : List Int) : Rn × Option Str :=
  match fnOf op xs b s ns with
  | (s', some c) => (s'.lost, some c)
  | (s', none) => match goR xs b n s' with
    | (s2, none) => (s2, none)
    | (s2, some c) => (s2.lost, some c)
def toldD : Option Str → PyData
  | none => .tuple [.str "done"]
  | some c => .tuple [.str "fault", .str c]
def spDeed (C CR CF : Addr) (ops : List Str) : Sp := fun vs H Q _ => ∃ (H0 : Hp) (x m : Addr) (us : List V) (xs : List Sg) (b hand : Int) (s : Rn) (v : V) (op : Str) (ns : List Int) (most : Int), vs = [.ref x, v, .int most] ∧ Mch C H0 m us xs b ∧ RunAt CR H0 H x m hand s ∧ WF xs s ∧ Rp H v (.tuple (.str op :: ns.map PyData.int)) ∧ op ∈ ops ∧ okOf op xs ns ∧
  (∀ s', fnOf op xs b s ns = (s', none) → OnPre ops xs b most.toNat s') ∧ ∀ (u : V) (H' : Hp), RunAt CR H0 H' x m hand (deedR xs b most.toNat s op ns).1 → Rp H' u (toldD (deedR xs b most.toNat s op ns).2) → Tk H H' → Q u H'

end
end Rg

namespace Rg
open PySem PySem.Spec L2
local macro_rules | `(tactic| walk_at "rd1") => `(tactic| first
  | with_reducible refine rd_seq ?_
  | with_reducible refine rd_asg ?_
  | ((with_reducible show tVar _ _ _ _); refine rd_var rfl ?_)
  | with_reducible refine rd_c ?_
  | with_reducible refine rd_op ?_
  | with_reducible refine rd_I0 ?_
  | with_reducible refine rd_name ?_
  | with_reducible refine rd_ret ?_
  | with_reducible refine rd_ifs ?_
  | with_reducible refine rd_test ?_
  | with_reducible refine rd_tB ?_
  | with_reducible refine rd_bl ?_
  | with_reducible refine rd_drop ?_
  | with_reducible refine rd_nil ?_
  | with_reducible refine rd_cons ?_
  | with_reducible refine rd_call ?_
  | with_reducible refine rd_cb ?_
  | with_reducible refine rd_tup ?_
  | with_reducible refine rd_lst ?_
  | with_reducible refine rd_and ?_
  | with_reducible refine rd_or ?_
  | with_reducible refine rd_not ?_
  | with_reducible refine rd_andV ?_
  | with_reducible refine rd_orV ?_
  | with_reducible refine rd_notV ?_
  | with_reducible refine rd_chain ?_
  | with_reducible refine rd_un ?_
  | with_reducible refine rd_isN ?_
  | with_reducible refine rd_bm ?_
  | with_reducible refine rd_bm0 ?_
  | with_reducible refine rd_gsub ?_
  | with_reducible refine rd_sl ?_
  | with_reducible refine rd_gt ?_
  | with_reducible refine rd_yes ?_
  | with_reducible refine rd_gcons ?_
  | with_reducible refine rd_gnil ?_
  | with_reducible refine rd_part ?_
  | with_reducible refine rd_nopart ?_
  | ((with_reducible show gTup _ _ _ _ _ _ _); refine rd_gtup (by first | assumption | exact upd_same) rfl ?_)
  | ((with_reducible show gLst _ _ _ _ _ _ _); refine rd_glst (by first | assumption | exact upd_same) rfl ?_)
  | ((with_reducible show rIsi _ _ _ _); first | refine rd_isi (b := true) (.ty _) (.base (by first | exact .int _ | exact .str _ | exact .bl _ | exact .non | exact .tup (by assumption) | exact .lst (by assumption))) (kit_ty (by decide +kernel)) ?_ | refine rd_isi (b := false) (.ty _) (.base (by first | exact .int _ | exact .str _ | exact .bl _ | exact .non | exact .tup (by assumption) | exact .lst (by assumption))) (kit_ty (by decide +kernel)) ?_)
  | with_reducible refine rd_fld ?_
  | with_reducible refine rd_sfld ?_
  | with_reducible refine rd_meth ?_
  | with_reducible refine rd_make ?_
  | with_reducible refine rd_makeK ?_
  | with_reducible refine rd_U ?_
  | with_reducible refine rd_makeKS ?_
  | with_reducible refine rd_callN ?_
  | with_reducible refine rd_rs ?_
  | with_reducible refine rd_rf ?_
  | with_reducible refine rd_star ?_
  | with_reducible refine rd_callS ?_
  | with_reducible refine rd_for ?_
  | with_reducible refine rd_lc ?_
  | with_reducible refine rd_ilist ?_
  | with_reducible refine rd_itup ?_
  | with_reducible refine rd_irng ?_
  | with_reducible refine rd_izipS ?_
  | with_reducible refine rd_ienum ?_
  | with_reducible refine rd_ienT ?_
  | with_reducible refine rd_next ?_
  | with_reducible refine rd_eq rfl ?_
  | with_reducible refine rd_ne rfl ?_
  | with_reducible refine iteT ?_
  | with_reducible refine iteF ?_
  | with_reducible refine rd_ifnT ?_
  | with_reducible refine rd_ifnF ?_
  | ((with_reducible show rI (fun _ j => (0 : Int) < j) _ _ _ _ _); refine rd_mod (by omega) ?_)
  | with_reducible refine rd_new rfl ?_
  | ((with_reducible show rIxL _ _ (V.int 0) _ _); refine rd_ixL0 (by first | assumption | exact upd_same) ?_)
  | ((with_reducible show rIxL _ _ _ _ _); refine rd_ixL (by first | assumption | exact upd_same) rfl ?_)
  | ((with_reducible show rSetL _ _ _ _ _); refine rd_setL (by first | assumption | exact upd_same) rfl ?_)
  | ((with_reducible show rI CMul _ _ _ _ _); refine rd_mul (by first | exact Or.inl ⟨by omega, by omega⟩ | exact Or.inr ⟨by omega, by omega⟩) ?_)
  | ((with_reducible show tyV _ "list" _ _ ∧ _); refine rd_tyL (by first | assumption | exact upd_same) ?_)
  | ((with_reducible show rIxT _ _ (V.int 0) _ _); refine rd_ixT0 (by first | assumption | exact upd_same) ?_)
  | ((with_reducible show rIxT _ _ _ _ _); refine rd_ixT (by first | assumption | exact upd_same) rfl ?_))
local macro_rules | `(tactic| walk_at "rdn1") => `(tactic| first
  | with_reducible refine rd_seq ?_
  | with_reducible refine rd_asg ?_
  | ((with_reducible show tVar _ _ _ _); refine rd_var rfl ?_)
  | with_reducible refine rd_c ?_
  | with_reducible refine rd_op ?_
  | with_reducible refine rd_I0 ?_
  | with_reducible refine rd_name ?_
  | with_reducible refine rd_ret ?_
  | with_reducible refine rd_ifs ?_
  | with_reducible refine rd_test ?_
  | with_reducible refine rd_tB ?_
  | with_reducible refine rd_bl ?_
  | with_reducible refine rd_drop ?_
  | with_reducible refine rd_nil ?_
  | with_reducible refine rd_cons ?_
  | with_reducible refine rd_call ?_
  | with_reducible refine rd_cb ?_
  | with_reducible refine rd_tup ?_
  | with_reducible refine rd_lst ?_
  | with_reducible refine rd_and ?_
  | with_reducible refine rd_or ?_
  | with_reducible refine rd_not ?_
  | with_reducible refine rd_notV ?_
  | with_reducible refine rd_chain ?_
  | with_reducible refine rd_un ?_
  | with_reducible refine rd_isN ?_
  | with_reducible refine rd_bm ?_
  | with_reducible refine rd_bm0 ?_
  | with_reducible refine rd_gsub ?_
  | with_reducible refine rd_sl ?_
  | with_reducible refine rd_gt ?_
  | with_reducible refine rd_yes ?_
  | with_reducible refine rd_gcons ?_
  | with_reducible refine rd_gnil ?_
  | with_reducible refine rd_part ?_
  | with_reducible refine rd_nopart ?_
  | ((with_reducible show gTup _ _ _ _ _ _ _); refine rd_gtup (by first | assumption | exact upd_same) rfl ?_)
  | ((with_reducible show gLst _ _ _ _ _ _ _); refine rd_glst (by first | assumption | exact upd_same) rfl ?_)
  | ((with_reducible show rIsi _ _ _ _); first | refine rd_isi (b := true) (.ty _) (.base (by first | exact .int _ | exact .str _ | exact .bl _ | exact .non | exact .tup (by assumption) | exact .lst (by assumption))) (kit_ty (by decide +kernel)) ?_ | refine rd_isi (b := false) (.ty _) (.base (by first | exact .int _ | exact .str _ | exact .bl _ | exact .non | exact .tup (by assumption) | exact .lst (by assumption))) (kit_ty (by decide +kernel)) ?_)
  | with_reducible refine rd_fld ?_
  | with_reducible refine rd_sfld ?_
  | with_reducible refine rd_meth ?_
  | with_reducible refine rd_make ?_
  | with_reducible refine rd_makeK ?_
  | with_reducible refine rd_U ?_
  | with_reducible refine rd_makeKS ?_
  | with_reducible refine rd_callN ?_
  | with_reducible refine rd_rs ?_
  | with_reducible refine rd_rf ?_
  | with_reducible refine rd_star ?_
  | with_reducible refine rd_callS ?_
  | with_reducible refine rd_for ?_
  | with_reducible refine rd_lc ?_
  | with_reducible refine rd_ilist ?_
  | with_reducible refine rd_itup ?_
  | with_reducible refine rd_irng ?_
  | with_reducible refine rd_izipS ?_
  | with_reducible refine rd_ienum ?_
  | with_reducible refine rd_ienT ?_
  | with_reducible refine rd_next ?_
  | with_reducible refine rd_eq rfl ?_
  | with_reducible refine rd_ne rfl ?_
  | with_reducible refine iteT ?_
  | with_reducible refine iteF ?_
  | with_reducible refine rd_ifnT ?_
  | with_reducible refine rd_ifnF ?_
  | ((with_reducible show rI (fun _ j => (0 : Int) < j) _ _ _ _ _); refine rd_mod (by omega) ?_)
  | with_reducible refine rd_new rfl ?_
  | ((with_reducible show rIxL _ _ (V.int 0) _ _); refine rd_ixL0 (by first | assumption | exact upd_same) ?_)
  | ((with_reducible show rIxL _ _ _ _ _); refine rd_ixL (by first | assumption | exact upd_same) rfl ?_)
  | ((with_reducible show rSetL _ _ _ _ _); refine rd_setL (by first | assumption | exact upd_same) rfl ?_)
  | ((with_reducible show rI CMul _ _ _ _ _); refine rd_mul (by first | exact Or.inl ⟨by omega, by omega⟩ | exact Or.inr ⟨by omega, by omega⟩) ?_)
  | ((with_reducible show tyV _ "list" _ _ ∧ _); refine rd_tyL (by first | assumption | exact upd_same) ?_)
  | ((with_reducible show rIxT _ _ (V.int 0) _ _); refine rd_ixT0 (by first | assumption | exact upd_same) ?_)
  | ((with_reducible show rIxT _ _ _ _ _); refine rd_ixT (by first | assumption | exact upd_same) rfl ?_))
local macro_rules | `(tactic| walk_at "rd") => `(tactic| (repeat (first | walk_at "rd1" | dsimp only)))
local macro_rules | `(tactic| walk_at "rds") => `(tactic| (dsimp only [cxOf, Cx.nox, Cx.wish, Cx.blk, L2.start]; walk_at "rd"))
local macro_rules | `(tactic| walk_at "rdn") => `(tactic| (repeat (first | walk_at "rdn1" | dsimp only)))
section
variable {P : Program} {w : World} {K : PySem.W.Frag} {mg : Str → Option Value} {base : Heap}

theorem fn_set : fnOf "set" = (fun _ b s ns => rSet b s (one ns)) := by unfold fnOf;  rw [if_pos rfl]
theorem ko_set : okOf "set" = (ok1) := by unfold okOf;  rw [if_pos rfl]
theorem fn_add : fnOf "add" = (fun _ b s ns => rAdd b s (one ns)) := by unfold fnOf; rw [if_neg (by decide +kernel)]; rw [if_pos rfl]
theorem ko_add : okOf "add" = (ok1) := by unfold okOf; rw [if_neg (by decide +kernel)]; rw [if_pos rfl]
theorem fn_load : fnOf "load" = (fun xs _ s ns => rLoad xs s (one ns) (two ns)) := by unfold fnOf; rw [if_neg (by decide +kernel)]; rw [if_neg (by decide +kernel)]; rw [if_pos rfl]
theorem ko_load : okOf "load" = (okP2) := by unfold okOf; rw [if_neg (by decide +kernel)]; rw [if_neg (by decide +kernel)]; rw [if_pos rfl]
theorem fn_store : fnOf "store" = (fun xs _ s ns => rStore xs s (one ns) (two ns)) := by unfold fnOf; rw [if_neg (by decide +kernel)]; rw [if_neg (by decide +kernel)]; rw [if_neg (by decide +kernel)]; rw [if_pos rfl]
theorem ko_store : okOf "store" = (okP2) := by unfold okOf; rw [if_neg (by decide +kernel)]; rw [if_neg (by decide +kernel)]; rw [if_neg (by decide +kernel)]; rw [if_pos rfl]
theorem fn_fetch : fnOf "fetch" = (fun xs _ s ns => rFetch xs s (one ns) (two ns) (three ns)) := by unfold fnOf; rw [if_neg (by decide +kernel)]; rw [if_neg (by decide +kernel)]; rw [if_neg (by decide +kernel)]; rw [if_neg (by decide +kernel)]; rw [if_pos rfl]
theorem ko_fetch : okOf "fetch" = (fun _ ns => ∃ q p w, ns = [q, p, w] ∧ 0 ≤ q ∧ q < 4 ∧ 0 ≤ p ∧ p < 4) := by unfold okOf; rw [if_neg (by decide +kernel)]; rw [if_neg (by decide +kernel)]; rw [if_neg (by decide +kernel)]; rw [if_neg (by decide +kernel)]; rw [if_pos rfl]
theorem fn_keep : fnOf "keep" = (fun xs _ s ns => rKeep xs s (one ns) (two ns) (three ns)) := by unfold fnOf; rw [if_neg (by decide +kernel)]; rw [if_neg (by decide +kernel)]; rw [if_neg (by decide +kernel)]; rw [if_neg (by decide +kernel)]; rw [if_neg (by decide +kernel)]; rw [if_pos rfl]
theorem ko_keep : okOf "keep" = (fun _ ns => ∃ q p w, ns = [q, p, w] ∧ 0 ≤ q ∧ q < 4 ∧ 0 ≤ p ∧ p < 4) := by unfold okOf; rw [if_neg (by decide +kernel)]; rw [if_neg (by decide +kernel)]; rw [if_neg (by decide +kernel)]; rw [if_neg (by decide +kernel)]; rw [if_neg (by decide +kernel)]; rw [if_pos rfl]
theorem fn_aim : fnOf "aim" = (fun _ _ s ns => rAim s (one ns) (two ns) (three ns)) := by unfold fnOf; rw [if_neg (by decide +kernel)]; rw [if_neg (by decide +kernel)]; rw [if_neg (by decide +kernel)]; rw [if_neg (by decide +kernel)]; rw [if_neg (by decide +kernel)]; rw [if_neg (by decide +kernel)]; rw [if_pos rfl]
theorem ko_aim : okOf "aim" = (fun xs ns => ∃ q g w, ns = [q, g, w] ∧ 0 ≤ q ∧ q < 4 ∧ 0 ≤ g ∧ g < (xs.length : Int)) := by unfold okOf; rw [if_neg (by decide +kernel)]; rw [if_neg (by decide +kernel)]; rw [if_neg (by decide +kernel)]; rw [if_neg (by decide +kernel)]; rw [if_neg (by decide +kernel)]; rw [if_neg (by decide +kernel)]; rw [if_pos rfl]
theorem fn_move : fnOf "move" = (fun _ _ s ns => rMove s (one ns) (two ns) (three ns)) := by unfold fnOf; rw [if_neg (by decide +kernel)]; rw [if_neg (by decide +kernel)]; rw [if_neg (by decide +kernel)]; rw [if_neg (by decide +kernel)]; rw [if_neg (by decide +kernel)]; rw [if_neg (by decide +kernel)]; rw [if_neg (by decide +kernel)]; rw [if_pos rfl]
theorem ko_move : okOf "move" = (fun _ ns => ∃ q p n, ns = [q, p, n] ∧ 0 ≤ q ∧ q < 4 ∧ 0 ≤ p ∧ p < 4) := by unfold okOf; rw [if_neg (by decide +kernel)]; rw [if_neg (by decide +kernel)]; rw [if_neg (by decide +kernel)]; rw [if_neg (by decide +kernel)]; rw [if_neg (by decide +kernel)]; rw [if_neg (by decide +kernel)]; rw [if_neg (by decide +kernel)]; rw [if_pos rfl]
theorem fn_zero : fnOf "zero" = (fun _ _ s ns => rZero s (one ns)) := by unfold fnOf; rw [if_neg (by decide +kernel)]; rw [if_neg (by decide +kernel)]; rw [if_neg (by decide +kernel)]; rw [if_neg (by decide +kernel)]; rw [if_neg (by decide +kernel)]; rw [if_neg (by decide +kernel)]; rw [if_neg (by decide +kernel)]; rw [if_neg (by decide +kernel)]; rw [if_pos rfl]
theorem ko_zero : okOf "zero" = (ok1) := by unfold okOf; rw [if_neg (by decide +kernel)]; rw [if_neg (by decide +kernel)]; rw [if_neg (by decide +kernel)]; rw [if_neg (by decide +kernel)]; rw [if_neg (by decide +kernel)]; rw [if_neg (by decide +kernel)]; rw [if_neg (by decide +kernel)]; rw [if_neg (by decide +kernel)]; rw [if_pos rfl]
theorem fn_go : fnOf "go" = (fun _ _ s ns => rGo s (one ns)) := by unfold fnOf; rw [if_neg (by decide +kernel)]; rw [if_neg (by decide +kernel)]; rw [if_neg (by decide +kernel)]; rw [if_neg (by decide +kernel)]; rw [if_neg (by decide +kernel)]; rw [if_neg (by decide +kernel)]; rw [if_neg (by decide +kernel)]; rw [if_neg (by decide +kernel)]; rw [if_neg (by decide +kernel)]; rw [if_pos rfl]
theorem ko_go : okOf "go" = (ok1) := by unfold okOf; rw [if_neg (by decide +kernel)]; rw [if_neg (by decide +kernel)]; rw [if_neg (by decide +kernel)]; rw [if_neg (by decide +kernel)]; rw [if_neg (by decide +kernel)]; rw [if_neg (by decide +kernel)]; rw [if_neg (by decide +kernel)]; rw [if_neg (by decide +kernel)]; rw [if_neg (by decide +kernel)]; rw [if_pos rfl]
theorem fn_call : fnOf "call" = (fun xs _ s ns => rCall xs s (one ns)) := by unfold fnOf; rw [if_neg (by decide +kernel)]; rw [if_neg (by decide +kernel)]; rw [if_neg (by decide +kernel)]; rw [if_neg (by decide +kernel)]; rw [if_neg (by decide +kernel)]; rw [if_neg (by decide +kernel)]; rw [if_neg (by decide +kernel)]; rw [if_neg (by decide +kernel)]; rw [if_neg (by decide +kernel)]; rw [if_neg (by decide +kernel)]; rw [if_pos rfl]
theorem ko_call : okOf "call" = (fun _ ns => ∃ p, ns = [p] ∧ 0 ≤ p ∧ p < 4) := by unfold okOf; rw [if_neg (by decide +kernel)]; rw [if_neg (by decide +kernel)]; rw [if_neg (by decide +kernel)]; rw [if_neg (by decide +kernel)]; rw [if_neg (by decide +kernel)]; rw [if_neg (by decide +kernel)]; rw [if_neg (by decide +kernel)]; rw [if_neg (by decide +kernel)]; rw [if_neg (by decide +kernel)]; rw [if_neg (by decide +kernel)]; rw [if_pos rfl]
theorem fn_return : fnOf "return" = (fun _ _ s _ => rRet s) := by unfold fnOf; rw [if_neg (by decide +kernel)]; rw [if_neg (by decide +kernel)]; rw [if_neg (by decide +kernel)]; rw [if_neg (by decide +kernel)]; rw [if_neg (by decide +kernel)]; rw [if_neg (by decide +kernel)]; rw [if_neg (by decide +kernel)]; rw [if_neg (by decide +kernel)]; rw [if_neg (by decide +kernel)]; rw [if_neg (by decide +kernel)]; rw [if_neg (by decide +kernel)]
theorem ko_return : okOf "return" = (fun _ ns => ns = []) := by unfold okOf; rw [if_neg (by decide +kernel)]; rw [if_neg (by decide +kernel)]; rw [if_neg (by decide +kernel)]; rw [if_neg (by decide +kernel)]; rw [if_neg (by decide +kernel)]; rw [if_neg (by decide +kernel)]; rw [if_neg (by decide +kernel)]; rw [if_neg (by decide +kernel)]; rw [if_neg (by decide +kernel)]; rw [if_neg (by decide +kernel)]; rw [if_neg (by decide +kernel)]
theorem len0 {ns : List Int} (h : ns.length = 0) : ns = [] := List.length_eq_zero_iff.mp h
theorem len1 {ns : List Int} (h : ns.length = 1) : ∃ a, ns = [a] := by
  match ns, h with
  | [a], _ => exact ⟨a, rfl⟩
theorem len2 {ns : List Int} (h : ns.length = 2) : ∃ a b, ns = [a, b] := by
  match ns, h with
  | [a, b], _ => exact ⟨a, b, rfl⟩
theorem len3 {ns : List Int} (h : ns.length = 3) : ∃ a b c, ns = [a, b, c] := by
  match ns, h with
  | [a, b, c], _ => exact ⟨a, b, c, rfl⟩
theorem row_okR {r : Rw} {xs : List Sg} (hf : RwForm r) (h : rowFits r (xs.length : Int) = true) : r.op ∈ actOps ∧ okOf r.op xs r.ns := by
  obtain ⟨op, ns⟩ := r
  obtain ⟨l, e, hl⟩ := hf
  unfold rowFits at h
  dsimp only at e h hl ⊢
  have hm := PySem.mem_of_lookup (show rowForms.lookup op = some l from e)
  unfold rowForms at hm
  simp only [List.mem_cons, Prod.mk.injEq, List.not_mem_nil, or_false] at hm
  rcases hm with ⟨rfl, rfl⟩ | ⟨rfl, rfl⟩ | ⟨rfl, rfl⟩ | ⟨rfl, rfl⟩ | ⟨rfl, rfl⟩ | ⟨rfl, rfl⟩ | ⟨rfl, rfl⟩ | ⟨rfl, rfl⟩ | ⟨rfl, rfl⟩ | ⟨rfl, rfl⟩ | ⟨rfl, rfl⟩ | ⟨rfl, rfl⟩
  · -- set
    refine ⟨by decide +kernel, ?_⟩
    rw [ko_set]
    have hl2 : ns.length = 1 := hl.symm
    obtain ⟨a0, rfl⟩ := len1 hl2
    rw [show formOf "set" = some "n" from e] at h
    have h : fitsNs [110] [a0] (xs.length : Int) = true := h
    simp only [fitsNs, numFits, Bool.and_eq_true, below_iff, if_true, if_false, and_true, reduceIte, Nat.reduceEqDiff, true_and] at h
    exact ⟨a0, rfl⟩
  · -- add
    refine ⟨by decide +kernel, ?_⟩
    rw [ko_add]
    have hl2 : ns.length = 1 := hl.symm
    obtain ⟨a0, rfl⟩ := len1 hl2
    rw [show formOf "add" = some "n" from e] at h
    have h : fitsNs [110] [a0] (xs.length : Int) = true := h
    simp only [fitsNs, numFits, Bool.and_eq_true, below_iff, if_true, if_false, and_true, reduceIte, Nat.reduceEqDiff, true_and] at h
    exact ⟨a0, rfl⟩
  · -- load
    refine ⟨by decide +kernel, ?_⟩
    rw [ko_load]
    have hl2 : ns.length = 2 := hl.symm
    obtain ⟨a0, a1, rfl⟩ := len2 hl2
    rw [show formOf "load" = some "pn" from e] at h
    have h : fitsNs [112, 110] [a0, a1] (xs.length : Int) = true := h
    simp only [fitsNs, numFits, Bool.and_eq_true, below_iff, if_true, if_false, and_true, reduceIte, Nat.reduceEqDiff, true_and] at h
    exact ⟨a0, a1, rfl, h.1, h.2⟩
  · -- store
    refine ⟨by decide +kernel, ?_⟩
    rw [ko_store]
    have hl2 : ns.length = 2 := hl.symm
    obtain ⟨a0, a1, rfl⟩ := len2 hl2
    rw [show formOf "store" = some "pn" from e] at h
    have h : fitsNs [112, 110] [a0, a1] (xs.length : Int) = true := h
    simp only [fitsNs, numFits, Bool.and_eq_true, below_iff, if_true, if_false, and_true, reduceIte, Nat.reduceEqDiff, true_and] at h
    exact ⟨a0, a1, rfl, h.1, h.2⟩
  · -- fetch
    refine ⟨by decide +kernel, ?_⟩
    rw [ko_fetch]
    have hl2 : ns.length = 3 := hl.symm
    obtain ⟨a0, a1, a2, rfl⟩ := len3 hl2
    rw [show formOf "fetch" = some "ppn" from e] at h
    have h : fitsNs [112, 112, 110] [a0, a1, a2] (xs.length : Int) = true := h
    simp only [fitsNs, numFits, Bool.and_eq_true, below_iff, if_true, if_false, and_true, reduceIte, Nat.reduceEqDiff, true_and] at h
    exact ⟨a0, a1, a2, rfl, h.1.1, h.1.2, h.2.1, h.2.2⟩
  · -- keep
    refine ⟨by decide +kernel, ?_⟩
    rw [ko_keep]
    have hl2 : ns.length = 3 := hl.symm
    obtain ⟨a0, a1, a2, rfl⟩ := len3 hl2
    rw [show formOf "keep" = some "ppn" from e] at h
    have h : fitsNs [112, 112, 110] [a0, a1, a2] (xs.length : Int) = true := h
    simp only [fitsNs, numFits, Bool.and_eq_true, below_iff, if_true, if_false, and_true, reduceIte, Nat.reduceEqDiff, true_and] at h
    exact ⟨a0, a1, a2, rfl, h.1.1, h.1.2, h.2.1, h.2.2⟩
  · -- aim
    refine ⟨by decide +kernel, ?_⟩
    rw [ko_aim]
    have hl2 : ns.length = 3 := hl.symm
    obtain ⟨a0, a1, a2, rfl⟩ := len3 hl2
    rw [show formOf "aim" = some "psn" from e] at h
    have h : fitsNs [112, 115, 110] [a0, a1, a2] (xs.length : Int) = true := h
    simp only [fitsNs, numFits, Bool.and_eq_true, below_iff, if_true, if_false, and_true, reduceIte, Nat.reduceEqDiff, true_and] at h
    exact ⟨a0, a1, a2, rfl, h.1.1, h.1.2, h.2.1, h.2.2⟩
  · -- move
    refine ⟨by decide +kernel, ?_⟩
    rw [ko_move]
    have hl2 : ns.length = 3 := hl.symm
    obtain ⟨a0, a1, a2, rfl⟩ := len3 hl2
    rw [show formOf "move" = some "ppn" from e] at h
    have h : fitsNs [112, 112, 110] [a0, a1, a2] (xs.length : Int) = true := h
    simp only [fitsNs, numFits, Bool.and_eq_true, below_iff, if_true, if_false, and_true, reduceIte, Nat.reduceEqDiff, true_and] at h
    exact ⟨a0, a1, a2, rfl, h.1.1, h.1.2, h.2.1, h.2.2⟩
  · -- zero
    refine ⟨by decide +kernel, ?_⟩
    rw [ko_zero]
    have hl2 : ns.length = 1 := hl.symm
    obtain ⟨a0, rfl⟩ := len1 hl2
    rw [show formOf "zero" = some "n" from e] at h
    have h : fitsNs [110] [a0] (xs.length : Int) = true := h
    simp only [fitsNs, numFits, Bool.and_eq_true, below_iff, if_true, if_false, and_true, reduceIte, Nat.reduceEqDiff, true_and] at h
    exact ⟨a0, rfl⟩
  · -- go
    refine ⟨by decide +kernel, ?_⟩
    rw [ko_go]
    have hl2 : ns.length = 1 := hl.symm
    obtain ⟨a0, rfl⟩ := len1 hl2
    rw [show formOf "go" = some "n" from e] at h
    have h : fitsNs [110] [a0] (xs.length : Int) = true := h
    simp only [fitsNs, numFits, Bool.and_eq_true, below_iff, if_true, if_false, and_true, reduceIte, Nat.reduceEqDiff, true_and] at h
    exact ⟨a0, rfl⟩
  · -- call
    refine ⟨by decide +kernel, ?_⟩
    rw [ko_call]
    have hl2 : ns.length = 1 := hl.symm
    obtain ⟨a0, rfl⟩ := len1 hl2
    rw [show formOf "call" = some "p" from e] at h
    have h : fitsNs [112] [a0] (xs.length : Int) = true := h
    simp only [fitsNs, numFits, Bool.and_eq_true, below_iff, if_true, if_false, and_true, reduceIte, Nat.reduceEqDiff, true_and] at h
    exact ⟨a0, rfl, h.1, h.2⟩
  · -- return
    refine ⟨by decide +kernel, ?_⟩
    rw [ko_return]
    have hl2 : ns.length = 0 := hl.symm
    have e0 := len0 hl2
    subst e0
    rfl

end
end Rg

namespace Rg
open PySem PySem.Spec L2
local macro_rules | `(tactic| walk_at "rd1") => `(tactic| first
  | with_reducible refine rd_seq ?_
  | with_reducible refine rd_asg ?_
  | ((with_reducible show tVar _ _ _ _); refine rd_var rfl ?_)
  | with_reducible refine rd_c ?_
  | with_reducible refine rd_op ?_
  | with_reducible refine rd_I0 ?_
  | with_reducible refine rd_name ?_
  | with_reducible refine rd_ret ?_
  | with_reducible refine rd_ifs ?_
  | with_reducible refine rd_test ?_
  | with_reducible refine rd_tB ?_
  | with_reducible refine rd_bl ?_
  | with_reducible refine rd_drop ?_
  | with_reducible refine rd_nil ?_
  | with_reducible refine rd_cons ?_
  | with_reducible refine rd_call ?_
  | with_reducible refine rd_cb ?_
  | with_reducible refine rd_tup ?_
  | with_reducible refine rd_lst ?_
  | with_reducible refine rd_and ?_
  | with_reducible refine rd_or ?_
  | with_reducible refine rd_not ?_
  | with_reducible refine rd_andV ?_
  | with_reducible refine rd_orV ?_
  | with_reducible refine rd_notV ?_
  | with_reducible refine rd_chain ?_
  | with_reducible refine rd_un ?_
  | with_reducible refine rd_isN ?_
  | with_reducible refine rd_bm ?_
  | with_reducible refine rd_bm0 ?_
  | with_reducible refine rd_gsub ?_
  | with_reducible refine rd_sl ?_
  | with_reducible refine rd_gt ?_
  | with_reducible refine rd_yes ?_
  | with_reducible refine rd_gcons ?_
  | with_reducible refine rd_gnil ?_
  | with_reducible refine rd_part ?_
  | with_reducible refine rd_nopart ?_
  | ((with_reducible show gTup _ _ _ _ _ _ _); refine rd_gtup (by first | assumption | exact upd_same) rfl ?_)
  | ((with_reducible show gLst _ _ _ _ _ _ _); refine rd_glst (by first | assumption | exact upd_same) rfl ?_)
  | ((with_reducible show rIsi _ _ _ _); first | refine rd_isi (b := true) (.ty _) (.base (by first | exact .int _ | exact .str _ | exact .bl _ | exact .non | exact .tup (by assumption) | exact .lst (by assumption))) (kit_ty (by decide +kernel)) ?_ | refine rd_isi (b := false) (.ty _) (.base (by first | exact .int _ | exact .str _ | exact .bl _ | exact .non | exact .tup (by assumption) | exact .lst (by assumption))) (kit_ty (by decide +kernel)) ?_)
  | with_reducible refine rd_fld ?_
  | with_reducible refine rd_sfld ?_
  | with_reducible refine rd_meth ?_
  | with_reducible refine rd_make ?_
  | with_reducible refine rd_makeK ?_
  | with_reducible refine rd_U ?_
  | with_reducible refine rd_makeKS ?_
  | with_reducible refine rd_callN ?_
  | with_reducible refine rd_rs ?_
  | with_reducible refine rd_rf ?_
  | with_reducible refine rd_star ?_
  | with_reducible refine rd_callS ?_
  | with_reducible refine rd_for ?_
  | with_reducible refine rd_lc ?_
  | with_reducible refine rd_ilist ?_
  | with_reducible refine rd_itup ?_
  | with_reducible refine rd_irng ?_
  | with_reducible refine rd_izipS ?_
  | with_reducible refine rd_ienum ?_
  | with_reducible refine rd_ienT ?_
  | with_reducible refine rd_next ?_
  | with_reducible refine rd_eq rfl ?_
  | with_reducible refine rd_ne rfl ?_
  | with_reducible refine iteT ?_
  | with_reducible refine iteF ?_
  | with_reducible refine rd_ifnT ?_
  | with_reducible refine rd_ifnF ?_
  | ((with_reducible show rI (fun _ j => (0 : Int) < j) _ _ _ _ _); refine rd_mod (by omega) ?_)
  | with_reducible refine rd_new rfl ?_
  | ((with_reducible show rIxL _ _ (V.int 0) _ _); refine rd_ixL0 (by first | assumption | exact upd_same) ?_)
  | ((with_reducible show rIxL _ _ _ _ _); refine rd_ixL (by first | assumption | exact upd_same) rfl ?_)
  | ((with_reducible show rSetL _ _ _ _ _); refine rd_setL (by first | assumption | exact upd_same) rfl ?_)
  | ((with_reducible show rI CMul _ _ _ _ _); refine rd_mul (by first | exact Or.inl ⟨by omega, by omega⟩ | exact Or.inr ⟨by omega, by omega⟩) ?_)
  | ((with_reducible show tyV _ "list" _ _ ∧ _); refine rd_tyL (by first | assumption | exact upd_same) ?_)
  | ((with_reducible show rIxT _ _ (V.int 0) _ _); refine rd_ixT0 (by first | assumption | exact upd_same) ?_)
  | ((with_reducible show rIxT _ _ _ _ _); refine rd_ixT (by first | assumption | exact upd_same) rfl ?_))
local macro_rules | `(tactic| walk_at "rdn1") => `(tactic| first
  | with_reducible refine rd_seq ?_
  | with_reducible refine rd_asg ?_
  | ((with_reducible show tVar _ _ _ _); refine rd_var rfl ?_)
  | with_reducible refine rd_c ?_
  | with_reducible refine rd_op ?_
  | with_reducible refine rd_I0 ?_
  | with_reducible refine rd_name ?_
  | with_reducible refine rd_ret ?_
  | with_reducible refine rd_ifs ?_
  | with_reducible refine rd_test ?_
  | with_reducible refine rd_tB ?_
  | with_reducible refine rd_bl ?_
  | with_reducible refine rd_drop ?_
  | with_reducible refine rd_nil ?_
  | with_reducible refine rd_cons ?_
  | with_reducible refine rd_call ?_
  | with_reducible refine rd_cb ?_
  | with_reducible refine rd_tup ?_
  | with_reducible refine rd_lst ?_
  | with_reducible refine rd_and ?_
  | with_reducible refine rd_or ?_
  | with_reducible refine rd_not ?_
  | with_reducible refine rd_notV ?_
  | with_reducible refine rd_chain ?_
  | with_reducible refine rd_un ?_
  | with_reducible refine rd_isN ?_
  | with_reducible refine rd_bm ?_
  | with_reducible refine rd_bm0 ?_
  | with_reducible refine rd_gsub ?_
  | with_reducible refine rd_sl ?_
  | with_reducible refine rd_gt ?_
  | with_reducible refine rd_yes ?_
  | with_reducible refine rd_gcons ?_
  | with_reducible refine rd_gnil ?_
  | with_reducible refine rd_part ?_
  | with_reducible refine rd_nopart ?_
  | ((with_reducible show gTup _ _ _ _ _ _ _); refine rd_gtup (by first | assumption | exact upd_same) rfl ?_)
  | ((with_reducible show gLst _ _ _ _ _ _ _); refine rd_glst (by first | assumption | exact upd_same) rfl ?_)
  | ((with_reducible show rIsi _ _ _ _); first | refine rd_isi (b := true) (.ty _) (.base (by first | exact .int _ | exact .str _ | exact .bl _ | exact .non | exact .tup (by assumption) | exact .lst (by assumption))) (kit_ty (by decide +kernel)) ?_ | refine rd_isi (b := false) (.ty _) (.base (by first | exact .int _ | exact .str _ | exact .bl _ | exact .non | exact .tup (by assumption) | exact .lst (by assumption))) (kit_ty (by decide +kernel)) ?_)
  | with_reducible refine rd_fld ?_
  | with_reducible refine rd_sfld ?_
  | with_reducible refine rd_meth ?_
  | with_reducible refine rd_make ?_
  | with_reducible refine rd_makeK ?_
  | with_reducible refine rd_U ?_
  | with_reducible refine rd_makeKS ?_
  | with_reducible refine rd_callN ?_
  | with_reducible refine rd_rs ?_
  | with_reducible refine rd_rf ?_
  | with_reducible refine rd_star ?_
  | with_reducible refine rd_callS ?_
  | with_reducible refine rd_for ?_
  | with_reducible refine rd_lc ?_
  | with_reducible refine rd_ilist ?_
  | with_reducible refine rd_itup ?_
  | with_reducible refine rd_irng ?_
  | with_reducible refine rd_izipS ?_
  | with_reducible refine rd_ienum ?_
  | with_reducible refine rd_ienT ?_
  | with_reducible refine rd_next ?_
  | with_reducible refine rd_eq rfl ?_
  | with_reducible refine rd_ne rfl ?_
  | with_reducible refine iteT ?_
  | with_reducible refine iteF ?_
  | with_reducible refine rd_ifnT ?_
  | with_reducible refine rd_ifnF ?_
  | ((with_reducible show rI (fun _ j => (0 : Int) < j) _ _ _ _ _); refine rd_mod (by omega) ?_)
  | with_reducible refine rd_new rfl ?_
  | ((with_reducible show rIxL _ _ (V.int 0) _ _); refine rd_ixL0 (by first | assumption | exact upd_same) ?_)
  | ((with_reducible show rIxL _ _ _ _ _); refine rd_ixL (by first | assumption | exact upd_same) rfl ?_)
  | ((with_reducible show rSetL _ _ _ _ _); refine rd_setL (by first | assumption | exact upd_same) rfl ?_)
  | ((with_reducible show rI CMul _ _ _ _ _); refine rd_mul (by first | exact Or.inl ⟨by omega, by omega⟩ | exact Or.inr ⟨by omega, by omega⟩) ?_)
  | ((with_reducible show tyV _ "list" _ _ ∧ _); refine rd_tyL (by first | assumption | exact upd_same) ?_)
  | ((with_reducible show rIxT _ _ (V.int 0) _ _); refine rd_ixT0 (by first | assumption | exact upd_same) ?_)
  | ((with_reducible show rIxT _ _ _ _ _); refine rd_ixT (by first | assumption | exact upd_same) rfl ?_))
local macro_rules | `(tactic| walk_at "rd") => `(tactic| (repeat (first | walk_at "rd1" | dsimp only)))
local macro_rules | `(tactic| walk_at "rds") => `(tactic| (dsimp only [cxOf, Cx.nox, Cx.wish, Cx.blk, L2.start]; walk_at "rd"))
local macro_rules | `(tactic| walk_at "rdn") => `(tactic| (repeat (first | walk_at "rdn1" | dsimp only)))
section
variable {P : Program} {w : World} {K : PySem.W.Frag} {mg : Str → Option Value} {base : Heap}

/-- what a row leaves -/
structure Gd (xs : List Sg) (s s' : Rn) : Prop where
  wf : WF xs s'
  st : s'.st = s.st
  to : s'.to.length ≤ s.to.length + 1
theorem wf_a {xs : List Sg} {s : Rn} (w : WF xs s) (n : Int) : WF xs { s with a := n } := ⟨w.pt4, w.ptg, w.me, w.mw, w.wh, w.ca, w.c8, w.s9, w.t9, w.sk⟩
theorem wf_wh {xs : List Sg} {s : Rn} (w : WF xs s) {g p : Int} {z : Int × Int} (h : 0 ≤ g ∧ g < (xs.length : Int)) (e0 : s.wh = some z) : WF xs { s with wh := some (g, p) } := ⟨w.pt4, w.ptg, w.me, w.mw, fun g' p' e => by
  have e' : some (g, p) = some (g', p') := e
  cases e'
  exact h, w.ca, w.c8, w.s9, w.t9, Stk.at (e0 ▸ w.sk)⟩
theorem wf_touch {xs : List Sg} {s : Rn} (w : WF xs s) (t : s.to.length ≤ 1999) (e g p : Int) (l : Str) : WF xs (s.touch e g p l) := ⟨w.pt4, w.ptg, w.me, w.mw, w.wh, w.ca, w.c8, w.s9, by
  show (s.to ++ [(e, g, p, l)]).length ≤ 2000
  rw [List.length_append]
  exact Nat.succ_le_succ t, w.sk⟩
theorem wf_ptr {xs : List Sg} {s : Rn} (w : WF xs s) (q r g p : Int) (h : 0 ≤ g ∧ g < (xs.length : Int) ∧ 0 ≤ p) : WF xs (s.ptrSet q (some (r, g, p))) := ⟨by
  show (s.pt.set _ _).length = 4
  rw [List.length_set]
  exact w.pt4, fun r' g' p' hm => by
    rcases List.mem_or_eq_of_mem_set (show some (r', g', p') ∈ s.pt.set q.toNat (some (r, g, p)) from hm) with h1 | h1
    · exact w.ptg _ _ _ h1
    · cases h1
      exact h, w.me, w.mw, w.wh, w.ca, w.c8, w.s9, w.t9, w.sk⟩
theorem mem_mem {s : Rn} {g : Int} : s.mem g = [] ∨ s.mem g ∈ s.me := by
  unfold Rn.mem
  rw [List.getD_eq_getElem?_getD]
  cases e : s.me[g.toNat]? with
  | none => exact .inl rfl
  | some ws => exact .inr (List.mem_of_getElem? e)
theorem wf_put {xs : List Sg} {s : Rn} (w : WF xs s) (g p : Int) (x : Wd) (h : ∀ r g p, x = .ptr r g p → 0 ≤ g ∧ g < (xs.length : Int) ∧ 0 ≤ p) : WF xs (s.put g p x) := ⟨w.pt4, w.ptg, by
  show (s.me.set _ _).length = _
  rw [List.length_set]
  exact w.me, fun ws hm => by
    rcases List.mem_or_eq_of_mem_set (show ws ∈ s.me.set g.toNat ((s.mem g).set p.toNat x) from hm) with h1 | h1
    · exact w.mw _ h1
    · subst h1
      rcases mem_mem (s := s) (g := g) with h2 | h2
      · rw [h2]
        rw [List.set_nil]
        exact ⟨Nat.zero_le _, fun r g p z => (by simp at z)⟩
      · obtain ⟨a1, a2⟩ := w.mw _ h2
        refine ⟨by rw [List.length_set]; exact a1, fun r g' p' z => ?_⟩
        rcases List.mem_or_eq_of_mem_set z with h3 | h3
        · exact a2 _ _ _ h3
        · exact h _ _ _ h3.symm, w.wh, w.ca, w.c8, w.s9, w.t9, w.sk⟩
theorem wf_enter {xs : List Sg} {s : Rn} (w : WF xs s) (r : Int) (v : Option (Int × Int)) (ca' : List (Int × Option (Int × Int))) (h : ∀ g p, v = some (g, p) → 0 ≤ g ∧ g < (xs.length : Int)) (hc : ∀ c ∈ ca', ∀ g p, c.2 = some (g, p) → 0 ≤ g ∧ g < (xs.length : Int)) (h8 : ca'.length ≤ 8) (hk : Stk v ca') : WF xs (({ s with ca := ca' } : Rn).enter r v) := ⟨by
  show (s.pt.map _).length = 4
  rw [List.length_map]
  exact w.pt4, fun r' g' p' hm => by
    obtain ⟨y, hy, e⟩ := List.mem_map.mp (show some (r', g', p') ∈ s.pt.map (raisedR r) from hm)
    cases y with
    | none => cases e
    | some z =>
      obtain ⟨o, g, p⟩ := z
      cases e
      exact w.ptg _ _ _ hy, w.me, w.mw, fun g p e => h g p e, hc, h8, w.s9, w.t9, hk⟩
theorem read_ok {xs : List Sg} {s s' : Rn} {p w e g : Int} {wd : Wd} (wf : WF xs s) (t : s.to.length ≤ 1999) (p0 : 0 ≤ p) (p4 : p < 4) (h : readR xs s p w = .ok (wd, e, g, s')) : Gd xs s s' ∧ ∀ r g p, wd = .ptr r g p → 0 ≤ g ∧ g < (xs.length : Int) ∧ 0 ≤ p := by
  unfold readR at h
  cases hs : spotR s p w with
  | error c => rw [hs] at h; cases h
  | ok z =>
    obtain ⟨e1, g1, pl⟩ := z
    rw [hs] at h
    dsimp only at h
    obtain ⟨g0, gN, l0, l1⟩ := spot_in wf p0 p4 hs
    by_cases hc : mRead (sgAt xs g1) e1 = true
    · rw [if_pos hc] at h
      cases h
      refine ⟨⟨wf_touch wf t _ _ _ _, rfl, ?_⟩, fun r g2 p2 hw => ?_⟩
      · show (s.to ++ [_]).length ≤ _
        rw [List.length_append]
        exact Nat.le_refl _
      · rcases mem_mem (s := s) (g := g) with h2 | h2
        · rw [h2] at l1
          simp at l1
          omega
        · refine (wf.mw _ h2).2 r g2 p2 ?_
          rw [← hw]
          unfold Rn.wordAt
          rw [List.getD_eq_getElem?_getD, List.getElem?_eq_getElem (by omega)]
          exact List.getElem_mem _
    · rw [if_neg hc] at h
      cases h
theorem write_ok {xs : List Sg} {s s' : Rn} {p w : Int} {wd : Wd} (wf : WF xs s) (t : s.to.length ≤ 1999) (hw : ∀ r g p, wd = .ptr r g p → 0 ≤ g ∧ g < (xs.length : Int) ∧ 0 ≤ p) (h : writeR xs s p w wd = (s', none)) : Gd xs s s' := by
  unfold writeR at h
  cases hs : spotR s p w with
  | error c => rw [hs] at h; cases h
  | ok z =>
    obtain ⟨e1, g1, pl⟩ := z
    rw [hs] at h
    dsimp only at h
    by_cases hc : mWrite (sgAt xs g1) e1 = true
    · rw [if_pos hc] at h
      cases h
      refine ⟨wf_put (wf_touch wf t _ _ _ _) _ _ _ hw, rfl, ?_⟩
      show (s.to ++ [_]).length ≤ _
      rw [List.length_append]
      exact Nat.le_refl _
    · rw [if_neg hc] at h
      cases h
theorem Gd.self {xs : List Sg} {s s' : Rn} (w : WF xs s') (h1 : s'.st = s.st) (h2 : s'.to = s.to) : Gd xs s s' := ⟨w, h1, by rw [h2]; exact Nat.le_succ _⟩
theorem wf_keep {xs : List Sg} {b : Int} {s s' : Rn} {op : Str} {ns : List Int} (wf : WF xs s) (t : s.to.length ≤ 1999) (ho : op ∈ actOps) (hk : okOf op xs ns) (h : fnOf op xs b s ns = (s', none)) : Gd xs s s' := by
  unfold actOps at ho
  simp only [List.mem_cons, List.not_mem_nil, or_false] at ho
  rcases ho with rfl | rfl | rfl | rfl | rfl | rfl | rfl | rfl | rfl | rfl | rfl | rfl
  · rw [fn_set] at h
    cases h
    exact .self (wf_a wf _) rfl rfl
  · rw [fn_add] at h
    cases h
    exact .self (wf_a wf _) rfl rfl
  · rw [fn_load] at h
    rw [ko_load] at hk
    obtain ⟨p, w, rfl, p0, p4⟩ := hk
    replace h : rLoad xs s p w = (s', none) := h
    unfold rLoad at h
    cases hr : readR xs s p w with
    | error c => rw [hr] at h; cases h
    | ok z =>
      obtain ⟨wd, e, g, s1⟩ := z
      obtain ⟨G, _⟩ := read_ok wf t p0 p4 hr
      rw [hr] at h
      cases wd with
      | num n => cases h; exact ⟨wf_a G.wf _, G.st, G.to⟩
      | ptr a1 a2 a3 => cases h
  · rw [fn_store] at h
    rw [ko_store] at hk
    exact write_ok (wd := .num s.a) wf t (fun r g p z => Wd.noConfusion z) h
  · rw [fn_fetch] at h
    rw [ko_fetch] at hk
    obtain ⟨q, p, w, rfl, q0, q4, p0, p4⟩ := hk
    replace h : rFetch xs s q p w = (s', none) := h
    unfold rFetch at h
    cases hr : readR xs s p w with
    | error c => rw [hr] at h; cases h
    | ok z =>
      obtain ⟨wd, e, g, s1⟩ := z
      obtain ⟨G, G2⟩ := read_ok wf t p0 p4 hr
      rw [hr] at h
      cases wd with
      | num n => cases h
      | ptr a1 a2 a3 => cases h; exact ⟨wf_ptr G.wf _ _ _ _ (G2 _ _ _ rfl), G.st, G.to⟩
  · rw [fn_keep] at h
    rw [ko_keep] at hk
    obtain ⟨q, p, w, rfl, q0, q4, p0, p4⟩ := hk
    replace h : rKeep xs s q p w = (s', none) := h
    unfold rKeep at h
    cases e : s.ptr q with
    | none => rw [e] at h; cases h
    | some z =>
      obtain ⟨r1, g1, pl⟩ := z
      rw [e] at h
      refine write_ok wf t (fun r g p z => ?_) h
      cases z
      exact wf.ptg _ _ _ (ptr_mem wf.pt4 q0 q4 e)
  · rw [fn_aim] at h
    rw [ko_aim] at hk
    obtain ⟨q, g, w, rfl, q0, q4, g0, gN⟩ := hk
    replace h : rAim s q g w = (s', none) := h
    unfold rAim at h
    by_cases hw : w < 0
    · rw [if_pos hw] at h; cases h
    · rw [if_neg hw] at h
      cases h
      exact .self (wf_ptr wf _ _ _ _ ⟨g0, gN, by omega⟩) rfl rfl
  · rw [fn_move] at h
    rw [ko_move] at hk
    obtain ⟨q, p, n, rfl, q0, q4, p0, p4⟩ := hk
    replace h : rMove s q p n = (s', none) := h
    unfold rMove at h
    cases e : s.ptr p with
    | none => rw [e] at h; cases h
    | some z =>
      obtain ⟨r1, g1, pl⟩ := z
      rw [e] at h
      dsimp only at h
      obtain ⟨a1, a2, a3⟩ := wf.ptg _ _ _ (ptr_mem wf.pt4 p0 p4 e)
      by_cases hw : pl + n < 0
      · rw [if_pos hw] at h; cases h
      · rw [if_neg hw] at h
        cases h
        exact .self (wf_ptr wf _ _ _ _ ⟨a1, a2, by omega⟩) rfl rfl
  · rw [fn_zero] at h
    replace h : rZero s (one ns) = (s', none) := h
    unfold rZero at h
    cases e : s.wh with
    | none => rw [e] at h; cases h
    | some z =>
      obtain ⟨g1, pl⟩ := z
      rw [e] at h
      dsimp only at h
      by_cases hw : s.a = 0
      · rw [if_pos hw] at h
        cases h
        exact .self (wf_wh wf (wf.wh _ _ e) e) rfl rfl
      · rw [if_neg hw] at h
        cases h
        exact .self wf rfl rfl
  · rw [fn_go] at h
    replace h : rGo s (one ns) = (s', none) := h
    unfold rGo at h
    cases e : s.wh with
    | none => rw [e] at h; cases h
    | some z =>
      obtain ⟨g1, pl⟩ := z
      rw [e] at h
      cases h
      exact .self (wf_wh wf (wf.wh _ _ e) e) rfl rfl
  · rw [fn_call] at h
    rw [ko_call] at hk
    obtain ⟨p, rfl, p0, p4⟩ := hk
    replace h : rCall xs s p = (s', none) := h
    unfold rCall at h
    cases e : s.ptr p with
    | none => rw [e] at h; cases h
    | some z =>
      obtain ⟨r1, g1, pl⟩ := z
      rw [e] at h
      dsimp only at h
      obtain ⟨a1, a2, a3⟩ := wf.ptg _ _ _ (ptr_mem wf.pt4 p0 p4 e)
      cases e2 : enteredR (sgAt xs g1) pl (mx s.ring r1) with
      | error c => rw [e2] at h; cases h
      | ok e3 =>
        rw [e2] at h
        dsimp only at h
        by_cases h8 : 8 ≤ s.ca.length
        · rw [if_pos h8] at h; cases h
        · rw [if_neg h8] at h
          cases h
          refine .self (wf_enter wf _ _ (s.ca ++ [(s.ring, s.wh)]) (fun g p z => ?_) (fun c hc g p ec => ?_) ?_ (wf.sk.push _ _)) rfl rfl
          · cases z
            exact ⟨a1, a2⟩
          · rcases List.mem_append.mp hc with h1 | h1
            · exact wf.ca c h1 g p ec
            · rw [List.mem_singleton.mp h1] at ec
              exact wf.wh g p ec
          · rw [List.length_append]
            show s.ca.length + 1 ≤ 8
            omega
  · rw [fn_return] at h
    replace h : rRet s = (s', none) := h
    unfold rRet at h
    cases e : s.wh with
    | none => rw [e] at h; cases h
    | some z =>
      obtain ⟨g1, pl⟩ := z
      rw [e] at h
      dsimp only at h
      cases e2 : s.ca.getLast? with
      | none => rw [e2] at h; cases h
      | some c =>
        obtain ⟨r, w⟩ := c
        rw [e2] at h
        cases h
        have hm : (r, w) ∈ s.ca := List.mem_of_getLast? e2
        refine .self (wf_enter wf _ _ s.ca.dropLast (fun g p z => wf.ca _ hm g p z) (fun c hc g p ec => wf.ca c ((List.dropLast_subset _) hc) g p ec) ?_ (wf.sk.pop e2)) rfl rfl
        rw [List.length_dropLast]
        have := wf.c8
        omega

end
end Rg

namespace Rg
open PySem PySem.Spec L2
local macro_rules | `(tactic| walk_at "rd1") => `(tactic| first
  | with_reducible refine rd_seq ?_
  | with_reducible refine rd_asg ?_
  | ((with_reducible show tVar _ _ _ _); refine rd_var rfl ?_)
  | with_reducible refine rd_c ?_
  | with_reducible refine rd_op ?_
  | with_reducible refine rd_I0 ?_
  | with_reducible refine rd_name ?_
  | with_reducible refine rd_ret ?_
  | with_reducible refine rd_ifs ?_
  | with_reducible refine rd_test ?_
  | with_reducible refine rd_tB ?_
  | with_reducible refine rd_bl ?_
  | with_reducible refine rd_drop ?_
  | with_reducible refine rd_nil ?_
  | with_reducible refine rd_cons ?_
  | with_reducible refine rd_call ?_
  | with_reducible refine rd_cb ?_
  | with_reducible refine rd_tup ?_
  | with_reducible refine rd_lst ?_
  | with_reducible refine rd_and ?_
  | with_reducible refine rd_or ?_
  | with_reducible refine rd_not ?_
  | with_reducible refine rd_andV ?_
  | with_reducible refine rd_orV ?_
  | with_reducible refine rd_notV ?_
  | with_reducible refine rd_chain ?_
  | with_reducible refine rd_un ?_
  | with_reducible refine rd_isN ?_
  | with_reducible refine rd_bm ?_
  | with_reducible refine rd_bm0 ?_
  | with_reducible refine rd_gsub ?_
  | with_reducible refine rd_sl ?_
  | with_reducible refine rd_gt ?_
  | with_reducible refine rd_yes ?_
  | with_reducible refine rd_gcons ?_
  | with_reducible refine rd_gnil ?_
  | with_reducible refine rd_part ?_
  | with_reducible refine rd_nopart ?_
  | ((with_reducible show gTup _ _ _ _ _ _ _); refine rd_gtup (by first | assumption | exact upd_same) rfl ?_)
  | ((with_reducible show gLst _ _ _ _ _ _ _); refine rd_glst (by first | assumption | exact upd_same) rfl ?_)
  | ((with_reducible show rIsi _ _ _ _); first | refine rd_isi (b := true) (.ty _) (.base (by first | exact .int _ | exact .str _ | exact .bl _ | exact .non | exact .tup (by assumption) | exact .lst (by assumption))) (kit_ty (by decide +kernel)) ?_ | refine rd_isi (b := false) (.ty _) (.base (by first | exact .int _ | exact .str _ | exact .bl _ | exact .non | exact .tup (by assumption) | exact .lst (by assumption))) (kit_ty (by decide +kernel)) ?_)
  | with_reducible refine rd_fld ?_
  | with_reducible refine rd_sfld ?_
  | with_reducible refine rd_meth ?_
  | with_reducible refine rd_make ?_
  | with_reducible refine rd_makeK ?_
  | with_reducible refine rd_U ?_
  | with_reducible refine rd_makeKS ?_
  | with_reducible refine rd_callN ?_
  | with_reducible refine rd_rs ?_
  | with_reducible refine rd_rf ?_
  | with_reducible refine rd_star ?_
  | with_reducible refine rd_callS ?_
  | with_reducible refine rd_for ?_
  | with_reducible refine rd_lc ?_
  | with_reducible refine rd_ilist ?_
  | with_reducible refine rd_itup ?_
  | with_reducible refine rd_irng ?_
  | with_reducible refine rd_izipS ?_
  | with_reducible refine rd_ienum ?_
  | with_reducible refine rd_ienT ?_
  | with_reducible refine rd_next ?_
  | with_reducible refine rd_eq rfl ?_
  | with_reducible refine rd_ne rfl ?_
  | with_reducible refine iteT ?_
  | with_reducible refine iteF ?_
  | with_reducible refine rd_ifnT ?_
  | with_reducible refine rd_ifnF ?_
  | ((with_reducible show rI (fun _ j => (0 : Int) < j) _ _ _ _ _); refine rd_mod (by omega) ?_)
  | with_reducible refine rd_new rfl ?_
  | ((with_reducible show rIxL _ _ (V.int 0) _ _); refine rd_ixL0 (by first | assumption | exact upd_same) ?_)
  | ((with_reducible show rIxL _ _ _ _ _); refine rd_ixL (by first | assumption | exact upd_same) rfl ?_)
  | ((with_reducible show rSetL _ _ _ _ _); refine rd_setL (by first | assumption | exact upd_same) rfl ?_)
  | ((with_reducible show rI CMul _ _ _ _ _); refine rd_mul (by first | exact Or.inl ⟨by omega, by omega⟩ | exact Or.inr ⟨by omega, by omega⟩) ?_)
  | ((with_reducible show tyV _ "list" _ _ ∧ _); refine rd_tyL (by first | assumption | exact upd_same) ?_)
  | ((with_reducible show rIxT _ _ (V.int 0) _ _); refine rd_ixT0 (by first | assumption | exact upd_same) ?_)
  | ((with_reducible show rIxT _ _ _ _ _); refine rd_ixT (by first | assumption | exact upd_same) rfl ?_))
local macro_rules | `(tactic| walk_at "rdn1") => `(tactic| first
  | with_reducible refine rd_seq ?_
  | with_reducible refine rd_asg ?_
  | ((with_reducible show tVar _ _ _ _); refine rd_var rfl ?_)
  | with_reducible refine rd_c ?_
  | with_reducible refine rd_op ?_
  | with_reducible refine rd_I0 ?_
  | with_reducible refine rd_name ?_
  | with_reducible refine rd_ret ?_
  | with_reducible refine rd_ifs ?_
  | with_reducible refine rd_test ?_
  | with_reducible refine rd_tB ?_
  | with_reducible refine rd_bl ?_
  | with_reducible refine rd_drop ?_
  | with_reducible refine rd_nil ?_
  | with_reducible refine rd_cons ?_
  | with_reducible refine rd_call ?_
  | with_reducible refine rd_cb ?_
  | with_reducible refine rd_tup ?_
  | with_reducible refine rd_lst ?_
  | with_reducible refine rd_and ?_
  | with_reducible refine rd_or ?_
  | with_reducible refine rd_not ?_
  | with_reducible refine rd_notV ?_
  | with_reducible refine rd_chain ?_
  | with_reducible refine rd_un ?_
  | with_reducible refine rd_isN ?_
  | with_reducible refine rd_bm ?_
  | with_reducible refine rd_bm0 ?_
  | with_reducible refine rd_gsub ?_
  | with_reducible refine rd_sl ?_
  | with_reducible refine rd_gt ?_
  | with_reducible refine rd_yes ?_
  | with_reducible refine rd_gcons ?_
  | with_reducible refine rd_gnil ?_
  | with_reducible refine rd_part ?_
  | with_reducible refine rd_nopart ?_
  | ((with_reducible show gTup _ _ _ _ _ _ _); refine rd_gtup (by first | assumption | exact upd_same) rfl ?_)
  | ((with_reducible show gLst _ _ _ _ _ _ _); refine rd_glst (by first | assumption | exact upd_same) rfl ?_)
  | ((with_reducible show rIsi _ _ _ _); first | refine rd_isi (b := true) (.ty _) (.base (by first | exact .int _ | exact .str _ | exact .bl _ | exact .non | exact .tup (by assumption) | exact .lst (by assumption))) (kit_ty (by decide +kernel)) ?_ | refine rd_isi (b := false) (.ty _) (.base (by first | exact .int _ | exact .str _ | exact .bl _ | exact .non | exact .tup (by assumption) | exact .lst (by assumption))) (kit_ty (by decide +kernel)) ?_)
  | with_reducible refine rd_fld ?_
  | with_reducible refine rd_sfld ?_
  | with_reducible refine rd_meth ?_
  | with_reducible refine rd_make ?_
  | with_reducible refine rd_makeK ?_
  | with_reducible refine rd_U ?_
  | with_reducible refine rd_makeKS ?_
  | with_reducible refine rd_callN ?_
  | with_reducible refine rd_rs ?_
  | with_reducible refine rd_rf ?_
  | with_reducible refine rd_star ?_
  | with_reducible refine rd_callS ?_
  | with_reducible refine rd_for ?_
  | with_reducible refine rd_lc ?_
  | with_reducible refine rd_ilist ?_
  | with_reducible refine rd_itup ?_
  | with_reducible refine rd_irng ?_
  | with_reducible refine rd_izipS ?_
  | with_reducible refine rd_ienum ?_
  | with_reducible refine rd_ienT ?_
  | with_reducible refine rd_next ?_
  | with_reducible refine rd_eq rfl ?_
  | with_reducible refine rd_ne rfl ?_
  | with_reducible refine iteT ?_
  | with_reducible refine iteF ?_
  | with_reducible refine rd_ifnT ?_
  | with_reducible refine rd_ifnF ?_
  | ((with_reducible show rI (fun _ j => (0 : Int) < j) _ _ _ _ _); refine rd_mod (by omega) ?_)
  | with_reducible refine rd_new rfl ?_
  | ((with_reducible show rIxL _ _ (V.int 0) _ _); refine rd_ixL0 (by first | assumption | exact upd_same) ?_)
  | ((with_reducible show rIxL _ _ _ _ _); refine rd_ixL (by first | assumption | exact upd_same) rfl ?_)
  | ((with_reducible show rSetL _ _ _ _ _); refine rd_setL (by first | assumption | exact upd_same) rfl ?_)
  | ((with_reducible show rI CMul _ _ _ _ _); refine rd_mul (by first | exact Or.inl ⟨by omega, by omega⟩ | exact Or.inr ⟨by omega, by omega⟩) ?_)
  | ((with_reducible show tyV _ "list" _ _ ∧ _); refine rd_tyL (by first | assumption | exact upd_same) ?_)
  | ((with_reducible show rIxT _ _ (V.int 0) _ _); refine rd_ixT0 (by first | assumption | exact upd_same) ?_)
  | ((with_reducible show rIxT _ _ _ _ _); refine rd_ixT (by first | assumption | exact upd_same) rfl ?_))
local macro_rules | `(tactic| walk_at "rd") => `(tactic| (repeat (first | walk_at "rd1" | dsimp only)))
local macro_rules | `(tactic| walk_at "rds") => `(tactic| (dsimp only [cxOf, Cx.nox, Cx.wish, Cx.blk, L2.start]; walk_at "rd"))
local macro_rules | `(tactic| walk_at "rdn") => `(tactic| (repeat (first | walk_at "rdn1" | dsimp only)))
section
variable {P : Program} {w : World} {K : PySem.W.Frag} {mg : Str → Option Value} {base : Heap}


end
end Rg

namespace Rg
open PySem PySem.Spec L2
local macro_rules | `(tactic| walk_at "rd1") => `(tactic| first
  | with_reducible refine rd_seq ?_
  | with_reducible refine rd_asg ?_
  | ((with_reducible show tVar _ _ _ _); refine rd_var rfl ?_)
  | with_reducible refine rd_c ?_
  | with_reducible refine rd_op ?_
  | with_reducible refine rd_I0 ?_
  | with_reducible refine rd_name ?_
  | with_reducible refine rd_ret ?_
  | with_reducible refine rd_ifs ?_
  | with_reducible refine rd_test ?_
  | with_reducible refine rd_tB ?_
  | with_reducible refine rd_bl ?_
  | with_reducible refine rd_drop ?_
  | with_reducible refine rd_nil ?_
  | with_reducible refine rd_cons ?_
  | with_reducible refine rd_call ?_
  | with_reducible refine rd_cb ?_
  | with_reducible refine rd_tup ?_
  | with_reducible refine rd_lst ?_
  | with_reducible refine rd_and ?_
  | with_reducible refine rd_or ?_
  | with_reducible refine rd_not ?_
  | with_reducible refine rd_andV ?_
  | with_reducible refine rd_orV ?_
  | with_reducible refine rd_notV ?_
  | with_reducible refine rd_chain ?_
  | with_reducible refine rd_un ?_
  | with_reducible refine rd_isN ?_
  | with_reducible refine rd_bm ?_
  | with_reducible refine rd_bm0 ?_
  | with_reducible refine rd_gsub ?_
  | with_reducible refine rd_sl ?_
  | with_reducible refine rd_gt ?_
  | with_reducible refine rd_yes ?_
  | with_reducible refine rd_gcons ?_
  | with_reducible refine rd_gnil ?_
  | with_reducible refine rd_part ?_
  | with_reducible refine rd_nopart ?_
  | ((with_reducible show gTup _ _ _ _ _ _ _); refine rd_gtup (by first | assumption | exact upd_same) rfl ?_)
  | ((with_reducible show gLst _ _ _ _ _ _ _); refine rd_glst (by first | assumption | exact upd_same) rfl ?_)
  | ((with_reducible show rIsi _ _ _ _); first | refine rd_isi (b := true) (.ty _) (.base (by first | exact .int _ | exact .str _ | exact .bl _ | exact .non | exact .tup (by assumption) | exact .lst (by assumption))) (kit_ty (by decide +kernel)) ?_ | refine rd_isi (b := false) (.ty _) (.base (by first | exact .int _ | exact .str _ | exact .bl _ | exact .non | exact .tup (by assumption) | exact .lst (by assumption))) (kit_ty (by decide +kernel)) ?_)
  | with_reducible refine rd_fld ?_
  | with_reducible refine rd_sfld ?_
  | with_reducible refine rd_meth ?_
  | with_reducible refine rd_make ?_
  | with_reducible refine rd_makeK ?_
  | with_reducible refine rd_U ?_
  | with_reducible refine rd_makeKS ?_
  | with_reducible refine rd_callN ?_
  | with_reducible refine rd_rs ?_
  | with_reducible refine rd_rf ?_
  | with_reducible refine rd_star ?_
  | with_reducible refine rd_callS ?_
  | with_reducible refine rd_for ?_
  | with_reducible refine rd_lc ?_
  | with_reducible refine rd_ilist ?_
  | with_reducible refine rd_itup ?_
  | with_reducible refine rd_irng ?_
  | with_reducible refine rd_izipS ?_
  | with_reducible refine rd_ienum ?_
  | with_reducible refine rd_ienT ?_
  | with_reducible refine rd_next ?_
  | with_reducible refine rd_eq rfl ?_
  | with_reducible refine rd_ne rfl ?_
  | with_reducible refine iteT ?_
  | with_reducible refine iteF ?_
  | with_reducible refine rd_ifnT ?_
  | with_reducible refine rd_ifnF ?_
  | ((with_reducible show rI (fun _ j => (0 : Int) < j) _ _ _ _ _); refine rd_mod (by omega) ?_)
  | with_reducible refine rd_new rfl ?_
  | ((with_reducible show rIxL _ _ (V.int 0) _ _); refine rd_ixL0 (by first | assumption | exact upd_same) ?_)
  | ((with_reducible show rIxL _ _ _ _ _); refine rd_ixL (by first | assumption | exact upd_same) rfl ?_)
  | ((with_reducible show rSetL _ _ _ _ _); refine rd_setL (by first | assumption | exact upd_same) rfl ?_)
  | ((with_reducible show rI CMul _ _ _ _ _); refine rd_mul (by first | exact Or.inl ⟨by omega, by omega⟩ | exact Or.inr ⟨by omega, by omega⟩) ?_)
  | ((with_reducible show tyV _ "list" _ _ ∧ _); refine rd_tyL (by first | assumption | exact upd_same) ?_)
  | ((with_reducible show rIxT _ _ (V.int 0) _ _); refine rd_ixT0 (by first | assumption | exact upd_same) ?_)
  | ((with_reducible show rIxT _ _ _ _ _); refine rd_ixT (by first | assumption | exact upd_same) rfl ?_))
local macro_rules | `(tactic| walk_at "rdn1") => `(tactic| first
  | with_reducible refine rd_seq ?_
  | with_reducible refine rd_asg ?_
  | ((with_reducible show tVar _ _ _ _); refine rd_var rfl ?_)
  | with_reducible refine rd_c ?_
  | with_reducible refine rd_op ?_
  | with_reducible refine rd_I0 ?_
  | with_reducible refine rd_name ?_
  | with_reducible refine rd_ret ?_
  | with_reducible refine rd_ifs ?_
  | with_reducible refine rd_test ?_
  | with_reducible refine rd_tB ?_
  | with_reducible refine rd_bl ?_
  | with_reducible refine rd_drop ?_
  | with_reducible refine rd_nil ?_
  | with_reducible refine rd_cons ?_
  | with_reducible refine rd_call ?_
  | with_reducible refine rd_cb ?_
  | with_reducible refine rd_tup ?_
  | with_reducible refine rd_lst ?_
  | with_reducible refine rd_and ?_
  | with_reducible refine rd_or ?_
  | with_reducible refine rd_not ?_
  | with_reducible refine rd_notV ?_
  | with_reducible refine rd_chain ?_
  | with_reducible refine rd_un ?_
  | with_reducible refine rd_isN ?_
  | with_reducible refine rd_bm ?_
  | with_reducible refine rd_bm0 ?_
  | with_reducible refine rd_gsub ?_
  | with_reducible refine rd_sl ?_
  | with_reducible refine rd_gt ?_
  | with_reducible refine rd_yes ?_
  | with_reducible refine rd_gcons ?_
  | with_reducible refine rd_gnil ?_
  | with_reducible refine rd_part ?_
  | with_reducible refine rd_nopart ?_
  | ((with_reducible show gTup _ _ _ _ _ _ _); refine rd_gtup (by first | assumption | exact upd_same) rfl ?_)
  | ((with_reducible show gLst _ _ _ _ _ _ _); refine rd_glst (by first | assumption | exact upd_same) rfl ?_)
  | ((with_reducible show rIsi _ _ _ _); first | refine rd_isi (b := true) (.ty _) (.base (by first | exact .int _ | exact .str _ | exact .bl _ | exact .non | exact .tup (by assumption) | exact .lst (by assumption))) (kit_ty (by decide +kernel)) ?_ | refine rd_isi (b := false) (.ty _) (.base (by first | exact .int _ | exact .str _ | exact .bl _ | exact .non | exact .tup (by assumption) | exact .lst (by assumption))) (kit_ty (by decide +kernel)) ?_)
  | with_reducible refine rd_fld ?_
  | with_reducible refine rd_sfld ?_
  | with_reducible refine rd_meth ?_
  | with_reducible refine rd_make ?_
  | with_reducible refine rd_makeK ?_
  | with_reducible refine rd_U ?_
  | with_reducible refine rd_makeKS ?_
  | with_reducible refine rd_callN ?_
  | with_reducible refine rd_rs ?_
  | with_reducible refine rd_rf ?_
  | with_reducible refine rd_star ?_
  | with_reducible refine rd_callS ?_
  | with_reducible refine rd_for ?_
  | with_reducible refine rd_lc ?_
  | with_reducible refine rd_ilist ?_
  | with_reducible refine rd_itup ?_
  | with_reducible refine rd_irng ?_
  | with_reducible refine rd_izipS ?_
  | with_reducible refine rd_ienum ?_
  | with_reducible refine rd_ienT ?_
  | with_reducible refine rd_next ?_
  | with_reducible refine rd_eq rfl ?_
  | with_reducible refine rd_ne rfl ?_
  | with_reducible refine iteT ?_
  | with_reducible refine iteF ?_
  | with_reducible refine rd_ifnT ?_
  | with_reducible refine rd_ifnF ?_
  | ((with_reducible show rI (fun _ j => (0 : Int) < j) _ _ _ _ _); refine rd_mod (by omega) ?_)
  | with_reducible refine rd_new rfl ?_
  | ((with_reducible show rIxL _ _ (V.int 0) _ _); refine rd_ixL0 (by first | assumption | exact upd_same) ?_)
  | ((with_reducible show rIxL _ _ _ _ _); refine rd_ixL (by first | assumption | exact upd_same) rfl ?_)
  | ((with_reducible show rSetL _ _ _ _ _); refine rd_setL (by first | assumption | exact upd_same) rfl ?_)
  | ((with_reducible show rI CMul _ _ _ _ _); refine rd_mul (by first | exact Or.inl ⟨by omega, by omega⟩ | exact Or.inr ⟨by omega, by omega⟩) ?_)
  | ((with_reducible show tyV _ "list" _ _ ∧ _); refine rd_tyL (by first | assumption | exact upd_same) ?_)
  | ((with_reducible show rIxT _ _ (V.int 0) _ _); refine rd_ixT0 (by first | assumption | exact upd_same) ?_)
  | ((with_reducible show rIxT _ _ _ _ _); refine rd_ixT (by first | assumption | exact upd_same) rfl ?_))
local macro_rules | `(tactic| walk_at "rd") => `(tactic| (repeat (first | walk_at "rd1" | dsimp only)))
local macro_rules | `(tactic| walk_at "rds") => `(tactic| (dsimp only [cxOf, Cx.nox, Cx.wish, Cx.blk, L2.start]; walk_at "rd"))
local macro_rules | `(tactic| walk_at "rdn") => `(tactic| (repeat (first | walk_at "rdn1" | dsimp only)))
section
variable {P : Program} {w : World} {K : PySem.W.Frag} {mg : Str → Option Value} {base : Heap}

def spRefuse (C : Addr) : Sp := fun vs H Q _ => ∃ (x L : Addr) (us : List V) (xs : List Sg) (b : Int) (ds : List V) (rs : List Rw), vs = [.ref x, .ref L] ∧ MAt C H x us b ∧ us.length = xs.length ∧ xs.length ≤ 8 ∧ H L = some (.lst ds) ∧ RpAll H ds (rs.map Rw.d) ∧ (∀ r ∈ rs, RwForm r ∧ rowFits r (xs.length : Int) = true) ∧ ∀ H', Same H H' → Q .non H'

end
end Rg

namespace Rg
open PySem PySem.Spec L2
local macro_rules | `(tactic| walk_at "rd1") => `(tactic| first
  | with_reducible refine rd_seq ?_
  | with_reducible refine rd_asg ?_
  | ((with_reducible show tVar _ _ _ _); refine rd_var rfl ?_)
  | with_reducible refine rd_c ?_
  | with_reducible refine rd_op ?_
  | with_reducible refine rd_I0 ?_
  | with_reducible refine rd_name ?_
  | with_reducible refine rd_ret ?_
  | with_reducible refine rd_ifs ?_
  | with_reducible refine rd_test ?_
  | with_reducible refine rd_tB ?_
  | with_reducible refine rd_bl ?_
  | with_reducible refine rd_drop ?_
  | with_reducible refine rd_nil ?_
  | with_reducible refine rd_cons ?_
  | with_reducible refine rd_call ?_
  | with_reducible refine rd_cb ?_
  | with_reducible refine rd_tup ?_
  | with_reducible refine rd_lst ?_
  | with_reducible refine rd_and ?_
  | with_reducible refine rd_or ?_
  | with_reducible refine rd_not ?_
  | with_reducible refine rd_andV ?_
  | with_reducible refine rd_orV ?_
  | with_reducible refine rd_notV ?_
  | with_reducible refine rd_chain ?_
  | with_reducible refine rd_un ?_
  | with_reducible refine rd_isN ?_
  | with_reducible refine rd_bm ?_
  | with_reducible refine rd_bm0 ?_
  | with_reducible refine rd_gsub ?_
  | with_reducible refine rd_sl ?_
  | with_reducible refine rd_gt ?_
  | with_reducible refine rd_yes ?_
  | with_reducible refine rd_gcons ?_
  | with_reducible refine rd_gnil ?_
  | with_reducible refine rd_part ?_
  | with_reducible refine rd_nopart ?_
  | ((with_reducible show gTup _ _ _ _ _ _ _); refine rd_gtup (by first | assumption | exact upd_same) rfl ?_)
  | ((with_reducible show gLst _ _ _ _ _ _ _); refine rd_glst (by first | assumption | exact upd_same) rfl ?_)
  | ((with_reducible show rIsi _ _ _ _); first | refine rd_isi (b := true) (.ty _) (.base (by first | exact .int _ | exact .str _ | exact .bl _ | exact .non | exact .tup (by assumption) | exact .lst (by assumption))) (kit_ty (by decide +kernel)) ?_ | refine rd_isi (b := false) (.ty _) (.base (by first | exact .int _ | exact .str _ | exact .bl _ | exact .non | exact .tup (by assumption) | exact .lst (by assumption))) (kit_ty (by decide +kernel)) ?_)
  | with_reducible refine rd_fld ?_
  | with_reducible refine rd_sfld ?_
  | with_reducible refine rd_meth ?_
  | with_reducible refine rd_make ?_
  | with_reducible refine rd_makeK ?_
  | with_reducible refine rd_U ?_
  | with_reducible refine rd_makeKS ?_
  | with_reducible refine rd_callN ?_
  | with_reducible refine rd_rs ?_
  | with_reducible refine rd_rf ?_
  | with_reducible refine rd_star ?_
  | with_reducible refine rd_callS ?_
  | with_reducible refine rd_for ?_
  | with_reducible refine rd_lc ?_
  | with_reducible refine rd_ilist ?_
  | with_reducible refine rd_itup ?_
  | with_reducible refine rd_irng ?_
  | with_reducible refine rd_izipS ?_
  | with_reducible refine rd_ienum ?_
  | with_reducible refine rd_ienT ?_
  | with_reducible refine rd_next ?_
  | with_reducible refine rd_eq rfl ?_
  | with_reducible refine rd_ne rfl ?_
  | with_reducible refine iteT ?_
  | with_reducible refine iteF ?_
  | with_reducible refine rd_ifnT ?_
  | with_reducible refine rd_ifnF ?_
  | ((with_reducible show rI (fun _ j => (0 : Int) < j) _ _ _ _ _); refine rd_mod (by omega) ?_)
  | with_reducible refine rd_new rfl ?_
  | ((with_reducible show rIxL _ _ (V.int 0) _ _); refine rd_ixL0 (by first | assumption | exact upd_same) ?_)
  | ((with_reducible show rIxL _ _ _ _ _); refine rd_ixL (by first | assumption | exact upd_same) rfl ?_)
  | ((with_reducible show rSetL _ _ _ _ _); refine rd_setL (by first | assumption | exact upd_same) rfl ?_)
  | ((with_reducible show rI CMul _ _ _ _ _); refine rd_mul (by first | exact Or.inl ⟨by omega, by omega⟩ | exact Or.inr ⟨by omega, by omega⟩) ?_)
  | ((with_reducible show tyV _ "list" _ _ ∧ _); refine rd_tyL (by first | assumption | exact upd_same) ?_)
  | ((with_reducible show rIxT _ _ (V.int 0) _ _); refine rd_ixT0 (by first | assumption | exact upd_same) ?_)
  | ((with_reducible show rIxT _ _ _ _ _); refine rd_ixT (by first | assumption | exact upd_same) rfl ?_))
local macro_rules | `(tactic| walk_at "rdn1") => `(tactic| first
  | with_reducible refine rd_seq ?_
  | with_reducible refine rd_asg ?_
  | ((with_reducible show tVar _ _ _ _); refine rd_var rfl ?_)
  | with_reducible refine rd_c ?_
  | with_reducible refine rd_op ?_
  | with_reducible refine rd_I0 ?_
  | with_reducible refine rd_name ?_
  | with_reducible refine rd_ret ?_
  | with_reducible refine rd_ifs ?_
  | with_reducible refine rd_test ?_
  | with_reducible refine rd_tB ?_
  | with_reducible refine rd_bl ?_
  | with_reducible refine rd_drop ?_
  | with_reducible refine rd_nil ?_
  | with_reducible refine rd_cons ?_
  | with_reducible refine rd_call ?_
  | with_reducible refine rd_cb ?_
  | with_reducible refine rd_tup ?_
  | with_reducible refine rd_lst ?_
  | with_reducible refine rd_and ?_
  | with_reducible refine rd_or ?_
  | with_reducible refine rd_not ?_
  | with_reducible refine rd_notV ?_
  | with_reducible refine rd_chain ?_
  | with_reducible refine rd_un ?_
  | with_reducible refine rd_isN ?_
  | with_reducible refine rd_bm ?_
  | with_reducible refine rd_bm0 ?_
  | with_reducible refine rd_gsub ?_
  | with_reducible refine rd_sl ?_
  | with_reducible refine rd_gt ?_
  | with_reducible refine rd_yes ?_
  | with_reducible refine rd_gcons ?_
  | with_reducible refine rd_gnil ?_
  | with_reducible refine rd_part ?_
  | with_reducible refine rd_nopart ?_
  | ((with_reducible show gTup _ _ _ _ _ _ _); refine rd_gtup (by first | assumption | exact upd_same) rfl ?_)
  | ((with_reducible show gLst _ _ _ _ _ _ _); refine rd_glst (by first | assumption | exact upd_same) rfl ?_)
  | ((with_reducible show rIsi _ _ _ _); first | refine rd_isi (b := true) (.ty _) (.base (by first | exact .int _ | exact .str _ | exact .bl _ | exact .non | exact .tup (by assumption) | exact .lst (by assumption))) (kit_ty (by decide +kernel)) ?_ | refine rd_isi (b := false) (.ty _) (.base (by first | exact .int _ | exact .str _ | exact .bl _ | exact .non | exact .tup (by assumption) | exact .lst (by assumption))) (kit_ty (by decide +kernel)) ?_)
  | with_reducible refine rd_fld ?_
  | with_reducible refine rd_sfld ?_
  | with_reducible refine rd_meth ?_
  | with_reducible refine rd_make ?_
  | with_reducible refine rd_makeK ?_
  | with_reducible refine rd_U ?_
  | with_reducible refine rd_makeKS ?_
  | with_reducible refine rd_callN ?_
  | with_reducible refine rd_rs ?_
  | with_reducible refine rd_rf ?_
  | with_reducible refine rd_star ?_
  | with_reducible refine rd_callS ?_
  | with_reducible refine rd_for ?_
  | with_reducible refine rd_lc ?_
  | with_reducible refine rd_ilist ?_
  | with_reducible refine rd_itup ?_
  | with_reducible refine rd_irng ?_
  | with_reducible refine rd_izipS ?_
  | with_reducible refine rd_ienum ?_
  | with_reducible refine rd_ienT ?_
  | with_reducible refine rd_next ?_
  | with_reducible refine rd_eq rfl ?_
  | with_reducible refine rd_ne rfl ?_
  | with_reducible refine iteT ?_
  | with_reducible refine iteF ?_
  | with_reducible refine rd_ifnT ?_
  | with_reducible refine rd_ifnF ?_
  | ((with_reducible show rI (fun _ j => (0 : Int) < j) _ _ _ _ _); refine rd_mod (by omega) ?_)
  | with_reducible refine rd_new rfl ?_
  | ((with_reducible show rIxL _ _ (V.int 0) _ _); refine rd_ixL0 (by first | assumption | exact upd_same) ?_)
  | ((with_reducible show rIxL _ _ _ _ _); refine rd_ixL (by first | assumption | exact upd_same) rfl ?_)
  | ((with_reducible show rSetL _ _ _ _ _); refine rd_setL (by first | assumption | exact upd_same) rfl ?_)
  | ((with_reducible show rI CMul _ _ _ _ _); refine rd_mul (by first | exact Or.inl ⟨by omega, by omega⟩ | exact Or.inr ⟨by omega, by omega⟩) ?_)
  | ((with_reducible show tyV _ "list" _ _ ∧ _); refine rd_tyL (by first | assumption | exact upd_same) ?_)
  | ((with_reducible show rIxT _ _ (V.int 0) _ _); refine rd_ixT0 (by first | assumption | exact upd_same) ?_)
  | ((with_reducible show rIxT _ _ _ _ _); refine rd_ixT (by first | assumption | exact upd_same) rfl ?_))
local macro_rules | `(tactic| walk_at "rd") => `(tactic| (repeat (first | walk_at "rd1" | dsimp only)))
local macro_rules | `(tactic| walk_at "rds") => `(tactic| (dsimp only [cxOf, Cx.nox, Cx.wish, Cx.blk, L2.start]; walk_at "rd"))
local macro_rules | `(tactic| walk_at "rdn") => `(tactic| (repeat (first | walk_at "rdn1" | dsimp only)))
section
variable {P : Program} {w : World} {K : PySem.W.Frag} {mg : Str → Option Value} {base : Heap}

theorem read_me {xs : List Sg} {s s' : Rn} {p w e g : Int} {wd : Wd} (h : readR xs s p w = .ok (wd, e, g, s')) : s'.me = s.me := by
  unfold readR at h
  cases hs : spotR s p w with
  | error c => rw [hs] at h; cases h
  | ok z =>
    obtain ⟨e1, g1, pl⟩ := z
    rw [hs] at h
    dsimp only at h
    by_cases hc : mRead (sgAt xs g1) e1 = true
    · rw [if_pos hc] at h
      cases h
      rfl
    · rw [if_neg hc] at h
      cases h
theorem write_me {xs : List Sg} {s s' : Rn} {p w : Int} {wd : Wd} {c : Str} (h : writeR xs s p w wd = (s', some c)) : s'.me = s.me := by
  unfold writeR at h
  cases hs : spotR s p w with
  | error c => rw [hs] at h; cases h; rfl
  | ok z =>
    obtain ⟨e1, g1, pl⟩ := z
    rw [hs] at h
    dsimp only at h
    by_cases hc : mWrite (sgAt xs g1) e1 = true
    · rw [if_pos hc] at h
      cases h
    · rw [if_neg hc] at h
      cases h
      rfl
/-- a row that faults leaves the words as they were -/
theorem flt_me {xs : List Sg} {b : Int} {s s' : Rn} {op : Str} {ns : List Int} {c : Str} (ho : op ∈ actOps) (h : fnOf op xs b s ns = (s', some c)) : s'.me = s.me := by
  unfold actOps at ho
  simp only [List.mem_cons, List.not_mem_nil, or_false] at ho
  rcases ho with rfl | rfl | rfl | rfl | rfl | rfl | rfl | rfl | rfl | rfl | rfl | rfl
  · rw [fn_set] at h
    cases h
  · rw [fn_add] at h
    cases h
  · rw [fn_load] at h
    replace h : rLoad xs s (one ns) (two ns) = (s', some c) := h
    unfold rLoad at h
    cases hr : readR xs s (one ns) (two ns) with
    | error c => rw [hr] at h; cases h; rfl
    | ok z =>
      obtain ⟨wd, e, g, s1⟩ := z
      have q := read_me hr
      rw [hr] at h
      cases wd with
      | num n => cases h
      | ptr a1 a2 a3 => cases h; exact q
  · rw [fn_store] at h
    exact write_me h
  · rw [fn_fetch] at h
    replace h : rFetch xs s (one ns) (two ns) (three ns) = (s', some c) := h
    unfold rFetch at h
    cases hr : readR xs s (two ns) (three ns) with
    | error c => rw [hr] at h; cases h; rfl
    | ok z =>
      obtain ⟨wd, e, g, s1⟩ := z
      have q := read_me hr
      rw [hr] at h
      cases wd with
      | num n => cases h; exact q
      | ptr a1 a2 a3 => cases h
  · rw [fn_keep] at h
    replace h : rKeep xs s (one ns) (two ns) (three ns) = (s', some c) := h
    unfold rKeep at h
    cases e : s.ptr (one ns) with
    | none => rw [e] at h; cases h; rfl
    | some z =>
      obtain ⟨r1, g1, pl⟩ := z
      rw [e] at h
      exact write_me h
  · rw [fn_aim] at h
    replace h : rAim s (one ns) (two ns) (three ns) = (s', some c) := h
    unfold rAim at h
    by_cases hw : three ns < 0
    · rw [if_pos hw] at h; cases h; rfl
    · rw [if_neg hw] at h
      cases h
  · rw [fn_move] at h
    replace h : rMove s (one ns) (two ns) (three ns) = (s', some c) := h
    unfold rMove at h
    cases e : s.ptr (two ns) with
    | none => rw [e] at h; cases h; rfl
    | some z =>
      obtain ⟨r1, g1, pl⟩ := z
      rw [e] at h
      dsimp only at h
      by_cases hw : pl + three ns < 0
      · rw [if_pos hw] at h; cases h; rfl
      · rw [if_neg hw] at h
        cases h
  · rw [fn_zero] at h
    replace h : rZero s (one ns) = (s', some c) := h
    unfold rZero at h
    cases e : s.wh with
    | none => rw [e] at h; cases h; rfl
    | some z =>
      obtain ⟨g1, pl⟩ := z
      rw [e] at h
      dsimp only at h
      by_cases hw : s.a = 0
      · rw [if_pos hw] at h
        cases h
      · rw [if_neg hw] at h
        cases h
  · rw [fn_go] at h
    replace h : rGo s (one ns) = (s', some c) := h
    unfold rGo at h
    cases e : s.wh with
    | none => rw [e] at h; cases h; rfl
    | some z =>
      obtain ⟨g1, pl⟩ := z
      rw [e] at h
      cases h
  · rw [fn_call] at h
    replace h : rCall xs s (one ns) = (s', some c) := h
    unfold rCall at h
    cases e : s.ptr (one ns) with
    | none => rw [e] at h; cases h; rfl
    | some z =>
      obtain ⟨r1, g1, pl⟩ := z
      rw [e] at h
      dsimp only at h
      cases e2 : enteredR (sgAt xs g1) pl (mx s.ring r1) with
      | error c => rw [e2] at h; cases h; rfl
      | ok e3 =>
        rw [e2] at h
        dsimp only at h
        by_cases h8 : 8 ≤ s.ca.length
        · rw [if_pos h8] at h; cases h; rfl
        · rw [if_neg h8] at h
          cases h
  · rw [fn_return] at h
    replace h : rRet s = (s', some c) := h
    unfold rRet at h
    cases e : s.wh with
    | none => rw [e] at h; cases h; rfl
    | some z =>
      obtain ⟨g1, pl⟩ := z
      rw [e] at h
      dsimp only at h
      cases e2 : s.ca.getLast? with
      | none => rw [e2] at h; cases h; rfl
      | some c =>
        obtain ⟨r, w⟩ := c
        rw [e2] at h
        cases h
theorem read_st {xs : List Sg} {s s' : Rn} {p w e g : Int} {wd : Wd} (h : readR xs s p w = .ok (wd, e, g, s')) : s'.st = s.st := by
  unfold readR at h
  cases hs : spotR s p w with
  | error c => rw [hs] at h; cases h
  | ok z =>
    obtain ⟨e1, g1, pl⟩ := z
    rw [hs] at h
    dsimp only at h
    by_cases hc : mRead (sgAt xs g1) e1 = true
    · rw [if_pos hc] at h
      cases h
      rfl
    · rw [if_neg hc] at h
      cases h
theorem write_st {xs : List Sg} {s s' : Rn} {p w : Int} {wd : Wd} {c : Str} (h : writeR xs s p w wd = (s', some c)) : s'.st = s.st := by
  unfold writeR at h
  cases hs : spotR s p w with
  | error c => rw [hs] at h; cases h; rfl
  | ok z =>
    obtain ⟨e1, g1, pl⟩ := z
    rw [hs] at h
    dsimp only at h
    by_cases hc : mWrite (sgAt xs g1) e1 = true
    · rw [if_pos hc] at h
      cases h
    · rw [if_neg hc] at h
      cases h
      rfl
/-- a row that faults leaves the words as they were -/
theorem flt_st {xs : List Sg} {b : Int} {s s' : Rn} {op : Str} {ns : List Int} {c : Str} (ho : op ∈ actOps) (h : fnOf op xs b s ns = (s', some c)) : s'.st = s.st := by
  unfold actOps at ho
  simp only [List.mem_cons, List.not_mem_nil, or_false] at ho
  rcases ho with rfl | rfl | rfl | rfl | rfl | rfl | rfl | rfl | rfl | rfl | rfl | rfl
  · rw [fn_set] at h
    cases h
  · rw [fn_add] at h
    cases h
  · rw [fn_load] at h
    replace h : rLoad xs s (one ns) (two ns) = (s', some c) := h
    unfold rLoad at h
    cases hr : readR xs s (one ns) (two ns) with
    | error c => rw [hr] at h; cases h; rfl
    | ok z =>
      obtain ⟨wd, e, g, s1⟩ := z
      have q := read_st hr
      rw [hr] at h
      cases wd with
      | num n => cases h
      | ptr a1 a2 a3 => cases h; exact q
  · rw [fn_store] at h
    exact write_st h
  · rw [fn_fetch] at h
    replace h : rFetch xs s (one ns) (two ns) (three ns) = (s', some c) := h
    unfold rFetch at h
    cases hr : readR xs s (two ns) (three ns) with
    | error c => rw [hr] at h; cases h; rfl
    | ok z =>
      obtain ⟨wd, e, g, s1⟩ := z
      have q := read_st hr
      rw [hr] at h
      cases wd with
      | num n => cases h; exact q
      | ptr a1 a2 a3 => cases h
  · rw [fn_keep] at h
    replace h : rKeep xs s (one ns) (two ns) (three ns) = (s', some c) := h
    unfold rKeep at h
    cases e : s.ptr (one ns) with
    | none => rw [e] at h; cases h; rfl
    | some z =>
      obtain ⟨r1, g1, pl⟩ := z
      rw [e] at h
      exact write_st h
  · rw [fn_aim] at h
    replace h : rAim s (one ns) (two ns) (three ns) = (s', some c) := h
    unfold rAim at h
    by_cases hw : three ns < 0
    · rw [if_pos hw] at h; cases h; rfl
    · rw [if_neg hw] at h
      cases h
  · rw [fn_move] at h
    replace h : rMove s (one ns) (two ns) (three ns) = (s', some c) := h
    unfold rMove at h
    cases e : s.ptr (two ns) with
    | none => rw [e] at h; cases h; rfl
    | some z =>
      obtain ⟨r1, g1, pl⟩ := z
      rw [e] at h
      dsimp only at h
      by_cases hw : pl + three ns < 0
      · rw [if_pos hw] at h; cases h; rfl
      · rw [if_neg hw] at h
        cases h
  · rw [fn_zero] at h
    replace h : rZero s (one ns) = (s', some c) := h
    unfold rZero at h
    cases e : s.wh with
    | none => rw [e] at h; cases h; rfl
    | some z =>
      obtain ⟨g1, pl⟩ := z
      rw [e] at h
      dsimp only at h
      by_cases hw : s.a = 0
      · rw [if_pos hw] at h
        cases h
      · rw [if_neg hw] at h
        cases h
  · rw [fn_go] at h
    replace h : rGo s (one ns) = (s', some c) := h
    unfold rGo at h
    cases e : s.wh with
    | none => rw [e] at h; cases h; rfl
    | some z =>
      obtain ⟨g1, pl⟩ := z
      rw [e] at h
      cases h
  · rw [fn_call] at h
    replace h : rCall xs s (one ns) = (s', some c) := h
    unfold rCall at h
    cases e : s.ptr (one ns) with
    | none => rw [e] at h; cases h; rfl
    | some z =>
      obtain ⟨r1, g1, pl⟩ := z
      rw [e] at h
      dsimp only at h
      cases e2 : enteredR (sgAt xs g1) pl (mx s.ring r1) with
      | error c => rw [e2] at h; cases h; rfl
      | ok e3 =>
        rw [e2] at h
        dsimp only at h
        by_cases h8 : 8 ≤ s.ca.length
        · rw [if_pos h8] at h; cases h; rfl
        · rw [if_neg h8] at h
          cases h
  · rw [fn_return] at h
    replace h : rRet s = (s', some c) := h
    unfold rRet at h
    cases e : s.wh with
    | none => rw [e] at h; cases h; rfl
    | some z =>
      obtain ⟨g1, pl⟩ := z
      rw [e] at h
      dsimp only at h
      cases e2 : s.ca.getLast? with
      | none => rw [e2] at h; cases h; rfl
      | some c =>
        obtain ⟨r, w⟩ := c
        rw [e2] at h
        cases h
/-- the stand behind a deed is a good one -/
theorem wf_init {xs : List Sg} {s : Rn} (r : Int) (wf : WF xs s) : WF xs (initR (s.sd r)) := ⟨wf.pt4, wf.ptg, wf.me, wf.mw, fun g p e => (nomatch e), fun c hc => (nomatch hc), Nat.zero_le _, Nat.zero_le _, Nat.zero_le _, Stk.nil⟩
theorem wf_lost {xs : List Sg} {s : Rn} (r : Int) (h1 : s.me.length = xs.length) (h2 : ∀ ws ∈ s.me, ws.length ≤ 900 ∧ ∀ r g p, Wd.ptr r g p ∈ ws → 0 ≤ g ∧ g < (xs.length : Int) ∧ 0 ≤ p) : WF xs (initR (s.lost.sd r)) := ⟨rfl, fun r g p e => (by
  have e' : some (r, g, p) ∈ ([none, none, none, none] : List Pt) := e
  simp at e'), h1, h2, fun g p e => (nomatch e), fun c hc => (nomatch hc), Nat.zero_le _, Nat.zero_le _, Nat.zero_le _, Stk.nil⟩
def aftr (s : Rn) : Option Str → Rn
  | none => s
  | some _ => s.lost
theorem wf_next {xs : List Sg} {b : Int} {s s' : Rn} {op : Str} {ns : List Int} {o : Option Str} (r : Int) (wf : WF xs s) (t : s.to.length ≤ 1999) (ho : op ∈ actOps) (hk : okOf op xs ns) (h : fnOf op xs b s ns = (s', o)) : WF xs (initR ((aftr s' o).sd r)) := by
  cases o with
  | none => exact wf_init r (wf_keep wf t ho hk h).wf
  | some c =>
    have e := flt_me ho h
    exact wf_lost r (by rw [e]; exact wf.me) (by rw [e]; exact wf.mw)

end
end Rg

namespace Rg
open PySem PySem.Spec L2
local macro_rules | `(tactic| walk_at "rd1") => `(tactic| first
  | with_reducible refine rd_seq ?_
  | with_reducible refine rd_asg ?_
  | ((with_reducible show tVar _ _ _ _); refine rd_var rfl ?_)
  | with_reducible refine rd_c ?_
  | with_reducible refine rd_op ?_
  | with_reducible refine rd_I0 ?_
  | with_reducible refine rd_name ?_
  | with_reducible refine rd_ret ?_
  | with_reducible refine rd_ifs ?_
  | with_reducible refine rd_test ?_
  | with_reducible refine rd_tB ?_
  | with_reducible refine rd_bl ?_
  | with_reducible refine rd_drop ?_
  | with_reducible refine rd_nil ?_
  | with_reducible refine rd_cons ?_
  | with_reducible refine rd_call ?_
  | with_reducible refine rd_cb ?_
  | with_reducible refine rd_tup ?_
  | with_reducible refine rd_lst ?_
  | with_reducible refine rd_and ?_
  | with_reducible refine rd_or ?_
  | with_reducible refine rd_not ?_
  | with_reducible refine rd_andV ?_
  | with_reducible refine rd_orV ?_
  | with_reducible refine rd_notV ?_
  | with_reducible refine rd_chain ?_
  | with_reducible refine rd_un ?_
  | with_reducible refine rd_isN ?_
  | with_reducible refine rd_bm ?_
  | with_reducible refine rd_bm0 ?_
  | with_reducible refine rd_gsub ?_
  | with_reducible refine rd_sl ?_
  | with_reducible refine rd_gt ?_
  | with_reducible refine rd_yes ?_
  | with_reducible refine rd_gcons ?_
  | with_reducible refine rd_gnil ?_
  | with_reducible refine rd_part ?_
  | with_reducible refine rd_nopart ?_
  | ((with_reducible show gTup _ _ _ _ _ _ _); refine rd_gtup (by first | assumption | exact upd_same) rfl ?_)
  | ((with_reducible show gLst _ _ _ _ _ _ _); refine rd_glst (by first | assumption | exact upd_same) rfl ?_)
  | ((with_reducible show rIsi _ _ _ _); first | refine rd_isi (b := true) (.ty _) (.base (by first | exact .int _ | exact .str _ | exact .bl _ | exact .non | exact .tup (by assumption) | exact .lst (by assumption))) (kit_ty (by decide +kernel)) ?_ | refine rd_isi (b := false) (.ty _) (.base (by first | exact .int _ | exact .str _ | exact .bl _ | exact .non | exact .tup (by assumption) | exact .lst (by assumption))) (kit_ty (by decide +kernel)) ?_)
  | with_reducible refine rd_fld ?_
  | with_reducible refine rd_sfld ?_
  | with_reducible refine rd_meth ?_
  | with_reducible refine rd_make ?_
  | with_reducible refine rd_makeK ?_
  | with_reducible refine rd_U ?_
  | with_reducible refine rd_makeKS ?_
  | with_reducible refine rd_callN ?_
  | with_reducible refine rd_rs ?_
  | with_reducible refine rd_rf ?_
  | with_reducible refine rd_star ?_
  | with_reducible refine rd_callS ?_
  | with_reducible refine rd_for ?_
  | with_reducible refine rd_lc ?_
  | with_reducible refine rd_ilist ?_
  | with_reducible refine rd_itup ?_
  | with_reducible refine rd_irng ?_
  | with_reducible refine rd_izipS ?_
  | with_reducible refine rd_ienum ?_
  | with_reducible refine rd_ienT ?_
  | with_reducible refine rd_next ?_
  | with_reducible refine rd_eq rfl ?_
  | with_reducible refine rd_ne rfl ?_
  | with_reducible refine iteT ?_
  | with_reducible refine iteF ?_
  | with_reducible refine rd_ifnT ?_
  | with_reducible refine rd_ifnF ?_
  | ((with_reducible show rI (fun _ j => (0 : Int) < j) _ _ _ _ _); refine rd_mod (by omega) ?_)
  | with_reducible refine rd_new rfl ?_
  | ((with_reducible show rIxL _ _ (V.int 0) _ _); refine rd_ixL0 (by first | assumption | exact upd_same) ?_)
  | ((with_reducible show rIxL _ _ _ _ _); refine rd_ixL (by first | assumption | exact upd_same) rfl ?_)
  | ((with_reducible show rSetL _ _ _ _ _); refine rd_setL (by first | assumption | exact upd_same) rfl ?_)
  | ((with_reducible show rI CMul _ _ _ _ _); refine rd_mul (by first | exact Or.inl ⟨by omega, by omega⟩ | exact Or.inr ⟨by omega, by omega⟩) ?_)
  | ((with_reducible show tyV _ "list" _ _ ∧ _); refine rd_tyL (by first | assumption | exact upd_same) ?_)
  | ((with_reducible show rIxT _ _ (V.int 0) _ _); refine rd_ixT0 (by first | assumption | exact upd_same) ?_)
  | ((with_reducible show rIxT _ _ _ _ _); refine rd_ixT (by first | assumption | exact upd_same) rfl ?_))
local macro_rules | `(tactic| walk_at "rdn1") => `(tactic| first
  | with_reducible refine rd_seq ?_
  | with_reducible refine rd_asg ?_
  | ((with_reducible show tVar _ _ _ _); refine rd_var rfl ?_)
  | with_reducible refine rd_c ?_
  | with_reducible refine rd_op ?_
  | with_reducible refine rd_I0 ?_
  | with_reducible refine rd_name ?_
  | with_reducible refine rd_ret ?_
  | with_reducible refine rd_ifs ?_
  | with_reducible refine rd_test ?_
  | with_reducible refine rd_tB ?_
  | with_reducible refine rd_bl ?_
  | with_reducible refine rd_drop ?_
  | with_reducible refine rd_nil ?_
  | with_reducible refine rd_cons ?_
  | with_reducible refine rd_call ?_
  | with_reducible refine rd_cb ?_
  | with_reducible refine rd_tup ?_
  | with_reducible refine rd_lst ?_
  | with_reducible refine rd_and ?_
  | with_reducible refine rd_or ?_
  | with_reducible refine rd_not ?_
  | with_reducible refine rd_notV ?_
  | with_reducible refine rd_chain ?_
  | with_reducible refine rd_un ?_
  | with_reducible refine rd_isN ?_
  | with_reducible refine rd_bm ?_
  | with_reducible refine rd_bm0 ?_
  | with_reducible refine rd_gsub ?_
  | with_reducible refine rd_sl ?_
  | with_reducible refine rd_gt ?_
  | with_reducible refine rd_yes ?_
  | with_reducible refine rd_gcons ?_
  | with_reducible refine rd_gnil ?_
  | with_reducible refine rd_part ?_
  | with_reducible refine rd_nopart ?_
  | ((with_reducible show gTup _ _ _ _ _ _ _); refine rd_gtup (by first | assumption | exact upd_same) rfl ?_)
  | ((with_reducible show gLst _ _ _ _ _ _ _); refine rd_glst (by first | assumption | exact upd_same) rfl ?_)
  | ((with_reducible show rIsi _ _ _ _); first | refine rd_isi (b := true) (.ty _) (.base (by first | exact .int _ | exact .str _ | exact .bl _ | exact .non | exact .tup (by assumption) | exact .lst (by assumption))) (kit_ty (by decide +kernel)) ?_ | refine rd_isi (b := false) (.ty _) (.base (by first | exact .int _ | exact .str _ | exact .bl _ | exact .non | exact .tup (by assumption) | exact .lst (by assumption))) (kit_ty (by decide +kernel)) ?_)
  | with_reducible refine rd_fld ?_
  | with_reducible refine rd_sfld ?_
  | with_reducible refine rd_meth ?_
  | with_reducible refine rd_make ?_
  | with_reducible refine rd_makeK ?_
  | with_reducible refine rd_U ?_
  | with_reducible refine rd_makeKS ?_
  | with_reducible refine rd_callN ?_
  | with_reducible refine rd_rs ?_
  | with_reducible refine rd_rf ?_
  | with_reducible refine rd_star ?_
  | with_reducible refine rd_callS ?_
  | with_reducible refine rd_for ?_
  | with_reducible refine rd_lc ?_
  | with_reducible refine rd_ilist ?_
  | with_reducible refine rd_itup ?_
  | with_reducible refine rd_irng ?_
  | with_reducible refine rd_izipS ?_
  | with_reducible refine rd_ienum ?_
  | with_reducible refine rd_ienT ?_
  | with_reducible refine rd_next ?_
  | with_reducible refine rd_eq rfl ?_
  | with_reducible refine rd_ne rfl ?_
  | with_reducible refine iteT ?_
  | with_reducible refine iteF ?_
  | with_reducible refine rd_ifnT ?_
  | with_reducible refine rd_ifnF ?_
  | ((with_reducible show rI (fun _ j => (0 : Int) < j) _ _ _ _ _); refine rd_mod (by omega) ?_)
  | with_reducible refine rd_new rfl ?_
  | ((with_reducible show rIxL _ _ (V.int 0) _ _); refine rd_ixL0 (by first | assumption | exact upd_same) ?_)
  | ((with_reducible show rIxL _ _ _ _ _); refine rd_ixL (by first | assumption | exact upd_same) rfl ?_)
  | ((with_reducible show rSetL _ _ _ _ _); refine rd_setL (by first | assumption | exact upd_same) rfl ?_)
  | ((with_reducible show rI CMul _ _ _ _ _); refine rd_mul (by first | exact Or.inl ⟨by omega, by omega⟩ | exact Or.inr ⟨by omega, by omega⟩) ?_)
  | ((with_reducible show tyV _ "list" _ _ ∧ _); refine rd_tyL (by first | assumption | exact upd_same) ?_)
  | ((with_reducible show rIxT _ _ (V.int 0) _ _); refine rd_ixT0 (by first | assumption | exact upd_same) ?_)
  | ((with_reducible show rIxT _ _ _ _ _); refine rd_ixT (by first | assumption | exact upd_same) rfl ?_))
local macro_rules | `(tactic| walk_at "rd") => `(tactic| (repeat (first | walk_at "rd1" | dsimp only)))
local macro_rules | `(tactic| walk_at "rds") => `(tactic| (dsimp only [cxOf, Cx.nox, Cx.wish, Cx.blk, L2.start]; walk_at "rd"))
local macro_rules | `(tactic| walk_at "rdn") => `(tactic| (repeat (first | walk_at "rdn1" | dsimp only)))
section
variable {P : Program} {w : World} {K : PySem.W.Frag} {mg : Str → Option Value} {base : Heap}


def MG (xs : List Sg) (me : List (List Wd)) : Prop := me.length = xs.length ∧ ∀ ws ∈ me, ws.length ≤ 900 ∧ ∀ r g p, Wd.ptr r g p ∈ ws → 0 ≤ g ∧ g < (xs.length : Int) ∧ 0 ≤ p
theorem row_in {xs : List Sg} {b g p : Int} (hs : ∀ x ∈ xs, SgForm x ∧ sgFits x b xs.length = true) (g0 : 0 ≤ g) (gN : g < (xs.length : Int)) (hin : 0 ≤ p ∧ p < ((sgAt xs g).rs.length : Int)) : (rowAt xs g p).op ∈ actOps ∧ okOf (rowAt xs g p).op xs (rowAt xs g p).ns := by
  have hx1 : sgAt xs g ∈ xs := by
    unfold sgAt
    rw [List.getD_eq_getElem?_getD, List.getElem?_eq_getElem (by omega)]
    exact List.getElem_mem _
  have hrow : rowAt xs g p ∈ (sgAt xs g).rs := by
    unfold rowAt
    rw [List.getD_eq_getElem?_getD, List.getElem?_eq_getElem (by omega)]
    exact List.getElem_mem _
  obtain ⟨f1, f2⟩ := hs _ hx1
  have f3 : (sgAt xs g).rs.all (rowFits · (xs.length : Int)) = true := by
    unfold sgFits at f2
    simp only [Bool.and_eq_true] at f2
    exact f2.2.2.2.2.2.2
  exact row_okR (f1 _ hrow) (List.all_eq_true.mp f3 _ hrow)
theorem wf_step {xs : List Sg} {s : Rn} {g p : Int} (wf : WF xs s) (e : s.wh = some (g, p)) (h : s.st.length ≤ 899) : WF xs (s.stepTo g p) := by
  obtain ⟨g0, gN⟩ := wf.wh g p e
  exact ⟨wf.pt4, wf.ptg, wf.me, wf.mw, fun g' p' z => (by
    have z' : some (g, p + 1) = some (g', p') := z
    cases z'
    exact ⟨g0, gN⟩), wf.ca, wf.c8, by
      show (s.st ++ [_]).length ≤ 900
      rw [List.length_append]
      show s.st.length + 1 ≤ 900
      omega, wf.t9, Stk.at (x := (g, p)) (e ▸ wf.sk)⟩
theorem go_good {xs : List Sg} {b : Int} (hs : ∀ x ∈ xs, SgForm x ∧ sgFits x b xs.length = true) : ∀ (n : Nat) (s s' : Rn) (o : Option Str), WF xs s → s.to.length + n ≤ 1999 → s.st.length + n ≤ 900 → goR xs b n s = (s', o) → (o = none → WF xs s') ∧ MG xs s'.me
  | 0, s, s', o, wf, h1, h2, h => by
    unfold goR at h
    cases e : s.wh with
    | none =>
      rw [e] at h
      cases h
      exact ⟨fun _ => wf, wf.me, wf.mw⟩
    | some z =>
      obtain ⟨g, p⟩ := z
      rw [e] at h
      dsimp only at h
      split at h <;> cases h
      · exact ⟨fun z => (nomatch z), wf.me, wf.mw⟩
      · exact ⟨fun z => (nomatch z), wf.me, wf.mw⟩
  | n + 1, s, s', o, wf, h1, h2, h => by
    unfold goR at h
    cases e : s.wh with
    | none =>
      rw [e] at h
      cases h
      exact ⟨fun _ => wf, wf.me, wf.mw⟩
    | some z =>
      obtain ⟨g, p⟩ := z
      obtain ⟨g0, gN⟩ := wf.wh g p e
      rw [e] at h
      dsimp only at h
      by_cases hin : 0 ≤ p ∧ p < ((sgAt xs g).rs.length : Int)
      · rw [if_pos hin] at h
        obtain ⟨o1, o2⟩ := row_in hs g0 gN hin
        have wf6 := wf_step wf e (by omega)
        cases e7 : fnOf (rowAt xs g p).op xs b (s.stepTo g p) (rowAt xs g p).ns with
        | mk s7 o7 =>
          rw [e7] at h
          cases o7 with
          | some c =>
            cases h
            refine ⟨fun z => (nomatch z), ?_⟩
            rw [flt_me o1 e7]
            exact ⟨wf.me, wf.mw⟩
          | none =>
            have G := wf_keep wf6 (show s.to.length ≤ 1999 by omega) o1 o2 e7
            refine go_good hs n s7 s' o G.wf ?_ ?_ h
            · have := G.to
              have e8 : (s.stepTo g p).to.length = s.to.length := rfl
              omega
            · rw [G.st]
              show (s.st ++ [_]).length + n ≤ 900
              rw [List.length_append]
              show s.st.length + 1 + n ≤ 900
              omega
      · rw [if_neg hin] at h
        cases h
        exact ⟨fun z => (nomatch z), wf.me, wf.mw⟩
/-- the stand behind a deed is a good one -/
theorem deed_good {xs : List Sg} {b : Int} {sd : Sd} {op : Str} {ns : List Int} {n : Nat} (hs : ∀ x ∈ xs, SgForm x ∧ sgFits x b xs.length = true) (wf : WF xs (initR sd)) (ho : op ∈ actOps) (hk : okOf op xs ns) (hn : n ≤ 800) (r : Int) : WF xs (initR ((deedR xs b n (initR sd) op ns).1.sd r)) := by
  unfold deedR
  cases e : fnOf op xs b (initR sd) ns with
  | mk s1 o =>
    cases o with
    | some c =>
      dsimp only
      have em := flt_me ho e
      exact wf_lost r (by rw [em]; exact wf.me) (by rw [em]; exact wf.mw)
    | none =>
      dsimp only
      have G := wf_keep wf (Nat.zero_le _) ho hk e
      have e1 : (initR sd).to.length = 0 := rfl
      have e2 : s1.st.length = 0 := by rw [G.st]; rfl
      have g1 := G.to
      cases eg : goR xs b n s1 with
      | mk s2 o2 =>
        obtain ⟨q1, q2⟩ := go_good hs n s1 s2 o2 G.wf (by omega) (by omega) eg
        cases o2 with
        | none => exact wf_init r (q1 rfl)
        | some c => exact wf_lost r q2.1 q2.2
theorem on_pre {xs : List Sg} {b : Int} {sd : Sd} {op : Str} {ns : List Int} {n : Nat} (wf : WF xs (initR sd)) (ho : op ∈ actOps) (hk : okOf op xs ns) (hn : n ≤ 800) : ∀ s', fnOf op xs b (initR sd) ns = (s', none) → OnPre actOps xs b n s' := fun s' e => by
  have G := wf_keep wf (Nat.zero_le _) ho hk e
  exact .inr ⟨fun z hz => hz, G.wf, G.st, G.to, n, hn, .inl rfl⟩
theorem go_more {xs : List Sg} {b : Int} : ∀ (n0 n : Nat) (s : Rn), n0 ≤ n → (goR xs b n0 s).2 ≠ some ("long" : Str) → goR xs b n s = goR xs b n0 s
  | 0, n, s, _, h => by
    cases e : s.wh with
    | none =>
      have e1 : goR xs b 0 s = (s, none) := by unfold goR; rw [e]
      rw [e1]
      cases n <;> (unfold goR; rw [e])
    | some z =>
      obtain ⟨g, p⟩ := z
      by_cases hin : 0 ≤ p ∧ p < ((sgAt xs g).rs.length : Int)
      · exfalso
        apply h
        unfold goR
        rw [e]
        dsimp only
        rw [if_pos hin]
      · have e1 : goR xs b 0 s = (s, some ("row" : Str)) := by unfold goR; rw [e]; dsimp only; rw [if_neg hin]
        rw [e1]
        cases n <;> (unfold goR; rw [e]; dsimp only; rw [if_neg hin])
  | n0 + 1, 0, s, hn, _ => by omega
  | n0 + 1, n + 1, s, hn, h => by
    cases e : s.wh with
    | none => unfold goR; rw [e]
    | some z =>
      obtain ⟨g, p⟩ := z
      by_cases hin : 0 ≤ p ∧ p < ((sgAt xs g).rs.length : Int)
      · cases e7 : fnOf (rowAt xs g p).op xs b (s.stepTo g p) (rowAt xs g p).ns with
        | mk s7 o7 =>
          cases o7 with
          | some c =>
            have f : ∀ m, goR xs b (m + 1) s = (s7, some c) := fun m => by
              conv => lhs; unfold goR
              rw [e]; dsimp only; rw [if_pos hin, e7]
            rw [f, f]
          | none =>
            have f : ∀ m, goR xs b (m + 1) s = goR xs b m s7 := fun m => by
              conv => lhs; unfold goR
              rw [e]; dsimp only; rw [if_pos hin, e7]
            rw [f] at h
            rw [f, f]
            exact go_more n0 n s7 (by omega) h
      · have f : ∀ m, goR xs b (m + 1) s = (s, some ("row" : Str)) := fun m => by
          conv => lhs; unfold goR
          rw [e]; dsimp only; rw [if_neg hin]
        rw [f, f]
theorem ok_pair {s : Sd} {o : Option Str} {xs : List Sg} (h : WF xs (initR s)) (hN : xs.length ≤ 8) : okN 6 (.tuple [s.d, toldD o]) := by
  refine ⟨by show 2 ≤ 1000000; decide, fun e he => ?_⟩
  rcases List.mem_cons.mp he with rfl | he
  · exact Sd.ok (by have h1 : s.pt.length = 4 := h.pt4; omega) (by have h1 : s.me.length = xs.length := h.me; omega) (fun ws hw => by have := (h.mw ws hw).1; omega)
  · rw [List.mem_singleton.mp he]
    cases o with
    | none => exact ⟨by show 1 ≤ 1000000; decide, fun e he => by rw [List.mem_singleton.mp he]; trivial⟩
    | some c => exact ⟨by show 2 ≤ 1000000; decide, fun e he => by
        rcases List.mem_cons.mp he with rfl | he
        · trivial
        · rw [List.mem_singleton.mp he]; trivial⟩

end
end Rg

namespace Rg
open PySem PySem.Spec L2
local macro_rules | `(tactic| walk_at "rd1") => `(tactic| first
  | with_reducible refine rd_seq ?_
  | with_reducible refine rd_asg ?_
  | ((with_reducible show tVar _ _ _ _); refine rd_var rfl ?_)
  | with_reducible refine rd_c ?_
  | with_reducible refine rd_op ?_
  | with_reducible refine rd_I0 ?_
  | with_reducible refine rd_name ?_
  | with_reducible refine rd_ret ?_
  | with_reducible refine rd_ifs ?_
  | with_reducible refine rd_test ?_
  | with_reducible refine rd_tB ?_
  | with_reducible refine rd_bl ?_
  | with_reducible refine rd_drop ?_
  | with_reducible refine rd_nil ?_
  | with_reducible refine rd_cons ?_
  | with_reducible refine rd_call ?_
  | with_reducible refine rd_cb ?_
  | with_reducible refine rd_tup ?_
  | with_reducible refine rd_lst ?_
  | with_reducible refine rd_and ?_
  | with_reducible refine rd_or ?_
  | with_reducible refine rd_not ?_
  | with_reducible refine rd_andV ?_
  | with_reducible refine rd_orV ?_
  | with_reducible refine rd_notV ?_
  | with_reducible refine rd_chain ?_
  | with_reducible refine rd_un ?_
  | with_reducible refine rd_isN ?_
  | with_reducible refine rd_bm ?_
  | with_reducible refine rd_bm0 ?_
  | with_reducible refine rd_gsub ?_
  | with_reducible refine rd_sl ?_
  | with_reducible refine rd_gt ?_
  | with_reducible refine rd_yes ?_
  | with_reducible refine rd_gcons ?_
  | with_reducible refine rd_gnil ?_
  | with_reducible refine rd_part ?_
  | with_reducible refine rd_nopart ?_
  | ((with_reducible show gTup _ _ _ _ _ _ _); refine rd_gtup (by first | assumption | exact upd_same) rfl ?_)
  | ((with_reducible show gLst _ _ _ _ _ _ _); refine rd_glst (by first | assumption | exact upd_same) rfl ?_)
  | ((with_reducible show rIsi _ _ _ _); first | refine rd_isi (b := true) (.ty _) (.base (by first | exact .int _ | exact .str _ | exact .bl _ | exact .non | exact .tup (by assumption) | exact .lst (by assumption))) (kit_ty (by decide +kernel)) ?_ | refine rd_isi (b := false) (.ty _) (.base (by first | exact .int _ | exact .str _ | exact .bl _ | exact .non | exact .tup (by assumption) | exact .lst (by assumption))) (kit_ty (by decide +kernel)) ?_)
  | with_reducible refine rd_fld ?_
  | with_reducible refine rd_sfld ?_
  | with_reducible refine rd_meth ?_
  | with_reducible refine rd_make ?_
  | with_reducible refine rd_makeK ?_
  | with_reducible refine rd_U ?_
  | with_reducible refine rd_makeKS ?_
  | with_reducible refine rd_callN ?_
  | with_reducible refine rd_rs ?_
  | with_reducible refine rd_rf ?_
  | with_reducible refine rd_star ?_
  | with_reducible refine rd_callS ?_
  | with_reducible refine rd_for ?_
  | with_reducible refine rd_lc ?_
  | with_reducible refine rd_ilist ?_
  | with_reducible refine rd_itup ?_
  | with_reducible refine rd_irng ?_
  | with_reducible refine rd_izipS ?_
  | with_reducible refine rd_ienum ?_
  | with_reducible refine rd_ienT ?_
  | with_reducible refine rd_next ?_
  | with_reducible refine rd_eq rfl ?_
  | with_reducible refine rd_ne rfl ?_
  | with_reducible refine iteT ?_
  | with_reducible refine iteF ?_
  | with_reducible refine rd_ifnT ?_
  | with_reducible refine rd_ifnF ?_
  | ((with_reducible show rI (fun _ j => (0 : Int) < j) _ _ _ _ _); refine rd_mod (by omega) ?_)
  | with_reducible refine rd_new rfl ?_
  | ((with_reducible show rIxL _ _ (V.int 0) _ _); refine rd_ixL0 (by first | assumption | exact upd_same) ?_)
  | ((with_reducible show rIxL _ _ _ _ _); refine rd_ixL (by first | assumption | exact upd_same) rfl ?_)
  | ((with_reducible show rSetL _ _ _ _ _); refine rd_setL (by first | assumption | exact upd_same) rfl ?_)
  | ((with_reducible show rI CMul _ _ _ _ _); refine rd_mul (by first | exact Or.inl ⟨by omega, by omega⟩ | exact Or.inr ⟨by omega, by omega⟩) ?_)
  | ((with_reducible show tyV _ "list" _ _ ∧ _); refine rd_tyL (by first | assumption | exact upd_same) ?_)
  | ((with_reducible show rIxT _ _ (V.int 0) _ _); refine rd_ixT0 (by first | assumption | exact upd_same) ?_)
  | ((with_reducible show rIxT _ _ _ _ _); refine rd_ixT (by first | assumption | exact upd_same) rfl ?_))
local macro_rules | `(tactic| walk_at "rdn1") => `(tactic| first
  | with_reducible refine rd_seq ?_
  | with_reducible refine rd_asg ?_
  | ((with_reducible show tVar _ _ _ _); refine rd_var rfl ?_)
  | with_reducible refine rd_c ?_
  | with_reducible refine rd_op ?_
  | with_reducible refine rd_I0 ?_
  | with_reducible refine rd_name ?_
  | with_reducible refine rd_ret ?_
  | with_reducible refine rd_ifs ?_
  | with_reducible refine rd_test ?_
  | with_reducible refine rd_tB ?_
  | with_reducible refine rd_bl ?_
  | with_reducible refine rd_drop ?_
  | with_reducible refine rd_nil ?_
  | with_reducible refine rd_cons ?_
  | with_reducible refine rd_call ?_
  | with_reducible refine rd_cb ?_
  | with_reducible refine rd_tup ?_
  | with_reducible refine rd_lst ?_
  | with_reducible refine rd_and ?_
  | with_reducible refine rd_or ?_
  | with_reducible refine rd_not ?_
  | with_reducible refine rd_notV ?_
  | with_reducible refine rd_chain ?_
  | with_reducible refine rd_un ?_
  | with_reducible refine rd_isN ?_
  | with_reducible refine rd_bm ?_
  | with_reducible refine rd_bm0 ?_
  | with_reducible refine rd_gsub ?_
  | with_reducible refine rd_sl ?_
  | with_reducible refine rd_gt ?_
  | with_reducible refine rd_yes ?_
  | with_reducible refine rd_gcons ?_
  | with_reducible refine rd_gnil ?_
  | with_reducible refine rd_part ?_
  | with_reducible refine rd_nopart ?_
  | ((with_reducible show gTup _ _ _ _ _ _ _); refine rd_gtup (by first | assumption | exact upd_same) rfl ?_)
  | ((with_reducible show gLst _ _ _ _ _ _ _); refine rd_glst (by first | assumption | exact upd_same) rfl ?_)
  | ((with_reducible show rIsi _ _ _ _); first | refine rd_isi (b := true) (.ty _) (.base (by first | exact .int _ | exact .str _ | exact .bl _ | exact .non | exact .tup (by assumption) | exact .lst (by assumption))) (kit_ty (by decide +kernel)) ?_ | refine rd_isi (b := false) (.ty _) (.base (by first | exact .int _ | exact .str _ | exact .bl _ | exact .non | exact .tup (by assumption) | exact .lst (by assumption))) (kit_ty (by decide +kernel)) ?_)
  | with_reducible refine rd_fld ?_
  | with_reducible refine rd_sfld ?_
  | with_reducible refine rd_meth ?_
  | with_reducible refine rd_make ?_
  | with_reducible refine rd_makeK ?_
  | with_reducible refine rd_U ?_
  | with_reducible refine rd_makeKS ?_
  | with_reducible refine rd_callN ?_
  | with_reducible refine rd_rs ?_
  | with_reducible refine rd_rf ?_
  | with_reducible refine rd_star ?_
  | with_reducible refine rd_callS ?_
  | with_reducible refine rd_for ?_
  | with_reducible refine rd_lc ?_
  | with_reducible refine rd_ilist ?_
  | with_reducible refine rd_itup ?_
  | with_reducible refine rd_irng ?_
  | with_reducible refine rd_izipS ?_
  | with_reducible refine rd_ienum ?_
  | with_reducible refine rd_ienT ?_
  | with_reducible refine rd_next ?_
  | with_reducible refine rd_eq rfl ?_
  | with_reducible refine rd_ne rfl ?_
  | with_reducible refine iteT ?_
  | with_reducible refine iteF ?_
  | with_reducible refine rd_ifnT ?_
  | with_reducible refine rd_ifnF ?_
  | ((with_reducible show rI (fun _ j => (0 : Int) < j) _ _ _ _ _); refine rd_mod (by omega) ?_)
  | with_reducible refine rd_new rfl ?_
  | ((with_reducible show rIxL _ _ (V.int 0) _ _); refine rd_ixL0 (by first | assumption | exact upd_same) ?_)
  | ((with_reducible show rIxL _ _ _ _ _); refine rd_ixL (by first | assumption | exact upd_same) rfl ?_)
  | ((with_reducible show rSetL _ _ _ _ _); refine rd_setL (by first | assumption | exact upd_same) rfl ?_)
  | ((with_reducible show rI CMul _ _ _ _ _); refine rd_mul (by first | exact Or.inl ⟨by omega, by omega⟩ | exact Or.inr ⟨by omega, by omega⟩) ?_)
  | ((with_reducible show tyV _ "list" _ _ ∧ _); refine rd_tyL (by first | assumption | exact upd_same) ?_)
  | ((with_reducible show rIxT _ _ (V.int 0) _ _); refine rd_ixT0 (by first | assumption | exact upd_same) ?_)
  | ((with_reducible show rIxT _ _ _ _ _); refine rd_ixT (by first | assumption | exact upd_same) rfl ?_))
local macro_rules | `(tactic| walk_at "rd") => `(tactic| (repeat (first | walk_at "rd1" | dsimp only)))
local macro_rules | `(tactic| walk_at "rds") => `(tactic| (dsimp only [cxOf, Cx.nox, Cx.wish, Cx.blk, L2.start]; walk_at "rd"))
local macro_rules | `(tactic| walk_at "rdn") => `(tactic| (repeat (first | walk_at "rdn1" | dsimp only)))
section
variable {P : Program} {w : World} {K : PySem.W.Frag} {mg : Str → Option Value} {base : Heap}

/-! what a row does, told once; the way of the rows that run -/
def causesL : List Str := ["pointer", "bounds", "read", "write", "kind", "run", "entry", "gate", "call", "deep", "row", "hand", "long"]
def earlyL : List Str := ["pointer", "run", "entry", "gate", "call"]
structure Spot (xs : List Sg) (s : Rn) (e g p : Int) : Prop where
  g0 : 0 ≤ g
  gN : g < (xs.length : Int)
  p0 : 0 ≤ p
  pN : p < ((s.mem g).length : Int)
  r : ∃ r pl, some (r, g, pl) ∈ s.pt ∧ e = mx s.ring r
structure Pln (op : Str) : Prop where
  c : op ≠ "call"
  r : op ≠ "return"
inductive Eff (xs : List Sg) (b : Int) (op : Str) (s : Rn) : Rn → Option Str → Prop
  | flt (c : Str) : c ∈ causesL → (op = "call" → c ∈ earlyL ∨ 8 ≤ s.ca.length) → Eff xs b op s s (some c)
  | kind (e g p : Int) : Pln op → Spot xs s e g p → mRead (sgAt xs g) e = true → Eff xs b op s (s.touch e g p "r") (some "kind")
  | num (n : Int) : Pln op → 0 ≤ n → n < b → Eff xs b op s { s with a := n } none
  | load (e g p n : Int) : Pln op → Spot xs s e g p → mRead (sgAt xs g) e = true → s.wordAt g p = .num n → Eff xs b op s { s.touch e g p "r" with a := n } none
  | fetch (e g p r g' p' q : Int) : Pln op → Spot xs s e g p → mRead (sgAt xs g) e = true → s.wordAt g p = .ptr r g' p' → Eff xs b op s ((s.touch e g p "r").ptrSet q (some (mx (mx r e) (sgAt xs g).r1, g', p'))) none
  | write (e g p : Int) (x : Wd) : Pln op → Spot xs s e g p → mWrite (sgAt xs g) e = true → (x = .num s.a ∨ ∃ r g' p', some (r, g', p') ∈ s.pt ∧ x = .ptr r g' p') → Eff xs b op s ((s.touch e g p "w").put g p x) none
  | aim (q g p : Int) : Pln op → 0 ≤ g → g < (xs.length : Int) → 0 ≤ p → Eff xs b op s (s.ptrSet q (some (s.ring, g, p))) none
  | move (q r g p p' : Int) : Pln op → some (r, g, p) ∈ s.pt → 0 ≤ p' → Eff xs b op s (s.ptrSet q (some (r, g, p'))) none
  | jump (g p j : Int) : Pln op → s.wh = some (g, p) → Eff xs b op s { s with wh := some (g, j) } none
  | stay : Pln op → s.wh ≠ none → Eff xs b op s s none
  | call (r g pl e : Int) : op = "call" → some (r, g, pl) ∈ s.pt → enteredR (sgAt xs g) pl (mx s.ring r) = .ok e → s.ca.length < 8 → Eff xs b op s (({ s with ca := s.ca ++ [(s.ring, s.wh)] } : Rn).enter e (some (g, pl))) none
  | ret (r : Int) (w : Option (Int × Int)) (x : Int × Int) : op = "return" → s.wh = some x → s.ca.getLast? = some (r, w) → Eff xs b op s (({ s with ca := s.ca.dropLast } : Rn).enter r w) none
theorem spot_r {s : Rn} {p w e g pl : Int} {xs : List Sg} (wf : WF xs s) (p0 : 0 ≤ p) (p4 : p < 4) (h : spotR s p w = .ok (e, g, pl)) : Spot xs s e g pl := by
  obtain ⟨a1, a2, a3, a4⟩ := spot_in wf p0 p4 h
  refine ⟨a1, a2, a3, a4, ?_⟩
  unfold spotR at h
  cases e1 : s.ptr p with
  | none => rw [e1] at h; cases h
  | some z =>
    obtain ⟨r1, g1, pl1⟩ := z
    rw [e1] at h
    dsimp only at h
    split at h
    · cases h
      exact ⟨r1, pl1, ptr_mem wf.pt4 p0 p4 e1, rfl⟩
    · cases h
theorem spot_c {s : Rn} {p w : Int} {c : Str} (h : spotR s p w = .error c) : c ∈ causesL := by
  unfold spotR at h
  cases e : s.ptr p with
  | none => rw [e] at h; cases h; decide +kernel
  | some z =>
    obtain ⟨r, g, pl⟩ := z
    rw [e] at h
    dsimp only at h
    split at h
    · cases h
    · cases h; decide +kernel
theorem read_c {xs : List Sg} {s : Rn} {p w : Int} {c : Str} (h : readR xs s p w = .error c) : c ∈ causesL := by
  unfold readR at h
  cases hs : spotR s p w with
  | error c => rw [hs] at h; cases h; exact spot_c hs
  | ok z =>
    obtain ⟨e1, g1, pl⟩ := z
    rw [hs] at h
    dsimp only at h
    split at h
    · cases h
    · cases h; decide +kernel
theorem read_r {xs : List Sg} {s s' : Rn} {p w e g : Int} {wd : Wd} (wf : WF xs s) (p0 : 0 ≤ p) (p4 : p < 4) (h : readR xs s p w = .ok (wd, e, g, s')) : ∃ pl, Spot xs s e g pl ∧ mRead (sgAt xs g) e = true ∧ wd = s.wordAt g pl ∧ s' = s.touch e g pl "r" := by
  unfold readR at h
  cases hs : spotR s p w with
  | error c => rw [hs] at h; cases h
  | ok z =>
    obtain ⟨e1, g1, pl⟩ := z
    rw [hs] at h
    dsimp only at h
    by_cases hc : mRead (sgAt xs g1) e1 = true
    · rw [if_pos hc] at h
      cases h
      exact ⟨pl, spot_r wf p0 p4 hs, hc, rfl, rfl⟩
    · rw [if_neg hc] at h
      cases h
theorem write_e {xs : List Sg} {b : Int} {op : Str} {s s' : Rn} {o : Option Str} {p w : Int} {wd : Wd} (wf : WF xs s) (p0 : 0 ≤ p) (p4 : p < 4) (pl : Pln op) (hw : wd = .num s.a ∨ ∃ r g' p', some (r, g', p') ∈ s.pt ∧ wd = .ptr r g' p') (h : writeR xs s p w wd = (s', o)) : Eff xs b op s s' o := by
  unfold writeR at h
  cases hs : spotR s p w with
  | error c => rw [hs] at h; cases h; exact .flt _ (spot_c hs) fun z => absurd z pl.c
  | ok z =>
    obtain ⟨e1, g1, pl1⟩ := z
    rw [hs] at h
    dsimp only at h
    by_cases hc : mWrite (sgAt xs g1) e1 = true
    · rw [if_pos hc] at h
      cases h
      exact .write _ _ _ _ pl (spot_r wf p0 p4 hs) hc hw
    · rw [if_neg hc] at h
      cases h
      exact .flt _ (by decide +kernel) fun z => absurd z pl.c
theorem ent_c {x : Sg} {pl e : Int} {c : Str} (h : enteredR x pl e = .error c) : c ∈ earlyL := by
  unfold enteredR at h
  split at h
  · cases h; decide +kernel
  split at h
  · cases h; decide +kernel
  split at h
  · cases h
  split at h
  · cases h; decide +kernel
  split at h
  · cases h; decide +kernel
  · cases h
theorem early_all : ∀ c ∈ earlyL, c ∈ causesL := by decide +kernel
theorem eff_of {xs : List Sg} {b : Int} {s s' : Rn} {o : Option Str} {op : Str} {ns : List Int} (wf : WF xs s) (b2 : 2 ≤ b) (ho : op ∈ actOps) (hk : okOf op xs ns) (h : fnOf op xs b s ns = (s', o)) : Eff xs b op s s' o := by
  unfold actOps at ho
  simp only [List.mem_cons, List.not_mem_nil, or_false] at ho
  rcases ho with rfl | rfl | rfl | rfl | rfl | rfl | rfl | rfl | rfl | rfl | rfl | rfl
  · rw [fn_set] at h
    cases h
    exact .num _ ⟨by decide +kernel, by decide +kernel⟩ (Int.emod_nonneg _ (by omega)) (Int.emod_lt_of_pos _ (by omega))
  · rw [fn_add] at h
    cases h
    exact .num _ ⟨by decide +kernel, by decide +kernel⟩ (Int.emod_nonneg _ (by omega)) (Int.emod_lt_of_pos _ (by omega))
  · have pl : Pln "load" := ⟨by decide +kernel, by decide +kernel⟩
    rw [fn_load] at h
    rw [ko_load] at hk
    obtain ⟨p, w, rfl, p0, p4⟩ := hk
    replace h : rLoad xs s p w = (s', o) := h
    unfold rLoad at h
    cases hr : readR xs s p w with
    | error c => rw [hr] at h; cases h; exact .flt _ (read_c hr) fun z => absurd z pl.c
    | ok z =>
      obtain ⟨wd, e, g, s1⟩ := z
      obtain ⟨pp, h1, h2, h3, rfl⟩ := read_r wf p0 p4 hr
      rw [hr] at h
      cases wd with
      | num n => cases h; exact .load _ _ _ _ pl h1 h2 h3.symm
      | ptr a1 a2 a3 => cases h; exact .kind _ _ _ pl h1 h2
  · have pl : Pln "store" := ⟨by decide +kernel, by decide +kernel⟩
    rw [fn_store] at h
    rw [ko_store] at hk
    obtain ⟨p, w, rfl, p0, p4⟩ := hk
    exact write_e (wd := .num s.a) wf p0 p4 pl (.inl rfl) h
  · have pl : Pln "fetch" := ⟨by decide +kernel, by decide +kernel⟩
    rw [fn_fetch] at h
    rw [ko_fetch] at hk
    obtain ⟨q, p, w, rfl, q0, q4, p0, p4⟩ := hk
    replace h : rFetch xs s q p w = (s', o) := h
    unfold rFetch at h
    cases hr : readR xs s p w with
    | error c => rw [hr] at h; cases h; exact .flt _ (read_c hr) fun z => absurd z pl.c
    | ok z =>
      obtain ⟨wd, e, g, s1⟩ := z
      obtain ⟨pp, h1, h2, h3, rfl⟩ := read_r wf p0 p4 hr
      rw [hr] at h
      cases wd with
      | num n => cases h; exact .kind _ _ _ pl h1 h2
      | ptr a1 a2 a3 => cases h; exact .fetch _ _ _ _ _ _ _ pl h1 h2 h3.symm
  · have pl : Pln "keep" := ⟨by decide +kernel, by decide +kernel⟩
    rw [fn_keep] at h
    rw [ko_keep] at hk
    obtain ⟨q, p, w, rfl, q0, q4, p0, p4⟩ := hk
    replace h : rKeep xs s q p w = (s', o) := h
    unfold rKeep at h
    cases e : s.ptr q with
    | none => rw [e] at h; cases h; exact .flt _ (by decide +kernel) fun z => absurd z pl.c
    | some z =>
      obtain ⟨r1, g1, pl1⟩ := z
      rw [e] at h
      exact write_e wf p0 p4 pl (.inr ⟨_, _, _, ptr_mem wf.pt4 q0 q4 e, rfl⟩) h
  · have pl : Pln "aim" := ⟨by decide +kernel, by decide +kernel⟩
    rw [fn_aim] at h
    rw [ko_aim] at hk
    obtain ⟨q, g, w, rfl, q0, q4, g0, gN⟩ := hk
    replace h : rAim s q g w = (s', o) := h
    unfold rAim at h
    by_cases hw : w < 0
    · rw [if_pos hw] at h; cases h; exact .flt _ (by decide +kernel) fun z => absurd z pl.c
    · rw [if_neg hw] at h
      cases h
      exact .aim _ _ _ pl g0 gN (by omega)
  · have pl : Pln "move" := ⟨by decide +kernel, by decide +kernel⟩
    rw [fn_move] at h
    rw [ko_move] at hk
    obtain ⟨q, p, n, rfl, q0, q4, p0, p4⟩ := hk
    replace h : rMove s q p n = (s', o) := h
    unfold rMove at h
    cases e : s.ptr p with
    | none => rw [e] at h; cases h; exact .flt _ (by decide +kernel) fun z => absurd z pl.c
    | some z =>
      obtain ⟨r1, g1, pl1⟩ := z
      rw [e] at h
      dsimp only at h
      by_cases hw : pl1 + n < 0
      · rw [if_pos hw] at h; cases h; exact .flt _ (by decide +kernel) fun z => absurd z pl.c
      · rw [if_neg hw] at h
        cases h
        exact .move _ _ _ _ _ pl (ptr_mem wf.pt4 p0 p4 e) (by omega)
  · have pl : Pln "zero" := ⟨by decide +kernel, by decide +kernel⟩
    rw [fn_zero] at h
    replace h : rZero s (one ns) = (s', o) := h
    unfold rZero at h
    cases e : s.wh with
    | none => rw [e] at h; cases h; exact .flt _ (by decide +kernel) fun z => absurd z pl.c
    | some z =>
      obtain ⟨g1, pl1⟩ := z
      rw [e] at h
      dsimp only at h
      by_cases hw : s.a = 0
      · rw [if_pos hw] at h
        cases h
        exact .jump _ _ _ pl e
      · rw [if_neg hw] at h
        cases h
        exact .stay pl (by rw [e]; exact fun z => nomatch z)
  · have pl : Pln "go" := ⟨by decide +kernel, by decide +kernel⟩
    rw [fn_go] at h
    replace h : rGo s (one ns) = (s', o) := h
    unfold rGo at h
    cases e : s.wh with
    | none => rw [e] at h; cases h; exact .flt _ (by decide +kernel) fun z => absurd z pl.c
    | some z =>
      obtain ⟨g1, pl1⟩ := z
      rw [e] at h
      cases h
      exact .jump _ _ _ pl e
  · rw [fn_call] at h
    rw [ko_call] at hk
    obtain ⟨p, rfl, p0, p4⟩ := hk
    replace h : rCall xs s p = (s', o) := h
    unfold rCall at h
    cases e : s.ptr p with
    | none => rw [e] at h; cases h; exact .flt _ (by decide +kernel) fun _ => .inl (by decide +kernel)
    | some z =>
      obtain ⟨r1, g1, pl1⟩ := z
      rw [e] at h
      dsimp only at h
      cases e2 : enteredR (sgAt xs g1) pl1 (mx s.ring r1) with
      | error c => rw [e2] at h; cases h; exact .flt _ (early_all _ (ent_c e2)) fun _ => .inl (ent_c e2)
      | ok e3 =>
        rw [e2] at h
        dsimp only at h
        by_cases h8 : 8 ≤ s.ca.length
        · rw [if_pos h8] at h; cases h; exact .flt _ (by decide +kernel) fun _ => .inr h8
        · rw [if_neg h8] at h
          cases h
          exact .call _ _ _ _ rfl (ptr_mem wf.pt4 p0 p4 e) e2 (by omega)
  · rw [fn_return] at h
    replace h : rRet s = (s', o) := h
    unfold rRet at h
    cases e : s.wh with
    | none => rw [e] at h; cases h; exact .flt _ (by decide +kernel) fun z => absurd z (by decide +kernel)
    | some z =>
      obtain ⟨g1, pl1⟩ := z
      rw [e] at h
      dsimp only at h
      cases e2 : s.ca.getLast? with
      | none => rw [e2] at h; cases h; exact .flt _ (by decide +kernel) fun z => absurd z (by decide +kernel)
      | some c =>
        obtain ⟨r, w⟩ := c
        rw [e2] at h
        cases h
        exact .ret _ _ _ rfl e e2
/-- the rows that run, with what holds ahead of each -/
inductive GoEnd (xs : List Sg) (b : Int) (I : Rn → Prop) (s' : Rn) (o : Option Str) : Prop
  | fin : o = none → s'.wh = none → WF xs s' → I s' → GoEnd xs b I s' o
  | out (g p : Int) : s'.wh = some (g, p) → WF xs s' → I s' → (o = some "row" ∨ o = some "long") → GoEnd xs b I s' o
  | bad (s : Rn) (g p : Int) (c : Str) : s.wh = some (g, p) → 0 ≤ p → p < ((sgAt xs g).rs.length : Int) → WF xs s → WF xs (s.stepTo g p) → I s → o = some c → Eff xs b (rowAt xs g p).op (s.stepTo g p) s' o → GoEnd xs b I s' o
theorem go_ind {xs : List Sg} {b : Int} {I : Rn → Prop} (b2 : 2 ≤ b) (hs : ∀ x ∈ xs, SgForm x ∧ sgFits x b xs.length = true) (st : ∀ (s : Rn) (g p : Int) (s' : Rn), s.wh = some (g, p) → 0 ≤ p → p < ((sgAt xs g).rs.length : Int) → WF xs s → WF xs (s.stepTo g p) → WF xs s' → I s → Eff xs b (rowAt xs g p).op (s.stepTo g p) s' none → I s') :
    ∀ (n : Nat) (s s' : Rn) (o : Option Str), WF xs s → s.to.length + n ≤ 1999 → s.st.length + n ≤ 900 → I s → goR xs b n s = (s', o) → GoEnd xs b I s' o
  | 0, s, s', o, wf, h1, h2, hi, h => by
    unfold goR at h
    cases e : s.wh with
    | none =>
      rw [e] at h
      cases h
      exact .fin rfl e wf hi
    | some z =>
      obtain ⟨g, p⟩ := z
      rw [e] at h
      dsimp only at h
      split at h <;> cases h
      · exact .out g p e wf hi (.inr rfl)
      · exact .out g p e wf hi (.inl rfl)
  | n + 1, s, s', o, wf, h1, h2, hi, h => by
    unfold goR at h
    cases e : s.wh with
    | none =>
      rw [e] at h
      cases h
      exact .fin rfl e wf hi
    | some z =>
      obtain ⟨g, p⟩ := z
      obtain ⟨g0, gN⟩ := wf.wh g p e
      rw [e] at h
      dsimp only at h
      by_cases hin : 0 ≤ p ∧ p < ((sgAt xs g).rs.length : Int)
      · rw [if_pos hin] at h
        obtain ⟨o1, o2⟩ := row_in hs g0 gN hin
        have wf6 := wf_step wf e (by omega)
        cases e7 : fnOf (rowAt xs g p).op xs b (s.stepTo g p) (rowAt xs g p).ns with
        | mk s7 o7 =>
          rw [e7] at h
          have E := eff_of wf6 b2 o1 o2 e7
          cases o7 with
          | some c =>
            cases h
            exact .bad s g p c e hin.1 hin.2 wf wf6 hi rfl E
          | none =>
            have G := wf_keep wf6 (show s.to.length ≤ 1999 by omega) o1 o2 e7
            refine go_ind b2 hs st n s7 s' o G.wf ?_ ?_ (st s g p s7 e hin.1 hin.2 wf wf6 G.wf hi E) h
            · have := G.to
              have e8 : (s.stepTo g p).to.length = s.to.length := rfl
              omega
            · rw [G.st]
              show (s.st ++ [_]).length + n ≤ 900
              rw [List.length_append]
              show s.st.length + 1 + n ≤ 900
              omega
      · rw [if_neg hin] at h
        cases h
        exact .out g p e wf hi (.inl rfl)
/-- a deed of the hand: how it ends -/
inductive DeedEnd (xs : List Sg) (b : Int) (sd : Sd) (op : Str) (I : Rn → Prop) (s' : Rn) (o : Option Str) : Prop
  | flt (c : Str) (s1 : Rn) : o = some c → Eff xs b op (initR sd) s1 (some c) → s' = s1.lost → DeedEnd xs b sd op I s' o
  | run (s1 s2 : Rn) : Eff xs b op (initR sd) s1 none → WF xs s1 → I s1 → GoEnd xs b I s2 o → s' = (if o = none then s2 else s2.lost) → DeedEnd xs b sd op I s' o
theorem deed_ind {xs : List Sg} {b : Int} {I : Rn → Prop} {sd : Sd} {op : Str} {ns : List Int} {n : Nat} (b2 : 2 ≤ b) (hs : ∀ x ∈ xs, SgForm x ∧ sgFits x b xs.length = true) (wf : WF xs (initR sd)) (ho : op ∈ actOps) (hk : okOf op xs ns) (hn : n ≤ 800)
    (h0 : ∀ s1, WF xs s1 → Eff xs b op (initR sd) s1 none → I s1)
    (st : ∀ (s : Rn) (g p : Int) (s' : Rn), s.wh = some (g, p) → 0 ≤ p → p < ((sgAt xs g).rs.length : Int) → WF xs s → WF xs (s.stepTo g p) → WF xs s' → I s → Eff xs b (rowAt xs g p).op (s.stepTo g p) s' none → I s') :
    DeedEnd xs b sd op I (deedR xs b n (initR sd) op ns).1 (deedR xs b n (initR sd) op ns).2 := by
  unfold deedR
  cases e : fnOf op xs b (initR sd) ns with
  | mk s1 o =>
    have E := eff_of wf b2 ho hk e
    cases o with
    | some c => exact .flt c s1 rfl E rfl
    | none =>
      have G := wf_keep wf (Nat.zero_le _) ho hk e
      have e1 : (initR sd).to.length = 0 := rfl
      have e2 : s1.st.length = 0 := by rw [G.st]; rfl
      have g1 := G.to
      dsimp only
      cases eg : goR xs b n s1 with
      | mk s2 o2 =>
        have R := go_ind b2 hs st n s1 s2 o2 G.wf (by omega) (by omega) (h0 s1 G.wf E) eg
        cases o2 with
        | none => exact .run s1 s2 E G.wf (h0 s1 G.wf E) R (by rw [if_pos rfl])
        | some c => exact .run s1 s2 E G.wf (h0 s1 G.wf E) R (by rw [if_neg (fun z => nomatch z)])

end
end Rg

namespace Rg
open PySem PySem.Spec L2
local macro_rules | `(tactic| walk_at "rd1") => `(tactic| first
  | with_reducible refine rd_seq ?_
  | with_reducible refine rd_asg ?_
  | ((with_reducible show tVar _ _ _ _); refine rd_var rfl ?_)
  | with_reducible refine rd_c ?_
  | with_reducible refine rd_op ?_
  | with_reducible refine rd_I0 ?_
  | with_reducible refine rd_name ?_
  | with_reducible refine rd_ret ?_
  | with_reducible refine rd_ifs ?_
  | with_reducible refine rd_test ?_
  | with_reducible refine rd_tB ?_
  | with_reducible refine rd_bl ?_
  | with_reducible refine rd_drop ?_
  | with_reducible refine rd_nil ?_
  | with_reducible refine rd_cons ?_
  | with_reducible refine rd_call ?_
  | with_reducible refine rd_cb ?_
  | with_reducible refine rd_tup ?_
  | with_reducible refine rd_lst ?_
  | with_reducible refine rd_and ?_
  | with_reducible refine rd_or ?_
  | with_reducible refine rd_not ?_
  | with_reducible refine rd_andV ?_
  | with_reducible refine rd_orV ?_
  | with_reducible refine rd_notV ?_
  | with_reducible refine rd_chain ?_
  | with_reducible refine rd_un ?_
  | with_reducible refine rd_isN ?_
  | with_reducible refine rd_bm ?_
  | with_reducible refine rd_bm0 ?_
  | with_reducible refine rd_gsub ?_
  | with_reducible refine rd_sl ?_
  | with_reducible refine rd_gt ?_
  | with_reducible refine rd_yes ?_
  | with_reducible refine rd_gcons ?_
  | with_reducible refine rd_gnil ?_
  | with_reducible refine rd_part ?_
  | with_reducible refine rd_nopart ?_
  | ((with_reducible show gTup _ _ _ _ _ _ _); refine rd_gtup (by first | assumption | exact upd_same) rfl ?_)
  | ((with_reducible show gLst _ _ _ _ _ _ _); refine rd_glst (by first | assumption | exact upd_same) rfl ?_)
  | ((with_reducible show rIsi _ _ _ _); first | refine rd_isi (b := true) (.ty _) (.base (by first | exact .int _ | exact .str _ | exact .bl _ | exact .non | exact .tup (by assumption) | exact .lst (by assumption))) (kit_ty (by decide +kernel)) ?_ | refine rd_isi (b := false) (.ty _) (.base (by first | exact .int _ | exact .str _ | exact .bl _ | exact .non | exact .tup (by assumption) | exact .lst (by assumption))) (kit_ty (by decide +kernel)) ?_)
  | with_reducible refine rd_fld ?_
  | with_reducible refine rd_sfld ?_
  | with_reducible refine rd_meth ?_
  | with_reducible refine rd_make ?_
  | with_reducible refine rd_makeK ?_
  | with_reducible refine rd_U ?_
  | with_reducible refine rd_makeKS ?_
  | with_reducible refine rd_callN ?_
  | with_reducible refine rd_rs ?_
  | with_reducible refine rd_rf ?_
  | with_reducible refine rd_star ?_
  | with_reducible refine rd_callS ?_
  | with_reducible refine rd_for ?_
  | with_reducible refine rd_lc ?_
  | with_reducible refine rd_ilist ?_
  | with_reducible refine rd_itup ?_
  | with_reducible refine rd_irng ?_
  | with_reducible refine rd_izipS ?_
  | with_reducible refine rd_ienum ?_
  | with_reducible refine rd_ienT ?_
  | with_reducible refine rd_next ?_
  | with_reducible refine rd_eq rfl ?_
  | with_reducible refine rd_ne rfl ?_
  | with_reducible refine iteT ?_
  | with_reducible refine iteF ?_
  | with_reducible refine rd_ifnT ?_
  | with_reducible refine rd_ifnF ?_
  | ((with_reducible show rI (fun _ j => (0 : Int) < j) _ _ _ _ _); refine rd_mod (by omega) ?_)
  | with_reducible refine rd_new rfl ?_
  | ((with_reducible show rIxL _ _ (V.int 0) _ _); refine rd_ixL0 (by first | assumption | exact upd_same) ?_)
  | ((with_reducible show rIxL _ _ _ _ _); refine rd_ixL (by first | assumption | exact upd_same) rfl ?_)
  | ((with_reducible show rSetL _ _ _ _ _); refine rd_setL (by first | assumption | exact upd_same) rfl ?_)
  | ((with_reducible show rI CMul _ _ _ _ _); refine rd_mul (by first | exact Or.inl ⟨by omega, by omega⟩ | exact Or.inr ⟨by omega, by omega⟩) ?_)
  | ((with_reducible show tyV _ "list" _ _ ∧ _); refine rd_tyL (by first | assumption | exact upd_same) ?_)
  | ((with_reducible show rIxT _ _ (V.int 0) _ _); refine rd_ixT0 (by first | assumption | exact upd_same) ?_)
  | ((with_reducible show rIxT _ _ _ _ _); refine rd_ixT (by first | assumption | exact upd_same) rfl ?_))
local macro_rules | `(tactic| walk_at "rdn1") => `(tactic| first
  | with_reducible refine rd_seq ?_
  | with_reducible refine rd_asg ?_
  | ((with_reducible show tVar _ _ _ _); refine rd_var rfl ?_)
  | with_reducible refine rd_c ?_
  | with_reducible refine rd_op ?_
  | with_reducible refine rd_I0 ?_
  | with_reducible refine rd_name ?_
  | with_reducible refine rd_ret ?_
  | with_reducible refine rd_ifs ?_
  | with_reducible refine rd_test ?_
  | with_reducible refine rd_tB ?_
  | with_reducible refine rd_bl ?_
  | with_reducible refine rd_drop ?_
  | with_reducible refine rd_nil ?_
  | with_reducible refine rd_cons ?_
  | with_reducible refine rd_call ?_
  | with_reducible refine rd_cb ?_
  | with_reducible refine rd_tup ?_
  | with_reducible refine rd_lst ?_
  | with_reducible refine rd_and ?_
  | with_reducible refine rd_or ?_
  | with_reducible refine rd_not ?_
  | with_reducible refine rd_notV ?_
  | with_reducible refine rd_chain ?_
  | with_reducible refine rd_un ?_
  | with_reducible refine rd_isN ?_
  | with_reducible refine rd_bm ?_
  | with_reducible refine rd_bm0 ?_
  | with_reducible refine rd_gsub ?_
  | with_reducible refine rd_sl ?_
  | with_reducible refine rd_gt ?_
  | with_reducible refine rd_yes ?_
  | with_reducible refine rd_gcons ?_
  | with_reducible refine rd_gnil ?_
  | with_reducible refine rd_part ?_
  | with_reducible refine rd_nopart ?_
  | ((with_reducible show gTup _ _ _ _ _ _ _); refine rd_gtup (by first | assumption | exact upd_same) rfl ?_)
  | ((with_reducible show gLst _ _ _ _ _ _ _); refine rd_glst (by first | assumption | exact upd_same) rfl ?_)
  | ((with_reducible show rIsi _ _ _ _); first | refine rd_isi (b := true) (.ty _) (.base (by first | exact .int _ | exact .str _ | exact .bl _ | exact .non | exact .tup (by assumption) | exact .lst (by assumption))) (kit_ty (by decide +kernel)) ?_ | refine rd_isi (b := false) (.ty _) (.base (by first | exact .int _ | exact .str _ | exact .bl _ | exact .non | exact .tup (by assumption) | exact .lst (by assumption))) (kit_ty (by decide +kernel)) ?_)
  | with_reducible refine rd_fld ?_
  | with_reducible refine rd_sfld ?_
  | with_reducible refine rd_meth ?_
  | with_reducible refine rd_make ?_
  | with_reducible refine rd_makeK ?_
  | with_reducible refine rd_U ?_
  | with_reducible refine rd_makeKS ?_
  | with_reducible refine rd_callN ?_
  | with_reducible refine rd_rs ?_
  | with_reducible refine rd_rf ?_
  | with_reducible refine rd_star ?_
  | with_reducible refine rd_callS ?_
  | with_reducible refine rd_for ?_
  | with_reducible refine rd_lc ?_
  | with_reducible refine rd_ilist ?_
  | with_reducible refine rd_itup ?_
  | with_reducible refine rd_irng ?_
  | with_reducible refine rd_izipS ?_
  | with_reducible refine rd_ienum ?_
  | with_reducible refine rd_ienT ?_
  | with_reducible refine rd_next ?_
  | with_reducible refine rd_eq rfl ?_
  | with_reducible refine rd_ne rfl ?_
  | with_reducible refine iteT ?_
  | with_reducible refine iteF ?_
  | with_reducible refine rd_ifnT ?_
  | with_reducible refine rd_ifnF ?_
  | ((with_reducible show rI (fun _ j => (0 : Int) < j) _ _ _ _ _); refine rd_mod (by omega) ?_)
  | with_reducible refine rd_new rfl ?_
  | ((with_reducible show rIxL _ _ (V.int 0) _ _); refine rd_ixL0 (by first | assumption | exact upd_same) ?_)
  | ((with_reducible show rIxL _ _ _ _ _); refine rd_ixL (by first | assumption | exact upd_same) rfl ?_)
  | ((with_reducible show rSetL _ _ _ _ _); refine rd_setL (by first | assumption | exact upd_same) rfl ?_)
  | ((with_reducible show rI CMul _ _ _ _ _); refine rd_mul (by first | exact Or.inl ⟨by omega, by omega⟩ | exact Or.inr ⟨by omega, by omega⟩) ?_)
  | ((with_reducible show tyV _ "list" _ _ ∧ _); refine rd_tyL (by first | assumption | exact upd_same) ?_)
  | ((with_reducible show rIxT _ _ (V.int 0) _ _); refine rd_ixT0 (by first | assumption | exact upd_same) ?_)
  | ((with_reducible show rIxT _ _ _ _ _); refine rd_ixT (by first | assumption | exact upd_same) rfl ?_))
local macro_rules | `(tactic| walk_at "rd") => `(tactic| (repeat (first | walk_at "rd1" | dsimp only)))
local macro_rules | `(tactic| walk_at "rds") => `(tactic| (dsimp only [cxOf, Cx.nox, Cx.wish, Cx.blk, L2.start]; walk_at "rd"))
local macro_rules | `(tactic| walk_at "rdn") => `(tactic| (repeat (first | walk_at "rdn1" | dsimp only)))
section
variable {P : Program} {w : World} {K : PySem.W.Frag} {mg : Str → Option Value} {base : Heap}

/-! what keeps tells, and that it lets each trace by -/
abbrev St4 := Int × Int × Int × Int
def tFit (xs : List Sg) (t : Int × Int × Int × Str) : Bool := below t.1 8 && (below t.2.1 (xs.length : Int) && (below t.2.2.1 ((sgAt xs t.2.1).ws.length : Int) && (if t.2.2.2 = "r" then mRead (sgAt xs t.2.1) t.1 else mWrite (sgAt xs t.2.1) t.1)))
def sFit (xs : List Sg) (c : St4) : Bool := below c.2.1 (xs.length : Int) && (below c.2.2.1 ((sgAt xs c.2.1).rs.length : Int) && mRun (sgAt xs c.2.1) c.1)
def ledTo (x : Sg) (pl e : Int) : Option Int := match enteredR x pl e with
  | .ok r => some r
  | .error _ => none
def isEnt (xs : List Sg) (c : St4) (fr : Int) : Bool := (List.range (8 - fr).toNat).any fun i => decide (ledTo (sgAt xs c.2.1) c.2.2.1 (fr + (i : Int)) = some c.1)
def beginsR (xs : List Sg) (ring : Int) : List St4 → Bool
  | [] => true
  | c :: _ => decide (c.2.2.2 = 1) && isEnt xs c ring
def cameBack (d : St4) : Option St4 → Bool
  | none => false
  | some k => decide (d.1 = k.1 ∧ d.2.1 = k.2.1 ∧ d.2.2.1 = k.2.2.1 + 1)
def opAt (xs : List Sg) (c : St4) : Str := (rowAt xs c.2.1 c.2.2.1).op
def flwR (xs : List Sg) (c d : St4) (last : Int → Option St4) : Bool :=
  if d.2.2.2 = c.2.2.2 then decide (d.1 = c.1 ∧ d.2.1 = c.2.1) && decide (opAt xs c ≠ "call" ∧ opAt xs c ≠ "return")
  else if d.2.2.2 = c.2.2.2 + 1 then decide (opAt xs c = "call") && isEnt xs d c.1
  else if d.2.2.2 = c.2.2.2 - 1 then decide (opAt xs c = "return") && cameBack d (last (c.2.2.2 - 1))
  else false
def lastAt (st : List St4) (n : Nat) (k : Int) : Option St4 := (st.take n).reverse.find? fun c => decide (c.2.2.2 = k)
theorem lastAt_succ {st : List St4} {n : Nat} {c : St4} (h : st[n]? = some c) (k : Int) : lastAt st (n + 1) k = if c.2.2.2 = k then some c else lastAt st n k := by
  unfold lastAt
  rw [List.take_succ, h]
  show List.find? _ (st.take n ++ [c]).reverse = _
  rw [List.reverse_append]
  show List.find? _ (c :: (st.take n).reverse) = _
  rw [List.find?_cons]
  by_cases e : c.2.2.2 = k
  · rw [decide_eq_true e, if_pos e]
  · rw [decide_eq_false e, if_neg e]
theorem lastAt_left {st : List St4} {n : Nat} (h : n ≤ st.length) (r : List St4) (k : Int) : lastAt (st ++ r) n k = lastAt st n k := by
  unfold lastAt
  rw [List.take_append_of_le_length h]
theorem lastAt_snoc {st : List St4} (c : St4) (k : Int) : lastAt (st ++ [c]) (st.length + 1) k = if c.2.2.2 = k then some c else lastAt st st.length k := by
  rw [lastAt_succ (c := c) (by simp), lastAt_left (Nat.le_refl _)]
theorem lastAt_mem {st : List St4} {n : Nat} {k : Int} {c : St4} (h : lastAt st n k = some c) : c ∈ st := by
  unfold lastAt at h
  have h1 := List.mem_of_find?_eq_some h
  rw [List.mem_reverse] at h1
  exact List.mem_of_mem_take h1
def goesR (xs : List Sg) (st : List St4) : Bool := (List.range (st.length - 1)).all fun i => flwR xs (st.getD i (0, 0, 0, 0)) (st.getD (i + 1) (0, 0, 0, 0)) (lastAt st (i + 1))
def keepsR (xs : List Sg) (ring : Int) (st : List St4) (to : List (Int × Int × Int × Str)) : Bool := to.all (tFit xs) && (st.all (sFit xs) && (beginsR xs ring st && goesR xs st))

end
end Rg

namespace Rg
open PySem PySem.Spec L2
local macro_rules | `(tactic| walk_at "rd1") => `(tactic| first
  | with_reducible refine rd_seq ?_
  | with_reducible refine rd_asg ?_
  | ((with_reducible show tVar _ _ _ _); refine rd_var rfl ?_)
  | with_reducible refine rd_c ?_
  | with_reducible refine rd_op ?_
  | with_reducible refine rd_I0 ?_
  | with_reducible refine rd_name ?_
  | with_reducible refine rd_ret ?_
  | with_reducible refine rd_ifs ?_
  | with_reducible refine rd_test ?_
  | with_reducible refine rd_tB ?_
  | with_reducible refine rd_bl ?_
  | with_reducible refine rd_drop ?_
  | with_reducible refine rd_nil ?_
  | with_reducible refine rd_cons ?_
  | with_reducible refine rd_call ?_
  | with_reducible refine rd_cb ?_
  | with_reducible refine rd_tup ?_
  | with_reducible refine rd_lst ?_
  | with_reducible refine rd_and ?_
  | with_reducible refine rd_or ?_
  | with_reducible refine rd_not ?_
  | with_reducible refine rd_andV ?_
  | with_reducible refine rd_orV ?_
  | with_reducible refine rd_notV ?_
  | with_reducible refine rd_chain ?_
  | with_reducible refine rd_un ?_
  | with_reducible refine rd_isN ?_
  | with_reducible refine rd_bm ?_
  | with_reducible refine rd_bm0 ?_
  | with_reducible refine rd_gsub ?_
  | with_reducible refine rd_sl ?_
  | with_reducible refine rd_gt ?_
  | with_reducible refine rd_yes ?_
  | with_reducible refine rd_gcons ?_
  | with_reducible refine rd_gnil ?_
  | with_reducible refine rd_part ?_
  | with_reducible refine rd_nopart ?_
  | ((with_reducible show gTup _ _ _ _ _ _ _); refine rd_gtup (by first | assumption | exact upd_same) rfl ?_)
  | ((with_reducible show gLst _ _ _ _ _ _ _); refine rd_glst (by first | assumption | exact upd_same) rfl ?_)
  | ((with_reducible show rIsi _ _ _ _); first | refine rd_isi (b := true) (.ty _) (.base (by first | exact .int _ | exact .str _ | exact .bl _ | exact .non | exact .tup (by assumption) | exact .lst (by assumption))) (kit_ty (by decide +kernel)) ?_ | refine rd_isi (b := false) (.ty _) (.base (by first | exact .int _ | exact .str _ | exact .bl _ | exact .non | exact .tup (by assumption) | exact .lst (by assumption))) (kit_ty (by decide +kernel)) ?_)
  | with_reducible refine rd_fld ?_
  | with_reducible refine rd_sfld ?_
  | with_reducible refine rd_meth ?_
  | with_reducible refine rd_make ?_
  | with_reducible refine rd_makeK ?_
  | with_reducible refine rd_U ?_
  | with_reducible refine rd_makeKS ?_
  | with_reducible refine rd_callN ?_
  | with_reducible refine rd_rs ?_
  | with_reducible refine rd_rf ?_
  | with_reducible refine rd_star ?_
  | with_reducible refine rd_callS ?_
  | with_reducible refine rd_for ?_
  | with_reducible refine rd_lc ?_
  | with_reducible refine rd_ilist ?_
  | with_reducible refine rd_itup ?_
  | with_reducible refine rd_irng ?_
  | with_reducible refine rd_izipS ?_
  | with_reducible refine rd_ienum ?_
  | with_reducible refine rd_ienT ?_
  | with_reducible refine rd_next ?_
  | with_reducible refine rd_eq rfl ?_
  | with_reducible refine rd_ne rfl ?_
  | with_reducible refine iteT ?_
  | with_reducible refine iteF ?_
  | with_reducible refine rd_ifnT ?_
  | with_reducible refine rd_ifnF ?_
  | ((with_reducible show rI (fun _ j => (0 : Int) < j) _ _ _ _ _); refine rd_mod (by omega) ?_)
  | with_reducible refine rd_new rfl ?_
  | ((with_reducible show rIxL _ _ (V.int 0) _ _); refine rd_ixL0 (by first | assumption | exact upd_same) ?_)
  | ((with_reducible show rIxL _ _ _ _ _); refine rd_ixL (by first | assumption | exact upd_same) rfl ?_)
  | ((with_reducible show rSetL _ _ _ _ _); refine rd_setL (by first | assumption | exact upd_same) rfl ?_)
  | ((with_reducible show rI CMul _ _ _ _ _); refine rd_mul (by first | exact Or.inl ⟨by omega, by omega⟩ | exact Or.inr ⟨by omega, by omega⟩) ?_)
  | ((with_reducible show tyV _ "list" _ _ ∧ _); refine rd_tyL (by first | assumption | exact upd_same) ?_)
  | ((with_reducible show rIxT _ _ (V.int 0) _ _); refine rd_ixT0 (by first | assumption | exact upd_same) ?_)
  | ((with_reducible show rIxT _ _ _ _ _); refine rd_ixT (by first | assumption | exact upd_same) rfl ?_))
local macro_rules | `(tactic| walk_at "rdn1") => `(tactic| first
  | with_reducible refine rd_seq ?_
  | with_reducible refine rd_asg ?_
  | ((with_reducible show tVar _ _ _ _); refine rd_var rfl ?_)
  | with_reducible refine rd_c ?_
  | with_reducible refine rd_op ?_
  | with_reducible refine rd_I0 ?_
  | with_reducible refine rd_name ?_
  | with_reducible refine rd_ret ?_
  | with_reducible refine rd_ifs ?_
  | with_reducible refine rd_test ?_
  | with_reducible refine rd_tB ?_
  | with_reducible refine rd_bl ?_
  | with_reducible refine rd_drop ?_
  | with_reducible refine rd_nil ?_
  | with_reducible refine rd_cons ?_
  | with_reducible refine rd_call ?_
  | with_reducible refine rd_cb ?_
  | with_reducible refine rd_tup ?_
  | with_reducible refine rd_lst ?_
  | with_reducible refine rd_and ?_
  | with_reducible refine rd_or ?_
  | with_reducible refine rd_not ?_
  | with_reducible refine rd_notV ?_
  | with_reducible refine rd_chain ?_
  | with_reducible refine rd_un ?_
  | with_reducible refine rd_isN ?_
  | with_reducible refine rd_bm ?_
  | with_reducible refine rd_bm0 ?_
  | with_reducible refine rd_gsub ?_
  | with_reducible refine rd_sl ?_
  | with_reducible refine rd_gt ?_
  | with_reducible refine rd_yes ?_
  | with_reducible refine rd_gcons ?_
  | with_reducible refine rd_gnil ?_
  | with_reducible refine rd_part ?_
  | with_reducible refine rd_nopart ?_
  | ((with_reducible show gTup _ _ _ _ _ _ _); refine rd_gtup (by first | assumption | exact upd_same) rfl ?_)
  | ((with_reducible show gLst _ _ _ _ _ _ _); refine rd_glst (by first | assumption | exact upd_same) rfl ?_)
  | ((with_reducible show rIsi _ _ _ _); first | refine rd_isi (b := true) (.ty _) (.base (by first | exact .int _ | exact .str _ | exact .bl _ | exact .non | exact .tup (by assumption) | exact .lst (by assumption))) (kit_ty (by decide +kernel)) ?_ | refine rd_isi (b := false) (.ty _) (.base (by first | exact .int _ | exact .str _ | exact .bl _ | exact .non | exact .tup (by assumption) | exact .lst (by assumption))) (kit_ty (by decide +kernel)) ?_)
  | with_reducible refine rd_fld ?_
  | with_reducible refine rd_sfld ?_
  | with_reducible refine rd_meth ?_
  | with_reducible refine rd_make ?_
  | with_reducible refine rd_makeK ?_
  | with_reducible refine rd_U ?_
  | with_reducible refine rd_makeKS ?_
  | with_reducible refine rd_callN ?_
  | with_reducible refine rd_rs ?_
  | with_reducible refine rd_rf ?_
  | with_reducible refine rd_star ?_
  | with_reducible refine rd_callS ?_
  | with_reducible refine rd_for ?_
  | with_reducible refine rd_lc ?_
  | with_reducible refine rd_ilist ?_
  | with_reducible refine rd_itup ?_
  | with_reducible refine rd_irng ?_
  | with_reducible refine rd_izipS ?_
  | with_reducible refine rd_ienum ?_
  | with_reducible refine rd_ienT ?_
  | with_reducible refine rd_next ?_
  | with_reducible refine rd_eq rfl ?_
  | with_reducible refine rd_ne rfl ?_
  | with_reducible refine iteT ?_
  | with_reducible refine iteF ?_
  | with_reducible refine rd_ifnT ?_
  | with_reducible refine rd_ifnF ?_
  | ((with_reducible show rI (fun _ j => (0 : Int) < j) _ _ _ _ _); refine rd_mod (by omega) ?_)
  | with_reducible refine rd_new rfl ?_
  | ((with_reducible show rIxL _ _ (V.int 0) _ _); refine rd_ixL0 (by first | assumption | exact upd_same) ?_)
  | ((with_reducible show rIxL _ _ _ _ _); refine rd_ixL (by first | assumption | exact upd_same) rfl ?_)
  | ((with_reducible show rSetL _ _ _ _ _); refine rd_setL (by first | assumption | exact upd_same) rfl ?_)
  | ((with_reducible show rI CMul _ _ _ _ _); refine rd_mul (by first | exact Or.inl ⟨by omega, by omega⟩ | exact Or.inr ⟨by omega, by omega⟩) ?_)
  | ((with_reducible show tyV _ "list" _ _ ∧ _); refine rd_tyL (by first | assumption | exact upd_same) ?_)
  | ((with_reducible show rIxT _ _ (V.int 0) _ _); refine rd_ixT0 (by first | assumption | exact upd_same) ?_)
  | ((with_reducible show rIxT _ _ _ _ _); refine rd_ixT (by first | assumption | exact upd_same) rfl ?_))
local macro_rules | `(tactic| walk_at "rd") => `(tactic| (repeat (first | walk_at "rd1" | dsimp only)))
local macro_rules | `(tactic| walk_at "rds") => `(tactic| (dsimp only [cxOf, Cx.nox, Cx.wish, Cx.blk, L2.start]; walk_at "rd"))
local macro_rules | `(tactic| walk_at "rdn") => `(tactic| (repeat (first | walk_at "rdn1" | dsimp only)))
section
variable {P : Program} {w : World} {K : PySem.W.Frag} {mg : Str → Option Value} {base : Heap}

def okF (_ : List Sg) (ns : List Int) : Prop := ∃ q p w, ns = [q, p, w] ∧ 0 ≤ q ∧ q < 4 ∧ 0 ≤ p ∧ p < 4
def okA (xs : List Sg) (ns : List Int) : Prop := ∃ q g w, ns = [q, g, w] ∧ 0 ≤ q ∧ q < 4 ∧ 0 ≤ g ∧ g < (xs.length : Int)
theorem read_seg {xs : List Sg} {s s' : Rn} {p w e g : Int} {wd : Wd} (wf : WF xs s) (p0 : 0 ≤ p) (p4 : p < 4) (h : readR xs s p w = .ok (wd, e, g, s')) : 0 ≤ g ∧ g < (xs.length : Int) := by
  unfold readR at h
  cases hs : spotR s p w with
  | error c => rw [hs] at h; cases h
  | ok z =>
    obtain ⟨e1, g1, pl⟩ := z
    rw [hs] at h
    dsimp only at h
    by_cases hc : mRead (sgAt xs g1) e1 = true
    · rw [if_pos hc] at h
      cases h
      obtain ⟨a, b, _⟩ := spot_in wf p0 p4 hs
      exact ⟨a, b⟩
    · rw [if_neg hc] at h
      cases h
theorem read_ptl {xs : List Sg} {s s' : Rn} {p w e g : Int} {wd : Wd} (h : readR xs s p w = .ok (wd, e, g, s')) : s'.pt.length = s.pt.length := by
  unfold readR at h
  cases hs : spotR s p w with
  | error c => rw [hs] at h; cases h
  | ok z =>
    obtain ⟨e1, g1, pl⟩ := z
    rw [hs] at h
    dsimp only at h
    by_cases hc : mRead (sgAt xs g1) e1 = true
    · rw [if_pos hc] at h
      cases h
      rfl
    · rw [if_neg hc] at h
      cases h
/-- pointer q is put -/
theorem pt_put {CR : Addr} {H1 : Hp} {x m : Addr} {hand : Int} {s : Rn} {dx lp lm lc ls lt : Addr} {as : List Addr} {vw : V} {v : List V} {u : V} {y : Pt} {q : Int} (r : RA CR H1 x dx m hand lp lm lc ls lt as vw s) (hv : H1 lp = some (.lst v)) (rv : RpAll H1 v (s.pt.map ptD)) (ru : Rp H1 u (ptD y)) :
    RA CR (upd H1 lp (.lst (v.set q.toNat u))) x dx m hand lp lm lc ls lt as vw (s.ptrSet q y) := by
  have h : RpAll H1 (v.set q.toNat u) ((s.pt.set q.toNat y).map ptD) := by
    rw [List.map_set]
    exact RpAll.set ru q.toNat rv
  exact r.setP h

end
end Rg

namespace Rg
open PySem PySem.Spec L2
local macro_rules | `(tactic| walk_at "rd1") => `(tactic| first
  | with_reducible refine rd_seq ?_
  | with_reducible refine rd_asg ?_
  | ((with_reducible show tVar _ _ _ _); refine rd_var rfl ?_)
  | with_reducible refine rd_c ?_
  | with_reducible refine rd_op ?_
  | with_reducible refine rd_I0 ?_
  | with_reducible refine rd_name ?_
  | with_reducible refine rd_ret ?_
  | with_reducible refine rd_ifs ?_
  | with_reducible refine rd_test ?_
  | with_reducible refine rd_tB ?_
  | with_reducible refine rd_bl ?_
  | with_reducible refine rd_drop ?_
  | with_reducible refine rd_nil ?_
  | with_reducible refine rd_cons ?_
  | with_reducible refine rd_call ?_
  | with_reducible refine rd_cb ?_
  | with_reducible refine rd_tup ?_
  | with_reducible refine rd_lst ?_
  | with_reducible refine rd_and ?_
  | with_reducible refine rd_or ?_
  | with_reducible refine rd_not ?_
  | with_reducible refine rd_andV ?_
  | with_reducible refine rd_orV ?_
  | with_reducible refine rd_notV ?_
  | with_reducible refine rd_chain ?_
  | with_reducible refine rd_un ?_
  | with_reducible refine rd_isN ?_
  | with_reducible refine rd_bm ?_
  | with_reducible refine rd_bm0 ?_
  | with_reducible refine rd_gsub ?_
  | with_reducible refine rd_sl ?_
  | with_reducible refine rd_gt ?_
  | with_reducible refine rd_yes ?_
  | with_reducible refine rd_gcons ?_
  | with_reducible refine rd_gnil ?_
  | with_reducible refine rd_part ?_
  | with_reducible refine rd_nopart ?_
  | ((with_reducible show gTup _ _ _ _ _ _ _); refine rd_gtup (by first | assumption | exact upd_same) rfl ?_)
  | ((with_reducible show gLst _ _ _ _ _ _ _); refine rd_glst (by first | assumption | exact upd_same) rfl ?_)
  | ((with_reducible show rIsi _ _ _ _); first | refine rd_isi (b := true) (.ty _) (.base (by first | exact .int _ | exact .str _ | exact .bl _ | exact .non | exact .tup (by assumption) | exact .lst (by assumption))) (kit_ty (by decide +kernel)) ?_ | refine rd_isi (b := false) (.ty _) (.base (by first | exact .int _ | exact .str _ | exact .bl _ | exact .non | exact .tup (by assumption) | exact .lst (by assumption))) (kit_ty (by decide +kernel)) ?_)
  | with_reducible refine rd_fld ?_
  | with_reducible refine rd_sfld ?_
  | with_reducible refine rd_meth ?_
  | with_reducible refine rd_make ?_
  | with_reducible refine rd_makeK ?_
  | with_reducible refine rd_U ?_
  | with_reducible refine rd_makeKS ?_
  | with_reducible refine rd_callN ?_
  | with_reducible refine rd_rs ?_
  | with_reducible refine rd_rf ?_
  | with_reducible refine rd_star ?_
  | with_reducible refine rd_callS ?_
  | with_reducible refine rd_for ?_
  | with_reducible refine rd_lc ?_
  | with_reducible refine rd_ilist ?_
  | with_reducible refine rd_itup ?_
  | with_reducible refine rd_irng ?_
  | with_reducible refine rd_izipS ?_
  | with_reducible refine rd_ienum ?_
  | with_reducible refine rd_ienT ?_
  | with_reducible refine rd_next ?_
  | with_reducible refine rd_eq rfl ?_
  | with_reducible refine rd_ne rfl ?_
  | with_reducible refine iteT ?_
  | with_reducible refine iteF ?_
  | with_reducible refine rd_ifnT ?_
  | with_reducible refine rd_ifnF ?_
  | ((with_reducible show rI (fun _ j => (0 : Int) < j) _ _ _ _ _); refine rd_mod (by omega) ?_)
  | with_reducible refine rd_new rfl ?_
  | ((with_reducible show rIxL _ _ (V.int 0) _ _); refine rd_ixL0 (by first | assumption | exact upd_same) ?_)
  | ((with_reducible show rIxL _ _ _ _ _); refine rd_ixL (by first | assumption | exact upd_same) rfl ?_)
  | ((with_reducible show rSetL _ _ _ _ _); refine rd_setL (by first | assumption | exact upd_same) rfl ?_)
  | ((with_reducible show rI CMul _ _ _ _ _); refine rd_mul (by first | exact Or.inl ⟨by omega, by omega⟩ | exact Or.inr ⟨by omega, by omega⟩) ?_)
  | ((with_reducible show tyV _ "list" _ _ ∧ _); refine rd_tyL (by first | assumption | exact upd_same) ?_)
  | ((with_reducible show rIxT _ _ (V.int 0) _ _); refine rd_ixT0 (by first | assumption | exact upd_same) ?_)
  | ((with_reducible show rIxT _ _ _ _ _); refine rd_ixT (by first | assumption | exact upd_same) rfl ?_))
local macro_rules | `(tactic| walk_at "rdn1") => `(tactic| first
  | with_reducible refine rd_seq ?_
  | with_reducible refine rd_asg ?_
  | ((with_reducible show tVar _ _ _ _); refine rd_var rfl ?_)
  | with_reducible refine rd_c ?_
  | with_reducible refine rd_op ?_
  | with_reducible refine rd_I0 ?_
  | with_reducible refine rd_name ?_
  | with_reducible refine rd_ret ?_
  | with_reducible refine rd_ifs ?_
  | with_reducible refine rd_test ?_
  | with_reducible refine rd_tB ?_
  | with_reducible refine rd_bl ?_
  | with_reducible refine rd_drop ?_
  | with_reducible refine rd_nil ?_
  | with_reducible refine rd_cons ?_
  | with_reducible refine rd_call ?_
  | with_reducible refine rd_cb ?_
  | with_reducible refine rd_tup ?_
  | with_reducible refine rd_lst ?_
  | with_reducible refine rd_and ?_
  | with_reducible refine rd_or ?_
  | with_reducible refine rd_not ?_
  | with_reducible refine rd_notV ?_
  | with_reducible refine rd_chain ?_
  | with_reducible refine rd_un ?_
  | with_reducible refine rd_isN ?_
  | with_reducible refine rd_bm ?_
  | with_reducible refine rd_bm0 ?_
  | with_reducible refine rd_gsub ?_
  | with_reducible refine rd_sl ?_
  | with_reducible refine rd_gt ?_
  | with_reducible refine rd_yes ?_
  | with_reducible refine rd_gcons ?_
  | with_reducible refine rd_gnil ?_
  | with_reducible refine rd_part ?_
  | with_reducible refine rd_nopart ?_
  | ((with_reducible show gTup _ _ _ _ _ _ _); refine rd_gtup (by first | assumption | exact upd_same) rfl ?_)
  | ((with_reducible show gLst _ _ _ _ _ _ _); refine rd_glst (by first | assumption | exact upd_same) rfl ?_)
  | ((with_reducible show rIsi _ _ _ _); first | refine rd_isi (b := true) (.ty _) (.base (by first | exact .int _ | exact .str _ | exact .bl _ | exact .non | exact .tup (by assumption) | exact .lst (by assumption))) (kit_ty (by decide +kernel)) ?_ | refine rd_isi (b := false) (.ty _) (.base (by first | exact .int _ | exact .str _ | exact .bl _ | exact .non | exact .tup (by assumption) | exact .lst (by assumption))) (kit_ty (by decide +kernel)) ?_)
  | with_reducible refine rd_fld ?_
  | with_reducible refine rd_sfld ?_
  | with_reducible refine rd_meth ?_
  | with_reducible refine rd_make ?_
  | with_reducible refine rd_makeK ?_
  | with_reducible refine rd_U ?_
  | with_reducible refine rd_makeKS ?_
  | with_reducible refine rd_callN ?_
  | with_reducible refine rd_rs ?_
  | with_reducible refine rd_rf ?_
  | with_reducible refine rd_star ?_
  | with_reducible refine rd_callS ?_
  | with_reducible refine rd_for ?_
  | with_reducible refine rd_lc ?_
  | with_reducible refine rd_ilist ?_
  | with_reducible refine rd_itup ?_
  | with_reducible refine rd_irng ?_
  | with_reducible refine rd_izipS ?_
  | with_reducible refine rd_ienum ?_
  | with_reducible refine rd_ienT ?_
  | with_reducible refine rd_next ?_
  | with_reducible refine rd_eq rfl ?_
  | with_reducible refine rd_ne rfl ?_
  | with_reducible refine iteT ?_
  | with_reducible refine iteF ?_
  | with_reducible refine rd_ifnT ?_
  | with_reducible refine rd_ifnF ?_
  | ((with_reducible show rI (fun _ j => (0 : Int) < j) _ _ _ _ _); refine rd_mod (by omega) ?_)
  | with_reducible refine rd_new rfl ?_
  | ((with_reducible show rIxL _ _ (V.int 0) _ _); refine rd_ixL0 (by first | assumption | exact upd_same) ?_)
  | ((with_reducible show rIxL _ _ _ _ _); refine rd_ixL (by first | assumption | exact upd_same) rfl ?_)
  | ((with_reducible show rSetL _ _ _ _ _); refine rd_setL (by first | assumption | exact upd_same) rfl ?_)
  | ((with_reducible show rI CMul _ _ _ _ _); refine rd_mul (by first | exact Or.inl ⟨by omega, by omega⟩ | exact Or.inr ⟨by omega, by omega⟩) ?_)
  | ((with_reducible show tyV _ "list" _ _ ∧ _); refine rd_tyL (by first | assumption | exact upd_same) ?_)
  | ((with_reducible show rIxT _ _ (V.int 0) _ _); refine rd_ixT0 (by first | assumption | exact upd_same) ?_)
  | ((with_reducible show rIxT _ _ _ _ _); refine rd_ixT (by first | assumption | exact upd_same) rfl ?_))
local macro_rules | `(tactic| walk_at "rd") => `(tactic| (repeat (first | walk_at "rd1" | dsimp only)))
local macro_rules | `(tactic| walk_at "rds") => `(tactic| (dsimp only [cxOf, Cx.nox, Cx.wish, Cx.blk, L2.start]; walk_at "rd"))
local macro_rules | `(tactic| walk_at "rdn") => `(tactic| (repeat (first | walk_at "rdn1" | dsimp only)))
section
variable {P : Program} {w : World} {K : PySem.W.Frag} {mg : Str → Option Value} {base : Heap}

def spRaised : Sp := fun vs H Q _ => ∃ (v : V) (p : Pt) (r : Int), vs = [v, .int r] ∧ Rp H v (ptD p) ∧ ∀ (u : V) (H' : Hp), Rp H' u (ptD (raisedR r p)) → Same H H' → Q u H'
def spEntered (CF : Addr) : Sp := fun vs H Q E => ∃ (v : V) (x : Sg) (pl e : Int), vs = [v, .int pl, .int e] ∧ Rp H v x.d ∧ (∀ r, enteredR x pl e = .ok r → Q (.int r) H) ∧ ∀ c, enteredR x pl e = .error c → Flt CF E H c
theorem ok_entered {f CF : Addr} {fd : FuncData} (B : BT mg) (Fc : FltC P w K mg base CF) (F : Fun K "entered" "entered" s_entered f fd) (hm : mg "entered" = some (.ref f)) : CalN P w K mg base "entered" 3 ["segment", "place", "e"] (spEntered CF) := by
  refine ⟨f, fd, hm, F.kp, F.binds (ps := ["segment", "place", "e"]) fun _ _ _ _ _ _ us hl => match us, hl with | [_, _, _], _ => rfl, ?_⟩
  refine Fun.okN F sc_entered (fun vs H Q E h => ?_) (fun cdv A outer s H vs Q E hr h => ?_)
  · obtain ⟨v, x, pl, e, rfl, _⟩ := h
    rfl
  · obtain ⟨v, x, pl, e, rfl, rv, k1, k2⟩ := h
    refine ⟨_, (pss_cons (ps_asg (pv 0) (pg_tup (by rfl) (pgs_cons (pg_tup (by rfl) (pgs_cons (pg_name (i := 3) sc_entered.nd rfl (Or.inl rfl)) (pgs_cons (pg_name (i := 4) sc_entered.nd rfl (Or.inl rfl)) (pgs_cons (pg_name (i := 5) sc_entered.nd rfl (Or.inl rfl)) pgs_nil)))) (pgs_cons (pg_name (i := 6) sc_entered.nd rfl (Or.inl rfl)) (pgs_cons (pg_name (i := 7) sc_entered.nd rfl (Or.inl rfl)) (pgs_cons (pg_name (i := 8) sc_entered.nd rfl (Or.inl rfl)) (pgs_cons (pg_name (i := 9) sc_entered.nd rfl (Or.inl rfl)) pgs_nil)))))))
 (pss_cons (ps_if (pt_cmpR op_notIn_sign pe_str (pv 6) rfl) (pss_one (ps_fault Fc rfl (L2N.takes_of rfl rfl rfl rfl) (hr.mono (by omega)) rfl pe_str)) pss_nil)
 (pss_cons (ps_if (pt_not (pt_chain op_le op_lt pe_int (pv 1) (pe_callB (cr_lenS (K := K)) rfl B.g_len PySem.boot_len (pa_cons (pv 9) pa_nil)))) (pss_one (ps_fault Fc rfl (L2N.takes_of rfl rfl rfl rfl) (hr.mono (by omega)) rfl pe_str)) pss_nil)
 (pss_cons (ps_if (pt_cmpR op_le (pv 2) (pv 4) (nomark _)) (pss_one (ps_ret (pe_callB (call_max2 rfl) rfl B.g_max (by decide +kernel) (pa_cons (pv 2) (pa_cons (pv 3) pa_nil))))) pss_nil)
 (pss_cons (ps_if (pt_cmpR op_gt (pv 2) (pv 5) (nomark _)) (pss_one (ps_fault Fc rfl (L2N.takes_of rfl rfl rfl rfl) (hr.mono (by omega)) rfl pe_str)) pss_nil)
 (pss_cons (ps_if (pt_cmpR op_ge (pv 1) (pv 7) (nomark _)) (pss_one (ps_fault Fc rfl (L2N.takes_of rfl rfl rfl rfl) (hr.mono (by omega)) rfl pe_str)) pss_nil)
 (pss_one (ps_ret (pv 4))))))))), ?_⟩
    obtain ⟨p, vs, rfl, hp, ha⟩ := rv.tup_inv
    obtain ⟨x0, xr, rfl, h0, ha⟩ := ha.cons_inv
    obtain ⟨x1, xr, rfl, h1, ha⟩ := ha.cons_inv
    obtain ⟨x2, xr, rfl, h2, ha⟩ := ha.cons_inv
    obtain ⟨x3, xr, rfl, h3, ha⟩ := ha.cons_inv
    obtain ⟨x4, xr, rfl, h4, ha⟩ := ha.cons_inv
    have e5 := ha.nil_inv; subst e5
    have e1 := h1.str_inv; subst e1
    have e2 := h2.int_inv; subst e2
    obtain ⟨pb, vb, rfl, hpb, hb⟩ := h0.tup_inv
    have eb := RpAll.ints_inv (ns := [x.r1, x.r2, x.r3]) hb
    subst eb
    obtain ⟨pr, vr, rfl, hpr, hr4⟩ := h4.tup_inv
    have lr : vr.length = x.rs.length := by rw [hr4.length, List.length_map]
    unfold enteredR at k1 k2
    dsimp only [List.map] at hpb
    walk_at "rds"
    refine ⟨120, x.ri, rfl, rfl, _, rfl, ?_⟩
    refine rd_ifn (fun h1 => ?_) (fun h1 => ?_)
    case refine_2 =>
      replace h1 : has 120 x.ri = false := h1
      rw [if_pos h1] at k2
      walk_at "rd"
      exact (k2 _ rfl).here
    replace h1 : ¬ has 120 x.ri = false := fun z => by
      have : has 120 x.ri = true := h1
      rw [z] at this
      cases this
    rw [if_neg h1] at k1 k2
    walk_at "rd"
    refine rd_ifd (fun h0 => ?_) (fun h0 => ?_)
    case refine_2 =>
      rw [if_pos (fun z => h0 z.1)] at k2
      walk_at "rd"
      exact (k2 _ rfl).here
    walk_at "rd"
    refine ⟨pr, vr, rfl, .inr (SqT.of hpr), ?_⟩
    rw [lr]
    walk_at "rd"
    refine rd_ifn (fun h2 => ?_) (fun h2 => ?_)
    case refine_2 =>
      rw [if_pos (fun z => of_decide_eq_false h2 z.2)] at k2
      walk_at "rd"
      exact (k2 _ rfl).here
    rw [if_neg (fun z => z ⟨h0, of_decide_eq_true h2⟩)] at k1 k2
    walk_at "rd"
    refine rd_ifd (fun h3 => ?_) (fun h3 => ?_)
    · rw [if_pos h3] at k1
      walk_at "rd"
      refine ⟨_, _, rfl, ?_⟩
      exact k1 _ rfl
    rw [if_neg h3] at k1 k2
    walk_at "rd"
    refine rd_ifd (fun h4 => ?_) (fun h4 => ?_)
    · rw [if_pos h4] at k2
      walk_at "rd"
      exact (k2 _ rfl).here
    rw [if_neg h4] at k1 k2
    walk_at "rd"
    refine rd_ifd (fun h5 => ?_) (fun h5 => ?_)
    · rw [if_pos h5] at k2
      walk_at "rd"
      exact (k2 _ rfl).here
    rw [if_neg h5] at k1
    walk_at "rd"
    exact k1 _ rfl
def spEnter (CR : Addr) : Sp := fun vs H Q _ => ∃ (H0 : Hp) (x m : Addr) (hand r : Int) (s : Rn) (v : V) (w : Option (Int × Int)), vs = [.ref x, .int r, v] ∧ RunAt CR H0 H x m hand s ∧ Rp H v (whD w) ∧ s.pt.length = 4 ∧ ∀ H', RunAt CR H0 H' x m hand (s.enter r w) → Tk H H' → Q .non H'
theorem RpAll.split {H : Hp} : ∀ {ds1 ds2 : List PyData} {vs : List V}, RpAll H vs (ds1 ++ ds2) → ∃ v1 v2, vs = v1 ++ v2 ∧ RpAll H v1 ds1 ∧ RpAll H v2 ds2
  | [], _, vs, h => ⟨[], vs, rfl, .nil, h⟩
  | d :: ds1, ds2, vs, h => by
    obtain ⟨u, r, rfl, hu, hr⟩ := RpAll.cons_inv (show RpAll H vs (d :: (ds1 ++ ds2)) from h)
    obtain ⟨v1, v2, rfl, h1, h2⟩ := RpAll.split hr
    exact ⟨u :: v1, v2, rfl, .cons hu h1, h2⟩

end
end Rg

namespace Rg
open PySem PySem.Spec L2
local macro_rules | `(tactic| walk_at "rd1") => `(tactic| first
  | with_reducible refine rd_seq ?_
  | with_reducible refine rd_asg ?_
  | ((with_reducible show tVar _ _ _ _); refine rd_var rfl ?_)
  | with_reducible refine rd_c ?_
  | with_reducible refine rd_op ?_
  | with_reducible refine rd_I0 ?_
  | with_reducible refine rd_name ?_
  | with_reducible refine rd_ret ?_
  | with_reducible refine rd_ifs ?_
  | with_reducible refine rd_test ?_
  | with_reducible refine rd_tB ?_
  | with_reducible refine rd_bl ?_
  | with_reducible refine rd_drop ?_
  | with_reducible refine rd_nil ?_
  | with_reducible refine rd_cons ?_
  | with_reducible refine rd_call ?_
  | with_reducible refine rd_cb ?_
  | with_reducible refine rd_tup ?_
  | with_reducible refine rd_lst ?_
  | with_reducible refine rd_and ?_
  | with_reducible refine rd_or ?_
  | with_reducible refine rd_not ?_
  | with_reducible refine rd_andV ?_
  | with_reducible refine rd_orV ?_
  | with_reducible refine rd_notV ?_
  | with_reducible refine rd_chain ?_
  | with_reducible refine rd_un ?_
  | with_reducible refine rd_isN ?_
  | with_reducible refine rd_bm ?_
  | with_reducible refine rd_bm0 ?_
  | with_reducible refine rd_gsub ?_
  | with_reducible refine rd_sl ?_
  | with_reducible refine rd_gt ?_
  | with_reducible refine rd_yes ?_
  | with_reducible refine rd_gcons ?_
  | with_reducible refine rd_gnil ?_
  | with_reducible refine rd_part ?_
  | with_reducible refine rd_nopart ?_
  | ((with_reducible show gTup _ _ _ _ _ _ _); refine rd_gtup (by first | assumption | exact upd_same) rfl ?_)
  | ((with_reducible show gLst _ _ _ _ _ _ _); refine rd_glst (by first | assumption | exact upd_same) rfl ?_)
  | ((with_reducible show rIsi _ _ _ _); first | refine rd_isi (b := true) (.ty _) (.base (by first | exact .int _ | exact .str _ | exact .bl _ | exact .non | exact .tup (by assumption) | exact .lst (by assumption))) (kit_ty (by decide +kernel)) ?_ | refine rd_isi (b := false) (.ty _) (.base (by first | exact .int _ | exact .str _ | exact .bl _ | exact .non | exact .tup (by assumption) | exact .lst (by assumption))) (kit_ty (by decide +kernel)) ?_)
  | with_reducible refine rd_fld ?_
  | with_reducible refine rd_sfld ?_
  | with_reducible refine rd_meth ?_
  | with_reducible refine rd_make ?_
  | with_reducible refine rd_makeK ?_
  | with_reducible refine rd_U ?_
  | with_reducible refine rd_makeKS ?_
  | with_reducible refine rd_callN ?_
  | with_reducible refine rd_rs ?_
  | with_reducible refine rd_rf ?_
  | with_reducible refine rd_star ?_
  | with_reducible refine rd_callS ?_
  | with_reducible refine rd_for ?_
  | with_reducible refine rd_lc ?_
  | with_reducible refine rd_ilist ?_
  | with_reducible refine rd_itup ?_
  | with_reducible refine rd_irng ?_
  | with_reducible refine rd_izipS ?_
  | with_reducible refine rd_ienum ?_
  | with_reducible refine rd_ienT ?_
  | with_reducible refine rd_next ?_
  | with_reducible refine rd_eq rfl ?_
  | with_reducible refine rd_ne rfl ?_
  | with_reducible refine iteT ?_
  | with_reducible refine iteF ?_
  | with_reducible refine rd_ifnT ?_
  | with_reducible refine rd_ifnF ?_
  | ((with_reducible show rI (fun _ j => (0 : Int) < j) _ _ _ _ _); refine rd_mod (by omega) ?_)
  | with_reducible refine rd_new rfl ?_
  | ((with_reducible show rIxL _ _ (V.int 0) _ _); refine rd_ixL0 (by first | assumption | exact upd_same) ?_)
  | ((with_reducible show rIxL _ _ _ _ _); refine rd_ixL (by first | assumption | exact upd_same) rfl ?_)
  | ((with_reducible show rSetL _ _ _ _ _); refine rd_setL (by first | assumption | exact upd_same) rfl ?_)
  | ((with_reducible show rI CMul _ _ _ _ _); refine rd_mul (by first | exact Or.inl ⟨by omega, by omega⟩ | exact Or.inr ⟨by omega, by omega⟩) ?_)
  | ((with_reducible show tyV _ "list" _ _ ∧ _); refine rd_tyL (by first | assumption | exact upd_same) ?_)
  | ((with_reducible show rIxT _ _ (V.int 0) _ _); refine rd_ixT0 (by first | assumption | exact upd_same) ?_)
  | ((with_reducible show rIxT _ _ _ _ _); refine rd_ixT (by first | assumption | exact upd_same) rfl ?_))
local macro_rules | `(tactic| walk_at "rdn1") => `(tactic| first
  | with_reducible refine rd_seq ?_
  | with_reducible refine rd_asg ?_
  | ((with_reducible show tVar _ _ _ _); refine rd_var rfl ?_)
  | with_reducible refine rd_c ?_
  | with_reducible refine rd_op ?_
  | with_reducible refine rd_I0 ?_
  | with_reducible refine rd_name ?_
  | with_reducible refine rd_ret ?_
  | with_reducible refine rd_ifs ?_
  | with_reducible refine rd_test ?_
  | with_reducible refine rd_tB ?_
  | with_reducible refine rd_bl ?_
  | with_reducible refine rd_drop ?_
  | with_reducible refine rd_nil ?_
  | with_reducible refine rd_cons ?_
  | with_reducible refine rd_call ?_
  | with_reducible refine rd_cb ?_
  | with_reducible refine rd_tup ?_
  | with_reducible refine rd_lst ?_
  | with_reducible refine rd_and ?_
  | with_reducible refine rd_or ?_
  | with_reducible refine rd_not ?_
  | with_reducible refine rd_notV ?_
  | with_reducible refine rd_chain ?_
  | with_reducible refine rd_un ?_
  | with_reducible refine rd_isN ?_
  | with_reducible refine rd_bm ?_
  | with_reducible refine rd_bm0 ?_
  | with_reducible refine rd_gsub ?_
  | with_reducible refine rd_sl ?_
  | with_reducible refine rd_gt ?_
  | with_reducible refine rd_yes ?_
  | with_reducible refine rd_gcons ?_
  | with_reducible refine rd_gnil ?_
  | with_reducible refine rd_part ?_
  | with_reducible refine rd_nopart ?_
  | ((with_reducible show gTup _ _ _ _ _ _ _); refine rd_gtup (by first | assumption | exact upd_same) rfl ?_)
  | ((with_reducible show gLst _ _ _ _ _ _ _); refine rd_glst (by first | assumption | exact upd_same) rfl ?_)
  | ((with_reducible show rIsi _ _ _ _); first | refine rd_isi (b := true) (.ty _) (.base (by first | exact .int _ | exact .str _ | exact .bl _ | exact .non | exact .tup (by assumption) | exact .lst (by assumption))) (kit_ty (by decide +kernel)) ?_ | refine rd_isi (b := false) (.ty _) (.base (by first | exact .int _ | exact .str _ | exact .bl _ | exact .non | exact .tup (by assumption) | exact .lst (by assumption))) (kit_ty (by decide +kernel)) ?_)
  | with_reducible refine rd_fld ?_
  | with_reducible refine rd_sfld ?_
  | with_reducible refine rd_meth ?_
  | with_reducible refine rd_make ?_
  | with_reducible refine rd_makeK ?_
  | with_reducible refine rd_U ?_
  | with_reducible refine rd_makeKS ?_
  | with_reducible refine rd_callN ?_
  | with_reducible refine rd_rs ?_
  | with_reducible refine rd_rf ?_
  | with_reducible refine rd_star ?_
  | with_reducible refine rd_callS ?_
  | with_reducible refine rd_for ?_
  | with_reducible refine rd_lc ?_
  | with_reducible refine rd_ilist ?_
  | with_reducible refine rd_itup ?_
  | with_reducible refine rd_irng ?_
  | with_reducible refine rd_izipS ?_
  | with_reducible refine rd_ienum ?_
  | with_reducible refine rd_ienT ?_
  | with_reducible refine rd_next ?_
  | with_reducible refine rd_eq rfl ?_
  | with_reducible refine rd_ne rfl ?_
  | with_reducible refine iteT ?_
  | with_reducible refine iteF ?_
  | with_reducible refine rd_ifnT ?_
  | with_reducible refine rd_ifnF ?_
  | ((with_reducible show rI (fun _ j => (0 : Int) < j) _ _ _ _ _); refine rd_mod (by omega) ?_)
  | with_reducible refine rd_new rfl ?_
  | ((with_reducible show rIxL _ _ (V.int 0) _ _); refine rd_ixL0 (by first | assumption | exact upd_same) ?_)
  | ((with_reducible show rIxL _ _ _ _ _); refine rd_ixL (by first | assumption | exact upd_same) rfl ?_)
  | ((with_reducible show rSetL _ _ _ _ _); refine rd_setL (by first | assumption | exact upd_same) rfl ?_)
  | ((with_reducible show rI CMul _ _ _ _ _); refine rd_mul (by first | exact Or.inl ⟨by omega, by omega⟩ | exact Or.inr ⟨by omega, by omega⟩) ?_)
  | ((with_reducible show tyV _ "list" _ _ ∧ _); refine rd_tyL (by first | assumption | exact upd_same) ?_)
  | ((with_reducible show rIxT _ _ (V.int 0) _ _); refine rd_ixT0 (by first | assumption | exact upd_same) ?_)
  | ((with_reducible show rIxT _ _ _ _ _); refine rd_ixT (by first | assumption | exact upd_same) rfl ?_))
local macro_rules | `(tactic| walk_at "rd") => `(tactic| (repeat (first | walk_at "rd1" | dsimp only)))
local macro_rules | `(tactic| walk_at "rds") => `(tactic| (dsimp only [cxOf, Cx.nox, Cx.wish, Cx.blk, L2.start]; walk_at "rd"))
local macro_rules | `(tactic| walk_at "rdn") => `(tactic| (repeat (first | walk_at "rdn1" | dsimp only)))
section
variable {P : Program} {w : World} {K : PySem.W.Frag} {mg : Str → Option Value} {base : Heap}

theorem rd_irng2 {ta : TA} {σ : L2.St} {H : Hp} {R : It → Hp → Prop} (h : ta σ H fun vs H1 => ∃ i j : Int, vs = [.int i, .int j] ∧ (-(2 ^ 62) ≤ i ∧ i < 2 ^ 62 ∧ -(2 ^ 62) ≤ j ∧ j < 2 ^ 62) ∧ R (Itr i (j - i).toNat) H1) : iRng2 ta σ H R := h
theorem rd_tif {tc : TT} {ta tb : TE} {σ : L2.St} {H : Hp} {Q : VK} (h : tc σ H fun c H1 => if c = true then ta σ H1 Q else tb σ H1 Q) : tIf tc ta tb σ H Q := h
/-- a machine that is asked -/
structure Msk (C : Addr) (H : Hp) (x : Addr) (us : List V) (xs : List Sg) (b : Int) : Prop where
  at_ : MAt C H x us b
  rp : RpAll H us (xs.map Sg.d)
  l8 : xs.length ≤ 8
theorem Msk.same {C x : Addr} {H H' : Hp} {us : List V} {xs : List Sg} {b : Int} (M : Msk C H x us xs b) (e : Same H H') : Msk C H' x us xs b := ⟨M.at_.same e, M.rp.keep (Tk.of e), M.l8⟩
theorem Msk.len {C x : Addr} {H : Hp} {us : List V} {xs : List Sg} {b : Int} (M : Msk C H x us xs b) : us.length = xs.length := by rw [M.rp.length, List.length_map]
theorem Msk.seg {C x : Addr} {H : Hp} {us : List V} {xs : List Sg} {b g : Int} (M : Msk C H x us xs b) (g0 : 0 ≤ g) (gN : g < (xs.length : Int)) : ∃ v, us[g.toNat]? = some v ∧ Rp H v (sgAt xs g).d := M.rp.get2 (i := g.toNat) (by
    unfold sgAt
    rw [List.getElem?_map, List.getD_eq_getElem?_getD, List.getElem?_eq_getElem (by omega)]
    rfl)
theorem sg_tup {H : Hp} {v : V} {x : Sg} (h : Rp H v x.d) : ∃ (p pb pw pr : Addr) (vw vr : List V), v = .ref p ∧ H p = some (.tup [.ref pb, .str x.ri, .int x.ga, .ref pw, .ref pr]) ∧ H pw = some (.tup vw) ∧ RpAll H vw (x.ws.map Wd.d) ∧ H pr = some (.tup vr) ∧ RpAll H vr (x.rs.map Rw.d) := by
  obtain ⟨p, vs, rfl, hp, ha⟩ := h.tup_inv
  obtain ⟨x0, xr, rfl, h0, ha⟩ := ha.cons_inv
  obtain ⟨x1, xr, rfl, h1, ha⟩ := ha.cons_inv
  obtain ⟨x2, xr, rfl, h2, ha⟩ := ha.cons_inv
  obtain ⟨x3, xr, rfl, h3, ha⟩ := ha.cons_inv
  obtain ⟨x4, xr, rfl, h4, ha⟩ := ha.cons_inv
  have e := ha.nil_inv; subst e
  have e := h1.str_inv; subst e
  have e := h2.int_inv; subst e
  obtain ⟨pb, vb, rfl, hpb, hab⟩ := h0.tup_inv
  obtain ⟨pw, vw, rfl, hpw, haw⟩ := h3.tup_inv
  obtain ⟨pr, vr, rfl, hpr, har⟩ := h4.tup_inv
  exact ⟨p, pb, pw, pr, vw, vr, rfl, hp, hpw, haw, hpr, har⟩
theorem st_tup {H : Hp} {u : V} {c : St4} (r : Rp H u (stD c)) : ∃ p, u = .ref p ∧ H p = some (.tup [.int c.1, .int c.2.1, .int c.2.2.1, .int c.2.2.2]) := by
  obtain ⟨p, vs, rfl, hp, ha⟩ := r.tup_inv
  have e := RpAll.ints_inv (ns := [c.1, c.2.1, c.2.2.1, c.2.2.2]) ha
  subst e
  exact ⟨p, rfl, hp⟩
theorem to_tup {H : Hp} {u : V} {c : Int × Int × Int × Str} (r : Rp H u (toD c)) : ∃ p, u = .ref p ∧ H p = some (.tup [.int c.1, .int c.2.1, .int c.2.2.1, .str c.2.2.2]) := by
  obtain ⟨p, vs, rfl, hp, ha⟩ := r.tup_inv
  obtain ⟨x0, xr, rfl, h0, ha⟩ := ha.cons_inv
  obtain ⟨x1, xr, rfl, h1, ha⟩ := ha.cons_inv
  obtain ⟨x2, xr, rfl, h2, ha⟩ := ha.cons_inv
  obtain ⟨x3, xr, rfl, h3, ha⟩ := ha.cons_inv
  have e := ha.nil_inv; subst e
  have e := h0.int_inv; subst e
  have e := h1.int_inv; subst e
  have e := h2.int_inv; subst e
  have e := h3.str_inv; subst e
  exact ⟨p, rfl, hp⟩
def spTouchFits (C : Addr) : Sp := fun vs H Q _ => ∃ (x : Addr) (us : List V) (xs : List Sg) (b : Int) (u : V) (t : Int × Int × Int × Str), vs = [.ref x, u] ∧ Msk C H x us xs b ∧ Rp H u (toD t) ∧ ∀ H', Same H H' → Q (.bl (tFit xs t)) H'
theorem ok_touchFits {f C : Addr} {fd : FuncData} (B : BT mg) (T : MC K mg C) (F : Fun K "touch_fits" "touch_fits" s_touch_fits f fd) (hm : mg "touch_fits" = some (.ref f)) (M_len : Mth P w K mg base C "__len__" 1 ["self"] (spLen C)) (M_seg : Mth P w K mg base C "segment" 3 ["self", "number"] (spSegAt C))
    (C_is_below : Cal P w K mg base "is_below" 2 ["number", "bound"] spBelow) (C_is_ring : Cal P w K mg base "is_ring" 3 ["number"] spRing) (C_may_read : Cal P w K mg base "may_read" 1 ["segment", "ring"] (spMay mRead)) (C_may_write : Cal P w K mg base "may_write" 1 ["segment", "ring"] (spMay mWrite)) : Cal P w K mg base "touch_fits" 4 ["machine", "touch"] (spTouchFits C) := by
  refine ⟨f, fd, hm, F.kp, F.binds (ps := ["machine", "touch"]) fun _ _ _ _ _ _ us hl => match us, hl with | [_, _], _ => rfl, ?_⟩
  refine F.ok sc_touch_fits (fun vs H Q E h => ?_) (fun cdv A outer s H vs Q E hr h => ?_)
  · obtain ⟨x, us, xs, b, u, t, rfl, _⟩ := h
    rfl
  · obtain ⟨x, us, xs, b, u, ⟨e, g, p, w⟩, rfl, M, ru, k⟩ := h
    refine ⟨_, (pss_cons (ps_asg (pv 1) (pg_tup (by rfl) (pgs_cons (pg_name (i := 2) sc_touch_fits.nd rfl (Or.inl rfl)) (pgs_cons (pg_name (i := 3) sc_touch_fits.nd rfl (Or.inl rfl)) (pgs_cons (pg_name (i := 4) sc_touch_fits.nd rfl (Or.inl rfl)) (pgs_cons (pg_name (i := 5) sc_touch_fits.nd rfl (Or.inl rfl)) pgs_nil))))))
 (pss_cons (ps_if (PW.pt (pw_or (pt_not (pt_val (pe_cal C_is_ring (hr.mono (by omega)) rfl (pa_cons (pv 2) pa_nil)))) (pw_or1 (pt_not (pt_val (pe_cal C_is_below (hr.mono (by omega)) rfl (pa_cons (pv 3) (pa_cons (pe_callB (r := rLenO C (spLen C) E0) (cr_len M_len (hr.mono (by omega))) rfl B.g_len PySem.boot_len (pa_cons (pv 0) pa_nil)) pa_nil)))))))) (pss_one (ps_ret pe_bl)) pss_nil)
 (pss_cons (ps_set (i := 6) sc_touch_fits.nd rfl (Or.inl rfl) (pe_mth M_seg T.cl (hr.mono (by omega)) (pv 0) (pa_cons (pv 3) pa_nil)))
 (pss_cons (ps_if (pt_not (pt_val (pe_cal C_is_below (hr.mono (by omega)) rfl (pa_cons (pv 4) (pa_cons (pe_callB (cr_lenS (K := K)) rfl B.g_len PySem.boot_len (pa_cons (pe_ix (r := rIxT K) ix_tup (pv 6) pe_int (fun _ _ => rfl)) pa_nil)) pa_nil))))) (pss_one (ps_ret pe_bl)) pss_nil)
 (pss_one (ps_ret (pe_ifExp (pt_cmpR op_eq (pv 5) pe_str (nomark _)) (pe_cal C_may_read (hr.mono (by omega)) rfl (pa_cons (pv 6) (pa_cons (pv 2) pa_nil))) (pe_cal C_may_write (hr.mono (by omega)) rfl (pa_cons (pv 6) (pa_cons (pv 2) pa_nil)))))))))), ?_⟩
    obtain ⟨q, rfl, hq⟩ := to_tup ru
    have lu := M.len
    have hl8 := M.l8
    unfold tFit at k
    dsimp only at k hq
    obtain ⟨mdx, mq, mh1, mh2⟩ := id M.at_
    walk_at "rds"
    refine ⟨e, rfl, ?_⟩
    walk_at "rd"
    refine rd_ifn (fun hb => ?_) (fun hb => ?_)
    case refine_2 =>
      rw [hb] at k
      walk_at "rd"
      exact k _ (Same.refl _)
    rw [hb] at k
    walk_at "rd"
    refine ⟨x, mdx, _, rfl, mh1, ?_⟩
    refine ⟨x, us, b, rfl, M.at_, ⟨_, rfl, by omega, by omega, ?_⟩⟩
    rw [lu]
    walk_at "rd"
    refine ⟨g, _, rfl, ?_⟩
    walk_at "rd"
    refine rd_ifn (fun hb2 => ?_) (fun hb2 => ?_)
    case refine_2 =>
      rw [hb2] at k
      walk_at "rd"
      exact k _ (Same.refl _)
    rw [hb2] at k
    obtain ⟨g0, gN⟩ := below_iff.mp hb2
    obtain ⟨sv, hsv, rsv⟩ := M.seg g0 gN
    obtain ⟨p1, pb, pw, pr, vw, vr, e1, hp1, hpw, haw, hpr, har⟩ := sg_tup rsv
    have lvw : vw.length = (sgAt xs g).ws.length := by rw [haw.length, List.length_map]
    walk_at "rd"
    refine ⟨x, mdx, _, rfl, mh1, mFlds_no mq b (by decide +kernel) (by decide +kernel), ?_⟩
    walk_at "rd"
    refine ⟨x, us, b, g, sv, rfl, M.at_, g0, by omega, hsv, ?_⟩
    subst e1
    walk_at "rd"
    refine ⟨pw, vw, rfl, .inr (SqT.of hpw), ?_⟩
    rw [lvw]
    walk_at "rd"
    refine ⟨p, _, rfl, ?_⟩
    walk_at "rd"
    refine rd_ifn (fun hb3 => ?_) (fun hb3 => ?_)
    case refine_2 =>
      rw [hb3] at k
      walk_at "rd"
      exact k _ (Same.refl _)
    rw [hb3] at k
    walk_at "rd"
    refine rd_tif ?_
    walk_at "rd"
    refine rd_ifS (fun ew => ?_) (fun ew => ?_)
    · rw [if_pos ew] at k
      walk_at "rd"
      exact ⟨_, _, e, rfl, rsv, fun H' s' => k _ s'⟩
    · rw [if_neg ew] at k
      walk_at "rd"
      exact ⟨_, _, e, rfl, rsv, fun H' s' => k _ s'⟩
def spStepFits (C : Addr) : Sp := fun vs H Q _ => ∃ (x : Addr) (us : List V) (xs : List Sg) (b : Int) (u : V) (c : St4), vs = [.ref x, u] ∧ Msk C H x us xs b ∧ Rp H u (stD c) ∧ ∀ H', Same H H' → Q (.bl (sFit xs c)) H'
theorem ok_stepFits {f C : Addr} {fd : FuncData} (B : BT mg) (T : MC K mg C) (F : Fun K "step_fits" "step_fits" s_step_fits f fd) (hm : mg "step_fits" = some (.ref f)) (M_len : Mth P w K mg base C "__len__" 1 ["self"] (spLen C)) (M_seg : Mth P w K mg base C "segment" 3 ["self", "number"] (spSegAt C))
    (C_is_below : Cal P w K mg base "is_below" 2 ["number", "bound"] spBelow) (C_may_run : Cal P w K mg base "may_run" 1 ["segment", "ring"] (spMay mRun)) : Cal P w K mg base "step_fits" 4 ["machine", "step"] (spStepFits C) := by
  refine ⟨f, fd, hm, F.kp, F.binds (ps := ["machine", "step"]) fun _ _ _ _ _ _ us hl => match us, hl with | [_, _], _ => rfl, ?_⟩
  refine F.ok sc_step_fits (fun vs H Q E h => ?_) (fun cdv A outer s H vs Q E hr h => ?_)
  · obtain ⟨x, us, xs, b, u, t, rfl, _⟩ := h
    rfl
  · obtain ⟨x, us, xs, b, u, ⟨e, g, p, w⟩, rfl, M, ru, k⟩ := h
    refine ⟨_, (pss_cons (ps_asg (pv 1) (pg_tup (by rfl) (pgs_cons (pg_name (i := 2) sc_step_fits.nd rfl (Or.inl rfl)) (pgs_cons (pg_name (i := 3) sc_step_fits.nd rfl (Or.inl rfl)) (pgs_cons (pg_name (i := 4) sc_step_fits.nd rfl (Or.inl rfl)) (pgs_cons (pg_name (i := 5) sc_step_fits.nd rfl (Or.inl rfl)) pgs_nil))))))
 (pss_cons (ps_if (pt_not (pt_val (pe_cal C_is_below (hr.mono (by omega)) rfl (pa_cons (pv 3) (pa_cons (pe_callB (r := rLenO C (spLen C) E0) (cr_len M_len (hr.mono (by omega))) rfl B.g_len PySem.boot_len (pa_cons (pv 0) pa_nil)) pa_nil))))) (pss_one (ps_ret pe_bl)) pss_nil)
 (pss_cons (ps_set (i := 6) sc_step_fits.nd rfl (Or.inl rfl) (pe_mth M_seg T.cl (hr.mono (by omega)) (pv 0) (pa_cons (pv 3) pa_nil)))
 (pss_one (ps_ret (pe_and (pe_cal C_is_below (hr.mono (by omega)) rfl (pa_cons (pv 4) (pa_cons (pe_callB (cr_lenS (K := K)) rfl B.g_len PySem.boot_len (pa_cons (pe_ix (r := rIxT K) ix_tup (pv 6) pe_int (fun _ _ => rfl)) pa_nil)) pa_nil))) (pe_one (pe_cal C_may_run (hr.mono (by omega)) rfl (pa_cons (pv 6) (pa_cons (pv 2) pa_nil)))))))))), ?_⟩
    obtain ⟨q, rfl, hq⟩ := st_tup ru
    have lu := M.len
    have hl8 := M.l8
    unfold sFit at k
    dsimp only at k hq
    obtain ⟨mdx, mq, mh1, mh2⟩ := id M.at_
    walk_at "rds"
    refine ⟨x, mdx, _, rfl, mh1, ?_⟩
    refine ⟨x, us, b, rfl, M.at_, ⟨_, rfl, by omega, by omega, ?_⟩⟩
    rw [lu]
    walk_at "rd"
    refine ⟨g, _, rfl, ?_⟩
    walk_at "rd"
    refine rd_ifn (fun hb2 => ?_) (fun hb2 => ?_)
    case refine_2 =>
      rw [hb2] at k
      walk_at "rd"
      exact k _ (Same.refl _)
    rw [hb2] at k
    obtain ⟨g0, gN⟩ := below_iff.mp hb2
    obtain ⟨sv, hsv, rsv⟩ := M.seg g0 gN
    obtain ⟨p1, pb, pw, pr, vw, vr, e1, hp1, hpw, haw, hpr, har⟩ := sg_tup rsv
    have lvr : vr.length = (sgAt xs g).rs.length := by rw [har.length, List.length_map]
    walk_at "rd"
    refine ⟨x, mdx, _, rfl, mh1, mFlds_no mq b (by decide +kernel) (by decide +kernel), ?_⟩
    walk_at "rd"
    refine ⟨x, us, b, g, sv, rfl, M.at_, g0, by omega, hsv, ?_⟩
    subst e1
    walk_at "rd"
    refine ⟨pr, vr, rfl, .inr (SqT.of hpr), ?_⟩
    rw [lvr]
    walk_at "rd"
    refine ⟨p, _, rfl, ?_⟩
    walk_at "rd"
    refine rd_ifb (fun hb3 => ?_) (fun hb3 => ?_)
    · rw [hb3] at k
      walk_at "rd"
      exact ⟨_, _, e, rfl, rsv, fun H' s' => k _ s'⟩
    · rw [hb3] at k
      exact k _ (Same.refl _)
def ledV : Option Int → V
  | none => .non
  | some r => .int r
def spLed : Sp := fun vs H Q _ => ∃ (v : V) (x : Sg) (pl e : Int), vs = [v, .int pl, .int e] ∧ Rp H v x.d ∧ ∀ H', Same H H' → Q (ledV (ledTo x pl e)) H'
theorem ok_led {f CF : Addr} {fd : FuncData} (Fc : FltC P w K mg base CF) (hxm : PySem.W.exmOne K (.ref CF) (.ref CF) = some true) (F : Fun K "ring_led_to" "ring_led_to" s_ring_led_to f fd) (hm : mg "ring_led_to" = some (.ref f)) (C_entered : CalN P w K mg base "entered" 3 ["segment", "place", "e"] (spEntered CF)) : Cal P w K mg base "ring_led_to" 4 ["segment", "place", "e"] spLed := by
  refine ⟨f, fd, hm, F.kp, F.binds (ps := ["segment", "place", "e"]) fun _ _ _ _ _ _ us hl => match us, hl with | [_, _, _], _ => rfl, ?_⟩
  refine F.ok sc_ring_led_to (fun vs H Q E h => ?_) (fun cdv A outer s H vs Q E hr h => ?_)
  · obtain ⟨v, x, pl, e, rfl, _⟩ := h
    rfl
  · obtain ⟨v, x, pl, e, rfl, rv, k⟩ := h
    refine ⟨_, PSs.nox (pss_one (L2H.ps_try_onlyX rfl rfl ⟨rfl, by decide, .inl Fc.mgx⟩ (fun _ => PassesOwnAt.never) takes0 (fun W pn xe tk _ _ => (pss_one (ps_ret (pe_calNS C_entered tk (hr.mono (by omega)) rfl (pa_cons (pv 0) (pa_cons (pv 1) (pa_cons (pv 2) pa_nil))))))) (fun a oe cls d pn hz hf tk2 hot => (pss_one (ps_ret pe_non))))), ?_⟩
    walk_at "rds"
    unfold ledTo at k
    refine ⟨v, x, pl, e, rfl, rv, fun r er => ?_, fun c ec => ?_⟩
    · rw [er] at k
      exact k _ (Same.refl _)
    · rw [ec] at k
      intro d H' hd hx sm
      refine ⟨true, hxm, fun _ ae hae => ?_, fun z => nomatch z⟩
      walk_at "rd"
      exact k _ sm
def spIsEnt (C : Addr) : Sp := fun vs H Q _ => ∃ (x : Addr) (us : List V) (xs : List Sg) (b : Int) (u : V) (c : St4) (fr : Int), vs = [.ref x, u, .int fr] ∧ Msk C H x us xs b ∧ Rp H u (stD c) ∧ below c.2.1 (xs.length : Int) = true ∧ -500 ≤ fr ∧ fr < 2 ^ 62 ∧ ∀ H', Same H H' → Q (.bl (isEnt xs c fr)) H'
theorem ok_isEnt {f C : Addr} {fd : FuncData} (B : BT mg) (T : MC K mg C) (G_RINGS : GI mg "RINGS" 8) (F : Fun K "is_entered" "is_entered" s_is_entered f fd) (hm : mg "is_entered" = some (.ref f)) (M_seg : Mth P w K mg base C "segment" 3 ["self", "number"] (spSegAt C))
    (C_ring_led_to : Cal P w K mg base "ring_led_to" 4 ["segment", "place", "e"] spLed) : Cal P w K mg base "is_entered" 5 ["machine", "step", "from_ring"] (spIsEnt C) := by
  refine ⟨f, fd, hm, F.kp, F.binds (ps := ["machine", "step", "from_ring"]) fun _ _ _ _ _ _ us hl => match us, hl with | [_, _, _], _ => rfl, ?_⟩
  refine F.ok sc_is_entered (fun vs H Q E h => ?_) (fun cdv A outer s H vs Q E hr h => ?_)
  · obtain ⟨x, us, xs, b, u, c, fr, rfl, _⟩ := h
    rfl
  · obtain ⟨x, us, xs, b, u, ⟨r, g, p, n⟩, fr, rfl, M, ru, hb, f0, f1, k⟩ := h
    refine ⟨_, (pss_cons (ps_asg (pv 1) (pg_tup (by rfl) (pgs_cons (pg_name (i := 3) sc_is_entered.nd rfl (Or.inr rfl)) (pgs_cons (pg_name (i := 4) sc_is_entered.nd rfl (Or.inl rfl)) (pgs_cons (pg_name (i := 5) sc_is_entered.nd rfl (Or.inr rfl)) (pgs_cons (pg_name (i := 6) sc_is_entered.nd rfl (Or.inl rfl)) pgs_nil))))))
 (pss_cons (ps_set (i := 7) sc_is_entered.nd rfl (Or.inr rfl) (pe_mth M_seg T.cl (hr.mono (by omega)) (pv 0) (pa_cons (pv 4) pa_nil)))
 (pss_one (ps_ret (pe_callB (r := rAny K) (cr_any rfl) rfl B.g_any (by decide +kernel) (pa_cons (pe_lc (own := [("e", 8)]) (g := gName 8) (tt := tYes) rfl sc_is_entered.nd (pi_range2 rfl B.g_range (pa_cons (pv 2) (pa_cons (pe_gi G_RINGS rfl) pa_nil))) (blkOk_by (own := [("e", 8)]) (N := ["machine", "step", "from_ring", "ring", "number", "place", "calls", "segment", "e"]) (sc := defScope s_is_entered) (by decide +kernel)) (fun _ _ _ _ _ => (pg_name (i := 8) sc_is_entered.nd rfl (by first | exact Or.inl rfl | exact Or.inr rfl))) (fun _ _ _ _ _ => pts_nil) (fun _ _ _ _ _ => (pe_cmpR op_eq (pe_cal C_ring_led_to (hr.mono (by omega)) rfl (pa_cons (pv 7) (pa_cons (pv 5) (pa_cons (pv 8) pa_nil)))) (pv 3) (nomark _)))) pa_nil)))))), ?_⟩
    obtain ⟨q, rfl, hq⟩ := st_tup ru
    have lu := M.len
    unfold isEnt at k
    dsimp only at k hq hb
    obtain ⟨g0, gN⟩ := below_iff.mp hb
    obtain ⟨sv, hsv, rsv⟩ := M.seg g0 gN
    obtain ⟨mdx, mq, mh1, mh2⟩ := id M.at_
    walk_at "rds"
    refine ⟨x, mdx, _, rfl, mh1, mFlds_no mq b (by decide +kernel) (by decide +kernel), ?_⟩
    walk_at "rd"
    refine ⟨x, us, b, g, sv, rfl, M.at_, g0, by omega, hsv, ?_⟩
    walk_at "rd"
    refine rd_irng2 ?_
    walk_at "rd"
    refine ⟨fr, 8, rfl, ⟨by omega, by omega, by decide, by decide⟩, fun D hD => ?_⟩
    refine lc_it (walk_range (lo := fr) (n := (8 - fr).toNat)) (CompL D H (List.range (8 - fr).toNat) (fun i => V.bl ((fun i : Nat => decide (ledTo (sgAt xs g) p (fr + (i : Int)) = some r)) i))) (CompL.start hD) (fun _ _ _ _ => trivial) ?_ ?_
    · rintro i y H2 H3 hi pc ⟨rfl, rfl⟩
      walk_at "rd"
      refine ⟨rfl, ?_⟩
      walk_at "rd"
      refine ⟨sv, _, p, _, rfl, rsv.keep (Tk.of pc.2), fun H4 s4 => ?_⟩
      have fin : ∀ y', y' = V.bl (decide (ledTo (sgAt xs g) p (fr + (i : Int)) = some r)) → _ := fun y' ey => pc.step hD (show i ≤ 1000 by omega) (List.getElem?_range hi) s4 ey
      cases e : ledTo (sgAt xs g) p (fr + (i : Int)) with
      | none =>
        dsimp only [ledV]
        walk_at "rd"
        exact fin _ (by rw [e]; rfl)
      | some r' =>
        dsimp only [ledV]
        walk_at "rd"
        refine fin _ ?_
        rw [e]
        congr 1
        by_cases er : r' = r
        · subst er; simp
        · rw [decide_eq_false (fun z => er (by injection z)), decide_eq_false (fun z => er (by injection z))]
    intro H2 pc
    have hd := pc.end (by rw [List.length_range])
    walk_at "rd"
    refine ⟨D, (List.range (8 - fr).toNat).map fun i : Nat => decide (ledTo (sgAt xs g) p (fr + (i : Int)) = some r), rfl, SqL.of (by rw [hd, List.map_map]; rfl), ?_⟩
    rw [List.any_map]
    exact k _ pc.2
theorem eq2 (a b c d : Int) : PyData.eqv (.tuple [.int a, .int b]) (.tuple [.int c, .int d]) = decide (a = c ∧ b = d) := by
  show (a == c && (b == d && true)) = _
  rw [Bool.and_true, Bool.decide_and]
  rfl
theorem eq3 (a b c d e f : Int) : PyData.eqv (.tuple [.int a, .int b, .int c]) (.tuple [.int d, .int e, .int f]) = decide (a = d ∧ b = e ∧ c = f) := by
  show (a == d && (b == e && (c == f && true))) = _
  rw [Bool.and_true, Bool.decide_and, Bool.decide_and]
  rfl
theorem int_shaped : ∀ (ns : List Int), ns.length ≤ 1000 → SeqAt.shaped (.tuple (ns.map PyData.int)) = true := fun ns h => shaped_of (j := 2) (lay_map ns fun _ _ => rfl) (okN_map h fun _ _ => trivial) (by decide)
def stO : Option St4 → PyData
  | none => .none
  | some c => stD c
def spBack : Sp := fun vs H Q _ => ∃ (u v : V) (d : St4) (o : Option St4), vs = [u, v] ∧ Rp H u (stD d) ∧ Rp H v (stO o) ∧ ∀ H', Same H H' → Q (.bl (cameBack d o)) H'
theorem ok_back {f : Addr} {fd : FuncData} (B : BT mg) (F : Fun K "is_come_back_to" "is_come_back_to" s_is_come_back_to f fd) (hm : mg "is_come_back_to" = some (.ref f)) : Cal P w K mg base "is_come_back_to" 1 ["step", "call"] spBack := by
  refine ⟨f, fd, hm, F.kp, F.binds (ps := ["step", "call"]) fun _ _ _ _ _ _ us hl => match us, hl with | [_, _], _ => rfl, ?_⟩
  refine F.ok sc_is_come_back_to (fun vs H Q E h => ?_) (fun cdv A outer s H vs Q E hr h => ?_)
  · obtain ⟨u, v, d, o, rfl, _⟩ := h
    rfl
  · obtain ⟨u, v, ⟨r, g, p, n⟩, o, rfl, ru, rv, k⟩ := h
    refine ⟨_, (pss_cons (ps_if (pt_cmpR op_isN (pv 1) pe_non (nomark _)) (pss_one (ps_ret pe_bl)) pss_nil)
 (pss_cons (ps_asg (pv 1) (pg_tup (by rfl) (pgs_cons (pg_name (i := 2) sc_is_come_back_to.nd rfl (Or.inl rfl)) (pgs_cons (pg_name (i := 3) sc_is_come_back_to.nd rfl (Or.inl rfl)) (pgs_cons (pg_name (i := 4) sc_is_come_back_to.nd rfl (Or.inl rfl)) (pgs_cons (pg_name (i := 5) sc_is_come_back_to.nd rfl (Or.inl rfl)) pgs_nil))))))
 (pss_one (ps_ret (pe_cmpR (r := rEqD K) (op_eqD hr.units) (pe_slice (r := rSlA K) sl_tupA (pv 0) po_none (po_some pe_int)) (pe_tup (pa_cons (pv 2) (pa_cons (pv 3) (pa_cons (pe_op op_add (pv 4) pe_int) pa_nil)))) (nomark _)))))), ?_⟩
    obtain ⟨q, rfl, hq⟩ := st_tup ru
    dsimp only at hq
    cases o with
    | none =>
      have e : v = .non := by
        have rv' : Rp H v .none := rv
        cases rv'
        rfl
      subst e
      walk_at "rds"
      refine ⟨rfl, ?_⟩
      walk_at "rd"
      refine rd_ifT rfl ?_
      walk_at "rd"
      exact k _ (Same.refl _)
    | some c =>
      obtain ⟨r1, g1, p1, n1⟩ := c
      obtain ⟨q1, rfl, hq1⟩ := st_tup (show Rp H v (stD (r1, g1, p1, n1)) from rv)
      dsimp only at hq1
      walk_at "rds"
      refine ⟨rfl, ?_⟩
      walk_at "rd"
      refine rd_ifF (fun z => V.noConfusion z) ?_
      walk_at "rd"
      refine ⟨3, rfl, ?_⟩
      refine rd_slA hq fun q2 H2 s2 e2 => ?_
      replace e2 : H2 q2 = some (.tup [.int r, .int g, .int p]) := e2
      walk_at "rd"
      intro q3 hq3
      have s3 := same_upd (o := .tup [.int r1, .int g1, .int (p1 + 1)]) hq3
      refine rd_eqD (d := .tuple [.int r, .int g, .int p]) (e := .tuple [.int r1, .int g1, .int (p1 + 1)]) (Rp.tup (s3 _ _ e2) (.cons (.int _) (.cons (.int _) (.cons (.int _) .nil)))).dp (Rp.tup upd_same (.cons (.int _) (.cons (.int _) (.cons (.int _) .nil)))).dp (int_shaped [r, g, p] (by show 3 ≤ 1000; decide)) (int_shaped [r1, g1, p1 + 1] (by show 3 ≤ 1000; decide)) ?_
      rw [eq3]
      exact k _ (s2.trans s3)

end
end Rg

namespace Rg
open PySem PySem.Spec L2
local macro_rules | `(tactic| walk_at "rd1") => `(tactic| first
  | with_reducible refine rd_seq ?_
  | with_reducible refine rd_asg ?_
  | ((with_reducible show tVar _ _ _ _); refine rd_var rfl ?_)
  | with_reducible refine rd_c ?_
  | with_reducible refine rd_op ?_
  | with_reducible refine rd_I0 ?_
  | with_reducible refine rd_name ?_
  | with_reducible refine rd_ret ?_
  | with_reducible refine rd_ifs ?_
  | with_reducible refine rd_test ?_
  | with_reducible refine rd_tB ?_
  | with_reducible refine rd_bl ?_
  | with_reducible refine rd_drop ?_
  | with_reducible refine rd_nil ?_
  | with_reducible refine rd_cons ?_
  | with_reducible refine rd_call ?_
  | with_reducible refine rd_cb ?_
  | with_reducible refine rd_tup ?_
  | with_reducible refine rd_lst ?_
  | with_reducible refine rd_and ?_
  | with_reducible refine rd_or ?_
  | with_reducible refine rd_not ?_
  | with_reducible refine rd_andV ?_
  | with_reducible refine rd_orV ?_
  | with_reducible refine rd_notV ?_
  | with_reducible refine rd_chain ?_
  | with_reducible refine rd_un ?_
  | with_reducible refine rd_isN ?_
  | with_reducible refine rd_bm ?_
  | with_reducible refine rd_bm0 ?_
  | with_reducible refine rd_gsub ?_
  | with_reducible refine rd_sl ?_
  | with_reducible refine rd_gt ?_
  | with_reducible refine rd_yes ?_
  | with_reducible refine rd_gcons ?_
  | with_reducible refine rd_gnil ?_
  | with_reducible refine rd_part ?_
  | with_reducible refine rd_nopart ?_
  | ((with_reducible show gTup _ _ _ _ _ _ _); refine rd_gtup (by first | assumption | exact upd_same) rfl ?_)
  | ((with_reducible show gLst _ _ _ _ _ _ _); refine rd_glst (by first | assumption | exact upd_same) rfl ?_)
  | ((with_reducible show rIsi _ _ _ _); first | refine rd_isi (b := true) (.ty _) (.base (by first | exact .int _ | exact .str _ | exact .bl _ | exact .non | exact .tup (by assumption) | exact .lst (by assumption))) (kit_ty (by decide +kernel)) ?_ | refine rd_isi (b := false) (.ty _) (.base (by first | exact .int _ | exact .str _ | exact .bl _ | exact .non | exact .tup (by assumption) | exact .lst (by assumption))) (kit_ty (by decide +kernel)) ?_)
  | with_reducible refine rd_fld ?_
  | with_reducible refine rd_sfld ?_
  | with_reducible refine rd_meth ?_
  | with_reducible refine rd_make ?_
  | with_reducible refine rd_makeK ?_
  | with_reducible refine rd_U ?_
  | with_reducible refine rd_makeKS ?_
  | with_reducible refine rd_callN ?_
  | with_reducible refine rd_rs ?_
  | with_reducible refine rd_rf ?_
  | with_reducible refine rd_star ?_
  | with_reducible refine rd_callS ?_
  | with_reducible refine rd_for ?_
  | with_reducible refine rd_lc ?_
  | with_reducible refine rd_ilist ?_
  | with_reducible refine rd_itup ?_
  | with_reducible refine rd_irng ?_
  | with_reducible refine rd_izipS ?_
  | with_reducible refine rd_ienum ?_
  | with_reducible refine rd_ienT ?_
  | with_reducible refine rd_next ?_
  | with_reducible refine rd_eq rfl ?_
  | with_reducible refine rd_ne rfl ?_
  | with_reducible refine iteT ?_
  | with_reducible refine iteF ?_
  | with_reducible refine rd_ifnT ?_
  | with_reducible refine rd_ifnF ?_
  | ((with_reducible show rI (fun _ j => (0 : Int) < j) _ _ _ _ _); refine rd_mod (by omega) ?_)
  | with_reducible refine rd_new rfl ?_
  | ((with_reducible show rIxL _ _ (V.int 0) _ _); refine rd_ixL0 (by first | assumption | exact upd_same) ?_)
  | ((with_reducible show rIxL _ _ _ _ _); refine rd_ixL (by first | assumption | exact upd_same) rfl ?_)
  | ((with_reducible show rSetL _ _ _ _ _); refine rd_setL (by first | assumption | exact upd_same) rfl ?_)
  | ((with_reducible show rI CMul _ _ _ _ _); refine rd_mul (by first | exact Or.inl ⟨by omega, by omega⟩ | exact Or.inr ⟨by omega, by omega⟩) ?_)
  | ((with_reducible show tyV _ "list" _ _ ∧ _); refine rd_tyL (by first | assumption | exact upd_same) ?_)
  | ((with_reducible show rIxT _ _ (V.int 0) _ _); refine rd_ixT0 (by first | assumption | exact upd_same) ?_)
  | ((with_reducible show rIxT _ _ _ _ _); refine rd_ixT (by first | assumption | exact upd_same) rfl ?_))
local macro_rules | `(tactic| walk_at "rdn1") => `(tactic| first
  | with_reducible refine rd_seq ?_
  | with_reducible refine rd_asg ?_
  | ((with_reducible show tVar _ _ _ _); refine rd_var rfl ?_)
  | with_reducible refine rd_c ?_
  | with_reducible refine rd_op ?_
  | with_reducible refine rd_I0 ?_
  | with_reducible refine rd_name ?_
  | with_reducible refine rd_ret ?_
  | with_reducible refine rd_ifs ?_
  | with_reducible refine rd_test ?_
  | with_reducible refine rd_tB ?_
  | with_reducible refine rd_bl ?_
  | with_reducible refine rd_drop ?_
  | with_reducible refine rd_nil ?_
  | with_reducible refine rd_cons ?_
  | with_reducible refine rd_call ?_
  | with_reducible refine rd_cb ?_
  | with_reducible refine rd_tup ?_
  | with_reducible refine rd_lst ?_
  | with_reducible refine rd_and ?_
  | with_reducible refine rd_or ?_
  | with_reducible refine rd_not ?_
  | with_reducible refine rd_notV ?_
  | with_reducible refine rd_chain ?_
  | with_reducible refine rd_un ?_
  | with_reducible refine rd_isN ?_
  | with_reducible refine rd_bm ?_
  | with_reducible refine rd_bm0 ?_
  | with_reducible refine rd_gsub ?_
  | with_reducible refine rd_sl ?_
  | with_reducible refine rd_gt ?_
  | with_reducible refine rd_yes ?_
  | with_reducible refine rd_gcons ?_
  | with_reducible refine rd_gnil ?_
  | with_reducible refine rd_part ?_
  | with_reducible refine rd_nopart ?_
  | ((with_reducible show gTup _ _ _ _ _ _ _); refine rd_gtup (by first | assumption | exact upd_same) rfl ?_)
  | ((with_reducible show gLst _ _ _ _ _ _ _); refine rd_glst (by first | assumption | exact upd_same) rfl ?_)
  | ((with_reducible show rIsi _ _ _ _); first | refine rd_isi (b := true) (.ty _) (.base (by first | exact .int _ | exact .str _ | exact .bl _ | exact .non | exact .tup (by assumption) | exact .lst (by assumption))) (kit_ty (by decide +kernel)) ?_ | refine rd_isi (b := false) (.ty _) (.base (by first | exact .int _ | exact .str _ | exact .bl _ | exact .non | exact .tup (by assumption) | exact .lst (by assumption))) (kit_ty (by decide +kernel)) ?_)
  | with_reducible refine rd_fld ?_
  | with_reducible refine rd_sfld ?_
  | with_reducible refine rd_meth ?_
  | with_reducible refine rd_make ?_
  | with_reducible refine rd_makeK ?_
  | with_reducible refine rd_U ?_
  | with_reducible refine rd_makeKS ?_
  | with_reducible refine rd_callN ?_
  | with_reducible refine rd_rs ?_
  | with_reducible refine rd_rf ?_
  | with_reducible refine rd_star ?_
  | with_reducible refine rd_callS ?_
  | with_reducible refine rd_for ?_
  | with_reducible refine rd_lc ?_
  | with_reducible refine rd_ilist ?_
  | with_reducible refine rd_itup ?_
  | with_reducible refine rd_irng ?_
  | with_reducible refine rd_izipS ?_
  | with_reducible refine rd_ienum ?_
  | with_reducible refine rd_ienT ?_
  | with_reducible refine rd_next ?_
  | with_reducible refine rd_eq rfl ?_
  | with_reducible refine rd_ne rfl ?_
  | with_reducible refine iteT ?_
  | with_reducible refine iteF ?_
  | with_reducible refine rd_ifnT ?_
  | with_reducible refine rd_ifnF ?_
  | ((with_reducible show rI (fun _ j => (0 : Int) < j) _ _ _ _ _); refine rd_mod (by omega) ?_)
  | with_reducible refine rd_new rfl ?_
  | ((with_reducible show rIxL _ _ (V.int 0) _ _); refine rd_ixL0 (by first | assumption | exact upd_same) ?_)
  | ((with_reducible show rIxL _ _ _ _ _); refine rd_ixL (by first | assumption | exact upd_same) rfl ?_)
  | ((with_reducible show rSetL _ _ _ _ _); refine rd_setL (by first | assumption | exact upd_same) rfl ?_)
  | ((with_reducible show rI CMul _ _ _ _ _); refine rd_mul (by first | exact Or.inl ⟨by omega, by omega⟩ | exact Or.inr ⟨by omega, by omega⟩) ?_)
  | ((with_reducible show tyV _ "list" _ _ ∧ _); refine rd_tyL (by first | assumption | exact upd_same) ?_)
  | ((with_reducible show rIxT _ _ (V.int 0) _ _); refine rd_ixT0 (by first | assumption | exact upd_same) ?_)
  | ((with_reducible show rIxT _ _ _ _ _); refine rd_ixT (by first | assumption | exact upd_same) rfl ?_))
local macro_rules | `(tactic| walk_at "rd") => `(tactic| (repeat (first | walk_at "rd1" | dsimp only)))
local macro_rules | `(tactic| walk_at "rds") => `(tactic| (dsimp only [cxOf, Cx.nox, Cx.wish, Cx.blk, L2.start]; walk_at "rd"))
local macro_rules | `(tactic| walk_at "rdn") => `(tactic| (repeat (first | walk_at "rdn1" | dsimp only)))
section
variable {P : Program} {w : World} {K : PySem.W.Frag} {mg : Str → Option Value} {base : Heap}

theorem rd_dg1 {td ty : TE} {σ : L2.St} {H : Hp} {Q : VK} (h : td σ H fun x H1 => ∃ a, x = .ref a ∧ IsD H1 a ∧ ty σ H1 fun y H2 => ∃ o, DGet H2 a y o ∧ Q (o.getD .non) H2) : tDGet1 td ty σ H Q := h
theorem rd_izip {ta : TA} {σ : L2.St} {H : Hp} {R : It → Hp → Prop} (h : ta σ H fun vs H1 => ∃ a b xs ys, vs = [.ref a, .ref b] ∧ SqL K H1 a xs ∧ SqL K H1 b ys ∧ R (Itz K a b) H1) : iZip K ta σ H R := h
def LastR (H : Hp) (kvs : List (Key × V)) (last : Int → Option St4) : Prop := ∀ k : Int, (last k = none → valV kvs (Sum.inl k : Key) = none) ∧ ∀ c, last k = some c → ∃ v, valV kvs (Sum.inl k : Key) = some v ∧ Rp H v (stD c)
theorem LastR.keep {H H' : Hp} {kvs : List (Key × V)} {last : Int → Option St4} (h : LastR H kvs last) (tk : Tk H H') : LastR H' kvs last := fun k => ⟨(h k).1, fun c hc => let ⟨v, h1, h2⟩ := (h k).2 c hc; ⟨v, h1, h2.keep tk⟩⟩
theorem sfit_parts {xs : List Sg} {c : St4} (h : sFit xs c = true) : (0 ≤ c.2.1 ∧ c.2.1 < (xs.length : Int)) ∧ (0 ≤ c.2.2.1 ∧ c.2.2.1 < ((sgAt xs c.2.1).rs.length : Int)) ∧ mRun (sgAt xs c.2.1) c.1 = true := by
  unfold sFit at h
  simp only [Bool.and_eq_true] at h
  exact ⟨below_iff.mp h.1, below_iff.mp h.2.1, h.2.2⟩
def spFollows (C : Addr) : Sp := fun vs H Q _ => ∃ (x dc : Addr) (us : List V) (xs : List Sg) (b : Int) (v u : V) (c d : St4) (kvs : List (Key × V)) (last : Int → Option St4), vs = [.ref x, v, u, .ref dc] ∧ Msk C H x us xs b ∧ Rp H v (stD c) ∧ Rp H u (stD d) ∧ sFit xs c = true ∧ below d.2.1 (xs.length : Int) = true ∧ -500 ≤ c.1 ∧ c.1 < 2 ^ 62 ∧ H dc = some (.dK kvs) ∧ LastR H kvs last ∧ ∀ H', Same H H' → Q (.bl (flwR xs c d last)) H'
theorem ok_follows {f C : Addr} {fd : FuncData} (B : BT mg) (T : MC K mg C) (F : Fun K "follows" "follows" s_follows f fd) (hm : mg "follows" = some (.ref f)) (M_seg : Mth P w K mg base C "segment" 3 ["self", "number"] (spSegAt C))
    (C_is_entered : Cal P w K mg base "is_entered" 5 ["machine", "step", "from_ring"] (spIsEnt C)) (C_is_come_back_to : Cal P w K mg base "is_come_back_to" 1 ["step", "call"] spBack) : Cal P w K mg base "follows" 6 ["machine", "step", "behind", "last"] (spFollows C) := by
  refine ⟨f, fd, hm, F.kp, F.binds (ps := ["machine", "step", "behind", "last"]) fun _ _ _ _ _ _ us hl => match us, hl with | [_, _, _, _], _ => rfl, ?_⟩
  refine F.ok sc_follows (fun vs H Q E h => ?_) (fun cdv A outer s H vs Q E hr h => ?_)
  · obtain ⟨x, dc, us, xs, b, v, u, c, d, kvs, last, rfl, _⟩ := h
    rfl
  · obtain ⟨x, dc, us, xs, b, v, u, c, d, kvs, last, rfl, M, rv, ru, hc, hd, c0, c1, hdc, hla, k⟩ := h
    refine ⟨_, (pss_cons (ps_asg (pv 1) (pg_tup (by rfl) (pgs_cons (pg_name (i := 4) sc_follows.nd rfl (Or.inl rfl)) (pgs_cons (pg_name (i := 5) sc_follows.nd rfl (Or.inl rfl)) (pgs_cons (pg_name (i := 6) sc_follows.nd rfl (Or.inl rfl)) (pgs_cons (pg_name (i := 7) sc_follows.nd rfl (Or.inl rfl)) pgs_nil))))))
 (pss_cons (ps_set (i := 8) sc_follows.nd rfl (Or.inl rfl) (pe_ix (r := rIxT K) ix_tup (pe_ix (r := rIxT K) ix_tup (pe_ix (r := rIxT K) ix_tup (pe_mth M_seg T.cl (hr.mono (by omega)) (pv 0) (pa_cons (pv 5) pa_nil)) pe_int (fun _ _ => rfl)) (pv 6) (fun _ _ => rfl)) pe_int (fun _ _ => rfl)))
 (pss_cons (ps_if (pt_cmpR op_eq (pe_ix (r := rIxT K) ix_tup (pv 2) pe_int (fun _ _ => rfl)) (pv 7) (nomark _)) (pss_one (ps_ret (pe_and (pe_cmpR (r := rEqD K) (op_eqD hr.units) (pe_slice (r := rSlA K) sl_tupA (pv 2) po_none (po_some pe_int)) (pe_tup (pa_cons (pv 4) (pa_cons (pv 5) pa_nil))) (nomark _)) (pe_one (pe_cmpR (r := rIn K true) op_notIn_seq (pv 8) (pe_tup (pa_cons pe_str (pa_cons pe_str pa_nil))) (by rfl)))))) pss_nil)
 (pss_cons (ps_if (pt_cmpR op_eq (pe_ix (r := rIxT K) ix_tup (pv 2) pe_int (fun _ _ => rfl)) (pe_op op_add (pv 7) pe_int) (nomark _)) (pss_one (ps_ret (pe_and (pe_cmpR op_eq (pv 8) pe_str (nomark _)) (pe_one (pe_cal C_is_entered (hr.mono (by omega)) rfl (pa_cons (pv 0) (pa_cons (pv 2) (pa_cons (pv 4) pa_nil)))))))) pss_nil)
 (pss_cons (ps_if (pt_cmpR op_eq (pe_ix (r := rIxT K) ix_tup (pv 2) pe_int (fun _ _ => rfl)) (pe_op op_sub (pv 7) pe_int) (nomark _)) (pss_one (ps_ret (pe_and (pe_cmpR op_eq (pv 8) pe_str (nomark _)) (pe_one (pe_cal C_is_come_back_to (hr.mono (by omega)) rfl (pa_cons (pv 2) (pa_cons (pe_dget1 (hu_of hr) (pv 3) (pe_op op_sub (pv 7) pe_int) ⟨rfl, rfl, rfl, rfl⟩) pa_nil))))))) pss_nil)
 (pss_one (ps_ret pe_bl))))))), ?_⟩
    obtain ⟨⟨g0, gN⟩, ⟨p0, pN⟩, hrun⟩ := sfit_parts hc
    obtain ⟨q, rfl, hq⟩ := st_tup rv
    obtain ⟨q2, rfl, hq2⟩ := st_tup ru
    have lu := M.len
    obtain ⟨sv, hsv, rsv⟩ := M.seg g0 gN
    obtain ⟨p1, pb, pw, pr, vw, vr, e1, hp1, hpw, haw, hpr, har⟩ := sg_tup rsv
    obtain ⟨rv0, hrv0, rrv0⟩ := har.get2 (i := c.2.2.1.toNat) (d := (rowAt xs c.2.1 c.2.2.1).d) (by
      unfold rowAt
      rw [List.getElem?_map, List.getD_eq_getElem?_getD, List.getElem?_eq_getElem (by omega)]
      rfl)
    obtain ⟨qr, wr, e2, hqr, har2⟩ := rrv0.tup_inv
    obtain ⟨y0, yr, e3, z0, _⟩ := har2.cons_inv
    subst e3
    have e4 := z0.str_inv; subst e4
    obtain ⟨mdx, mq, mh1, mh2⟩ := id M.at_
    have hat : atI vr c.2.2.1 = some rv0 := at_of (j := c.2.2.1.toNat) (by omega) hrv0
    subst e2
    walk_at "rds"
    refine ⟨x, mdx, _, rfl, mh1, mFlds_no mq b (by decide +kernel) (by decide +kernel), ?_⟩
    walk_at "rd"
    refine ⟨x, us, b, c.2.1, sv, rfl, M.at_, g0, by omega, hsv, ?_⟩
    subst e1
    walk_at "rd"
    refine rd_ixT hpr hat ?_
    unfold flwR opAt at k
    generalize (rowAt xs c.2.1 c.2.2.1).op = op at *
    walk_at "rd"
    refine rd_ifI (fun en => ?_) (fun en => ?_)
    · rw [if_pos en] at k
      walk_at "rd"
      refine ⟨2, rfl, ?_⟩
      refine rd_slA hq2 fun q3 H3 s3 e3 => ?_
      replace e3 : H3 q3 = some (.tup [.int d.1, .int d.2.1]) := e3
      walk_at "rd"
      intro q4 hq4
      have s4 := same_upd (o := .tup [.int c.1, .int c.2.1]) hq4
      refine rd_eqD (d := .tuple [.int d.1, .int d.2.1]) (e := .tuple [.int c.1, .int c.2.1]) (Rp.tup (s4 _ _ e3) (.cons (.int _) (.cons (.int _) .nil))).dp (Rp.tup upd_same (.cons (.int _) (.cons (.int _) .nil))).dp (int_shaped [d.1, d.2.1] (by show 2 ≤ 1000; decide)) (int_shaped [c.1, c.2.1] (by show 2 ≤ 1000; decide)) ?_
      rw [eq2]
      have s34 := s3.trans s4
      walk_at "rd"
      refine rd_ifd (fun h2 => ?_) (fun h2 => ?_)
      · rw [decide_eq_true h2] at k
        walk_at "rd"
        intro q5 hq5
        have s5 := same_upd (o := .tup [.str "call", .str "return"]) hq5
        refine rd_notInT (SqT.of upd_same) rfl (by decide) ?_
        have e5 : (!inV (.str op) [.str "call", .str "return"]) = (true && decide (op ≠ "call" ∧ op ≠ "return")) := by
          rw [Bool.true_and]
          by_cases h3 : op = "call"
          · subst h3; decide +kernel
          · by_cases h4 : op = "return"
            · subst h4; decide +kernel
            · rw [decide_eq_true ⟨h3, h4⟩]
              show (!(eqV (.str "call") (.str op) || (eqV (.str "return") (.str op) || false))) = true
              rw [show eqV (.str "call") (.str op) = false from beq_eq_false_iff_ne.mpr fun z => h3 z.symm, show eqV (.str "return") (.str op) = false from beq_eq_false_iff_ne.mpr fun z => h4 z.symm]
              rfl
        rw [e5]
        exact k _ (s34.trans s5)
      · rw [decide_eq_false h2] at k
        exact k _ s34
    rw [if_neg en] at k
    walk_at "rd"
    refine rd_ifI (fun en2 => ?_) (fun en2 => ?_)
    · rw [if_pos en2] at k
      walk_at "rd"
      refine rd_ifS (fun eo => ?_) (fun eo => ?_)
      · rw [decide_eq_true eo] at k
        walk_at "rd"
        exact ⟨x, us, xs, b, _, d, c.1, rfl, M, ru, hd, c0, c1, fun H' s' => k _ s'⟩
      · rw [decide_eq_false eo] at k
        exact k _ (Same.refl _)
    rw [if_neg en2] at k
    walk_at "rd"
    refine rd_ifI (fun en3 => ?_) (fun en3 => ?_)
    · rw [if_pos en3] at k
      walk_at "rd"
      refine rd_ifS (fun eo => ?_) (fun eo => ?_)
      · rw [decide_eq_true eo] at k
        walk_at "rd"
        refine rd_dg1 ?_
        walk_at "rd"
        refine ⟨dc, rfl, .inl ⟨_, .inl hdc⟩, ?_⟩
        walk_at "rd"
        refine ⟨valV kvs (Sum.inl (c.2.2.2 - 1) : Key), DGet.k (k := Sum.inl (c.2.2.2 - 1)) hdc, ?_⟩
        obtain ⟨h1, h2⟩ := hla (c.2.2.2 - 1)
        cases el : last (c.2.2.2 - 1) with
        | none =>
          rw [el] at k
          rw [h1 el]
          exact ⟨_, _, d, none, rfl, ru, .non, fun H' s' => k _ s'⟩
        | some z =>
          rw [el] at k
          obtain ⟨w', h3, h4⟩ := h2 z el
          rw [h3]
          exact ⟨_, _, d, some z, rfl, ru, h4, fun H' s' => k _ s'⟩
      · rw [decide_eq_false eo] at k
        exact k _ (Same.refl _)
    rw [if_neg en3] at k
    walk_at "rd"
    exact k _ (Same.refl _)
def spBegins (C : Addr) : Sp := fun vs H Q _ => ∃ (x L : Addr) (us : List V) (xs : List Sg) (b ring : Int) (ss : List V) (st : List St4), vs = [.ref x, .int ring, .ref L] ∧ Msk C H x us xs b ∧ H L = some (.lst ss) ∧ RpAll H ss (st.map stD) ∧ (∀ c ∈ st, sFit xs c = true) ∧ -500 ≤ ring ∧ ring < 2 ^ 62 ∧ ∀ H', Same H H' → Q (.bl (beginsR xs ring st)) H'
theorem ok_begins {f C : Addr} {fd : FuncData} (B : BT mg) (F : Fun K "begins_well" "begins_well" s_begins_well f fd) (hm : mg "begins_well" = some (.ref f)) (C_is_entered : Cal P w K mg base "is_entered" 5 ["machine", "step", "from_ring"] (spIsEnt C)) : Cal P w K mg base "begins_well" 6 ["machine", "ring", "steps"] (spBegins C) := by
  refine ⟨f, fd, hm, F.kp, F.binds (ps := ["machine", "ring", "steps"]) fun _ _ _ _ _ _ us hl => match us, hl with | [_, _, _], _ => rfl, ?_⟩
  refine F.ok sc_begins_well (fun vs H Q E h => ?_) (fun cdv A outer s H vs Q E hr h => ?_)
  · obtain ⟨x, L, us, xs, b, ring, ss, st, rfl, _⟩ := h
    rfl
  · obtain ⟨x, L, us, xs, b, ring, ss, st, rfl, M, hL, rss, hf, f0, f1, k⟩ := h
    refine ⟨_, (pss_cons (ps_if (pt_not (pt_truth (pv 2) (fun _ => rfl))) (pss_one (ps_ret pe_bl)) pss_nil)
 (pss_one (ps_ret (pe_and (pe_cmpR op_eq (pe_ix (r := rIxT K) ix_tup (pe_ix (r := rIxL K) ix_list (pv 2) pe_int (fun _ _ => rfl)) pe_int (fun _ _ => rfl)) pe_int (nomark _)) (pe_one (pe_cal C_is_entered (hr.mono (by omega)) rfl (pa_cons (pv 0) (pa_cons (pe_ix (r := rIxL K) ix_list (pv 2) pe_int (fun _ _ => rfl)) (pa_cons (pv 1) pa_nil))))))))), ?_⟩
    cases st with
    | nil =>
      have e := rss.nil_inv; subst e
      walk_at "rds"
      refine ⟨false, .inl ⟨_, SqL.of hL, rfl⟩, ?_⟩
      walk_at "rd"
      exact k _ (Same.refl _)
    | cons c st =>
      obtain ⟨y0, yr, rfl, z0, hrs⟩ := rss.cons_inv
      obtain ⟨p0, rfl, hp0⟩ := st_tup z0
      obtain ⟨⟨g0, gN⟩, _, _⟩ := sfit_parts (hf c (List.mem_cons_self ..))
      replace k : ∀ H', Same H H' → Q (.bl (decide (c.2.2.2 = 1) && isEnt xs c ring)) H' := k
      walk_at "rds"
      refine ⟨true, .inl ⟨_, SqL.of hL, rfl⟩, ?_⟩
      walk_at "rd"
      refine rd_ifI (fun e1 => ?_) (fun e1 => ?_)
      · rw [decide_eq_true e1] at k
        walk_at "rd"
        exact ⟨x, us, xs, b, _, c, ring, rfl, M, z0, below_of g0 gN, f0, f1, fun H' s' => k _ s'⟩
      · rw [decide_eq_false e1] at k
        exact k _ (Same.refl _)
theorem run_small {x : Sg} {b m r : Int} (h : sgFits x b m = true) (hr : mRun x r = true) : 0 ≤ r ∧ r < 8 := by
  unfold sgFits at h
  simp only [Bool.and_eq_true] at h
  have h1 := h.1
  unfold brFits at h1
  simp only [Bool.and_eq_true, decide_eq_true_eq, below_iff] at h1
  unfold mRun at hr
  simp only [Bool.and_eq_true, decide_eq_true_eq] at hr
  omega
def spGoes (C : Addr) : Sp := fun vs H Q _ => ∃ (x L : Addr) (us : List V) (xs : List Sg) (b : Int) (ss : List V) (st : List St4), vs = [.ref x, .ref L] ∧ Msk C H x us xs b ∧ H L = some (.lst ss) ∧ RpAll H ss (st.map stD) ∧ st.length ≤ 900 ∧ (∀ c ∈ st, sFit xs c = true) ∧ (∀ y ∈ xs, sgFits y b (xs.length : Int) = true) ∧ ∀ H', Same H H' → Q (.bl (goesR xs st)) H'
theorem ok_goes {f C : Addr} {fd : FuncData} (B : BT mg) (F : Fun K "goes_on_well" "goes_on_well" s_goes_on_well f fd) (hm : mg "goes_on_well" = some (.ref f)) (C_follows : Cal P w K mg base "follows" 6 ["machine", "step", "behind", "last"] (spFollows C)) : Cal P w K mg base "goes_on_well" 7 ["machine", "steps"] (spGoes C) := by
  refine ⟨f, fd, hm, F.kp, F.binds (ps := ["machine", "steps"]) fun _ _ _ _ _ _ us hl => match us, hl with | [_, _], _ => rfl, ?_⟩
  refine F.ok sc_goes_on_well (fun vs H Q E h => ?_) (fun cdv A outer s H vs Q E hr h => ?_)
  · obtain ⟨x, L, us, xs, b, ss, st, rfl, _⟩ := h
    rfl
  · obtain ⟨x, L, us, xs, b, ss, st, rfl, M, hL, rss, l9, hf, hfx, k⟩ := h
    refine ⟨_, (pss_cons (ps_set (i := 2) sc_goes_on_well.nd rfl (Or.inl rfl) pe_dnewK)
 (pss_cons (ps_for PassesOwn.never rfl (pi_zip rfl B.g_zip (pa_cons (pv 1) (pa_cons (pe_slice (r := rSlL K) sl_list (pv 1) (po_some pe_int) po_none) pa_nil))) (pg_tup (by rfl) (pgs_cons (pg_name (i := 3) sc_goes_on_well.nd rfl (Or.inl rfl)) (pgs_cons (pg_name (i := 4) sc_goes_on_well.nd rfl (Or.inl rfl)) pgs_nil)))
 (pss_cons (ps_dput (hu_of hr) (pv 2) (pe_ix (r := rIxT K) ix_tup (pv 3) pe_int (fun _ _ => rfl)) (pv 3) rfl)
 (pss_one (ps_if (pt_not (pt_val (pe_cal C_follows (hr.mono (by omega)) rfl (pa_cons (pv 0) (pa_cons (pv 3) (pa_cons (pv 4) (pa_cons (pv 2) pa_nil))))))) (pss_one (ps_ret pe_bl)) pss_nil))))
 (pss_one (ps_ret pe_bl)))), ?_⟩
    have lss : ss.length = st.length := by rw [rss.length, List.length_map]
    walk_at "rds"
    intro dc hdc
    walk_at "rd"
    have s0 := same_upd (o := .dK []) hdc
    refine rd_izip ?_
    walk_at "rd"
    refine ⟨1, rfl, ?_⟩
    refine rd_nopart ?_
    refine ⟨L, ss, rfl, SqL.of (s0 _ _ hL), fun L2 hL2 => ?_⟩
    have s1 := same_upd (o := .lst (cutV ss (some 1) none)) hL2
    have s01 := s0.trans s1
    have ecut : cutV ss (some 1) none = ss.drop 1 := cut_lo ss 1
    walk_at "rd"
    refine ⟨L, L2, ss, ss.drop 1, rfl, SqL.of (s01 _ _ hL), SqL.of (by rw [upd_same, ecut]), ?_⟩
    have ndl : dc ≠ L2 := ne_of_none upd_same hL2
    refine for_inv (walk_zip (xs := ss) (ys := ss.drop 1) (n := st.length - 1) (by rw [List.length_drop, lss]; omega)) (fun i σ' H' => ∃ (c3 c4 : Option V) (kvs : List (Key × V)), σ' = [some (.ref x), some (.ref L), some (.ref dc), c3, c4] ∧ H' dc = some (.dK kvs) ∧ LastR H' kvs (lastAt st i) ∧ kvs.length ≤ i ∧ (∀ j, j < i → flwR xs (st.getD j (0, 0, 0, 0)) (st.getD (j + 1) (0, 0, 0, 0)) (lastAt st (j + 1)) = true) ∧ H' L2 = some (.lst (ss.drop 1)) ∧ Same H H') ⟨_, _, [], rfl, s1 _ _ upd_same, fun k => ⟨fun _ => rfl, fun c hc => ?_⟩, Nat.le_refl _, fun j hj => absurd hj (by omega), by rw [upd_same, ecut], s01⟩ (fun i σ' H' _ p => by obtain ⟨_, _, _, _, _, _, _, _, p1, p2⟩ := p; exact ⟨SqL.of (p2 _ _ hL), SqL.of p1⟩) ?_ ?_
    · unfold lastAt at hc
      simp at hc
    · rintro Bk i y σ1 Ha Hb hi ⟨c3, c4, kvs, rfl, hdcA, hla, lk, ok, hL2a, sa⟩ ⟨T', a, b', rfl, hT, rfl, ea, eb⟩
      dsimp only at ea eb
      rw [List.getElem?_drop, Nat.add_comm] at eb
      have hi1 : i + 1 < st.length := by omega
      obtain ⟨da, hda, ra⟩ := (rss.keep (Tk.of sa)).get ea
      rw [List.getElem?_map, List.getElem?_eq_getElem (show i < st.length by omega)] at hda
      cases hda
      obtain ⟨db, hdb, rb⟩ := (rss.keep (Tk.of sa)).get eb
      rw [List.getElem?_map, List.getElem?_eq_getElem hi1] at hdb
      cases hdb
      have hci : st[i]? = some st[i] := List.getElem?_eq_getElem _
      have hfc := hf st[i] (List.getElem_mem _)
      have hfd := hf st[i + 1] (List.getElem_mem _)
      generalize ec : st[i] = c at ra hci hfc
      generalize ed : st[i + 1] = d at rb hfd
      have s2 := same_upd (o := .tup [a, b']) hT
      obtain ⟨qa, rfl, hqa⟩ := st_tup (ra.keep (Tk.of s2))
      have hdcb := s2 _ _ hdcA
      walk_at "rd"
      refine rd_dput ?_
      walk_at "rd"
      refine ⟨dc, _, rfl, DPut.k (k := Sum.inl c.2.2.2) hdcb (small1000 (by omega)), ?_⟩
      have tk : Tk (upd Ha T' (.tup [.ref qa, b'])) (upd (upd Ha T' (.tup [.ref qa, b'])) dc (.dK (putK kvs (Sum.inl c.2.2.2) (.ref qa)))) := Tk.dct hdcb
      have tk2 := (Tk.of s2).trans tk
      have sc : Same H (upd (upd Ha T' (.tup [.ref qa, b'])) dc (.dK (putK kvs (Sum.inl c.2.2.2) (.ref qa)))) := same_put (sa.trans s2) hdc
      have edc : upd (upd Ha T' (.tup [.ref qa, b'])) dc (.dK (putK kvs (Sum.inl c.2.2.2) (.ref qa))) dc = some (.dK (putK kvs (Sum.inl c.2.2.2) (.ref qa))) := upd_same
      have eL2 : upd (upd Ha T' (.tup [.ref qa, b'])) dc (.dK (putK kvs (Sum.inl c.2.2.2) (.ref qa))) L2 = some (.lst (ss.drop 1)) := (upd_ne (Ne.symm ndl)).trans (s2 _ _ hL2a)
      have ra2 := ra.keep tk2
      have rb2 := rb.keep tk2
      have hla2 := hla.keep tk2
      generalize upd (upd Ha T' (.tup [.ref qa, b'])) dc (.dK (putK kvs (Sum.inl c.2.2.2) (.ref qa))) = Hc at sc edc eL2 ra2 rb2 hla2 tk tk2
      have LR : LastR Hc (putK kvs (Sum.inl c.2.2.2) (.ref qa)) (lastAt st (i + 1)) := fun k => by
        rw [lastAt_succ hci, valV_put]
        by_cases ek : c.2.2.2 = k
        · rw [if_pos ek, if_pos (by rw [ek])]
          exact ⟨fun z => (nomatch z), fun c' hc' => by cases hc'; exact ⟨_, rfl, ra2⟩⟩
        · rw [if_neg ek, if_neg (fun z => ek (by injection z with z; exact z.symm))]
          exact hla2 k
      have lk2 : (putK kvs (Sum.inl c.2.2.2) (.ref qa)).length ≤ i + 1 := by
        unfold putK
        split
        · rw [List.length_map]; omega
        · rw [List.length_append]; show kvs.length + 1 ≤ i + 1; omega
      obtain ⟨⟨c0, cN⟩, _, crun⟩ := sfit_parts hfc
      have hmem : sgAt xs c.2.1 ∈ xs := by
        unfold sgAt
        rw [List.getD_eq_getElem?_getD, List.getElem?_eq_getElem (by omega)]
        exact List.getElem_mem _
      have c8 := run_small (hfx _ hmem) crun
      obtain ⟨⟨d0, dN⟩, _, _⟩ := sfit_parts hfd
      have eget : flwR xs (st.getD i (0, 0, 0, 0)) (st.getD (i + 1) (0, 0, 0, 0)) (lastAt st (i + 1)) = flwR xs c d (lastAt st (i + 1)) := by
        rw [List.getD_eq_getElem?_getD, List.getD_eq_getElem?_getD, hci, List.getElem?_eq_getElem hi1, ed]
        rfl
      walk_at "rd"
      refine ⟨x, dc, us, xs, b, _, _, c, d, _, _, rfl, M.same sc, ra2, rb2, hfc, below_of d0 dN, by omega, by omega, edc, LR, fun Hd sd => ?_⟩
      walk_at "rd"
      refine rd_ifn (fun hb => ?_) (fun hb => ?_)
      · walk_at "rd"
        refine ⟨_, _, _, rfl, sd _ _ edc, LR.keep (Tk.of sd), lk2, fun j hj => ?_, sd _ _ eL2, sc.trans sd⟩
        by_cases ej : j < i
        · exact ok j ej
        · have e2 : j = i := by omega
          subst e2
          rw [eget]
          exact hb
      · walk_at "rd"
        have eg : goesR xs st = false := by
          unfold goesR
          refine List.all_eq_false.mpr ⟨i, List.mem_range.mpr (by omega), ?_⟩
          rw [eget, hb]
          exact fun z => nomatch z
        rw [eg] at k
        exact k _ (sc.trans sd)
    rintro σ1 Ha ⟨c3, c4, kvs, rfl, hdcA, hla, lk, ok, hL2a, sa⟩
    have eg : goesR xs st = true := by
      unfold goesR
      exact List.all_eq_true.mpr fun j hj => ok j (List.mem_range.mp hj)
    rw [eg] at k
    walk_at "rd"
    exact k _ sa
def spKeeps (C : Addr) : Sp := fun vs H Q _ => ∃ (x ls lt : Addr) (us : List V) (xs : List Sg) (b ring : Int) (ss ts : List V) (st : List St4) (to : List (Int × Int × Int × Str)), vs = [.ref x, .int ring, .ref ls, .ref lt] ∧ Msk C H x us xs b ∧ H ls = some (.lst ss) ∧ RpAll H ss (st.map stD) ∧ st.length ≤ 900 ∧ H lt = some (.lst ts) ∧ RpAll H ts (to.map toD) ∧ to.length ≤ 900 ∧ (∀ y ∈ xs, sgFits y b (xs.length : Int) = true) ∧ -500 ≤ ring ∧ ring < 2 ^ 62 ∧ ∀ H', Same H H' → Q (.bl (keepsR xs ring st to)) H'
theorem ok_keeps {f C : Addr} {fd : FuncData} (B : BT mg) (F : Fun K "keeps" "keeps" s_keeps f fd) (C_touch_fits : Cal P w K mg base "touch_fits" 4 ["machine", "touch"] (spTouchFits C)) (C_step_fits : Cal P w K mg base "step_fits" 4 ["machine", "step"] (spStepFits C)) (C_begins_well : Cal P w K mg base "begins_well" 6 ["machine", "ring", "steps"] (spBegins C)) (C_goes_on_well : Cal P w K mg base "goes_on_well" 7 ["machine", "steps"] (spGoes C)) : FnOk P w K mg base CX0 8 f fd ["machine", "ring", "steps", "touches"] (spKeeps C) := by
  refine F.ok sc_keeps (fun vs H Q E h => ?_) (fun cdv A outer s H vs Q E hr h => ?_)
  · obtain ⟨x, ls, lt, us, xs, b, ring, ss, ts, st, to, rfl, _⟩ := h
    rfl
  · obtain ⟨x, ls, lt, us, xs, b, ring, ss, ts, st, to, rfl, M, hls, rss, l9, hlt, rts, t9, hfx, f0, f1, k⟩ := h
    refine ⟨_, (pss_cons (ps_if (pt_not (pt_val (pe_callB (r := rAll K) (cr_all rfl) rfl B.g_all (by decide +kernel) (pa_cons (pe_lc (own := [("touch", 4)]) (g := gName 4) (tt := tYes) rfl sc_keeps.nd (pi_listK (K := K) (pv 3)) (blkOk_by (own := [("touch", 4)]) (N := ["machine", "ring", "steps", "touches", "touch", "step"]) (sc := defScope s_keeps) (by decide +kernel)) (fun _ _ _ _ _ => (pg_name (i := 4) sc_keeps.nd rfl (by first | exact Or.inl rfl | exact Or.inr rfl))) (fun _ _ _ _ _ => pts_nil) (fun _ _ _ _ _ => (pe_cal C_touch_fits (hr.mono (by omega)) rfl (pa_cons (pv 0) (pa_cons (pv 4) pa_nil))))) pa_nil)))) (pss_one (ps_ret pe_bl)) pss_nil)
 (pss_cons (ps_if (pt_not (pt_val (pe_callB (r := rAll K) (cr_all rfl) rfl B.g_all (by decide +kernel) (pa_cons (pe_lc (own := [("step", 5)]) (g := gName 5) (tt := tYes) rfl sc_keeps.nd (pi_listK (K := K) (pv 2)) (blkOk_by (own := [("step", 5)]) (N := ["machine", "ring", "steps", "touches", "touch", "step"]) (sc := defScope s_keeps) (by decide +kernel)) (fun _ _ _ _ _ => (pg_name (i := 5) sc_keeps.nd rfl (by first | exact Or.inl rfl | exact Or.inr rfl))) (fun _ _ _ _ _ => pts_nil) (fun _ _ _ _ _ => (pe_cal C_step_fits (hr.mono (by omega)) rfl (pa_cons (pv 0) (pa_cons (pv 5) pa_nil))))) pa_nil)))) (pss_one (ps_ret pe_bl)) pss_nil)
 (pss_one (ps_ret (pe_and (pe_cal C_begins_well (hr.mono (by omega)) rfl (pa_cons (pv 0) (pa_cons (pv 1) (pa_cons (pv 2) pa_nil)))) (pe_one (pe_cal C_goes_on_well (hr.mono (by omega)) rfl (pa_cons (pv 0) (pa_cons (pv 2) pa_nil))))))))), ?_⟩
    have lss : ss.length = st.length := by rw [rss.length, List.length_map]
    have lts : ts.length = to.length := by rw [rts.length, List.length_map]
    unfold keepsR at k
    walk_at "rds"
    refine ⟨lt, rfl, ⟨_, SqL.of hlt⟩, fun D hD => ?_⟩
    refine lc_it (walk_list (xs := ts)) (CompL D H to (fun t => V.bl (tFit xs t))) (CompL.start hD) (fun i H' _ p => SqL.of (p.2 _ _ hlt)) ?_ ?_
    · rintro i y H2 H3 hi pc ⟨rfl, hy⟩
      obtain ⟨d, hd, ry⟩ := (rts.keep (Tk.of pc.2)).get hy
      rw [List.getElem?_map] at hd
      obtain ⟨z, hz, rfl⟩ := Option.map_eq_some_iff.mp hd
      walk_at "rd"
      refine ⟨rfl, ?_⟩
      walk_at "rd"
      exact ⟨x, us, xs, b, _, z, rfl, M.same pc.2, ry, fun H4 s4 => pc.step hD (by omega) hz s4 rfl⟩
    intro H2 pc
    have hd := pc.end lts
    have s2 := pc.2
    walk_at "rd"
    refine rd_all (f := tFit xs) hd ?_
    walk_at "rd"
    refine rd_ifn (fun hb => ?_) (fun hb => ?_)
    case refine_2 =>
      rw [hb] at k
      walk_at "rd"
      exact k _ s2
    rw [hb] at k
    have hls2 := s2 _ _ hls
    walk_at "rd"
    refine ⟨ls, rfl, ⟨_, SqL.of hls2⟩, fun D2 hD2 => ?_⟩
    refine lc_it (walk_list (xs := ss)) (CompL D2 H2 st (fun t => V.bl (sFit xs t))) (CompL.start hD2) (fun i H' _ p => SqL.of (p.2 _ _ hls2)) ?_ ?_
    · rintro i y H3 H4 hi pc ⟨rfl, hy⟩
      obtain ⟨d, hd, ry⟩ := (rss.keep (Tk.of (s2.trans pc.2))).get hy
      rw [List.getElem?_map] at hd
      obtain ⟨z, hz, rfl⟩ := Option.map_eq_some_iff.mp hd
      walk_at "rd"
      refine ⟨rfl, ?_⟩
      walk_at "rd"
      exact ⟨x, us, xs, b, _, z, rfl, M.same (s2.trans pc.2), ry, fun H5 s5 => pc.step hD2 (by omega) hz s5 rfl⟩
    intro H3 pc3
    have hd3 := pc3.end lss
    have s3 := s2.trans pc3.2
    walk_at "rd"
    refine rd_all (f := sFit xs) hd3 ?_
    walk_at "rd"
    refine rd_ifn (fun hb2 => ?_) (fun hb2 => ?_)
    case refine_2 =>
      rw [hb2] at k
      walk_at "rd"
      exact k _ s3
    rw [hb2] at k
    have hfs := List.all_eq_true.mp hb2
    walk_at "rd"
    refine ⟨x, ls, us, xs, b, ring, ss, st, rfl, M.same s3, s3 _ _ hls, rss.keep (Tk.of s3), hfs, f0, f1, fun H4 s4 => ?_⟩
    have s34 := s3.trans s4
    walk_at "rd"
    refine rd_ifb (fun hb3 => ?_) (fun hb3 => ?_)
    · rw [hb3] at k
      walk_at "rd"
      exact ⟨x, ls, us, xs, b, ss, st, rfl, M.same s34, s34 _ _ hls, rss.keep (Tk.of s34), l9, hfs, hfx, fun H5 s5 => k _ (s34.trans s5)⟩
    · rw [hb3] at k
      exact k _ s34

end
end Rg

namespace Rg
open PySem PySem.Spec L2
local macro_rules | `(tactic| walk_at "rd1") => `(tactic| first
  | with_reducible refine rd_seq ?_
  | with_reducible refine rd_asg ?_
  | ((with_reducible show tVar _ _ _ _); refine rd_var rfl ?_)
  | with_reducible refine rd_c ?_
  | with_reducible refine rd_op ?_
  | with_reducible refine rd_I0 ?_
  | with_reducible refine rd_name ?_
  | with_reducible refine rd_ret ?_
  | with_reducible refine rd_ifs ?_
  | with_reducible refine rd_test ?_
  | with_reducible refine rd_tB ?_
  | with_reducible refine rd_bl ?_
  | with_reducible refine rd_drop ?_
  | with_reducible refine rd_nil ?_
  | with_reducible refine rd_cons ?_
  | with_reducible refine rd_call ?_
  | with_reducible refine rd_cb ?_
  | with_reducible refine rd_tup ?_
  | with_reducible refine rd_lst ?_
  | with_reducible refine rd_and ?_
  | with_reducible refine rd_or ?_
  | with_reducible refine rd_not ?_
  | with_reducible refine rd_andV ?_
  | with_reducible refine rd_orV ?_
  | with_reducible refine rd_notV ?_
  | with_reducible refine rd_chain ?_
  | with_reducible refine rd_un ?_
  | with_reducible refine rd_isN ?_
  | with_reducible refine rd_bm ?_
  | with_reducible refine rd_bm0 ?_
  | with_reducible refine rd_gsub ?_
  | with_reducible refine rd_sl ?_
  | with_reducible refine rd_gt ?_
  | with_reducible refine rd_yes ?_
  | with_reducible refine rd_gcons ?_
  | with_reducible refine rd_gnil ?_
  | with_reducible refine rd_part ?_
  | with_reducible refine rd_nopart ?_
  | ((with_reducible show gTup _ _ _ _ _ _ _); refine rd_gtup (by first | assumption | exact upd_same) rfl ?_)
  | ((with_reducible show gLst _ _ _ _ _ _ _); refine rd_glst (by first | assumption | exact upd_same) rfl ?_)
  | ((with_reducible show rIsi _ _ _ _); first | refine rd_isi (b := true) (.ty _) (.base (by first | exact .int _ | exact .str _ | exact .bl _ | exact .non | exact .tup (by assumption) | exact .lst (by assumption))) (kit_ty (by decide +kernel)) ?_ | refine rd_isi (b := false) (.ty _) (.base (by first | exact .int _ | exact .str _ | exact .bl _ | exact .non | exact .tup (by assumption) | exact .lst (by assumption))) (kit_ty (by decide +kernel)) ?_)
  | with_reducible refine rd_fld ?_
  | with_reducible refine rd_sfld ?_
  | with_reducible refine rd_meth ?_
  | with_reducible refine rd_make ?_
  | with_reducible refine rd_makeK ?_
  | with_reducible refine rd_U ?_
  | with_reducible refine rd_makeKS ?_
  | with_reducible refine rd_callN ?_
  | with_reducible refine rd_rs ?_
  | with_reducible refine rd_rf ?_
  | with_reducible refine rd_star ?_
  | with_reducible refine rd_callS ?_
  | with_reducible refine rd_for ?_
  | with_reducible refine rd_lc ?_
  | with_reducible refine rd_ilist ?_
  | with_reducible refine rd_itup ?_
  | with_reducible refine rd_irng ?_
  | with_reducible refine rd_izipS ?_
  | with_reducible refine rd_ienum ?_
  | with_reducible refine rd_ienT ?_
  | with_reducible refine rd_next ?_
  | with_reducible refine rd_eq rfl ?_
  | with_reducible refine rd_ne rfl ?_
  | with_reducible refine iteT ?_
  | with_reducible refine iteF ?_
  | with_reducible refine rd_ifnT ?_
  | with_reducible refine rd_ifnF ?_
  | ((with_reducible show rI (fun _ j => (0 : Int) < j) _ _ _ _ _); refine rd_mod (by omega) ?_)
  | with_reducible refine rd_new rfl ?_
  | ((with_reducible show rIxL _ _ (V.int 0) _ _); refine rd_ixL0 (by first | assumption | exact upd_same) ?_)
  | ((with_reducible show rIxL _ _ _ _ _); refine rd_ixL (by first | assumption | exact upd_same) rfl ?_)
  | ((with_reducible show rSetL _ _ _ _ _); refine rd_setL (by first | assumption | exact upd_same) rfl ?_)
  | ((with_reducible show rI CMul _ _ _ _ _); refine rd_mul (by first | exact Or.inl ⟨by omega, by omega⟩ | exact Or.inr ⟨by omega, by omega⟩) ?_)
  | ((with_reducible show tyV _ "list" _ _ ∧ _); refine rd_tyL (by first | assumption | exact upd_same) ?_)
  | ((with_reducible show rIxT _ _ (V.int 0) _ _); refine rd_ixT0 (by first | assumption | exact upd_same) ?_)
  | ((with_reducible show rIxT _ _ _ _ _); refine rd_ixT (by first | assumption | exact upd_same) rfl ?_))
local macro_rules | `(tactic| walk_at "rdn1") => `(tactic| first
  | with_reducible refine rd_seq ?_
  | with_reducible refine rd_asg ?_
  | ((with_reducible show tVar _ _ _ _); refine rd_var rfl ?_)
  | with_reducible refine rd_c ?_
  | with_reducible refine rd_op ?_
  | with_reducible refine rd_I0 ?_
  | with_reducible refine rd_name ?_
  | with_reducible refine rd_ret ?_
  | with_reducible refine rd_ifs ?_
  | with_reducible refine rd_test ?_
  | with_reducible refine rd_tB ?_
  | with_reducible refine rd_bl ?_
  | with_reducible refine rd_drop ?_
  | with_reducible refine rd_nil ?_
  | with_reducible refine rd_cons ?_
  | with_reducible refine rd_call ?_
  | with_reducible refine rd_cb ?_
  | with_reducible refine rd_tup ?_
  | with_reducible refine rd_lst ?_
  | with_reducible refine rd_and ?_
  | with_reducible refine rd_or ?_
  | with_reducible refine rd_not ?_
  | with_reducible refine rd_notV ?_
  | with_reducible refine rd_chain ?_
  | with_reducible refine rd_un ?_
  | with_reducible refine rd_isN ?_
  | with_reducible refine rd_bm ?_
  | with_reducible refine rd_bm0 ?_
  | with_reducible refine rd_gsub ?_
  | with_reducible refine rd_sl ?_
  | with_reducible refine rd_gt ?_
  | with_reducible refine rd_yes ?_
  | with_reducible refine rd_gcons ?_
  | with_reducible refine rd_gnil ?_
  | with_reducible refine rd_part ?_
  | with_reducible refine rd_nopart ?_
  | ((with_reducible show gTup _ _ _ _ _ _ _); refine rd_gtup (by first | assumption | exact upd_same) rfl ?_)
  | ((with_reducible show gLst _ _ _ _ _ _ _); refine rd_glst (by first | assumption | exact upd_same) rfl ?_)
  | ((with_reducible show rIsi _ _ _ _); first | refine rd_isi (b := true) (.ty _) (.base (by first | exact .int _ | exact .str _ | exact .bl _ | exact .non | exact .tup (by assumption) | exact .lst (by assumption))) (kit_ty (by decide +kernel)) ?_ | refine rd_isi (b := false) (.ty _) (.base (by first | exact .int _ | exact .str _ | exact .bl _ | exact .non | exact .tup (by assumption) | exact .lst (by assumption))) (kit_ty (by decide +kernel)) ?_)
  | with_reducible refine rd_fld ?_
  | with_reducible refine rd_sfld ?_
  | with_reducible refine rd_meth ?_
  | with_reducible refine rd_make ?_
  | with_reducible refine rd_makeK ?_
  | with_reducible refine rd_U ?_
  | with_reducible refine rd_makeKS ?_
  | with_reducible refine rd_callN ?_
  | with_reducible refine rd_rs ?_
  | with_reducible refine rd_rf ?_
  | with_reducible refine rd_star ?_
  | with_reducible refine rd_callS ?_
  | with_reducible refine rd_for ?_
  | with_reducible refine rd_lc ?_
  | with_reducible refine rd_ilist ?_
  | with_reducible refine rd_itup ?_
  | with_reducible refine rd_irng ?_
  | with_reducible refine rd_izipS ?_
  | with_reducible refine rd_ienum ?_
  | with_reducible refine rd_ienT ?_
  | with_reducible refine rd_next ?_
  | with_reducible refine rd_eq rfl ?_
  | with_reducible refine rd_ne rfl ?_
  | with_reducible refine iteT ?_
  | with_reducible refine iteF ?_
  | with_reducible refine rd_ifnT ?_
  | with_reducible refine rd_ifnF ?_
  | ((with_reducible show rI (fun _ j => (0 : Int) < j) _ _ _ _ _); refine rd_mod (by omega) ?_)
  | with_reducible refine rd_new rfl ?_
  | ((with_reducible show rIxL _ _ (V.int 0) _ _); refine rd_ixL0 (by first | assumption | exact upd_same) ?_)
  | ((with_reducible show rIxL _ _ _ _ _); refine rd_ixL (by first | assumption | exact upd_same) rfl ?_)
  | ((with_reducible show rSetL _ _ _ _ _); refine rd_setL (by first | assumption | exact upd_same) rfl ?_)
  | ((with_reducible show rI CMul _ _ _ _ _); refine rd_mul (by first | exact Or.inl ⟨by omega, by omega⟩ | exact Or.inr ⟨by omega, by omega⟩) ?_)
  | ((with_reducible show tyV _ "list" _ _ ∧ _); refine rd_tyL (by first | assumption | exact upd_same) ?_)
  | ((with_reducible show rIxT _ _ (V.int 0) _ _); refine rd_ixT0 (by first | assumption | exact upd_same) ?_)
  | ((with_reducible show rIxT _ _ _ _ _); refine rd_ixT (by first | assumption | exact upd_same) rfl ?_))
local macro_rules | `(tactic| walk_at "rd") => `(tactic| (repeat (first | walk_at "rd1" | dsimp only)))
local macro_rules | `(tactic| walk_at "rds") => `(tactic| (dsimp only [cxOf, Cx.nox, Cx.wish, Cx.blk, L2.start]; walk_at "rd"))
local macro_rules | `(tactic| walk_at "rdn") => `(tactic| (repeat (first | walk_at "rdn1" | dsimp only)))
section
variable {P : Program} {w : World} {K : PySem.W.Frag} {mg : Str → Option Value} {base : Heap}

/-- what holds of a drawn stand -/
structure SdIn (xs : List Sg) (b : Int) (sd : Sd) : Prop where
  r0 : 0 ≤ sd.ring
  r8 : sd.ring < 8
  a0 : 0 ≤ sd.a
  aB : sd.a < b
  pt : ∀ r g p, some (r, g, p) ∈ sd.pt → sd.ring ≤ r ∧ r < 8
  me : ∀ ws ∈ sd.me, ∀ x ∈ ws, wdFits x b (xs.length : Int) = true
  ml : sd.me.map List.length = xs.map fun x => x.ws.length

end
end Rg

namespace Rg
open PySem PySem.Spec L2
local macro_rules | `(tactic| walk_at "rd1") => `(tactic| first
  | with_reducible refine rd_seq ?_
  | with_reducible refine rd_asg ?_
  | ((with_reducible show tVar _ _ _ _); refine rd_var rfl ?_)
  | with_reducible refine rd_c ?_
  | with_reducible refine rd_op ?_
  | with_reducible refine rd_I0 ?_
  | with_reducible refine rd_name ?_
  | with_reducible refine rd_ret ?_
  | with_reducible refine rd_ifs ?_
  | with_reducible refine rd_test ?_
  | with_reducible refine rd_tB ?_
  | with_reducible refine rd_bl ?_
  | with_reducible refine rd_drop ?_
  | with_reducible refine rd_nil ?_
  | with_reducible refine rd_cons ?_
  | with_reducible refine rd_call ?_
  | with_reducible refine rd_cb ?_
  | with_reducible refine rd_tup ?_
  | with_reducible refine rd_lst ?_
  | with_reducible refine rd_and ?_
  | with_reducible refine rd_or ?_
  | with_reducible refine rd_not ?_
  | with_reducible refine rd_andV ?_
  | with_reducible refine rd_orV ?_
  | with_reducible refine rd_notV ?_
  | with_reducible refine rd_chain ?_
  | with_reducible refine rd_un ?_
  | with_reducible refine rd_isN ?_
  | with_reducible refine rd_bm ?_
  | with_reducible refine rd_bm0 ?_
  | with_reducible refine rd_gsub ?_
  | with_reducible refine rd_sl ?_
  | with_reducible refine rd_gt ?_
  | with_reducible refine rd_yes ?_
  | with_reducible refine rd_gcons ?_
  | with_reducible refine rd_gnil ?_
  | with_reducible refine rd_part ?_
  | with_reducible refine rd_nopart ?_
  | ((with_reducible show gTup _ _ _ _ _ _ _); refine rd_gtup (by first | assumption | exact upd_same) rfl ?_)
  | ((with_reducible show gLst _ _ _ _ _ _ _); refine rd_glst (by first | assumption | exact upd_same) rfl ?_)
  | ((with_reducible show rIsi _ _ _ _); first | refine rd_isi (b := true) (.ty _) (.base (by first | exact .int _ | exact .str _ | exact .bl _ | exact .non | exact .tup (by assumption) | exact .lst (by assumption))) (kit_ty (by decide +kernel)) ?_ | refine rd_isi (b := false) (.ty _) (.base (by first | exact .int _ | exact .str _ | exact .bl _ | exact .non | exact .tup (by assumption) | exact .lst (by assumption))) (kit_ty (by decide +kernel)) ?_)
  | with_reducible refine rd_fld ?_
  | with_reducible refine rd_sfld ?_
  | with_reducible refine rd_meth ?_
  | with_reducible refine rd_make ?_
  | with_reducible refine rd_makeK ?_
  | with_reducible refine rd_U ?_
  | with_reducible refine rd_makeKS ?_
  | with_reducible refine rd_callN ?_
  | with_reducible refine rd_rs ?_
  | with_reducible refine rd_rf ?_
  | with_reducible refine rd_star ?_
  | with_reducible refine rd_callS ?_
  | with_reducible refine rd_for ?_
  | with_reducible refine rd_lc ?_
  | with_reducible refine rd_ilist ?_
  | with_reducible refine rd_itup ?_
  | with_reducible refine rd_irng ?_
  | with_reducible refine rd_izipS ?_
  | with_reducible refine rd_ienum ?_
  | with_reducible refine rd_ienT ?_
  | with_reducible refine rd_next ?_
  | with_reducible refine rd_eq rfl ?_
  | with_reducible refine rd_ne rfl ?_
  | with_reducible refine iteT ?_
  | with_reducible refine iteF ?_
  | with_reducible refine rd_ifnT ?_
  | with_reducible refine rd_ifnF ?_
  | ((with_reducible show rI (fun _ j => (0 : Int) < j) _ _ _ _ _); refine rd_mod (by omega) ?_)
  | with_reducible refine rd_new rfl ?_
  | ((with_reducible show rIxL _ _ (V.int 0) _ _); refine rd_ixL0 (by first | assumption | exact upd_same) ?_)
  | ((with_reducible show rIxL _ _ _ _ _); refine rd_ixL (by first | assumption | exact upd_same) rfl ?_)
  | ((with_reducible show rSetL _ _ _ _ _); refine rd_setL (by first | assumption | exact upd_same) rfl ?_)
  | ((with_reducible show rI CMul _ _ _ _ _); refine rd_mul (by first | exact Or.inl ⟨by omega, by omega⟩ | exact Or.inr ⟨by omega, by omega⟩) ?_)
  | ((with_reducible show tyV _ "list" _ _ ∧ _); refine rd_tyL (by first | assumption | exact upd_same) ?_)
  | ((with_reducible show rIxT _ _ (V.int 0) _ _); refine rd_ixT0 (by first | assumption | exact upd_same) ?_)
  | ((with_reducible show rIxT _ _ _ _ _); refine rd_ixT (by first | assumption | exact upd_same) rfl ?_))
local macro_rules | `(tactic| walk_at "rdn1") => `(tactic| first
  | with_reducible refine rd_seq ?_
  | with_reducible refine rd_asg ?_
  | ((with_reducible show tVar _ _ _ _); refine rd_var rfl ?_)
  | with_reducible refine rd_c ?_
  | with_reducible refine rd_op ?_
  | with_reducible refine rd_I0 ?_
  | with_reducible refine rd_name ?_
  | with_reducible refine rd_ret ?_
  | with_reducible refine rd_ifs ?_
  | with_reducible refine rd_test ?_
  | with_reducible refine rd_tB ?_
  | with_reducible refine rd_bl ?_
  | with_reducible refine rd_drop ?_
  | with_reducible refine rd_nil ?_
  | with_reducible refine rd_cons ?_
  | with_reducible refine rd_call ?_
  | with_reducible refine rd_cb ?_
  | with_reducible refine rd_tup ?_
  | with_reducible refine rd_lst ?_
  | with_reducible refine rd_and ?_
  | with_reducible refine rd_or ?_
  | with_reducible refine rd_not ?_
  | with_reducible refine rd_notV ?_
  | with_reducible refine rd_chain ?_
  | with_reducible refine rd_un ?_
  | with_reducible refine rd_isN ?_
  | with_reducible refine rd_bm ?_
  | with_reducible refine rd_bm0 ?_
  | with_reducible refine rd_gsub ?_
  | with_reducible refine rd_sl ?_
  | with_reducible refine rd_gt ?_
  | with_reducible refine rd_yes ?_
  | with_reducible refine rd_gcons ?_
  | with_reducible refine rd_gnil ?_
  | with_reducible refine rd_part ?_
  | with_reducible refine rd_nopart ?_
  | ((with_reducible show gTup _ _ _ _ _ _ _); refine rd_gtup (by first | assumption | exact upd_same) rfl ?_)
  | ((with_reducible show gLst _ _ _ _ _ _ _); refine rd_glst (by first | assumption | exact upd_same) rfl ?_)
  | ((with_reducible show rIsi _ _ _ _); first | refine rd_isi (b := true) (.ty _) (.base (by first | exact .int _ | exact .str _ | exact .bl _ | exact .non | exact .tup (by assumption) | exact .lst (by assumption))) (kit_ty (by decide +kernel)) ?_ | refine rd_isi (b := false) (.ty _) (.base (by first | exact .int _ | exact .str _ | exact .bl _ | exact .non | exact .tup (by assumption) | exact .lst (by assumption))) (kit_ty (by decide +kernel)) ?_)
  | with_reducible refine rd_fld ?_
  | with_reducible refine rd_sfld ?_
  | with_reducible refine rd_meth ?_
  | with_reducible refine rd_make ?_
  | with_reducible refine rd_makeK ?_
  | with_reducible refine rd_U ?_
  | with_reducible refine rd_makeKS ?_
  | with_reducible refine rd_callN ?_
  | with_reducible refine rd_rs ?_
  | with_reducible refine rd_rf ?_
  | with_reducible refine rd_star ?_
  | with_reducible refine rd_callS ?_
  | with_reducible refine rd_for ?_
  | with_reducible refine rd_lc ?_
  | with_reducible refine rd_ilist ?_
  | with_reducible refine rd_itup ?_
  | with_reducible refine rd_irng ?_
  | with_reducible refine rd_izipS ?_
  | with_reducible refine rd_ienum ?_
  | with_reducible refine rd_ienT ?_
  | with_reducible refine rd_next ?_
  | with_reducible refine rd_eq rfl ?_
  | with_reducible refine rd_ne rfl ?_
  | with_reducible refine iteT ?_
  | with_reducible refine iteF ?_
  | with_reducible refine rd_ifnT ?_
  | with_reducible refine rd_ifnF ?_
  | ((with_reducible show rI (fun _ j => (0 : Int) < j) _ _ _ _ _); refine rd_mod (by omega) ?_)
  | with_reducible refine rd_new rfl ?_
  | ((with_reducible show rIxL _ _ (V.int 0) _ _); refine rd_ixL0 (by first | assumption | exact upd_same) ?_)
  | ((with_reducible show rIxL _ _ _ _ _); refine rd_ixL (by first | assumption | exact upd_same) rfl ?_)
  | ((with_reducible show rSetL _ _ _ _ _); refine rd_setL (by first | assumption | exact upd_same) rfl ?_)
  | ((with_reducible show rI CMul _ _ _ _ _); refine rd_mul (by first | exact Or.inl ⟨by omega, by omega⟩ | exact Or.inr ⟨by omega, by omega⟩) ?_)
  | ((with_reducible show tyV _ "list" _ _ ∧ _); refine rd_tyL (by first | assumption | exact upd_same) ?_)
  | ((with_reducible show rIxT _ _ (V.int 0) _ _); refine rd_ixT0 (by first | assumption | exact upd_same) ?_)
  | ((with_reducible show rIxT _ _ _ _ _); refine rd_ixT (by first | assumption | exact upd_same) rfl ?_))
local macro_rules | `(tactic| walk_at "rd") => `(tactic| (repeat (first | walk_at "rd1" | dsimp only)))
local macro_rules | `(tactic| walk_at "rds") => `(tactic| (dsimp only [cxOf, Cx.nox, Cx.wish, Cx.blk, L2.start]; walk_at "rd"))
local macro_rules | `(tactic| walk_at "rdn") => `(tactic| (repeat (first | walk_at "rdn1" | dsimp only)))
section
variable {P : Program} {w : World} {K : PySem.W.Frag} {mg : Str → Option Value} {base : Heap}

structure In18 (xs : List Sg) (b hand : Int) (s : Rn) : Prop where
  rg : 0 ≤ s.ring ∧ s.ring < 8
  a : 0 ≤ s.a ∧ s.a < b
  pt : ∀ r g p, some (r, g, p) ∈ s.pt → 0 ≤ r ∧ r < 8
  ca : ∀ c ∈ s.ca, 0 ≤ c.1 ∧ c.1 < 8
  me : ∀ ws ∈ s.me, ∀ x ∈ ws, wdFits x b (xs.length : Int) = true
  ml : s.me.map List.length = xs.map fun x => x.ws.length
  hd : ∀ c, s.ca[0]? = some c → c.1 = hand
  h0 : s.ca = [] → s.ring = hand
theorem mx_le1 (i j : Int) : i ≤ mx i j := by unfold mx; split <;> omega
theorem mx_le2 (i j : Int) : j ≤ mx i j := by unfold mx; split <;> omega
theorem mx_lt {i j k : Int} (h1 : i < k) (h2 : j < k) : mx i j < k := by unfold mx; split <;> omega
theorem mx_ge {i j k : Int} (h1 : k ≤ i) : k ≤ mx i j := Int.le_trans h1 (mx_le1 _ _)
theorem sgAt_mem {xs : List Sg} {g : Int} (g0 : 0 ≤ g) (gN : g < (xs.length : Int)) : sgAt xs g ∈ xs := by
  unfold sgAt
  rw [List.getD_eq_getElem?_getD, List.getElem?_eq_getElem (by omega)]
  exact List.getElem_mem _
theorem br_of {x : Sg} {b m : Int} (h : sgFits x b m = true) : 0 ≤ x.r1 ∧ x.r1 ≤ x.r2 ∧ x.r2 ≤ x.r3 ∧ x.r3 < 8 := by
  unfold sgFits at h
  simp only [Bool.and_eq_true] at h
  have h1 := h.1
  unfold brFits at h1
  simp only [Bool.and_eq_true, decide_eq_true_eq, below_iff] at h1
  omega
theorem spot_word {xs : List Sg} {s : Rn} {e g p : Int} (h : Spot xs s e g p) : s.wordAt g p ∈ s.mem g ∧ s.mem g ∈ s.me := by
  have hp := h.pN
  have hp0 := h.p0
  refine ⟨?_, ?_⟩
  · unfold Rn.wordAt
    rw [List.getD_eq_getElem?_getD, List.getElem?_eq_getElem (by omega)]
    exact List.getElem_mem _
  · rcases mem_mem (s := s) (g := g) with h2 | h2
    · rw [h2] at hp
      simp at hp
      omega
    · exact h2
theorem put_ml {s : Rn} {g p : Int} {x : Wd} : (s.put g p x).me.map List.length = s.me.map List.length := by
  show (s.me.set g.toNat ((s.mem g).set p.toNat x)).map List.length = _
  refine List.ext_getElem (by simp) fun i h1 h2 => ?_
  rw [List.length_map] at h2
  rw [List.getElem_map, List.getElem_map]
  by_cases e : g.toNat = i
  · subst e
    rw [List.getElem_set_self, List.length_set]
    unfold Rn.mem
    rw [List.getD_eq_getElem?_getD, List.getElem?_eq_getElem h2]
    rfl
  · rw [List.getElem_set_ne e]
theorem ent_in {x : Sg} {pl e r : Int} (hx : 0 ≤ x.r1 ∧ x.r1 ≤ x.r2 ∧ x.r2 ≤ x.r3 ∧ x.r3 < 8) (he : 0 ≤ e ∧ e < 8) (h : enteredR x pl e = .ok r) : 0 ≤ r ∧ r < 8 := by
  unfold enteredR at h
  split at h
  · cases h
  split at h
  · cases h
  split at h
  · cases h
    exact ⟨mx_ge he.1, mx_lt he.2 (by omega)⟩
  split at h
  · cases h
  split at h
  · cases h
  · cases h
    omega
theorem wd_num {n b m : Int} (h : wdFits (.num n) b m = true) : 0 ≤ n ∧ n < b := below_iff.mp h
theorem wd_ptr {r s p b m : Int} (h : wdFits (.ptr r s p) b m = true) : (0 ≤ r ∧ r < 8) ∧ (0 ≤ s ∧ s < m) ∧ 0 ≤ p := by
  have h' : (below r 8 && (below s m && decide (0 ≤ p))) = true := h
  simp only [Bool.and_eq_true, decide_eq_true_eq, below_iff] at h'
  exact ⟨h'.1, h'.2.1, h'.2.2⟩
theorem wd_ptr_of {r s p b m : Int} (h1 : 0 ≤ r ∧ r < 8) (h2 : 0 ≤ s ∧ s < m) (h3 : 0 ≤ p) : wdFits (.ptr r s p) b m = true := by
  show (below r 8 && (below s m && decide (0 ≤ p))) = true
  simp only [Bool.and_eq_true, decide_eq_true_eq, below_iff]
  exact ⟨h1, h2, h3⟩
section
variable {xs : List Sg} {b hand : Int} {s s' : Rn} {op : Str}
theorem In18.step (I : In18 xs b hand s) (g p : Int) : In18 xs b hand (s.stepTo g p) := ⟨I.rg, I.a, I.pt, I.ca, I.me, I.ml, I.hd, I.h0⟩
theorem In18.spot (I : In18 xs b hand s) {e g p : Int} (h : Spot xs s e g p) : 0 ≤ e ∧ e < 8 := by
  obtain ⟨r, pl, hm, rfl⟩ := h.r
  have h1 := I.pt _ _ _ hm
  exact ⟨mx_ge I.rg.1, mx_lt I.rg.2 h1.2⟩
theorem In18.eff (hs : ∀ x ∈ xs, SgForm x ∧ sgFits x b xs.length = true) (wf : WF xs s) (I : In18 xs b hand s) (E : Eff xs b op s s' none) : In18 xs b hand s' := by
  have setP : ∀ (q r g p : Int), 0 ≤ r ∧ r < 8 → ∀ r' g' p', some (r', g', p') ∈ s.pt.set q.toNat (some (r, g, p)) → 0 ≤ r' ∧ r' < 8 := fun q r g p h r' g' p' hm => by
    rcases List.mem_or_eq_of_mem_set hm with h1 | h1
    · exact I.pt _ _ _ h1
    · cases h1
      exact h
  cases E with
  | num n pl h0 h1 => exact ⟨I.rg, ⟨h0, h1⟩, I.pt, I.ca, I.me, I.ml, I.hd, I.h0⟩
  | load e g p n pl sp hr hw =>
    obtain ⟨w1, w2⟩ := spot_word sp
    have := I.me _ w2 _ w1
    rw [hw] at this
    exact ⟨I.rg, wd_num this, I.pt, I.ca, I.me, I.ml, I.hd, I.h0⟩
  | fetch e g p r g' p' q pl sp hr hw =>
    obtain ⟨w1, w2⟩ := spot_word sp
    have h1 := I.me _ w2 _ w1
    rw [hw] at h1
    have h2 := wd_ptr h1
    have h3 := I.spot sp
    have h4 := br_of (hs _ (sgAt_mem sp.g0 sp.gN)).2
    exact ⟨I.rg, I.a, setP q _ g' p' ⟨mx_ge (mx_ge h2.1.1), mx_lt (mx_lt h2.1.2 h3.2) (by omega)⟩, I.ca, I.me, I.ml, I.hd, I.h0⟩
  | write e g p x pl sp hr hx =>
    have hfx : wdFits x b (xs.length : Int) = true := by
      rcases hx with rfl | ⟨r, g', p', hm, rfl⟩
      · exact below_iff.mpr I.a
      · have h1 := wf.ptg _ _ _ hm
        exact wd_ptr_of (I.pt _ _ _ hm) ⟨h1.1, h1.2.1⟩ h1.2.2
    refine ⟨I.rg, I.a, I.pt, I.ca, fun ws hm y hy => ?_, ?_, I.hd, I.h0⟩
    · rcases List.mem_or_eq_of_mem_set (show ws ∈ s.me.set g.toNat ((s.mem g).set p.toNat x) from hm) with h1 | h1
      · exact I.me _ h1 y hy
      · subst h1
        rcases List.mem_or_eq_of_mem_set hy with h2 | h2
        · exact I.me _ (spot_word sp).2 y h2
        · rw [h2]; exact hfx
    · rw [put_ml]
      exact I.ml
  | aim q g p pl g0 gN p0 => exact ⟨I.rg, I.a, setP q s.ring g p I.rg, I.ca, I.me, I.ml, I.hd, I.h0⟩
  | move q r g p p' pl hm p0 => exact ⟨I.rg, I.a, setP q r g p' (I.pt _ _ _ hm), I.ca, I.me, I.ml, I.hd, I.h0⟩
  | jump g p j pl hw => exact ⟨I.rg, I.a, I.pt, I.ca, I.me, I.ml, I.hd, I.h0⟩
  | stay pl hw => exact I
  | call r g pl e ho hm he h8 =>
    have h1 := wf.ptg _ _ _ hm
    have h4 := br_of (hs _ (sgAt_mem h1.1 h1.2.1)).2
    have h5 := ent_in h4 ⟨mx_ge I.rg.1, mx_lt I.rg.2 (I.pt _ _ _ hm).2⟩ he
    refine ⟨h5, I.a, fun r' g' p' hm' => ?_, fun c hc => ?_, I.me, I.ml, fun c hc => ?_, fun z => ?_⟩
    · obtain ⟨y, hy, ey⟩ := List.mem_map.mp (show some (r', g', p') ∈ s.pt.map (raisedR e) from hm')
      cases y with
      | none => cases ey
      | some z =>
        obtain ⟨o, g1, p1⟩ := z
        cases ey
        have := I.pt _ _ _ hy
        exact ⟨mx_ge this.1, mx_lt this.2 h5.2⟩
    · rcases List.mem_append.mp (show c ∈ s.ca ++ [(s.ring, s.wh)] from hc) with h | h
      · exact I.ca c h
      · rw [List.mem_singleton.mp h]; exact I.rg
    · have hc' : (s.ca ++ [(s.ring, s.wh)])[0]? = some c := hc
      by_cases e0 : s.ca = []
      · rw [e0] at hc'
        cases hc'
        exact I.h0 e0
      · rw [List.getElem?_append_left (List.length_pos_iff.mpr e0)] at hc'
        exact I.hd c hc'
    · exact absurd (show s.ca ++ [(s.ring, s.wh)] = [] from z) (by simp)
  | ret r w x ho hw hl =>
    have hm : (r, w) ∈ s.ca := List.mem_of_getLast? hl
    have h5 := I.ca _ hm
    refine ⟨h5, I.a, fun r' g' p' hm' => ?_, fun c hc => I.ca c ((List.dropLast_subset _) hc), I.me, I.ml, fun c hc => ?_, fun z => ?_⟩
    · obtain ⟨y, hy, ey⟩ := List.mem_map.mp (show some (r', g', p') ∈ s.pt.map (raisedR r) from hm')
      cases y with
      | none => cases ey
      | some z =>
        obtain ⟨o, g1, p1⟩ := z
        cases ey
        have := I.pt _ _ _ hy
        exact ⟨mx_ge this.1, mx_lt this.2 h5.2⟩
    · have hc' : s.ca.dropLast[0]? = some c := hc
      rw [List.getElem?_dropLast] at hc'
      split at hc'
      · exact I.hd c hc'
      · cases hc'
    · have z' : s.ca.dropLast = [] := z
      have hlen : s.ca.length = 1 := by
        have h1 := congrArg List.length z'
        rw [List.length_dropLast] at h1
        have h2 := List.length_pos_iff.mpr (List.ne_nil_of_mem hm)
        simp at h1
        omega
      have h6 : s.ca[0]? = some (r, w) := by
        rw [List.getLast?_eq_getElem?, hlen] at hl
        exact hl
      exact I.hd _ h6
def Low (s : Rn) : Prop := s.wh = none → ∀ r g p, some (r, g, p) ∈ s.pt → s.ring ≤ r
theorem low_enter {s : Rn} {r : Int} {w : Option (Int × Int)} : Low (s.enter r w) := fun _ r' g' p' hm => by
  obtain ⟨y, hy, ey⟩ := List.mem_map.mp (show some (r', g', p') ∈ s.pt.map (raisedR r) from hm)
  cases y with
  | none => cases ey
  | some z =>
    obtain ⟨o, g1, p1⟩ := z
    cases ey
    exact mx_le2 _ _
theorem Low.eff (h : s.wh ≠ none) (E : Eff xs b op s s' none) : Low s' := by
  cases E with
  | num n pl h0 h1 => exact fun z => absurd z h
  | load e g p n pl sp hr hw => exact fun z => absurd z h
  | fetch e g p r g' p' q pl sp hr hw => exact fun z => absurd z h
  | write e g p x pl sp hr hx => exact fun z => absurd z h
  | aim q g p pl g0 gN p0 => exact fun z => absurd z h
  | move q r g p p' pl hm p0 => exact fun z => absurd z h
  | jump g p j pl hw => exact fun z => (nomatch z)
  | stay pl hw => exact fun z => absurd z h
  | call r g pl e ho hm he h8 => exact fun z => (nomatch z)
  | ret r w x ho hw hl => exact low_enter
theorem eff_me {c : Str} (E : Eff xs b op s s' (some c)) : s'.me = s.me := by cases E <;> rfl
theorem eff_c {c : Str} (E : Eff xs b op s s' (some c)) : c ∈ causesL := by
  cases E with
  | flt c h1 h2 => exact h1
  | kind e g p pl sp hr => decide +kernel
theorem eff_call (E : Eff xs b "call" s s' none) : s'.wh ≠ none := by
  cases E with
  | num n pl h0 h1 => exact absurd rfl pl.c
  | load e g p n pl sp hr hw => exact absurd rfl pl.c
  | fetch e g p r g' p' q pl sp hr hw => exact absurd rfl pl.c
  | write e g p x pl sp hr hx => exact absurd rfl pl.c
  | aim q g p pl g0 gN p0 => exact absurd rfl pl.c
  | move q r g p p' pl hm p0 => exact absurd rfl pl.c
  | jump g p j pl hw => exact absurd rfl pl.c
  | stay pl hw => exact absurd rfl pl.c
  | call r g pl e ho hm he h8 => exact fun z => (nomatch z)
  | ret r w x ho hw hl => exact absurd ho (by decide +kernel)
end
theorem step_ne {s : Rn} {g p : Int} : (s.stepTo g p).wh ≠ none := fun z => by
  have z' : some (g, p + 1) = (none : Option (Int × Int)) := z
  cases z'
theorem no_hd {hand : Int} : ∀ c : Int × Option (Int × Int), ([] : List (Int × Option (Int × Int)))[0]? = some c → c.1 = hand := fun c hc => by simp at hc
theorem SdIn.in18 {xs : List Sg} {b : Int} {sd : Sd} (h : SdIn xs b sd) : In18 xs b sd.ring (initR sd) :=
  ⟨⟨h.r0, h.r8⟩, ⟨h.a0, h.aB⟩, fun r g p hm => (let z := h.pt r g p hm; ⟨Int.le_trans h.r0 z.1, z.2⟩), fun c hc => (nomatch hc), h.me, h.ml, no_hd, fun _ => rfl⟩
theorem lost18 {xs : List Sg} {b : Int} {sd : Sd} {s : Rn} (b2 : 2 ≤ b) (I : In18 xs b sd.ring (initR sd)) (me : ∀ ws ∈ s.me, ∀ x ∈ ws, wdFits x b (xs.length : Int) = true) (ml : s.me.map List.length = xs.map fun x => x.ws.length) : In18 xs b sd.ring (initR (s.lost.sd sd.ring)) :=
  ⟨I.rg, ⟨by show (0 : Int) ≤ 0; decide, by show (0 : Int) < b; omega⟩, fun r g p hm => by
    have hm' : some (r, g, p) ∈ ([none, none, none, none] : List Pt) := hm
    simp at hm', fun c hc => (nomatch hc), me, ml, no_hd, fun _ => rfl⟩
/-- what a deed leaves -/
theorem deed18 {xs : List Sg} {b : Int} {sd : Sd} {op : Str} {ns : List Int} {n : Nat} (b2 : 2 ≤ b) (hs : ∀ x ∈ xs, SgForm x ∧ sgFits x b xs.length = true) (wf : WF xs (initR sd)) (I : In18 xs b sd.ring (initR sd)) (ho : op ∈ actOps) (hk : okOf op xs ns) (hn : n ≤ 800) :
    In18 xs b sd.ring (initR ((deedR xs b n (initR sd) op ns).1.sd sd.ring)) ∧
    (∀ c, (deedR xs b n (initR sd) op ns).2 = some c → c ∈ causesL ∧ (deedR xs b n (initR sd) op ns).1.a = 0 ∧ (deedR xs b n (initR sd) op ns).1.pt = [none, none, none, none]) ∧
    ((deedR xs b n (initR sd) op ns).2 = none → op = "call" → ∀ r g p, some (r, g, p) ∈ (deedR xs b n (initR sd) op ns).1.pt → sd.ring ≤ r) := by
  have D := deed_ind (I := fun s => In18 xs b sd.ring s ∧ (op = "call" → Low s)) (n := n) b2 hs wf ho hk hn (fun s1 _ E => ⟨I.eff hs wf E, fun e z => by subst e; exact absurd z (eff_call E)⟩) (fun s g p s' e p0 pN wf0 wf1 wf2 i0 E => ⟨(i0.1.step g p).eff hs wf1 E, fun _ => Low.eff (step_ne (s := s)) E⟩)
  generalize deedR xs b n (initR sd) op ns = R at D
  obtain ⟨s', o⟩ := R
  dsimp only at D ⊢
  cases D with
  | flt c s1 eo E es =>
    subst es eo
    have em := eff_me E
    refine ⟨lost18 b2 I (by rw [em]; exact I.me) (by rw [em]; exact I.ml), fun c' ec => ?_, fun z => (nomatch z)⟩
    cases ec
    exact ⟨eff_c E, rfl, rfl⟩
  | run s1 s2 E w1 i1 G es =>
    cases G with
    | fin eo ew w2 i2 =>
      subst eo
      rw [if_pos rfl] at es
      subst es
      have i := i2.1
      refine ⟨⟨I.rg, i.a, i.pt, fun c hc => (nomatch hc), i.me, i.ml, no_hd, fun _ => rfl⟩, fun c z => (nomatch z), fun _ ec r g p hm => ?_⟩
      have h1 := i2.2 ec ew r g p hm
      have h2 : s'.ca = [] := w2.sk.1.mp ew
      rw [i.h0 h2] at h1
      exact h1
    | out g p ew w2 i2 eo =>
      have i := i2.1
      have key : ∀ c, o = some c → c ∈ causesL → In18 xs b sd.ring (initR (s'.sd sd.ring)) ∧ (∀ c, o = some c → c ∈ causesL ∧ s'.a = 0 ∧ s'.pt = [none, none, none, none]) ∧ (o = none → op = "call" → ∀ r g p, some (r, g, p) ∈ s'.pt → sd.ring ≤ r) := fun c ec hc => by
        subst ec
        rw [if_neg (fun z => nomatch z)] at es
        subst es
        exact ⟨lost18 b2 I i.me i.ml, fun c' z => by cases z; exact ⟨hc, rfl, rfl⟩, fun z => (nomatch z)⟩
      rcases eo with e | e
      · exact key _ e (by decide +kernel)
      · exact key _ e (by decide +kernel)
    | bad s0 g p c ew p0 pN w0 w1' i0 eo E0 =>
      subst eo
      rw [if_neg (fun z => nomatch z)] at es
      subst es
      have i := i0.1
      have em := eff_me E0
      have em' : s2.me = s0.me := em
      exact ⟨lost18 b2 I (by rw [em']; exact i.me) (by rw [em']; exact i.ml), fun c' z => by cases z; exact ⟨eff_c E0, rfl, rfl⟩, fun z => (nomatch z)⟩

end
end Rg

namespace Rg
open PySem PySem.Spec L2
local macro_rules | `(tactic| walk_at "rd1") => `(tactic| first
  | with_reducible refine rd_seq ?_
  | with_reducible refine rd_asg ?_
  | ((with_reducible show tVar _ _ _ _); refine rd_var rfl ?_)
  | with_reducible refine rd_c ?_
  | with_reducible refine rd_op ?_
  | with_reducible refine rd_I0 ?_
  | with_reducible refine rd_name ?_
  | with_reducible refine rd_ret ?_
  | with_reducible refine rd_ifs ?_
  | with_reducible refine rd_test ?_
  | with_reducible refine rd_tB ?_
  | with_reducible refine rd_bl ?_
  | with_reducible refine rd_drop ?_
  | with_reducible refine rd_nil ?_
  | with_reducible refine rd_cons ?_
  | with_reducible refine rd_call ?_
  | with_reducible refine rd_cb ?_
  | with_reducible refine rd_tup ?_
  | with_reducible refine rd_lst ?_
  | with_reducible refine rd_and ?_
  | with_reducible refine rd_or ?_
  | with_reducible refine rd_not ?_
  | with_reducible refine rd_andV ?_
  | with_reducible refine rd_orV ?_
  | with_reducible refine rd_notV ?_
  | with_reducible refine rd_chain ?_
  | with_reducible refine rd_un ?_
  | with_reducible refine rd_isN ?_
  | with_reducible refine rd_bm ?_
  | with_reducible refine rd_bm0 ?_
  | with_reducible refine rd_gsub ?_
  | with_reducible refine rd_sl ?_
  | with_reducible refine rd_gt ?_
  | with_reducible refine rd_yes ?_
  | with_reducible refine rd_gcons ?_
  | with_reducible refine rd_gnil ?_
  | with_reducible refine rd_part ?_
  | with_reducible refine rd_nopart ?_
  | ((with_reducible show gTup _ _ _ _ _ _ _); refine rd_gtup (by first | assumption | exact upd_same) rfl ?_)
  | ((with_reducible show gLst _ _ _ _ _ _ _); refine rd_glst (by first | assumption | exact upd_same) rfl ?_)
  | ((with_reducible show rIsi _ _ _ _); first | refine rd_isi (b := true) (.ty _) (.base (by first | exact .int _ | exact .str _ | exact .bl _ | exact .non | exact .tup (by assumption) | exact .lst (by assumption))) (kit_ty (by decide +kernel)) ?_ | refine rd_isi (b := false) (.ty _) (.base (by first | exact .int _ | exact .str _ | exact .bl _ | exact .non | exact .tup (by assumption) | exact .lst (by assumption))) (kit_ty (by decide +kernel)) ?_)
  | with_reducible refine rd_fld ?_
  | with_reducible refine rd_sfld ?_
  | with_reducible refine rd_meth ?_
  | with_reducible refine rd_make ?_
  | with_reducible refine rd_makeK ?_
  | with_reducible refine rd_U ?_
  | with_reducible refine rd_makeKS ?_
  | with_reducible refine rd_callN ?_
  | with_reducible refine rd_rs ?_
  | with_reducible refine rd_rf ?_
  | with_reducible refine rd_star ?_
  | with_reducible refine rd_callS ?_
  | with_reducible refine rd_for ?_
  | with_reducible refine rd_lc ?_
  | with_reducible refine rd_ilist ?_
  | with_reducible refine rd_itup ?_
  | with_reducible refine rd_irng ?_
  | with_reducible refine rd_izipS ?_
  | with_reducible refine rd_ienum ?_
  | with_reducible refine rd_ienT ?_
  | with_reducible refine rd_next ?_
  | with_reducible refine rd_eq rfl ?_
  | with_reducible refine rd_ne rfl ?_
  | with_reducible refine iteT ?_
  | with_reducible refine iteF ?_
  | with_reducible refine rd_ifnT ?_
  | with_reducible refine rd_ifnF ?_
  | ((with_reducible show rI (fun _ j => (0 : Int) < j) _ _ _ _ _); refine rd_mod (by omega) ?_)
  | with_reducible refine rd_new rfl ?_
  | ((with_reducible show rIxL _ _ (V.int 0) _ _); refine rd_ixL0 (by first | assumption | exact upd_same) ?_)
  | ((with_reducible show rIxL _ _ _ _ _); refine rd_ixL (by first | assumption | exact upd_same) rfl ?_)
  | ((with_reducible show rSetL _ _ _ _ _); refine rd_setL (by first | assumption | exact upd_same) rfl ?_)
  | ((with_reducible show rI CMul _ _ _ _ _); refine rd_mul (by first | exact Or.inl ⟨by omega, by omega⟩ | exact Or.inr ⟨by omega, by omega⟩) ?_)
  | ((with_reducible show tyV _ "list" _ _ ∧ _); refine rd_tyL (by first | assumption | exact upd_same) ?_)
  | ((with_reducible show rIxT _ _ (V.int 0) _ _); refine rd_ixT0 (by first | assumption | exact upd_same) ?_)
  | ((with_reducible show rIxT _ _ _ _ _); refine rd_ixT (by first | assumption | exact upd_same) rfl ?_))
local macro_rules | `(tactic| walk_at "rdn1") => `(tactic| first
  | with_reducible refine rd_seq ?_
  | with_reducible refine rd_asg ?_
  | ((with_reducible show tVar _ _ _ _); refine rd_var rfl ?_)
  | with_reducible refine rd_c ?_
  | with_reducible refine rd_op ?_
  | with_reducible refine rd_I0 ?_
  | with_reducible refine rd_name ?_
  | with_reducible refine rd_ret ?_
  | with_reducible refine rd_ifs ?_
  | with_reducible refine rd_test ?_
  | with_reducible refine rd_tB ?_
  | with_reducible refine rd_bl ?_
  | with_reducible refine rd_drop ?_
  | with_reducible refine rd_nil ?_
  | with_reducible refine rd_cons ?_
  | with_reducible refine rd_call ?_
  | with_reducible refine rd_cb ?_
  | with_reducible refine rd_tup ?_
  | with_reducible refine rd_lst ?_
  | with_reducible refine rd_and ?_
  | with_reducible refine rd_or ?_
  | with_reducible refine rd_not ?_
  | with_reducible refine rd_notV ?_
  | with_reducible refine rd_chain ?_
  | with_reducible refine rd_un ?_
  | with_reducible refine rd_isN ?_
  | with_reducible refine rd_bm ?_
  | with_reducible refine rd_bm0 ?_
  | with_reducible refine rd_gsub ?_
  | with_reducible refine rd_sl ?_
  | with_reducible refine rd_gt ?_
  | with_reducible refine rd_yes ?_
  | with_reducible refine rd_gcons ?_
  | with_reducible refine rd_gnil ?_
  | with_reducible refine rd_part ?_
  | with_reducible refine rd_nopart ?_
  | ((with_reducible show gTup _ _ _ _ _ _ _); refine rd_gtup (by first | assumption | exact upd_same) rfl ?_)
  | ((with_reducible show gLst _ _ _ _ _ _ _); refine rd_glst (by first | assumption | exact upd_same) rfl ?_)
  | ((with_reducible show rIsi _ _ _ _); first | refine rd_isi (b := true) (.ty _) (.base (by first | exact .int _ | exact .str _ | exact .bl _ | exact .non | exact .tup (by assumption) | exact .lst (by assumption))) (kit_ty (by decide +kernel)) ?_ | refine rd_isi (b := false) (.ty _) (.base (by first | exact .int _ | exact .str _ | exact .bl _ | exact .non | exact .tup (by assumption) | exact .lst (by assumption))) (kit_ty (by decide +kernel)) ?_)
  | with_reducible refine rd_fld ?_
  | with_reducible refine rd_sfld ?_
  | with_reducible refine rd_meth ?_
  | with_reducible refine rd_make ?_
  | with_reducible refine rd_makeK ?_
  | with_reducible refine rd_U ?_
  | with_reducible refine rd_makeKS ?_
  | with_reducible refine rd_callN ?_
  | with_reducible refine rd_rs ?_
  | with_reducible refine rd_rf ?_
  | with_reducible refine rd_star ?_
  | with_reducible refine rd_callS ?_
  | with_reducible refine rd_for ?_
  | with_reducible refine rd_lc ?_
  | with_reducible refine rd_ilist ?_
  | with_reducible refine rd_itup ?_
  | with_reducible refine rd_irng ?_
  | with_reducible refine rd_izipS ?_
  | with_reducible refine rd_ienum ?_
  | with_reducible refine rd_ienT ?_
  | with_reducible refine rd_next ?_
  | with_reducible refine rd_eq rfl ?_
  | with_reducible refine rd_ne rfl ?_
  | with_reducible refine iteT ?_
  | with_reducible refine iteF ?_
  | with_reducible refine rd_ifnT ?_
  | with_reducible refine rd_ifnF ?_
  | ((with_reducible show rI (fun _ j => (0 : Int) < j) _ _ _ _ _); refine rd_mod (by omega) ?_)
  | with_reducible refine rd_new rfl ?_
  | ((with_reducible show rIxL _ _ (V.int 0) _ _); refine rd_ixL0 (by first | assumption | exact upd_same) ?_)
  | ((with_reducible show rIxL _ _ _ _ _); refine rd_ixL (by first | assumption | exact upd_same) rfl ?_)
  | ((with_reducible show rSetL _ _ _ _ _); refine rd_setL (by first | assumption | exact upd_same) rfl ?_)
  | ((with_reducible show rI CMul _ _ _ _ _); refine rd_mul (by first | exact Or.inl ⟨by omega, by omega⟩ | exact Or.inr ⟨by omega, by omega⟩) ?_)
  | ((with_reducible show tyV _ "list" _ _ ∧ _); refine rd_tyL (by first | assumption | exact upd_same) ?_)
  | ((with_reducible show rIxT _ _ (V.int 0) _ _); refine rd_ixT0 (by first | assumption | exact upd_same) ?_)
  | ((with_reducible show rIxT _ _ _ _ _); refine rd_ixT (by first | assumption | exact upd_same) rfl ?_))
local macro_rules | `(tactic| walk_at "rd") => `(tactic| (repeat (first | walk_at "rd1" | dsimp only)))
local macro_rules | `(tactic| walk_at "rds") => `(tactic| (dsimp only [cxOf, Cx.nox, Cx.wish, Cx.blk, L2.start]; walk_at "rd"))
local macro_rules | `(tactic| walk_at "rdn") => `(tactic| (repeat (first | walk_at "rdn1" | dsimp only)))
section
variable {P : Program} {w : World} {K : PySem.W.Frag} {mg : Str → Option Value} {base : Heap}

theorem pe_indexJ {X : Cx} {K : PySem.W.Frag} {o e : Expr} {to : TE} {t : TA} {apos cpos : Pos} (ho : PE X o to) (ha : PA X [e] t) (h : X.K = K := by rfl)
    (hbase : attributeBase o "index" X.env (eval o X.env) = eval o X.env := by rfl)
    (hfew : ((backTo cpos (starEach [e] X.env)).all (fun x => !x.1) && (backToKw cpos (keywordEach [] X.env)).all (fun x => x.1.isSome)
      && decide (([e] : List Expr).length + ([] : List Keyword).length + (if ([] : List Keyword).isEmpty then 0 else 1) < 30)) = true := by rfl)
    (hline : (apos.endLine == cpos.line) = true := by rfl) (hs : starEach [e] X.env = (false, eval e X.env) :: starEach [] X.env := by rfl) (hplain : (backTo cpos (starEach [] X.env)).any (·.1) = false := by rfl) :
    PE X (.Call (.Attribute o "index" apos) [e] [] cpos) (tBM K "list" (rIndex K) to t) := by
  subst h
  exact pe_bm PySem.F.plainAttrs_list PySem.F.slot_list_index PySem.F.type_list_index mt_index ho ha hbase hfew hline hs hplain
theorem sg_full {H : Hp} {v : V} {x : Sg} (h : Rp H v x.d) : ∃ (p pb pw pr : Addr) (vw vr : List V), v = .ref p ∧ H p = some (.tup [.ref pb, .str x.ri, .int x.ga, .ref pw, .ref pr]) ∧ H pb = some (.tup [.int x.r1, .int x.r2, .int x.r3]) ∧ H pw = some (.tup vw) ∧ RpAll H vw (x.ws.map Wd.d) ∧ H pr = some (.tup vr) ∧ RpAll H vr (x.rs.map Rw.d) := by
  obtain ⟨p, vs, rfl, hp, ha⟩ := h.tup_inv
  obtain ⟨x0, xr, rfl, h0, ha1⟩ := ha.cons_inv
  obtain ⟨x1, xr, rfl, h1, ha2⟩ := ha1.cons_inv
  obtain ⟨x2, xr, rfl, h2, ha3⟩ := ha2.cons_inv
  obtain ⟨x3, xr, rfl, h3, ha4⟩ := ha3.cons_inv
  obtain ⟨x4, xr, rfl, h4, ha5⟩ := ha4.cons_inv
  have e5 := ha5.nil_inv; subst e5
  have e1 := h1.str_inv; subst e1
  have e2 := h2.int_inv; subst e2
  obtain ⟨pb, vb, rfl, hpb, hb⟩ := h0.tup_inv
  have eb := RpAll.ints_inv (ns := [x.r1, x.r2, x.r3]) hb
  subst eb
  obtain ⟨pw, vw, rfl, hpw, haw⟩ := h3.tup_inv
  obtain ⟨pr, vr, rfl, hpr, har⟩ := h4.tup_inv
  exact ⟨p, pb, pw, pr, vw, vr, rfl, hp, hpb, hpw, haw, hpr, har⟩
def spSegAtL : Sp := fun vs H Q _ => ∃ (L : Addr) (us : List V) (n : Int), vs = [.ref L, .int n] ∧ H L = some (.lst us) ∧ (below n us.length = true → ∀ v, us[n.toNat]? = some v → Q v H) ∧ (below n us.length = false → Q .non H)
theorem ok_segAtL {f : Addr} {fd : FuncData} (B : BT mg) (F : Fun K "_law_segment_at" "_law_segment_at" s_law_segment_at f fd) (hm : mg "_law_segment_at" = some (.ref f)) : Cal P w K mg base "_law_segment_at" 1 ["segments", "number"] spSegAtL := by
  refine ⟨f, fd, hm, F.kp, F.binds (ps := ["segments", "number"]) fun _ _ _ _ _ _ us hl => match us, hl with | [_, _], _ => rfl, ?_⟩
  refine F.ok sc_law_segment_at (fun vs H Q E h => ?_) (fun cdv A outer s H vs Q E hr h => ?_)
  · obtain ⟨L, us, n, rfl, _⟩ := h
    rfl
  · obtain ⟨L, us, n, rfl, hL, k1, k2⟩ := h
    refine ⟨_, (pss_one (ps_ret (pe_ifExp (pt_chain op_le op_lt pe_int (pv 1) (pe_callB (cr_lenS (K := K)) rfl B.g_len PySem.boot_len (pa_cons (pv 0) pa_nil))) (pe_ix (r := rIxL K) ix_list (pv 0) (pv 1) (fun _ _ => rfl)) pe_non))), ?_⟩
    walk_at "rds"
    refine rd_tif ?_
    walk_at "rd"
    refine rd_ifd (fun h0 => ?_) (fun h0 => ?_)
    case refine_2 =>
      walk_at "rd"
      exact k2 (by unfold below; rw [decide_eq_false h0]; rfl)
    walk_at "rd"
    refine ⟨L, us, rfl, .inl (SqL.of hL), ?_⟩
    walk_at "rd"
    refine rd_ifd (fun h1 => ?_) (fun h1 => ?_)
    case refine_2 =>
      walk_at "rd"
      exact k2 (by unfold below; rw [decide_eq_false h1, Bool.and_false])
    walk_at "rd"
    have hn : n.toNat < us.length := by omega
    refine rd_ixL hL (at_of (j := n.toNat) (by omega) (List.getElem?_eq_getElem hn)) ?_
    exact k1 (below_of h0 h1) _ (List.getElem?_eq_getElem hn)
def spTouchG : Sp := fun vs H Q _ => ∃ (L : Addr) (us : List V) (xs : List Sg) (b : Int) (u : V) (t : Int × Int × Int × Str), vs = [.ref L, u] ∧ H L = some (.lst us) ∧ RpAll H us (xs.map Sg.d) ∧ (∀ y ∈ xs, sgFits y b (xs.length : Int) = true) ∧ Rp H u (toD t) ∧ (t.2.2.2 = ("r" : Str) ∨ t.2.2.2 = ("w" : Str)) ∧ ∀ H', Same H H' → Q (.bl (tFit xs t)) H'
theorem ok_touchG {f : Addr} {fd : FuncData} (B : BT mg) (F : Fun K "_law_touch_good" "_law_touch_good" s_law_touch_good f fd) (hm : mg "_law_touch_good" = some (.ref f)) (C_law_segment_at : Cal P w K mg base "_law_segment_at" 1 ["segments", "number"] spSegAtL) : Cal P w K mg base "_law_touch_good" 2 ["segments", "touch"] spTouchG := by
  refine ⟨f, fd, hm, F.kp, F.binds (ps := ["segments", "touch"]) fun _ _ _ _ _ _ us hl => match us, hl with | [_, _], _ => rfl, ?_⟩
  refine F.ok sc_law_touch_good (fun vs H Q E h => ?_) (fun cdv A outer s H vs Q E hr h => ?_)
  · obtain ⟨L, us, xs, b, u, t, rfl, _⟩ := h
    rfl
  · obtain ⟨L, us, xs, b, u, ⟨r, g, p, l⟩, rfl, hL, rp, hf, ru, hl, k⟩ := h
    refine ⟨_, (pss_cons (ps_asg (pv 1) (pg_tup (by rfl) (pgs_cons (pg_name (i := 2) sc_law_touch_good.nd rfl (Or.inl rfl)) (pgs_cons (pg_name (i := 3) sc_law_touch_good.nd rfl (Or.inl rfl)) (pgs_cons (pg_name (i := 4) sc_law_touch_good.nd rfl (Or.inl rfl)) (pgs_cons (pg_name (i := 5) sc_law_touch_good.nd rfl (Or.inl rfl)) pgs_nil))))))
 (pss_cons (ps_set (i := 6) sc_law_touch_good.nd rfl (Or.inl rfl) (pe_cal C_law_segment_at (hr.mono (by omega)) rfl (pa_cons (pv 0) (pa_cons (pv 3) pa_nil))))
 (pss_cons (ps_if (PW.pt (pw_or (pt_cmpR op_isN (pv 6) pe_non (nomark _)) (pw_or (pt_cmpR op_lt (pv 2) pe_int (nomark _)) (pw_or (pt_cmpR op_lt (pv 4) pe_int (nomark _)) (pw_or1 (pt_cmpR op_ge (pv 4) (pe_callB (cr_lenS (K := K)) rfl B.g_len PySem.boot_len (pa_cons (pe_ix (r := rIxT K) ix_tup (pv 6) pe_int (fun _ _ => rfl)) pa_nil)) (nomark _))))))) (pss_one (ps_ret pe_bl)) pss_nil)
 (pss_one (ps_ret (pe_and (pe_cmpR op_in_sign (pv 5) (pe_ix (r := rIxT K) ix_tup (pv 6) pe_int (fun _ _ => rfl)) rfl) (pe_one (pe_cmpR op_le (pv 2) (pe_ix (r := rIxT K) ix_tup (pe_ix (r := rIxT K) ix_tup (pv 6) pe_int (fun _ _ => rfl)) (pe_indexJ (K := K) (pe_lst (pa_cons pe_str (pa_cons pe_str pa_nil))) (pa_cons (pv 5) pa_nil)) (fun _ _ => rfl)) (nomark _))))))))), ?_⟩
    have lu : us.length = xs.length := by rw [rp.length, List.length_map]
    obtain ⟨q, vs, rfl, hq, ha⟩ := Rp.tup_inv (show Rp H u (.tuple [.int r, .int g, .int p, .str l]) from ru)
    obtain ⟨x0, xr, rfl, h0, ha1⟩ := ha.cons_inv
    obtain ⟨x1, xr, rfl, h1, ha2⟩ := ha1.cons_inv
    obtain ⟨x2, xr, rfl, h2, ha3⟩ := ha2.cons_inv
    obtain ⟨x3, xr, rfl, h3, ha4⟩ := ha3.cons_inv
    have e5 := ha4.nil_inv; subst e5
    have e0 := h0.int_inv; subst e0
    have e1 := h1.int_inv; subst e1
    have e2 := h2.int_inv; subst e2
    have e3 := h3.str_inv; subst e3
    dsimp only at hl
    unfold tFit at k
    dsimp only at k
    walk_at "rds"
    refine ⟨L, us, g, rfl, hL, fun hb v hv => ?_, fun hb => ?_⟩
    case refine_2 =>
      rw [lu] at hb
      rw [hb, Bool.false_and, Bool.and_false] at k
      walk_at "rd"
      refine ⟨rfl, ?_⟩
      walk_at "rd"
      refine rd_ifT rfl ?_
      walk_at "rd"
      exact k _ (Same.refl _)
    rw [lu] at hb
    rw [hb, Bool.true_and] at k
    obtain ⟨d, hd, rv⟩ := rp.get hv
    have hg := below_iff.mp hb
    have hx : xs[g.toNat]? = some (sgAt xs g) := by
      unfold sgAt
      rw [List.getD_eq_getElem?_getD, List.getElem?_eq_getElem (show g.toNat < xs.length by omega)]
      rfl
    rw [List.getElem?_map, hx] at hd
    cases hd
    have fx := hf _ (List.mem_of_getElem? hx)
    generalize sgAt xs g = x at rv fx k
    obtain ⟨sp, pb, pw, pr, vw, vr, rfl, hsp, hpb, hpw, raw, hpr, rar⟩ := sg_full rv
    have lvw : vw.length = x.ws.length := by rw [raw.length, List.length_map]
    obtain ⟨b0, b1, b2, b3⟩ := br_of fx
    walk_at "rd"
    refine ⟨rfl, ?_⟩
    walk_at "rd"
    refine rd_ifF (fun z => nomatch z) ?_
    walk_at "rd"
    refine rd_ifd (fun c => ?_) (fun c => ?_)
    · walk_at "rd"
      rw [show below r 8 = false from by unfold below; rw [decide_eq_false (show ¬ 0 ≤ r by omega)]; rfl, Bool.false_and] at k
      exact k _ (Same.refl _)
    walk_at "rd"
    refine rd_ifd (fun c2 => ?_) (fun c2 => ?_)
    · walk_at "rd"
      rw [show below p (x.ws.length : Int) = false from by unfold below; rw [decide_eq_false (show ¬ 0 ≤ p by omega)]; rfl, Bool.false_and, Bool.and_false] at k
      exact k _ (Same.refl _)
    walk_at "rd"
    refine ⟨pw, vw, rfl, .inr (SqT.of hpw), ?_⟩
    walk_at "rd"
    refine rd_ifd (fun c3 => ?_) (fun c3 => ?_)
    · walk_at "rd"
      rw [show below p (x.ws.length : Int) = false from by unfold below; rw [decide_eq_false (show ¬ p < (x.ws.length : Int) by omega), Bool.and_false], Bool.false_and, Bool.and_false] at k
      exact k _ (Same.refl _)
    rw [below_of (show 0 ≤ p by omega) (show p < (x.ws.length : Int) by omega), Bool.true_and] at k
    have r8 : ∀ z : Int, z ≤ x.r3 → (below r 8 && decide (r ≤ z)) = decide (r ≤ z) := fun z hz => by
      by_cases h : r ≤ z
      · rw [decide_eq_true h, below_of (show 0 ≤ r by omega) (show r < 8 by omega)]; rfl
      · rw [decide_eq_false h, Bool.and_false]
    rcases hl with rfl | rfl
    · rw [if_pos rfl] at k
      unfold mRead at k
      rw [← Bool.and_assoc, Bool.and_comm (below r 8), Bool.and_assoc, r8 x.r2 (by omega)] at k
      unfold has at k
      walk_at "rd"
      refine ⟨114, x.ri, rfl, rfl, ?_⟩
      walk_at "rd"
      by_cases hh : 114 ∈ x.ri.cps.toList
      case neg =>
        refine rd_ifd (fun z => absurd z hh) (fun _ => ?_)
        rw [decide_eq_false hh] at k
        exact k _ (Same.refl _)
      refine rd_ifd (fun _ => ?_) (fun z => absurd hh z)
      rw [decide_eq_true hh, Bool.true_and] at k
      walk_at "rd"
      intro ql hql
      have s3 := same_upd (o := .lst [.str "w", .str "r"]) hql
      have hpb3 := s3 _ _ hpb
      walk_at "rd"
      refine ⟨ql, _, _, 1, .str "r", rfl, rfl, SqL.of upd_same, rfl, rfl, rfl, by decide +kernel, fun m z' hm hz => ?_, ?_⟩
      · have e0 : m = 0 := by omega
        subst e0
        cases hz
        decide +kernel
      (try refine rd_ixT hpb3 rfl ?_)
      walk_at "rd"
      exact k _ s3
    · rw [if_neg (by decide +kernel : ¬ ("w" : Str) = "r")] at k
      unfold mWrite at k
      rw [← Bool.and_assoc, Bool.and_comm (below r 8), Bool.and_assoc, r8 x.r1 (by omega)] at k
      unfold has at k
      walk_at "rd"
      refine ⟨119, x.ri, rfl, rfl, ?_⟩
      walk_at "rd"
      by_cases hh : 119 ∈ x.ri.cps.toList
      case neg =>
        refine rd_ifd (fun z => absurd z hh) (fun _ => ?_)
        rw [decide_eq_false hh] at k
        exact k _ (Same.refl _)
      refine rd_ifd (fun _ => ?_) (fun z => absurd hh z)
      rw [decide_eq_true hh, Bool.true_and] at k
      walk_at "rd"
      intro ql hql
      have s3 := same_upd (o := .lst [.str "w", .str "r"]) hql
      have hpb3 := s3 _ _ hpb
      walk_at "rd"
      refine ⟨ql, _, _, 0, .str "w", rfl, rfl, SqL.of upd_same, rfl, rfl, rfl, by decide +kernel, fun m z' hm hz => absurd hm (by omega), ?_⟩
      (try refine rd_ixT hpb3 rfl ?_)
      walk_at "rd"
      exact k _ s3
def spStepRow : Sp := fun vs H Q _ => ∃ (L : Addr) (us : List V) (xs : List Sg) (u : V) (c : St4), vs = [.ref L, u] ∧ H L = some (.lst us) ∧ RpAll H us (xs.map Sg.d) ∧ Rp H u (stD c) ∧ (sFit xs c = true → ∀ v, Rp H v (rowAt xs c.2.1 c.2.2.1).d → Q v H) ∧ (sFit xs c = false → Q .non H)
theorem ok_stepRow {f : Addr} {fd : FuncData} (B : BT mg) (F : Fun K "_law_step_row" "_law_step_row" s_law_step_row f fd) (hm : mg "_law_step_row" = some (.ref f)) (C_law_segment_at : Cal P w K mg base "_law_segment_at" 1 ["segments", "number"] spSegAtL) : Cal P w K mg base "_law_step_row" 2 ["segments", "step"] spStepRow := by
  refine ⟨f, fd, hm, F.kp, F.binds (ps := ["segments", "step"]) fun _ _ _ _ _ _ us hl => match us, hl with | [_, _], _ => rfl, ?_⟩
  refine F.ok sc_law_step_row (fun vs H Q E h => ?_) (fun cdv A outer s H vs Q E hr h => ?_)
  · obtain ⟨L, us, xs, u, t, rfl, _⟩ := h
    rfl
  · obtain ⟨L, us, xs, u, ⟨r, g, p, n⟩, rfl, hL, rp, ru, k1, k2⟩ := h
    refine ⟨_, (pss_cons (ps_set (i := 2) sc_law_step_row.nd rfl (Or.inl rfl) (pe_cal C_law_segment_at (hr.mono (by omega)) rfl (pa_cons (pv 0) (pa_cons (pe_ix (r := rIxT K) ix_tup (pv 1) pe_int (fun _ _ => rfl)) pa_nil))))
 (pss_cons (ps_if (PW.pt (pw_or (pt_cmpR op_isN (pv 2) pe_non (nomark _)) (pw_or (pt_cmpR op_notIn_sign pe_str (pe_ix (r := rIxT K) ix_tup (pv 2) pe_int (fun _ _ => rfl)) rfl) (pw_or (pt_cmpR op_lt (pe_ix (r := rIxT K) ix_tup (pv 1) pe_int (fun _ _ => rfl)) pe_int (nomark _)) (pw_or1 (pt_cmpR op_ge (pe_ix (r := rIxT K) ix_tup (pv 1) pe_int (fun _ _ => rfl)) (pe_callB (cr_lenS (K := K)) rfl B.g_len PySem.boot_len (pa_cons (pe_ix (r := rIxT K) ix_tup (pv 2) pe_int (fun _ _ => rfl)) pa_nil)) (nomark _))))))) (pss_one (ps_ret pe_non)) pss_nil)
 (pss_cons (ps_if (PW.pt (pw_or (pt_cmpR op_lt (pe_ix (r := rIxT K) ix_tup (pv 1) pe_int (fun _ _ => rfl)) (pe_ix (r := rIxT K) ix_tup (pe_ix (r := rIxT K) ix_tup (pv 2) pe_int (fun _ _ => rfl)) pe_int (fun _ _ => rfl)) (nomark _)) (pw_or1 (pt_cmpR op_gt (pe_ix (r := rIxT K) ix_tup (pv 1) pe_int (fun _ _ => rfl)) (pe_ix (r := rIxT K) ix_tup (pe_ix (r := rIxT K) ix_tup (pv 2) pe_int (fun _ _ => rfl)) pe_int (fun _ _ => rfl)) (nomark _))))) (pss_one (ps_ret pe_non)) pss_nil)
 (pss_one (ps_ret (pe_ix (r := rIxT K) ix_tup (pe_ix (r := rIxT K) ix_tup (pv 2) pe_int (fun _ _ => rfl)) (pe_ix (r := rIxT K) ix_tup (pv 1) pe_int (fun _ _ => rfl)) (fun _ _ => rfl))))))), ?_⟩
    have lu : us.length = xs.length := by rw [rp.length, List.length_map]
    obtain ⟨q, rfl, hq⟩ := st_tup ru
    dsimp only at hq k1
    unfold sFit rowAt at k1
    unfold sFit at k2
    dsimp only at k1 k2
    walk_at "rds"
    refine ⟨L, us, g, rfl, hL, fun hb v hv => ?_, fun hb => ?_⟩
    case refine_2 =>
      rw [lu] at hb
      rw [hb, Bool.false_and] at k2
      walk_at "rd"
      refine ⟨rfl, ?_⟩
      walk_at "rd"
      refine rd_ifT rfl ?_
      walk_at "rd"
      exact k2 rfl
    rw [lu] at hb
    rw [hb, Bool.true_and] at k1 k2
    obtain ⟨d, hd, rv⟩ := rp.get hv
    have hg := below_iff.mp hb
    have hx : xs[g.toNat]? = some (sgAt xs g) := by
      unfold sgAt
      rw [List.getD_eq_getElem?_getD, List.getElem?_eq_getElem (show g.toNat < xs.length by omega)]
      rfl
    rw [List.getElem?_map, hx] at hd
    cases hd
    generalize sgAt xs g = x at rv k1 k2
    obtain ⟨sp, pb, pw, pr, vw, vr, rfl, hsp, hpb, hpw, raw, hpr, rar⟩ := sg_full rv
    have lvr : vr.length = x.rs.length := by rw [rar.length, List.length_map]
    unfold mRun has at k1 k2
    walk_at "rd"
    refine ⟨rfl, ?_⟩
    walk_at "rd"
    refine rd_ifF (fun z => nomatch z) ?_
    walk_at "rd"
    refine ⟨120, x.ri, rfl, rfl, ?_⟩
    walk_at "rd"
    by_cases hh : 120 ∈ x.ri.cps.toList
    case neg =>
      refine rd_ifn (fun z => absurd (of_decide_eq_true z) hh) (fun _ => ?_)
      walk_at "rd"
      rw [decide_eq_false hh, Bool.false_and, Bool.and_false] at k2
      exact k2 rfl
    refine rd_ifn (fun _ => ?_) (fun z => absurd (decide_eq_true hh) (by rw [z]; exact fun q => nomatch q))
    rw [decide_eq_true hh, Bool.true_and] at k1 k2
    walk_at "rd"
    refine rd_ifd (fun c2 => ?_) (fun c2 => ?_)
    · walk_at "rd"
      rw [show below p (x.rs.length : Int) = false from by unfold below; rw [decide_eq_false (show ¬ 0 ≤ p by omega)]; rfl, Bool.false_and] at k2
      exact k2 rfl
    walk_at "rd"
    refine ⟨pr, vr, rfl, .inr (SqT.of hpr), ?_⟩
    walk_at "rd"
    refine rd_ifd (fun c3 => ?_) (fun c3 => ?_)
    · walk_at "rd"
      rw [show below p (x.rs.length : Int) = false from by unfold below; rw [decide_eq_false (show ¬ p < (x.rs.length : Int) by omega), Bool.and_false], Bool.false_and] at k2
      exact k2 rfl
    rw [below_of (show 0 ≤ p by omega) (show p < (x.rs.length : Int) by omega), Bool.true_and] at k1 k2
    walk_at "rd"
    refine rd_ifd (fun c4 => ?_) (fun c4 => ?_)
    · walk_at "rd"
      rw [decide_eq_false (show ¬ x.r1 ≤ r by omega), Bool.false_and] at k2
      exact k2 rfl
    rw [decide_eq_true (show x.r1 ≤ r by omega), Bool.true_and] at k1 k2
    walk_at "rd"
    refine rd_ifd (fun c5 => ?_) (fun c5 => ?_)
    · walk_at "rd"
      rw [decide_eq_false (show ¬ r ≤ x.r2 by omega)] at k2
      exact k2 rfl
    rw [decide_eq_true (show r ≤ x.r2 by omega)] at k1
    obtain ⟨yv, hyv, ryv⟩ := rar.get2 (i := p.toNat) (d := (x.rs.getD p.toNat ⟨"return", []⟩).d) (by rw [List.getElem?_map, List.getD_eq_getElem?_getD, List.getElem?_eq_getElem (show p.toNat < x.rs.length by omega)]; rfl)
    walk_at "rd"
    refine rd_ixT hpr (at_of (j := p.toNat) (by omega) hyv) ?_
    walk_at "rd"
    exact k1 rfl _ ryv
def ledJ (x : Sg) (pl e : Int) : Option Int := if e < x.r1 then some x.r1 else if e ≤ x.r2 then some e else if e ≤ x.r3 ∧ pl < x.ga then some x.r2 else none
theorem led_eq {x : Sg} {pl e : Int} (h12 : x.r1 ≤ x.r2) (hx : has 120 x.ri = true) (hp : 0 ≤ pl ∧ pl < (x.rs.length : Int)) : ledTo x pl e = ledJ x pl e := by
  unfold ledTo enteredR ledJ
  rw [hx, if_neg (fun z => nomatch z), if_neg (fun z => z hp)]
  by_cases h1 : e ≤ x.r2
  · rw [if_pos h1]
    by_cases h2 : e < x.r1
    · rw [if_pos h2]
      show some (mx e x.r1) = _
      unfold mx
      rw [if_pos (by omega)]
    · rw [if_neg h2, if_pos h1]
      show some (mx e x.r1) = _
      unfold mx
      rw [if_neg (by omega)]
  · rw [if_neg h1, if_neg (show ¬ e < x.r1 by omega), if_neg h1]
    by_cases h3 : e > x.r3
    · rw [if_pos h3, if_neg (fun z => by omega)]
    · rw [if_neg h3]
      by_cases h4 : pl ≥ x.ga
      · rw [if_pos h4, if_neg (fun z => by omega)]
      · rw [if_neg h4, if_pos ⟨by omega, by omega⟩]
def spLedL : Sp := fun vs H Q _ => ∃ (v : V) (x : Sg) (pl e : Int), vs = [v, .int pl, .int e] ∧ Rp H v x.d ∧ Q (ledV (ledJ x pl e)) H
theorem ok_ledL {f : Addr} {fd : FuncData} (B : BT mg) (F : Fun K "_law_led" "_law_led" s_law_led f fd) (hm : mg "_law_led" = some (.ref f)) : Cal P w K mg base "_law_led" 1 ["segment", "place", "ring"] spLedL := by
  refine ⟨f, fd, hm, F.kp, F.binds (ps := ["segment", "place", "ring"]) fun _ _ _ _ _ _ us hl => match us, hl with | [_, _, _], _ => rfl, ?_⟩
  refine F.ok sc_law_led (fun vs H Q E h => ?_) (fun cdv A outer s H vs Q E hr h => ?_)
  · obtain ⟨v, x, pl, e, rfl, _⟩ := h
    rfl
  · obtain ⟨v, x, pl, e, rfl, rv, k⟩ := h
    refine ⟨_, (pss_cons (ps_asg (pe_ix (r := rIxT K) ix_tup (pv 0) pe_int (fun _ _ => rfl)) (pg_tup (by rfl) (pgs_cons (pg_name (i := 3) sc_law_led.nd rfl (Or.inl rfl)) (pgs_cons (pg_name (i := 4) sc_law_led.nd rfl (Or.inl rfl)) (pgs_cons (pg_name (i := 5) sc_law_led.nd rfl (Or.inl rfl)) pgs_nil)))))
 (pss_cons (ps_if (pt_cmpR op_lt (pv 2) (pv 3) (nomark _)) (pss_one (ps_ret (pv 3))) pss_nil)
 (pss_cons (ps_if (pt_cmpR op_le (pv 2) (pv 4) (nomark _)) (pss_one (ps_ret (pv 2))) pss_nil)
 (pss_one (ps_ret (pe_ifExp (PW.pt (pw_and (pt_cmpR op_le (pv 2) (pv 5) (nomark _)) (pw_and1 (pt_cmpR op_lt (pv 1) (pe_ix (r := rIxT K) ix_tup (pv 0) pe_int (fun _ _ => rfl)) (nomark _))))) (pv 4) pe_non)))))), ?_⟩
    obtain ⟨sp, pb, pw, pr, vw, vr, rfl, hsp, hpb, hpw, raw, hpr, rar⟩ := sg_full rv
    unfold ledJ at k
    walk_at "rds"
    refine rd_ifd (fun c => ?_) (fun c => ?_)
    · rw [if_pos c] at k
      walk_at "rd"
      exact k
    rw [if_neg c] at k
    walk_at "rd"
    refine rd_ifd (fun c1 => ?_) (fun c1 => ?_)
    · rw [if_pos c1] at k
      walk_at "rd"
      exact k
    rw [if_neg c1] at k
    walk_at "rd"
    refine rd_tif ?_
    walk_at "rd"
    refine rd_ifd (fun c2 => ?_) (fun c2 => ?_)
    case refine_2 =>
      rw [if_neg (fun z => c2 z.1)] at k
      walk_at "rd"
      exact k
    walk_at "rd"
    refine rd_ifd (fun c3 => ?_) (fun c3 => ?_)
    case refine_2 =>
      rw [if_neg (fun z => c3 z.2)] at k
      walk_at "rd"
      exact k
    rw [if_pos ⟨c2, c3⟩] at k
    walk_at "rd"
    exact k
def entJ (x : Sg) (pl r fr : Int) : Bool := (List.range (8 - fr).toNat).any fun i => decide (ledJ x pl (fr + (i : Int)) = some r)
theorem ent_eq {xs : List Sg} {b : Int} {c : St4} {fr : Int} (hf : ∀ y ∈ xs, sgFits y b (xs.length : Int) = true) (h : sFit xs c = true) : entJ (sgAt xs c.2.1) c.2.2.1 c.1 fr = isEnt xs c fr := by
  obtain ⟨⟨g0, gN⟩, hp, hr⟩ := sfit_parts h
  have hx : has 120 (sgAt xs c.2.1).ri = true := by
    unfold mRun at hr
    rw [Bool.and_eq_true] at hr
    exact hr.1
  have := br_of (hf _ (sgAt_mem g0 gN))
  unfold entJ isEnt
  congr 1
  funext i
  rw [led_eq (by omega) hx hp]
def spEntL : Sp := fun vs H Q _ => ∃ (L : Addr) (us : List V) (xs : List Sg) (u : V) (c : St4) (fr : Int), vs = [.ref L, .int fr, u] ∧ H L = some (.lst us) ∧ RpAll H us (xs.map Sg.d) ∧ Rp H u (stD c) ∧ below c.2.1 (xs.length : Int) = true ∧ -500 ≤ fr ∧ fr < 2 ^ 62 ∧ ∀ H', Same H H' → Q (.bl (entJ (sgAt xs c.2.1) c.2.2.1 c.1 fr)) H'
theorem ok_entL {f : Addr} {fd : FuncData} (B : BT mg) (F : Fun K "_law_entered" "_law_entered" s_law_entered f fd) (hm : mg "_law_entered" = some (.ref f)) (C_law_led : Cal P w K mg base "_law_led" 1 ["segment", "place", "ring"] spLedL) : Cal P w K mg base "_law_entered" 2 ["segments", "ring", "step"] spEntL := by
  refine ⟨f, fd, hm, F.kp, F.binds (ps := ["segments", "ring", "step"]) fun _ _ _ _ _ _ us hl => match us, hl with | [_, _, _], _ => rfl, ?_⟩
  refine F.ok sc_law_entered (fun vs H Q E h => ?_) (fun cdv A outer s H vs Q E hr h => ?_)
  · obtain ⟨L, us, xs, u, c, fr, rfl, _⟩ := h
    rfl
  · obtain ⟨L, us, xs, u, ⟨r, g, p, n⟩, fr, rfl, hL, rp, ru, hb, f0, f1, k⟩ := h
    refine ⟨_, (pss_one (ps_ret (pe_cmpR (r := rIn K false) op_in_seq (pe_ix (r := rIxT K) ix_tup (pv 2) pe_int (fun _ _ => rfl)) (pe_lc (own := [("one", 3)]) (g := gName 3) (tt := tYes) rfl sc_law_entered.nd (pi_range2 rfl B.g_range (pa_cons (pv 1) (pa_cons pe_int pa_nil))) (blkOk_by (own := [("one", 3)]) (N := ["segments", "ring", "step", "one"]) (sc := defScope s_law_entered) (by decide +kernel)) (fun _ _ _ _ _ => (pg_name (i := 3) sc_law_entered.nd rfl (by first | exact Or.inl rfl | exact Or.inr rfl))) (fun _ _ _ _ _ => pts_nil) (fun _ _ _ _ _ => (pe_cal C_law_led (hr.mono (by omega)) rfl (pa_cons (pe_ix (r := rIxL K) ix_list (pv 0) (pe_ix (r := rIxT K) ix_tup (pv 2) pe_int (fun _ _ => rfl)) (fun _ _ => rfl)) (pa_cons (pe_ix (r := rIxT K) ix_tup (pv 2) pe_int (fun _ _ => rfl)) (pa_cons (pv 3) pa_nil)))))) (by rfl)))), ?_⟩
    have lu : us.length = xs.length := by rw [rp.length, List.length_map]
    obtain ⟨q, rfl, hq⟩ := st_tup ru
    dsimp only at hq hb k
    have hg := below_iff.mp hb
    have hx : xs[g.toNat]? = some (sgAt xs g) := by
      unfold sgAt
      rw [List.getD_eq_getElem?_getD, List.getElem?_eq_getElem (show g.toNat < xs.length by omega)]
      rfl
    obtain ⟨sv, hsv, rsv⟩ := rp.get2 (i := g.toNat) (d := (sgAt xs g).d) (by rw [List.getElem?_map, hx]; rfl)
    generalize sgAt xs g = x at rsv k
    walk_at "rds"
    refine rd_irng2 ?_
    walk_at "rd"
    refine ⟨fr, 8, rfl, ⟨by omega, by omega, by decide, by decide⟩, fun D hD => ?_⟩
    refine lc_it walk_range (CompL D H (List.range (8 - fr).toNat) (fun (i : Nat) => ledV (ledJ x p (fr + (i : Int))))) (CompL.start hD) (fun _ _ _ _ => trivial) ?_ ?_
    · rintro i y H2 H3 hi pc ⟨rfl, rfl⟩
      have hLi := pc.2 _ _ hL
      have hqi := pc.2 _ _ hq
      walk_at "rd"
      refine ⟨rfl, ?_⟩
      walk_at "rd"
      refine rd_ixL hLi (at_of (j := g.toNat) (by omega) hsv) ?_
      walk_at "rd"
      refine ⟨sv, x, p, fr + (i : Int), rfl, rsv.keep (Tk.of pc.2), ?_⟩
      exact pc.step hD (by omega) (b := i) (by rw [List.getElem?_range hi]) (Same.refl _) rfl
    intro H2 pc
    have hd := pc.end (by rw [List.length_range])
    have fl : ∀ o : Option Int, flatV (ledV o) = true := fun o => by cases o <;> rfl
    refine ⟨D, (List.range (8 - fr).toNat).map fun (i : Nat) => ledV (ledJ x p (fr + (i : Int))), rfl, .inl (SqL.of hd), rfl, List.all_eq_true.mpr fun v hv => by obtain ⟨i, _, rfl⟩ := List.mem_map.mp hv; exact fl _, ?_⟩
    walk_at "rd"
    have e : inV (V.int r) ((List.range (8 - fr).toNat).map fun (i : Nat) => ledV (ledJ x p (fr + (i : Int)))) = entJ x p r fr := by
      unfold inV entJ
      rw [List.any_map]
      congr 1
      funext i
      show eqV (ledV (ledJ x p (fr + (i : Int)))) (V.int r) = _
      generalize ledJ x p (fr + (i : Int)) = o
      cases o with
      | none => rfl
      | some z =>
        show (z == r) = decide ((some z : Option Int) = some r)
        by_cases h : z = r
        · subst h
          rw [decide_eq_true rfl]
          exact beq_self_eq_true z
        · rw [decide_eq_false (fun q => h (by injection q))]
          exact beq_eq_false_iff_ne.mpr h
    rw [e]
    exact k _ pc.2
theorem find_rev {α : Type} (p : α → Bool) (l : List α) : l.reverse.find? p = (l.filter p).getLast? := by
  rw [List.getLast?_eq_head?_reverse, ← List.filter_reverse, List.head?_filter]
theorem lastAt_eq (st : List St4) (n : Nat) (k : Int) : lastAt st n k = ((st.take n).filter fun c => decide (c.2.2.2 = k)).getLast? := find_rev _ _
theorem rd_par {i j : Nat} {ta : TA} {D : Ends} {σ : L2.St} {H : Hp} (h : ta σ H fun vs H1 => ∃ v w, vs = [v, w] ∧ D.nx ((List.set σ i (some v)).set j (some w)) H1) : tPar i j ta D σ H := h
theorem RpAll.takeN {H : Hp} : ∀ (m : Nat) {vs : List V} {ds : List PyData}, RpAll H vs ds → RpAll H (vs.take m) (ds.take m)
  | 0, _, _, _ => .nil
  | m + 1, [], _, h => by
    cases h
    exact .nil
  | m + 1, v :: vs, ds, h => by
    cases h with
    | cons h1 h2 => exact .cons h1 (RpAll.takeN m h2)
theorem rd_ifnI {a b : Int} {A B : Prop} (h1 : a ≠ b → A) (h2 : a = b → B) : if (!decide (V.int a = V.int b)) = true then A else B := by
  by_cases e : a = b
  · rw [decide_eq_true (show V.int a = V.int b by rw [e])]
    exact iteF (h2 e)
  · rw [decide_eq_false (show ¬ V.int a = V.int b from fun z => e (by injection z))]
    exact iteT (h1 e)
theorem ret_ne : ("return" : Str) ≠ "call" := by decide +kernel
theorem in_cr (w : Str) : inV (V.str w) [V.str "call", V.str "return"] = decide (w = "call" ∨ w = "return") := by
  show (("call" : Str) == w || (("return" : Str) == w || false)) = _
  by_cases h1 : w = "call"
  · subst h1
    rw [decide_eq_true (.inl rfl), beq_self_eq_true]; rfl
  · by_cases h2 : w = "return"
    · subst h2
      rw [decide_eq_true (.inr rfl), beq_self_eq_true, Bool.true_or, Bool.or_true]
    · rw [decide_eq_false (fun z => z.elim h1 h2), beq_eq_false_iff_ne.mpr (Ne.symm h1), beq_eq_false_iff_ne.mpr (Ne.symm h2)]; rfl
def spBehind : Sp := fun vs H Q _ => ∃ (L ls : Addr) (us ss : List V) (xs : List Sg) (b : Int) (st : List St4) (n : Nat), vs = [.ref L, .ref ls, .int (n : Int)] ∧ H L = some (.lst us) ∧ RpAll H us (xs.map Sg.d) ∧ (∀ y ∈ xs, sgFits y b (xs.length : Int) = true) ∧ H ls = some (.lst ss) ∧ RpAll H ss (st.map stD) ∧ st.length ≤ 900 ∧ (∀ c ∈ st, sFit xs c = true) ∧ 1 ≤ n ∧ n < st.length ∧ ∀ H', Same H H' → Q (.bl (flwR xs (st.getD (n - 1) (0, 0, 0, 0)) (st.getD n (0, 0, 0, 0)) (lastAt st n))) H'
theorem ok_behind {f : Addr} {fd : FuncData} (B : BT mg) (F : Fun K "_law_behind" "_law_behind" s_law_behind f fd) (hm : mg "_law_behind" = some (.ref f)) (C_law_step_row : Cal P w K mg base "_law_step_row" 2 ["segments", "step"] spStepRow) (C_law_entered : Cal P w K mg base "_law_entered" 2 ["segments", "ring", "step"] spEntL) : Cal P w K mg base "_law_behind" 3 ["segments", "steps", "at"] spBehind := by
  refine ⟨f, fd, hm, F.kp, F.binds (ps := ["segments", "steps", "at"]) fun _ _ _ _ _ _ us hl => match us, hl with | [_, _, _], _ => rfl, ?_⟩
  refine F.ok sc_law_behind (fun vs H Q E h => ?_) (fun cdv A outer s H vs Q E hr h => ?_)
  · obtain ⟨L, ls, us, ss, xs, b, st, n, rfl, _⟩ := h
    rfl
  · obtain ⟨L, ls, us, ss, xs, b, st, n, rfl, hL, rp, hfx, hls, rss, l9, hf, n1, nN, k⟩ := h
    refine ⟨_, (pss_cons (ps_asg (pe_tup (pa_cons (pe_ix (r := rIxL K) ix_list (pv 1) (pe_op op_sub (pv 2) pe_int) (fun _ _ => rfl)) (pa_cons (pe_ix (r := rIxL K) ix_list (pv 1) (pv 2) (fun _ _ => rfl)) pa_nil))) (pg_tup (by rfl) (pgs_cons (pg_name (i := 3) sc_law_behind.nd rfl (Or.inl rfl)) (pgs_cons (pg_name (i := 4) sc_law_behind.nd rfl (Or.inr rfl)) pgs_nil))))
 (pss_cons (ps_set (i := 5) sc_law_behind.nd rfl (Or.inl rfl) (pe_ix (r := rIxT K) ix_tup (pe_cal C_law_step_row (hr.mono (by omega)) rfl (pa_cons (pv 0) (pa_cons (pv 3) pa_nil))) pe_int (fun _ _ => rfl)))
 (pss_cons (ps_if (pt_cmpR op_eq (pe_ix (r := rIxT K) ix_tup (pv 4) pe_int (fun _ _ => rfl)) (pe_ix (r := rIxT K) ix_tup (pv 3) pe_int (fun _ _ => rfl)) (nomark _)) (pss_one (ps_ret (pe_and (pe_cmpR (r := rIn K true) op_notIn_seq (pv 5) (pe_lst (pa_cons pe_str (pa_cons pe_str pa_nil))) (by rfl)) (pe_one (pe_cmpR (r := rEqD K) (op_eqD hr.units) (pe_slice (r := rSlA K) sl_tupA (pv 4) po_none (po_some pe_int)) (pe_slice (r := rSlA K) sl_tupA (pv 3) po_none (po_some pe_int)) (nomark _)))))) pss_nil)
 (pss_cons (ps_if (pt_cmpR op_eq (pe_ix (r := rIxT K) ix_tup (pv 4) pe_int (fun _ _ => rfl)) (pe_op op_add (pe_ix (r := rIxT K) ix_tup (pv 3) pe_int (fun _ _ => rfl)) pe_int) (nomark _)) (pss_one (ps_ret (pe_and (pe_cmpR op_eq (pv 5) pe_str (nomark _)) (pe_one (pe_cal C_law_entered (hr.mono (by omega)) rfl (pa_cons (pv 0) (pa_cons (pe_ix (r := rIxT K) ix_tup (pv 3) pe_int (fun _ _ => rfl)) (pa_cons (pv 4) pa_nil)))))))) pss_nil)
 (pss_cons (ps_setLc (i := 6) (own := [("one", 7)]) (g := gName 7) rfl sc_law_behind.nd rfl rfl (sw_true rfl rfl rfl (by decide +kernel)) (pi_listK (K := K) (pe_slice (r := rSlL K) sl_list (pv 1) po_none (po_some (pv 2)))) (blkOk_by (own := [("one", 7)]) (N := ["segments", "steps", "at", "before", "step", "word", "some", "one"]) (sc := defScope s_law_behind) (by decide +kernel)) (fun _ _ _ _ _ => (pg_name (i := 7) sc_law_behind.nd rfl (by first | exact Or.inl rfl | exact Or.inr rfl))) (fun _ _ _ _ _ => (pts_one (pt_cmpR op_eq (pe_ix (r := rIxT K) ix_tup (pv 7) pe_int (fun _ _ => rfl)) (pe_ix (r := rIxT K) ix_tup (pv 4) pe_int (fun _ _ => rfl)) (nomark _)))) (fun _ _ _ _ _ => (pv 7)))
 (pss_cons (ps_if (PW.pt (pw_or (pt_cmpR op_ne (pe_ix (r := rIxT K) ix_tup (pv 4) pe_int (fun _ _ => rfl)) (pe_op op_sub (pe_ix (r := rIxT K) ix_tup (pv 3) pe_int (fun _ _ => rfl)) pe_int) (nomark _)) (pw_or (pt_cmpR op_ne (pv 5) pe_str (nomark _)) (pw_or1 (pt_cmpR (r := rEqD K) (op_eqD hr.units) (pv 6) (pe_lst pa_nil) (nomark _)))))) (pss_one (ps_ret pe_bl)) pss_nil)
 (pss_one (ps_ret (pe_cmpR (r := rEqD K) (op_eqD hr.units) (pe_slice (r := rSlA K) sl_tupA (pv 4) po_none (po_some pe_int)) (pe_op (r := rCatA K) op_catA (pe_slice (r := rSlA K) sl_tupA (pe_ix (r := rIxL K) ix_list (pv 6) (pe_un un_neg pe_int) (fun _ _ => rfl)) po_none (po_some pe_int)) (pe_tup (pa_cons (pe_op op_add (pe_ix (r := rIxT K) ix_tup (pe_ix (r := rIxL K) ix_list (pv 6) (pe_un un_neg pe_int) (fun _ _ => rfl)) pe_int (fun _ _ => rfl)) pe_int) pa_nil))) (nomark _)))))))))), ?_⟩
    have lss : ss.length = st.length := by rw [rss.length, List.length_map]
    have hc1 : st[n - 1]? = some (st.getD (n - 1) (0, 0, 0, 0)) := by rw [List.getD_eq_getElem?_getD, List.getElem?_eq_getElem (show n - 1 < st.length by omega)]; rfl
    have hd1 : st[n]? = some (st.getD n (0, 0, 0, 0)) := by rw [List.getD_eq_getElem?_getD, List.getElem?_eq_getElem nN]; rfl
    obtain ⟨uc, huc, ruc⟩ := rss.get2 (i := n - 1) (d := stD (st.getD (n - 1) (0, 0, 0, 0))) (by rw [List.getElem?_map, hc1]; rfl)
    obtain ⟨ud, hud, rud⟩ := rss.get2 (i := n) (d := stD (st.getD n (0, 0, 0, 0))) (by rw [List.getElem?_map, hd1]; rfl)
    have hfc := hf _ (List.mem_of_getElem? hc1)
    have hfd := hf _ (List.mem_of_getElem? hd1)
    generalize st.getD (n - 1) (0, 0, 0, 0) = c at ruc hfc k
    generalize st.getD n (0, 0, 0, 0) = d at rud hfd k
    obtain ⟨qc, rfl, hqc⟩ := st_tup ruc
    obtain ⟨qd, rfl, hqd⟩ := st_tup rud
    obtain ⟨⟨g0, gN⟩, hp, hrun⟩ := sfit_parts hfc
    have c8 := run_small (hfx _ (sgAt_mem g0 gN)) hrun
    have hop : opAt xs c = (rowAt xs c.2.1 c.2.2.1).op := rfl
    unfold flwR at k
    rw [hop] at k
    walk_at "rds"
    refine rd_ixL hls (at_of (j := n - 1) (by omega) huc) ?_
    walk_at "rd"
    refine rd_ixL hls (at_of (j := n) rfl hud) ?_
    walk_at "rd"
    intro p0 hp0
    have s0 := same_upd (o := .tup [.ref qc, .ref qd]) hp0
    have hp0' : upd H p0 (.tup [.ref qc, .ref qd]) p0 = some (.tup [.ref qc, .ref qd]) := upd_same
    replace hL := s0 _ _ hL
    replace rp := rp.keep (Tk.of s0)
    replace hls := s0 _ _ hls
    replace rss := rss.keep (Tk.of s0)
    replace hqc := s0 _ _ hqc
    replace hqd := s0 _ _ hqd
    replace ruc := ruc.keep (Tk.of s0)
    replace rud := rud.keep (Tk.of s0)
    replace k := fun H' s' => k H' (s0.trans s')
    generalize upd H p0 (.tup [.ref qc, .ref qd]) = H0 at hp0' hL rp hls rss hqc hqd ruc rud k
    clear s0
    walk_at "rd"
    refine ⟨L, us, xs, .ref qc, c, rfl, hL, rp, ruc, fun _ rv rrv => ?_, fun z => by rw [hfc] at z; cases z⟩
    obtain ⟨qr, vr, rfl, hqr, har⟩ := rrv.tup_inv
    obtain ⟨w0, wr, rfl, r0, har⟩ := har.cons_inv
    have e0 := r0.str_inv; subst e0
    generalize (rowAt xs c.2.1 c.2.2.1).op = w at k hqr
    walk_at "rd"
    refine rd_ifI (fun en => ?_) (fun en => ?_)
    · rw [if_pos en] at k
      walk_at "rd"
      intro ql hql
      have s1 := same_upd (o := .lst [.str "call", .str "return"]) hql
      refine ⟨ql, [.str "call", .str "return"], rfl, .inl (SqL.of upd_same), rfl, rfl, ?_⟩
      rw [if_pos rfl, in_cr]
      have hqd1 := s1 _ _ hqd
      have hqc1 := s1 _ _ hqc
      walk_at "rd"
      by_cases hw : w = "call" ∨ w = "return"
      · rw [decide_eq_true hw]
        rw [decide_eq_false (show ¬ (w ≠ "call" ∧ w ≠ "return") from fun z => hw.elim z.1 z.2), Bool.and_false] at k
        refine rd_ifbF rfl ?_
        exact k _ s1
      rw [decide_eq_false hw]
      rw [decide_eq_true (show w ≠ "call" ∧ w ≠ "return" from ⟨fun z => hw (.inl z), fun z => hw (.inr z)⟩), Bool.and_true] at k
      refine rd_ifbT rfl ?_
      walk_at "rd"
      refine ⟨2, rfl, ?_⟩
      refine rd_slA hqd1 fun q2 H2 s2 e2 => ?_
      replace e2 : H2 q2 = some (.tup [.int d.1, .int d.2.1]) := e2
      walk_at "rd"
      refine ⟨2, rfl, ?_⟩
      refine rd_slA (s2 _ _ hqc1) fun q3 H3 s3 e3 => ?_
      replace e3 : H3 q3 = some (.tup [.int c.1, .int c.2.1]) := e3
      refine rd_eqD (d := .tuple [.int d.1, .int d.2.1]) (e := .tuple [.int c.1, .int c.2.1]) (Rp.tup (s3 _ _ e2) (.cons (.int _) (.cons (.int _) .nil))).dp (Rp.tup e3 (.cons (.int _) (.cons (.int _) .nil))).dp (int_shaped [d.1, d.2.1] (by show 2 ≤ 1000; decide)) (int_shaped [c.1, c.2.1] (by show 2 ≤ 1000; decide)) ?_
      rw [eq2]
      exact k _ ((s1.trans s2).trans s3)
    rw [if_neg en] at k
    walk_at "rd"
    refine rd_ifI (fun en2 => ?_) (fun en2 => ?_)
    · rw [if_pos en2] at k
      walk_at "rd"
      by_cases hw : w = "call"
      · rw [decide_eq_true (show V.str w = V.str "call" by rw [hw])]
        rw [decide_eq_true hw, Bool.true_and] at k
        refine rd_ifbT rfl ?_
        walk_at "rd"
        obtain ⟨⟨dg0, dgN⟩, _, _⟩ := sfit_parts hfd
        refine ⟨L, us, xs, .ref qd, d, c.1, rfl, hL, rp, rud, below_of dg0 dgN, by omega, by omega, fun H' s' => ?_⟩
        rw [ent_eq hfx hfd]
        exact k _ s'
      · rw [decide_eq_false (show ¬ V.str w = V.str "call" from fun z => hw (by injection z))]
        rw [decide_eq_false hw, Bool.false_and] at k
        refine rd_ifbF rfl ?_
        exact k _ (Same.refl _)
    rw [if_neg en2] at k
    walk_at "rd"
    refine ⟨(n : Int), rfl, ?_⟩
    refine ⟨ls, ss, rfl, SqL.of hls, fun l1 hl1 => ?_⟩
    have s1 := same_upd (o := .lst (cutV ss none (some (n : Int)))) hl1
    have el1 : upd H0 l1 (.lst (cutV ss none (some (n : Int)))) l1 = some (.lst (ss.take n)) := by rw [upd_same, cut_hi]
    generalize upd H0 l1 (.lst (cutV ss none (some (n : Int)))) = H1 at s1 el1
    have rtk : RpAll H1 (ss.take n) ((st.take n).map stD) := by rw [List.map_take]; exact (rss.keep (Tk.of s1)).takeN n
    have ltk : (ss.take n).length = (st.take n).length := by rw [rtk.length, List.length_map]
    walk_at "rd"
    refine ⟨l1, rfl, ⟨_, SqL.of el1⟩, fun D hD => ?_⟩
    refine lc_it (walk_list (xs := ss.take n)) (fun i H' => Same H1 H' ∧ ∃ ws, H' D = some (.lst ws) ∧ RpAll H' ws ((((st.take n).take i).filter fun c' => decide (c'.2.2.2 = d.2.2.2)).map stD)) ⟨same_upd hD, [], upd_same, by rw [List.take_zero]; exact .nil⟩ (fun i H' _ p => SqL.of (p.1 _ _ el1)) ?_ ?_
    · rintro i y H2 H3 hi ⟨s2, ws, hws, rws⟩ ⟨rfl, hy⟩
      obtain ⟨dd, hdd, ry⟩ := (rtk.keep (Tk.of s2)).get hy
      rw [List.getElem?_map] at hdd
      obtain ⟨e, he, rfl⟩ := Option.map_eq_some_iff.mp hdd
      obtain ⟨qe, rfl, hqe⟩ := st_tup ry
      have hqd3 := s2 _ _ (s1 _ _ hqd)
      have etk : ((st.take n).take (i + 1)).filter (fun c' => decide (c'.2.2.2 = d.2.2.2)) = ((st.take n).take i).filter (fun c' => decide (c'.2.2.2 = d.2.2.2)) ++ if decide (e.2.2.2 = d.2.2.2) = true then [e] else [] := by
        rw [List.take_add_one, he, List.filter_append]
        congr 1
        show List.filter _ [e] = _
        rw [List.filter_cons]
        rfl
      walk_at "rd"
      refine ⟨rfl, ?_⟩
      walk_at "rd"
      refine rd_ifI (fun ei => ?_) (fun ei => ?_)
      · walk_at "rd"
        have tk : Tk H3 (upd H3 D (.lst (ws ++ [.ref qe]))) := Tk.lst hws
        refine ⟨ws, hws, ?_, same_put s2 hD, _, upd_same, ?_⟩
        · rw [rws.length, List.length_map]
          exact small1000 (Nat.le_trans (List.length_filter_le ..) (by rw [List.length_take, List.length_take]; omega))
        · rw [etk, if_pos (decide_eq_true ei), List.map_append]
          exact (rws.keep tk).append (.cons (ry.keep tk) .nil)
      · refine ⟨s2, ws, hws, ?_⟩
        rw [etk, if_neg (fun z => ei (of_decide_eq_true z)), List.append_nil]
        exact rws
    rintro H2 ⟨s2, ws, hws, rws⟩
    rw [ltk, List.take_length] at rws
    have s12 := s1.trans s2
    have hqc2 := s12 _ _ hqc
    have hqd2 := s12 _ _ hqd
    walk_at "rd"
    by_cases en3 : d.2.2.2 = c.2.2.2 - 1
    case neg =>
      rw [if_neg en3] at k
      refine rd_ifnI (fun _ => ?_) (fun z => absurd z en3)
      walk_at "rd"
      exact k _ s12
    rw [if_pos en3] at k
    rw [lastAt_eq, ← en3] at k
    refine rd_ifnI (fun z => absurd en3 z) (fun _ => ?_)
    walk_at "rd"
    by_cases hw : w = "return"
    case neg =>
      rw [decide_eq_false hw, Bool.false_and] at k
      rw [decide_eq_false (show ¬ V.str w = V.str "return" from fun z => hw (by injection z))]
      refine rd_ifbT rfl ?_
      walk_at "rd"
      exact k _ s12
    rw [decide_eq_true hw, Bool.true_and] at k
    rw [decide_eq_true (show V.str w = V.str "return" by rw [hw])]
    refine rd_ifbF rfl ?_
    walk_at "rd"
    intro p9 hp9
    have s9 := same_upd (o := .lst []) hp9
    generalize hF : (st.take n).filter (fun c' => decide (c'.2.2.2 = d.2.2.2)) = F at rws k
    have lF : F.length ≤ 1000 := by
      rw [← hF]
      exact Nat.le_trans (List.length_filter_le ..) (by rw [List.length_take]; omega)
    have layF : (PyData.list (F.map stD)).canLay0 = true := lay_map F fun _ _ => rfl
    have shF : SeqAt.shaped (PyData.list (F.map stD)) = true := shaped_of layF (okN_mapL (j := 2) lF fun c _ => ⟨by show 4 ≤ 1000000; decide, fun e he => by
      simp only [List.mem_cons, List.not_mem_nil, or_false] at he
      rcases he with rfl | rfl | rfl | rfl <;> trivial⟩) (by decide)
    refine rd_eqD (d := .list (F.map stD)) (e := .list []) (.lst (SqL.of (s9 _ _ hws)) (rws.keep (Tk.of s9)).dp) (.lst (SqL.of upd_same) .nil) shF (by decide) ?_
    have sz := s12.trans s9
    have hws9 := s9 _ _ hws
    have rws9 := rws.keep (Tk.of s9)
    have hqd9 := s9 _ _ hqd2
    generalize upd H2 p9 (.lst []) = H3 at sz hws9 rws9 hqd9
    cases F with
    | nil =>
      rw [show PyData.eqv (.list (([] : List St4).map stD)) (.list []) = true from rfl]
      walk_at "rd"
      exact k _ sz
    | cons a0 r0 =>
      rw [show PyData.eqv (.list ((a0 :: r0).map stD)) (.list []) = false from rfl]
      rcases List.eq_nil_or_concat (a0 :: r0) with e | ⟨F', z, e⟩
      · cases e
      rw [List.concat_eq_append] at e
      rw [e] at rws9 k
      rw [List.getLast?_concat] at k
      rcases List.eq_nil_or_concat ws with e2 | ⟨ws', v, e2⟩
      · rw [e2] at rws9
        have := rws9.length
        rw [List.length_map, List.length_append] at this
        exact absurd this (by show 0 ≠ F'.length + 1; omega)
      rw [List.concat_eq_append] at e2
      subst e2
      have l1' : ws'.length = F'.length := by
        have := rws9.length
        rw [List.length_map, List.length_append, List.length_append] at this
        have h1 : ([v] : List V).length = 1 := rfl
        have h2 : ([z] : List St4).length = 1 := rfl
        omega
      obtain ⟨dz, hdz, rz⟩ := rws9.get (i := ws'.length) (v := v) (by simp)
      rw [List.getElem?_map, l1', List.getElem?_append_right (Nat.le_refl _), Nat.sub_self] at hdz
      cases hdz
      obtain ⟨qz, rfl, hqz⟩ := st_tup rz
      walk_at "rd"
      refine ⟨3, rfl, ?_⟩
      refine rd_slA hqd9 fun q4 H4 s4 e4 => ?_
      replace e4 : H4 q4 = some (.tup [.int d.1, .int d.2.1, .int d.2.2.1]) := e4
      walk_at "rd"
      refine rd_ixL (s4 _ _ hws9) at_last ?_
      walk_at "rd"
      refine ⟨2, rfl, ?_⟩
      refine rd_slA (s4 _ _ hqz) fun q5 H5 s5 e5 => ?_
      replace e5 : H5 q5 = some (.tup [.int z.1, .int z.2.1]) := e5
      have s45 := s4.trans s5
      have hqz5 := s45 _ _ hqz
      walk_at "rd"
      refine rd_ixL (s45 _ _ hws9) at_last ?_
      walk_at "rd"
      intro q6 hq6
      have s6 := same_upd (o := .tup [.int (z.2.2.1 + 1)]) hq6
      refine rd_catA (s6 _ _ e5) upd_same (by show 2 + 1 ≤ 1000; decide) fun q7 H7 s7 e7 => ?_
      replace e7 : H7 q7 = some (.tup [.int z.1, .int z.2.1, .int (z.2.2.1 + 1)]) := e7
      have s57 := (s5.trans s6).trans s7
      refine rd_eqD (d := .tuple [.int d.1, .int d.2.1, .int d.2.2.1]) (e := .tuple [.int z.1, .int z.2.1, .int (z.2.2.1 + 1)]) (Rp.tup (s57 _ _ e4) (.cons (.int _) (.cons (.int _) (.cons (.int _) .nil)))).dp (Rp.tup e7 (.cons (.int _) (.cons (.int _) (.cons (.int _) .nil)))).dp (int_shaped [d.1, d.2.1, d.2.2.1] (by show 3 ≤ 1000; decide)) (int_shaped [z.1, z.2.1, z.2.2.1 + 1] (by show 3 ≤ 1000; decide)) ?_
      rw [eq3]
      exact k _ ((sz.trans s4).trans s57)
def spKeepsL : Sp := fun vs H Q _ => ∃ (L ls lt : Addr) (us ss ts : List V) (xs : List Sg) (b ring : Int) (st : List St4) (to : List (Int × Int × Int × Str)), vs = [.ref L, .int ring, .ref ls, .ref lt] ∧ H L = some (.lst us) ∧ RpAll H us (xs.map Sg.d) ∧ (∀ y ∈ xs, sgFits y b (xs.length : Int) = true) ∧ H ls = some (.lst ss) ∧ RpAll H ss (st.map stD) ∧ st.length ≤ 900 ∧ H lt = some (.lst ts) ∧ RpAll H ts (to.map toD) ∧ to.length ≤ 900 ∧ (∀ t ∈ to, t.2.2.2 = ("r" : Str) ∨ t.2.2.2 = ("w" : Str)) ∧ -500 ≤ ring ∧ ring < 2 ^ 62 ∧ ∀ H', Same H H' → Q (.bl (keepsR xs ring st to)) H'
theorem ok_keepsL {f : Addr} {fd : FuncData} (B : BT mg) (F : Fun K "_law_keeps" "_law_keeps" s_law_keeps f fd) (hm : mg "_law_keeps" = some (.ref f)) (C_law_touch_good : Cal P w K mg base "_law_touch_good" 2 ["segments", "touch"] spTouchG) (C_law_step_row : Cal P w K mg base "_law_step_row" 2 ["segments", "step"] spStepRow) (C_law_entered : Cal P w K mg base "_law_entered" 2 ["segments", "ring", "step"] spEntL) (C_law_behind : Cal P w K mg base "_law_behind" 3 ["segments", "steps", "at"] spBehind) : Cal P w K mg base "_law_keeps" 4 ["segments", "ring", "steps", "touches"] spKeepsL := by
  refine ⟨f, fd, hm, F.kp, F.binds (ps := ["segments", "ring", "steps", "touches"]) fun _ _ _ _ _ _ us hl => match us, hl with | [_, _, _, _], _ => rfl, ?_⟩
  refine F.ok sc_law_keeps (fun vs H Q E h => ?_) (fun cdv A outer s H vs Q E hr h => ?_)
  · obtain ⟨L, ls, lt, us, ss, ts, xs, b, ring, st, to, rfl, _⟩ := h
    rfl
  · obtain ⟨L, ls, lt, us, ss, ts, xs, b, ring, st, to, rfl, hL, rp, hfx, hls, rss, l9s, hlt, rts, l9t, hw, r0, r1, k⟩ := h
    refine ⟨_, (pss_cons (ps_if (pt_not (pt_val (pe_callB (r := rAll K) (cr_all rfl) rfl B.g_all (by decide +kernel) (pa_cons (pe_lc (own := [("touch", 4)]) (g := gName 4) (tt := tYes) rfl sc_law_keeps.nd (pi_listK (K := K) (pv 3)) (blkOk_by (own := [("touch", 4)]) (N := ["segments", "ring", "steps", "touches", "touch", "step", "at"]) (sc := defScope s_law_keeps) (by decide +kernel)) (fun _ _ _ _ _ => (pg_name (i := 4) sc_law_keeps.nd rfl (by first | exact Or.inl rfl | exact Or.inr rfl))) (fun _ _ _ _ _ => pts_nil) (fun _ _ _ _ _ => (pe_cal C_law_touch_good (hr.mono (by omega)) rfl (pa_cons (pv 0) (pa_cons (pv 4) pa_nil))))) pa_nil)))) (pss_one (ps_ret pe_bl)) pss_nil)
 (pss_cons (ps_if (pt_not (pt_val (pe_callB (r := rAll K) (cr_all rfl) rfl B.g_all (by decide +kernel) (pa_cons (pe_lc (own := [("step", 5)]) (g := gName 5) (tt := tYes) rfl sc_law_keeps.nd (pi_listK (K := K) (pv 2)) (blkOk_by (own := [("step", 5)]) (N := ["segments", "ring", "steps", "touches", "touch", "step", "at"]) (sc := defScope s_law_keeps) (by decide +kernel)) (fun _ _ _ _ _ => (pg_name (i := 5) sc_law_keeps.nd rfl (by first | exact Or.inl rfl | exact Or.inr rfl))) (fun _ _ _ _ _ => pts_nil) (fun _ _ _ _ _ => (pe_cmpR op_notN (pe_cal C_law_step_row (hr.mono (by omega)) rfl (pa_cons (pv 0) (pa_cons (pv 5) pa_nil))) pe_non (nomark _)))) pa_nil)))) (pss_one (ps_ret pe_bl)) pss_nil)
 (pss_cons (ps_if (PW.pt (pw_and (pt_cmpR (r := rNeD K) (op_neD hr.units) (pv 2) (pe_lst pa_nil) (nomark _)) (pw_and1 (PW.pt (pw_or (pt_cmpR op_ne (pe_ix (r := rIxT K) ix_tup (pe_ix (r := rIxL K) ix_list (pv 2) pe_int (fun _ _ => rfl)) pe_int (fun _ _ => rfl)) pe_int (nomark _)) (pw_or1 (pt_not (pt_val (pe_cal C_law_entered (hr.mono (by omega)) rfl (pa_cons (pv 0) (pa_cons (pv 1) (pa_cons (pe_ix (r := rIxL K) ix_list (pv 2) pe_int (fun _ _ => rfl)) pa_nil)))))))))))) (pss_one (ps_ret pe_bl)) pss_nil)
 (pss_one (ps_ret (pe_callB (r := rAll K) (cr_all rfl) rfl B.g_all (by decide +kernel) (pa_cons (pe_lc (own := [("at", 6)]) (g := gName 6) (tt := tYes) rfl sc_law_keeps.nd (pi_range2 rfl B.g_range (pa_cons pe_int (pa_cons (pe_callB (cr_lenS (K := K)) rfl B.g_len PySem.boot_len (pa_cons (pv 2) pa_nil)) pa_nil))) (blkOk_by (own := [("at", 6)]) (N := ["segments", "ring", "steps", "touches", "touch", "step", "at"]) (sc := defScope s_law_keeps) (by decide +kernel)) (fun _ _ _ _ _ => (pg_name (i := 6) sc_law_keeps.nd rfl (by first | exact Or.inl rfl | exact Or.inr rfl))) (fun _ _ _ _ _ => pts_nil) (fun _ _ _ _ _ => (pe_cal C_law_behind (hr.mono (by omega)) rfl (pa_cons (pv 0) (pa_cons (pv 2) (pa_cons (pv 6) pa_nil)))))) pa_nil))))))), ?_⟩
    have lss : ss.length = st.length := by rw [rss.length, List.length_map]
    have lts : ts.length = to.length := by rw [rts.length, List.length_map]
    unfold keepsR at k
    walk_at "rds"
    refine ⟨lt, rfl, ⟨_, SqL.of hlt⟩, fun D hD => ?_⟩
    refine lc_it (walk_list (xs := ts)) (CompL D H to (fun t => V.bl (tFit xs t))) (CompL.start hD) (fun i H' _ p => SqL.of (p.2 _ _ hlt)) ?_ ?_
    · rintro i y H4 H5 hi pc2 ⟨rfl, hy⟩
      obtain ⟨d, hd, ry⟩ := rts.get hy
      rw [List.getElem?_map] at hd
      obtain ⟨t, ht, rfl⟩ := Option.map_eq_some_iff.mp hd
      have tk := Tk.of pc2.2
      walk_at "rd"
      refine ⟨rfl, ?_⟩
      walk_at "rd"
      refine ⟨L, us, xs, b, y, t, rfl, pc2.2 _ _ hL, rp.keep tk, hfx, ry.keep tk, hw t (List.mem_of_getElem? ht), fun H' s' => ?_⟩
      exact pc2.step hD (by omega) ht s' rfl
    intro H1 pc
    have hd1 := pc.end lts
    have s1 := pc.2
    walk_at "rd"
    refine ⟨D, to.map (tFit xs), rfl, SqL.of (by rw [hd1, List.map_map]; rfl), ?_⟩
    rw [show (to.map (tFit xs)).all id = to.all (tFit xs) by rw [List.all_map]; rfl]
    walk_at "rd"
    cases hto : to.all (tFit xs) with
    | false =>
      rw [hto, Bool.false_and] at k
      refine rd_ifbT rfl ?_
      walk_at "rd"
      exact k _ s1
    | true =>
    rw [hto, Bool.true_and] at k
    refine rd_ifbF rfl ?_
    walk_at "rd"
    refine ⟨ls, rfl, ⟨_, SqL.of (s1 _ _ hls)⟩, fun D2 hD2 => ?_⟩
    refine lc_it (walk_list (xs := ss)) (CompL D2 H1 st (fun c => V.bl (sFit xs c))) (CompL.start hD2) (fun i H' _ p => SqL.of (p.2 _ _ (s1 _ _ hls))) ?_ ?_
    · rintro i y H4 H5 hi pc2 ⟨rfl, hy⟩
      obtain ⟨d, hd, ry⟩ := rss.get hy
      rw [List.getElem?_map] at hd
      obtain ⟨c, hc, rfl⟩ := Option.map_eq_some_iff.mp hd
      have sA := s1.trans pc2.2
      have tk := Tk.of sA
      walk_at "rd"
      refine ⟨rfl, ?_⟩
      walk_at "rd"
      refine ⟨L, us, xs, y, c, rfl, sA _ _ hL, rp.keep tk, ry.keep tk, fun hf v rv => ?_, fun hf => ?_⟩
      · obtain ⟨qv, vv, rfl, _⟩ := rv.tup_inv
        walk_at "rd"
        refine ⟨rfl, ?_⟩
        exact pc2.step hD2 (by omega) hc (Same.refl _) (by rw [hf]; rfl)
      · walk_at "rd"
        refine ⟨rfl, ?_⟩
        exact pc2.step hD2 (by omega) hc (Same.refl _) (by rw [hf]; rfl)
    intro H2 pc2
    have hd2 := pc2.end lss
    have s2 := s1.trans pc2.2
    walk_at "rd"
    refine ⟨D2, st.map (sFit xs), rfl, SqL.of (by rw [hd2, List.map_map]; rfl), ?_⟩
    rw [show (st.map (sFit xs)).all id = st.all (sFit xs) by rw [List.all_map]; rfl]
    walk_at "rd"
    cases hst : st.all (sFit xs) with
    | false =>
      rw [hst, Bool.false_and] at k
      refine rd_ifbT rfl ?_
      walk_at "rd"
      exact k _ s2
    | true =>
    rw [hst, Bool.true_and] at k
    have hfit : ∀ c ∈ st, sFit xs c = true := List.all_eq_true.mp hst
    refine rd_ifbF rfl ?_
    walk_at "rd"
    intro p3 hp3
    have s3 := same_upd (o := .lst []) hp3
    refine rd_neD (d := .list (st.map stD)) (e := .list []) (.lst (SqL.of (s3 _ _ (s2 _ _ hls))) (rss.keep (Tk.of (s2.trans s3))).dp) (.lst (SqL.of upd_same) .nil) (shaped_of (j := 3) (lay_map st fun _ _ => rfl) (okN_mapL (j := 2) (by omega) fun c _ => ⟨by show 4 ≤ 1000000; decide, fun e he => by
      simp only [List.mem_cons, List.not_mem_nil, or_false] at he
      rcases he with rfl | rfl | rfl | rfl <;> trivial⟩) (by decide)) (by decide) ?_
    have s23 := s2.trans s3
    generalize upd H2 p3 (.lst []) = H3 at s23
    cases st with
    | nil =>
      rw [show PyData.eqv (.list (([] : List St4).map stD)) (.list []) = true from rfl]
      rw [show beginsR xs ring [] = true from rfl, Bool.true_and] at k
      generalize hxx : H3 = Hx at s23
      have sx := s23
      walk_at "rd"
      refine rd_irng2 ?_
      walk_at "rd"
      refine ⟨ls, ss, rfl, .inl (SqL.of (sx _ _ hls)), ?_⟩
      walk_at "rd"
      refine ⟨1, (ss.length : Int), rfl, ⟨by omega, by omega, by omega, by omega⟩, fun D4 hD4 => ?_⟩
      refine lc_it walk_range (CompL D4 Hx (List.range (([] : List St4).length - 1)) (fun (i : Nat) => V.bl (flwR xs (([] : List St4).getD i (0, 0, 0, 0)) (([] : List St4).getD (i + 1) (0, 0, 0, 0)) (lastAt ([] : List St4) (i + 1))))) (CompL.start hD4) (fun _ _ _ _ => trivial) ?_ ?_
      · rintro i y H4 H5 hi pc4 ⟨rfl, rfl⟩
        have sA := sx.trans pc4.2
        have tk := Tk.of sA
        have hi' : i + 1 < ([] : List St4).length := by omega
        walk_at "rd"
        refine ⟨rfl, ?_⟩
        walk_at "rd"
        refine ⟨L, ls, us, ss, xs, b, ([] : List St4), i + 1, by rw [show (1 + (i : Int)) = ((i + 1 : Nat) : Int) by omega]; rfl, sA _ _ hL, rp.keep tk, hfx, sA _ _ hls, rss.keep tk, l9s, hfit, by omega, hi', fun H' s' => ?_⟩
        exact pc4.step hD4 (by omega) (b := i) (by rw [List.getElem?_range (by omega)]) s' rfl
      intro H4 pc4
      have hd4 := pc4.end (by rw [List.length_range]; omega)
      walk_at "rd"
      refine ⟨D4, (List.range (([] : List St4).length - 1)).map fun i => flwR xs (([] : List St4).getD i (0, 0, 0, 0)) (([] : List St4).getD (i + 1) (0, 0, 0, 0)) (lastAt ([] : List St4) (i + 1)), rfl, SqL.of (by rw [hd4, List.map_map]; rfl), ?_⟩
      rw [show ((List.range (([] : List St4).length - 1)).map fun i => flwR xs (([] : List St4).getD i (0, 0, 0, 0)) (([] : List St4).getD (i + 1) (0, 0, 0, 0)) (lastAt ([] : List St4) (i + 1))).all id = goesR xs ([] : List St4) by rw [List.all_map]; rfl]
      exact k _ (sx.trans pc4.2)
    | cons c0 r =>
      rw [show PyData.eqv (.list ((c0 :: r).map stD)) (.list []) = false from rfl]
      cases rss with
      | cons h0 hr0 =>
      rename_i u0 ur
      have rss := RpAll.cons h0 hr0
      obtain ⟨q0, rfl, hq0⟩ := st_tup h0
      have hls3 := s23 _ _ hls
      have hq03 := s23 _ _ hq0
      have hL3 := s23 _ _ hL
      have hf0 := hfit c0 (List.mem_cons_self ..)
      obtain ⟨⟨cg0, cgN⟩, _, _⟩ := sfit_parts hf0
      walk_at "rd"
      by_cases h1 : c0.2.2.2 = 1
      case neg =>
        refine rd_ifnI (fun _ => ?_) (fun z => absurd z h1)
        walk_at "rd"
        rw [show beginsR xs ring (c0 :: r) = (decide (c0.2.2.2 = 1) && isEnt xs c0 ring) from rfl, decide_eq_false h1, Bool.false_and, Bool.false_and] at k
        exact k _ s23
      refine rd_ifnI (fun z => absurd h1 z) (fun _ => ?_)
      rw [show beginsR xs ring (c0 :: r) = (decide (c0.2.2.2 = 1) && isEnt xs c0 ring) from rfl, decide_eq_true h1, Bool.true_and] at k
      walk_at "rd"
      refine ⟨L, us, xs, .ref q0, c0, ring, rfl, hL3, rp.keep (Tk.of s23), h0.keep (Tk.of s23), below_of cg0 cgN, r0, r1, fun Hx s4 => ?_⟩
      rw [ent_eq hfx hf0]
      have sx := s23.trans s4
      walk_at "rd"
      cases he : isEnt xs c0 ring with
      | false =>
        rw [he, Bool.false_and] at k
        refine rd_ifbT rfl ?_
        walk_at "rd"
        exact k _ sx
      | true =>
      rw [he, Bool.true_and] at k
      refine rd_ifbF rfl ?_
      generalize hss : V.ref q0 :: ur = ss at hls rss lss hls3
      walk_at "rd"
      refine rd_irng2 ?_
      walk_at "rd"
      refine ⟨ls, ss, rfl, .inl (SqL.of (sx _ _ hls)), ?_⟩
      walk_at "rd"
      refine ⟨1, (ss.length : Int), rfl, ⟨by omega, by omega, by omega, by omega⟩, fun D4 hD4 => ?_⟩
      refine lc_it walk_range (CompL D4 Hx (List.range ((c0 :: r).length - 1)) (fun (i : Nat) => V.bl (flwR xs ((c0 :: r).getD i (0, 0, 0, 0)) ((c0 :: r).getD (i + 1) (0, 0, 0, 0)) (lastAt (c0 :: r) (i + 1))))) (CompL.start hD4) (fun _ _ _ _ => trivial) ?_ ?_
      · rintro i y H4 H5 hi pc4 ⟨rfl, rfl⟩
        have sA := sx.trans pc4.2
        have tk := Tk.of sA
        have hi' : i + 1 < (c0 :: r).length := by omega
        walk_at "rd"
        refine ⟨rfl, ?_⟩
        walk_at "rd"
        refine ⟨L, ls, us, ss, xs, b, (c0 :: r), i + 1, by rw [show (1 + (i : Int)) = ((i + 1 : Nat) : Int) by omega]; rfl, sA _ _ hL, rp.keep tk, hfx, sA _ _ hls, rss.keep tk, l9s, hfit, by omega, hi', fun H' s' => ?_⟩
        exact pc4.step hD4 (by omega) (b := i) (by rw [List.getElem?_range (by omega)]) s' rfl
      intro H4 pc4
      have hd4 := pc4.end (by rw [List.length_range]; omega)
      walk_at "rd"
      refine ⟨D4, (List.range ((c0 :: r).length - 1)).map fun i => flwR xs ((c0 :: r).getD i (0, 0, 0, 0)) ((c0 :: r).getD (i + 1) (0, 0, 0, 0)) (lastAt (c0 :: r) (i + 1)), rfl, SqL.of (by rw [hd4, List.map_map]; rfl), ?_⟩
      rw [show ((List.range ((c0 :: r).length - 1)).map fun i => flwR xs ((c0 :: r).getD i (0, 0, 0, 0)) ((c0 :: r).getD (i + 1) (0, 0, 0, 0)) (lastAt (c0 :: r) (i + 1))).all id = goesR xs (c0 :: r) by rw [List.all_map]; rfl]
      exact k _ (sx.trans pc4.2)

end
end Rg

namespace Rg
open PySem PySem.Spec L2
local macro_rules | `(tactic| walk_at "rd1") => `(tactic| first
  | with_reducible refine rd_seq ?_
  | with_reducible refine rd_asg ?_
  | ((with_reducible show tVar _ _ _ _); refine rd_var rfl ?_)
  | with_reducible refine rd_c ?_
  | with_reducible refine rd_op ?_
  | with_reducible refine rd_I0 ?_
  | with_reducible refine rd_name ?_
  | with_reducible refine rd_ret ?_
  | with_reducible refine rd_ifs ?_
  | with_reducible refine rd_test ?_
  | with_reducible refine rd_tB ?_
  | with_reducible refine rd_bl ?_
  | with_reducible refine rd_drop ?_
  | with_reducible refine rd_nil ?_
  | with_reducible refine rd_cons ?_
  | with_reducible refine rd_call ?_
  | with_reducible refine rd_cb ?_
  | with_reducible refine rd_tup ?_
  | with_reducible refine rd_lst ?_
  | with_reducible refine rd_and ?_
  | with_reducible refine rd_or ?_
  | with_reducible refine rd_not ?_
  | with_reducible refine rd_andV ?_
  | with_reducible refine rd_orV ?_
  | with_reducible refine rd_notV ?_
  | with_reducible refine rd_chain ?_
  | with_reducible refine rd_un ?_
  | with_reducible refine rd_isN ?_
  | with_reducible refine rd_bm ?_
  | with_reducible refine rd_bm0 ?_
  | with_reducible refine rd_gsub ?_
  | with_reducible refine rd_sl ?_
  | with_reducible refine rd_gt ?_
  | with_reducible refine rd_yes ?_
  | with_reducible refine rd_gcons ?_
  | with_reducible refine rd_gnil ?_
  | with_reducible refine rd_part ?_
  | with_reducible refine rd_nopart ?_
  | ((with_reducible show gTup _ _ _ _ _ _ _); refine rd_gtup (by first | assumption | exact upd_same) rfl ?_)
  | ((with_reducible show gLst _ _ _ _ _ _ _); refine rd_glst (by first | assumption | exact upd_same) rfl ?_)
  | ((with_reducible show rIsi _ _ _ _); first | refine rd_isi (b := true) (.ty _) (.base (by first | exact .int _ | exact .str _ | exact .bl _ | exact .non | exact .tup (by assumption) | exact .lst (by assumption))) (kit_ty (by decide +kernel)) ?_ | refine rd_isi (b := false) (.ty _) (.base (by first | exact .int _ | exact .str _ | exact .bl _ | exact .non | exact .tup (by assumption) | exact .lst (by assumption))) (kit_ty (by decide +kernel)) ?_)
  | with_reducible refine rd_fld ?_
  | with_reducible refine rd_sfld ?_
  | with_reducible refine rd_meth ?_
  | with_reducible refine rd_make ?_
  | with_reducible refine rd_makeK ?_
  | with_reducible refine rd_U ?_
  | with_reducible refine rd_makeKS ?_
  | with_reducible refine rd_callN ?_
  | with_reducible refine rd_rs ?_
  | with_reducible refine rd_rf ?_
  | with_reducible refine rd_star ?_
  | with_reducible refine rd_callS ?_
  | with_reducible refine rd_for ?_
  | with_reducible refine rd_lc ?_
  | with_reducible refine rd_ilist ?_
  | with_reducible refine rd_itup ?_
  | with_reducible refine rd_irng ?_
  | with_reducible refine rd_izipS ?_
  | with_reducible refine rd_ienum ?_
  | with_reducible refine rd_ienT ?_
  | with_reducible refine rd_next ?_
  | with_reducible refine rd_eq rfl ?_
  | with_reducible refine rd_ne rfl ?_
  | with_reducible refine iteT ?_
  | with_reducible refine iteF ?_
  | with_reducible refine rd_ifnT ?_
  | with_reducible refine rd_ifnF ?_
  | ((with_reducible show rI (fun _ j => (0 : Int) < j) _ _ _ _ _); refine rd_mod (by omega) ?_)
  | with_reducible refine rd_new rfl ?_
  | ((with_reducible show rIxL _ _ (V.int 0) _ _); refine rd_ixL0 (by first | assumption | exact upd_same) ?_)
  | ((with_reducible show rIxL _ _ _ _ _); refine rd_ixL (by first | assumption | exact upd_same) rfl ?_)
  | ((with_reducible show rSetL _ _ _ _ _); refine rd_setL (by first | assumption | exact upd_same) rfl ?_)
  | ((with_reducible show rI CMul _ _ _ _ _); refine rd_mul (by first | exact Or.inl ⟨by omega, by omega⟩ | exact Or.inr ⟨by omega, by omega⟩) ?_)
  | ((with_reducible show tyV _ "list" _ _ ∧ _); refine rd_tyL (by first | assumption | exact upd_same) ?_)
  | ((with_reducible show rIxT _ _ (V.int 0) _ _); refine rd_ixT0 (by first | assumption | exact upd_same) ?_)
  | ((with_reducible show rIxT _ _ _ _ _); refine rd_ixT (by first | assumption | exact upd_same) rfl ?_))
local macro_rules | `(tactic| walk_at "rdn1") => `(tactic| first
  | with_reducible refine rd_seq ?_
  | with_reducible refine rd_asg ?_
  | ((with_reducible show tVar _ _ _ _); refine rd_var rfl ?_)
  | with_reducible refine rd_c ?_
  | with_reducible refine rd_op ?_
  | with_reducible refine rd_I0 ?_
  | with_reducible refine rd_name ?_
  | with_reducible refine rd_ret ?_
  | with_reducible refine rd_ifs ?_
  | with_reducible refine rd_test ?_
  | with_reducible refine rd_tB ?_
  | with_reducible refine rd_bl ?_
  | with_reducible refine rd_drop ?_
  | with_reducible refine rd_nil ?_
  | with_reducible refine rd_cons ?_
  | with_reducible refine rd_call ?_
  | with_reducible refine rd_cb ?_
  | with_reducible refine rd_tup ?_
  | with_reducible refine rd_lst ?_
  | with_reducible refine rd_and ?_
  | with_reducible refine rd_or ?_
  | with_reducible refine rd_not ?_
  | with_reducible refine rd_notV ?_
  | with_reducible refine rd_chain ?_
  | with_reducible refine rd_un ?_
  | with_reducible refine rd_isN ?_
  | with_reducible refine rd_bm ?_
  | with_reducible refine rd_bm0 ?_
  | with_reducible refine rd_gsub ?_
  | with_reducible refine rd_sl ?_
  | with_reducible refine rd_gt ?_
  | with_reducible refine rd_yes ?_
  | with_reducible refine rd_gcons ?_
  | with_reducible refine rd_gnil ?_
  | with_reducible refine rd_part ?_
  | with_reducible refine rd_nopart ?_
  | ((with_reducible show gTup _ _ _ _ _ _ _); refine rd_gtup (by first | assumption | exact upd_same) rfl ?_)
  | ((with_reducible show gLst _ _ _ _ _ _ _); refine rd_glst (by first | assumption | exact upd_same) rfl ?_)
  | ((with_reducible show rIsi _ _ _ _); first | refine rd_isi (b := true) (.ty _) (.base (by first | exact .int _ | exact .str _ | exact .bl _ | exact .non | exact .tup (by assumption) | exact .lst (by assumption))) (kit_ty (by decide +kernel)) ?_ | refine rd_isi (b := false) (.ty _) (.base (by first | exact .int _ | exact .str _ | exact .bl _ | exact .non | exact .tup (by assumption) | exact .lst (by assumption))) (kit_ty (by decide +kernel)) ?_)
  | with_reducible refine rd_fld ?_
  | with_reducible refine rd_sfld ?_
  | with_reducible refine rd_meth ?_
  | with_reducible refine rd_make ?_
  | with_reducible refine rd_makeK ?_
  | with_reducible refine rd_U ?_
  | with_reducible refine rd_makeKS ?_
  | with_reducible refine rd_callN ?_
  | with_reducible refine rd_rs ?_
  | with_reducible refine rd_rf ?_
  | with_reducible refine rd_star ?_
  | with_reducible refine rd_callS ?_
  | with_reducible refine rd_for ?_
  | with_reducible refine rd_lc ?_
  | with_reducible refine rd_ilist ?_
  | with_reducible refine rd_itup ?_
  | with_reducible refine rd_irng ?_
  | with_reducible refine rd_izipS ?_
  | with_reducible refine rd_ienum ?_
  | with_reducible refine rd_ienT ?_
  | with_reducible refine rd_next ?_
  | with_reducible refine rd_eq rfl ?_
  | with_reducible refine rd_ne rfl ?_
  | with_reducible refine iteT ?_
  | with_reducible refine iteF ?_
  | with_reducible refine rd_ifnT ?_
  | with_reducible refine rd_ifnF ?_
  | ((with_reducible show rI (fun _ j => (0 : Int) < j) _ _ _ _ _); refine rd_mod (by omega) ?_)
  | with_reducible refine rd_new rfl ?_
  | ((with_reducible show rIxL _ _ (V.int 0) _ _); refine rd_ixL0 (by first | assumption | exact upd_same) ?_)
  | ((with_reducible show rIxL _ _ _ _ _); refine rd_ixL (by first | assumption | exact upd_same) rfl ?_)
  | ((with_reducible show rSetL _ _ _ _ _); refine rd_setL (by first | assumption | exact upd_same) rfl ?_)
  | ((with_reducible show rI CMul _ _ _ _ _); refine rd_mul (by first | exact Or.inl ⟨by omega, by omega⟩ | exact Or.inr ⟨by omega, by omega⟩) ?_)
  | ((with_reducible show tyV _ "list" _ _ ∧ _); refine rd_tyL (by first | assumption | exact upd_same) ?_)
  | ((with_reducible show rIxT _ _ (V.int 0) _ _); refine rd_ixT0 (by first | assumption | exact upd_same) ?_)
  | ((with_reducible show rIxT _ _ _ _ _); refine rd_ixT (by first | assumption | exact upd_same) rfl ?_))
local macro_rules | `(tactic| walk_at "rd") => `(tactic| (repeat (first | walk_at "rd1" | dsimp only)))
local macro_rules | `(tactic| walk_at "rds") => `(tactic| (dsimp only [cxOf, Cx.nox, Cx.wish, Cx.blk, L2.start]; walk_at "rd"))
local macro_rules | `(tactic| walk_at "rdn") => `(tactic| (repeat (first | walk_at "rdn1" | dsimp only)))
section
variable {P : Program} {w : World} {K : PySem.W.Frag} {mg : Str → Option Value} {base : Heap}

/-- a step or a touch: three numbers, and a number or a letter -/
structure R4 where
  a : Int
  b : Int
  c : Int
  l : Int ⊕ Str
def lD : Int ⊕ Str → PyData
  | .inl n => .int n
  | .inr s => .str s
def lV : Int ⊕ Str → V
  | .inl n => .int n
  | .inr s => .str s
def R4.d (r : R4) : PyData := .tuple [.int r.a, .int r.b, .int r.c, lD r.l]
def K4 : Bool → R4 → Prop
  | true, r => ∃ n, r.l = .inl n
  | false, r => r.l = .inr "r" ∨ r.l = .inr "w"
theorem K4.lay {k : Bool} {r : R4} (h : K4 k r) : r.d.canLay0 = true := by
  obtain ⟨a, b, c, l⟩ := r
  cases k with
  | true => obtain ⟨n, rfl⟩ := h; rfl
  | false =>
    rcases h with h | h
    · dsimp only at h; subst h; show (true && (true && (true && (PyData.canLay0 (.str "r") && true)))) = true; decide +kernel
    · dsimp only at h; subst h; show (true && (true && (true && (PyData.canLay0 (.str "w") && true)))) = true; decide +kernel
theorem R4.ok (r : R4) : okN 2 r.d := ⟨by show 4 ≤ 1000000; decide, fun e he => by
  simp only [List.mem_cons, List.not_mem_nil, or_false] at he
  rcases he with rfl | rfl | rfl | rfl
  · trivial
  · trivial
  · trivial
  · cases r.l <;> trivial⟩
theorem lD_inv {H : Hp} {v : V} {l : Int ⊕ Str} (h : Rp H v (lD l)) : v = lV l := by
  cases l with
  | inl n => exact Rp.int_inv h
  | inr s => exact Rp.str_inv h
theorem lD_rp {H : Hp} (l : Int ⊕ Str) : Rp H (lV l) (lD l) := by
  cases l with
  | inl n => exact .int n
  | inr s => exact .str s
theorem r4_tup {H : Hp} {u : V} {r : R4} (h : Rp H u r.d) : ∃ p, u = .ref p ∧ H p = some (.tup [.int r.a, .int r.b, .int r.c, lV r.l]) := by
  obtain ⟨q, vs, rfl, hq, ha⟩ := h.tup_inv
  obtain ⟨x0, xr, rfl, h0, ha1⟩ := ha.cons_inv
  obtain ⟨x1, xr, rfl, h1, ha2⟩ := ha1.cons_inv
  obtain ⟨x2, xr, rfl, h2, ha3⟩ := ha2.cons_inv
  obtain ⟨x3, xr, rfl, h3, ha4⟩ := ha3.cons_inv
  have e5 := ha4.nil_inv; subst e5
  have e0 := h0.int_inv; subst e0
  have e1 := h1.int_inv; subst e1
  have e2 := h2.int_inv; subst e2
  have e3 := lD_inv h3; subst e3
  exact ⟨q, rfl, hq⟩
theorem tup_r4 {H : Hp} {p : Addr} {r : R4} (h : H p = some (.tup [.int r.a, .int r.b, .int r.c, lV r.l])) : Rp H (.ref p) r.d := .tup h (.cons (.int _) (.cons (.int _) (.cons (.int _) (.cons (lD_rp _) .nil))))
theorem RpAll.dropM {H : Hp} : ∀ (m : Nat) {vs : List V} {ds : List PyData}, RpAll H vs ds → RpAll H (vs.drop m) (ds.drop m)
  | 0, _, _, h => h
  | m + 1, _, _, .nil => by rw [List.drop_nil, List.drop_nil]; exact .nil
  | m + 1, _, _, .cons _ h2 => RpAll.dropM m h2
theorem RpAll.revM {H : Hp} : ∀ {vs : List V} {ds : List PyData}, RpAll H vs ds → RpAll H vs.reverse ds.reverse
  | _, _, .nil => .nil
  | _, _, .cons h1 h2 => by rw [List.reverse_cons, List.reverse_cons]; exact (RpAll.revM h2).append (.cons h1 .nil)
theorem cut_mid (xs : List V) (n m : Nat) : cutV xs (some (n : Int)) (some (m : Int)) = (xs.take m).drop n := by
  unfold cutV
  rw [HT.sIx_nat, HT.sIx_nat]
  refine List.ext_getElem? fun i => ?_
  rw [List.getElem?_take, List.getElem?_drop, List.getElem?_drop, List.getElem?_take]
  by_cases h1 : n ≤ xs.length
  · rw [Nat.min_eq_left h1]
    by_cases h2 : n + i < m
    · rw [if_pos h2]
      by_cases h3 : i < min m xs.length - n
      · rw [if_pos h3]
      · rw [if_neg h3, List.getElem?_eq_none (by omega)]
    · rw [if_neg h2, if_neg (by omega)]
  · rw [Nat.min_eq_right (show xs.length ≤ n by omega), if_neg (by omega)]
    by_cases h2 : n + i < m
    · rw [if_pos h2, List.getElem?_eq_none (by omega)]
    · rw [if_neg h2]
theorem rd_revL {te : TE} {σ : L2.St} {H : Hp} {Q : VK} (h : te σ H fun x H1 => ∃ a xs, x = .ref a ∧ SqL K H1 a xs ∧ ∀ p, H1 p = none → Q (.ref p) (upd H1 p (.lst xs.reverse))) : tRevL K te σ H Q := h
def SpEnd (H : Hp) (t g : Addr) (n : Nat) (k : Bool) (len : Nat) (Q : VK) : Prop := ∀ (D : Addr) (vr' : List V) (rs' : List R4) (H' : Hp), H D = none → H' D = some (.lst vr') → RpAll H' vr' (rs'.map R4.d) → rs'.length ≤ len + 1 → (∀ r ∈ rs', K4 k r) → Deck H' t g (n + 6) → Kp t g H H' → Q (.ref D) H'
def spSpoilt : Sp := fun vs H Q _ => ∃ (t g L : Addr) (n : Nat) (far : Int ⊕ Str) (vr : List V) (rs : List R4) (k : Bool), vs = [.ref t, .ref L, lV far] ∧ Deck H t g n ∧ n ≤ 900000 ∧ H L = some (.lst vr) ∧ L ≠ t ∧ L ≠ g ∧ RpAll H vr (rs.map R4.d) ∧ rs.length ≤ 800 ∧ (∀ r ∈ rs, K4 k r) ∧ K4 k ⟨0, 0, 0, far⟩ ∧ SpEnd H t g n k rs.length Q
theorem ok_spoilt {f : Addr} {fd : FuncData} (B : BT mg) (F : Fun K "_law_spoilt" "_law_spoilt" s_law_spoilt f fd) (hm : mg "_law_spoilt" = some (.ref f)) (C_law_take : Cal P w K mg base "_law_take" 1 ["deck", "many"] spTake) : Cal P w K mg base "_law_spoilt" 2 ["deck", "rows", "far"] spSpoilt := by
  refine ⟨f, fd, hm, F.kp, F.binds (ps := ["deck", "rows", "far"]) fun _ _ _ _ _ _ us hl => match us, hl with | [_, _, _], _ => rfl, ?_⟩
  refine F.ok sc_law_spoilt (fun vs H Q E h => ?_) (fun cdv A outer s H vs Q E hr h => ?_)
  · obtain ⟨t, g, L, n, far, vr, rs, k, rfl, _⟩ := h
    rfl
  · obtain ⟨t, g, L, n, far, vr, rs, kd, rfl, T, hn, hL, nt, ng, rp, l8, hk, hfar, k⟩ := h
    refine ⟨_, (pss_cons (ps_if (pt_cmpR (r := rEqD K) (op_eqD hr.units) (pv 1) (pe_lst pa_nil) (nomark _)) (pss_one (ps_ret (pe_lst (pa_cons (pe_tup (pa_cons (pe_cal C_law_take (hr.mono (by omega)) rfl (pa_cons (pv 0) (pa_cons pe_int pa_nil))) (pa_cons pe_int (pa_cons pe_int (pa_cons (pv 2) pa_nil))))) pa_nil)))) pss_nil)
 (pss_cons (ps_set (i := 3) sc_law_spoilt.nd rfl (Or.inl rfl) (pe_cal C_law_take (hr.mono (by omega)) rfl (pa_cons (pv 0) (pa_cons (pe_callB (cr_lenS (K := K)) rfl B.g_len PySem.boot_len (pa_cons (pv 1) pa_nil)) pa_nil))))
 (pss_cons (ps_set (i := 4) sc_law_spoilt.nd rfl (Or.inl rfl) (pe_cal C_law_take (hr.mono (by omega)) rfl (pa_cons (pv 0) (pa_cons pe_int pa_nil))))
 (pss_cons (ps_set (i := 5) sc_law_spoilt.nd rfl (Or.inl rfl) (pe_ix (r := rIxL K) ix_list (pv 1) (pv 3) (fun _ _ => rfl)))
 (pss_cons (ps_if (pt_cmpR op_eq (pv 4) pe_int (nomark _)) (pss_one (ps_ret (pe_op op_cat (pe_slice (r := rSlL K) sl_list (pv 1) po_none (po_some (pv 3))) (pe_slice (r := rSlL K) sl_list (pv 1) (po_some (pe_op op_add (pv 3) pe_int)) po_none)))) pss_nil)
 (pss_cons (ps_if (pt_cmpR op_eq (pv 4) pe_int (nomark _)) (pss_one (ps_ret (pe_op op_cat (pe_op op_cat (pe_slice (r := rSlL K) sl_list (pv 1) po_none (po_some (pv 3))) (pe_lst (pa_cons (pv 5) pa_nil))) (pe_slice (r := rSlL K) sl_list (pv 1) (po_some (pv 3)) po_none)))) pss_nil)
 (pss_cons (ps_if (pt_cmpR op_eq (pv 4) pe_int (nomark _)) (pss_one (ps_ret (pe_op op_cat (pe_op op_cat (pe_slice (r := rSlL K) sl_list (pv 1) po_none (po_some (pv 3))) (pe_revL (pe_slice (r := rSlL K) sl_list (pv 1) (po_some (pv 3)) (po_some (pe_op op_add (pv 3) pe_int))))) (pe_slice (r := rSlL K) sl_list (pv 1) (po_some (pe_op op_add (pv 3) pe_int)) po_none)))) pss_nil)
 (pss_cons (ps_set (i := 6) sc_law_spoilt.nd rfl (Or.inl rfl) (pe_cal C_law_take (hr.mono (by omega)) rfl (pa_cons (pv 0) (pa_cons pe_int pa_nil))))
 (pss_cons (ps_if (pt_val (pe_callB (r := rIsi K) call_isi rfl B.g_isinstance (by decide +kernel) (pa_cons (pe_ix (r := rIxT K) ix_tup (pv 5) (pv 6) (fun _ _ => rfl)) (pa_cons (pe_bltn (v := .ty "str") rfl B.g_str (by decide +kernel) rfl) pa_nil)))) (pss_one (ps_ret (pe_op op_cat (pe_op op_cat (pe_slice (r := rSlL K) sl_list (pv 1) po_none (po_some (pv 3))) (pe_lst (pa_cons (pe_op (r := rCatA K) op_catA (pe_slice (r := rSlA K) sl_tupA (pv 5) po_none (po_some pe_int)) (pe_tup (pa_cons (pe_ix (r := rIxS) ix_str pe_str (pe_callTy call_int1 rfl B.g_int (by decide +kernel) (pa_cons (pe_cmpR op_eq (pe_ix (r := rIxT K) ix_tup (pv 5) pe_int (fun _ _ => rfl)) pe_str (nomark _)) pa_nil)) (fun _ _ => rfl)) pa_nil))) pa_nil))) (pe_slice (r := rSlL K) sl_list (pv 1) (po_some (pe_op op_add (pv 3) pe_int)) po_none)))) pss_nil)
 (pss_cons (ps_set (i := 7) sc_law_spoilt.nd rfl (Or.inl rfl) (pe_ix (r := rIxL K) ix_list (pe_lst (pa_cons (pe_op op_add (pe_ix (r := rIxT K) ix_tup (pv 5) (pv 6) (fun _ _ => rfl)) pe_int) (pa_cons (pe_op op_sub (pe_ix (r := rIxT K) ix_tup (pv 5) (pv 6) (fun _ _ => rfl)) pe_int) (pa_cons pe_int (pa_cons pe_int (pa_cons (pe_powc (v := 100000000000000000000000000000000000000000000000000000000000) (by decide +kernel) (by decide +kernel)) (pa_cons (pe_un un_neg (pe_powc (v := 100000000000000000000000000000000000000000000000000000000000) (by decide +kernel) (by decide +kernel))) pa_nil))))))) (pe_cal C_law_take (hr.mono (by omega)) rfl (pa_cons (pv 0) (pa_cons pe_int pa_nil))) (fun _ _ => rfl)))
 (pss_one (ps_ret (pe_op op_cat (pe_op op_cat (pe_slice (r := rSlL K) sl_list (pv 1) po_none (po_some (pv 3))) (pe_lst (pa_cons (pe_op (r := rCatA K) op_catA (pe_op (r := rCatA K) op_catA (pe_slice (r := rSlA K) sl_tupA (pv 5) po_none (po_some (pv 6))) (pe_tup (pa_cons (pv 7) pa_nil))) (pe_slice (r := rSlA K) sl_tupA (pv 5) (po_some (pe_op op_add (pv 6) pe_int)) po_none)) pa_nil))) (pe_slice (r := rSlL K) sl_list (pv 1) (po_some (pe_op op_add (pv 3) pe_int)) po_none)))))))))))))), ?_⟩
    have lvr : vr.length = rs.length := by rw [rp.length, List.length_map]
    walk_at "rds"
    intro p1 hp1
    have s1 := same_upd (o := .lst []) hp1
    have shR : SeqAt.shaped (PyData.list (rs.map R4.d)) = true := shaped_of (j := 3) (lay_map rs fun r hr => (hk r hr).lay) (okN_mapL (by omega) fun r _ => r.ok) (by decide)
    refine rd_eqD (d := .list (rs.map R4.d)) (e := .list []) (.lst (SqL.of (s1 _ _ hL)) (rp.keep (Tk.of s1)).dp) (.lst (SqL.of upd_same) .nil) shR (by decide) ?_
    have T1 := T.same s1
    have k1 : Kp t g H (upd H p1 (.lst [])) := Kp.of s1
    have hL1 := s1 _ _ hL
    have rp1 := rp.keep (Tk.of s1)
    have fr1 : ∀ q, upd H p1 (.lst []) q = none → H q = none := fun q h => s1.free h
    generalize upd H p1 (.lst []) = H1 at T1 k1 hL1 rp1 fr1
    cases rs with
    | nil =>
      rw [show PyData.eqv (.list (([] : List R4).map R4.d)) (.list []) = true from rfl]
      walk_at "rd"
      refine use_take T1 (by omega) (by decide) (by decide) fun z H2 z0 z8 T2 k2 => ?_
      walk_at "rd"
      intro q3 hq3
      have s3 := same_upd (o := .tup [.int z, .int 0, .int 0, lV far]) hq3
      walk_at "rd"
      intro q4 hq4
      have s4 := same_upd (o := .lst [.ref q3]) hq4
      have f4 : H q4 = none := (T2.same s3).kfree ((k1.trans k2).trans (Kp.of s3)) hq4
      refine k q4 _ [⟨z, 0, 0, far⟩] _ f4 upd_same (.cons (tup_r4 (s4 _ _ upd_same)) .nil) (by show 1 ≤ 0 + 1; decide) (fun r hr => ?_) (((T2.same s3).same s4).mono (by omega)) (((k1.trans k2).trans (Kp.of s3)).trans (Kp.of s4))
      rw [List.mem_singleton.mp hr]
      cases kd with
      | true => exact hfar
      | false => exact hfar
    | cons r0 rr =>
    rw [show PyData.eqv (.list ((r0 :: rr).map R4.d)) (.list []) = false from rfl]
    have lpos : 0 < (r0 :: rr).length := Nat.succ_pos _
    generalize r0 :: rr = rs at rp hk rp1 lvr l8 k lpos shR
    walk_at "rd"
    refine ⟨L, vr, rfl, .inl (SqL.of hL1), ?_⟩
    walk_at "rd"
    refine use_take T1 (by omega) (by omega) (by omega) fun at_ H2 a0 aN T2 k2 => ?_
    walk_at "rd"
    refine use_take T2 (by omega) (by decide) (by decide) fun pk H3 p0 p7 T3 k3 => ?_
    have k13 := (k1.trans k2).trans k3
    have hL3 := (k2.trans k3) _ _ hL1 nt ng
    have rp3 := (rp1.keep (k2.dk T1)).keep (k3.dk T2)
    obtain ⟨an, rfl⟩ : ∃ an : Nat, at_ = (an : Int) := ⟨at_.toNat, by omega⟩
    have han : an < rs.length := by omega
    obtain ⟨ru, hru, rru⟩ := rp3.get2 (i := an) (d := (rs[an]).d) (by rw [List.getElem?_map, List.getElem?_eq_getElem han]; rfl)
    have hka := hk _ (List.getElem_mem han)
    generalize rs[an] = ra at rru hka
    obtain ⟨qa, rfl, hqa⟩ := r4_tup rru
    walk_at "rd"
    refine rd_ixL hL3 (at_of rfl hru) ?_
    walk_at "rd"
    have fin : ∀ (l : Addr) (Hy : Hp) (vs' : List V) (rs' : List R4), Kp t g H3 Hy → Deck Hy t g (n + 6) → Hy l = none → RpAll Hy vs' (rs'.map R4.d) → rs'.length ≤ rs.length + 1 → (∀ r ∈ rs', K4 kd r) → Q (.ref l) (upd Hy l (.lst vs')) := fun l Hy vs' rs' kz Tz hl ra hlen hkk =>
      k l vs' rs' _ (Tz.kfree (k13.trans kz) hl) upd_same (ra.keep (Tk.new hl)) hlen hkk (Tz.new hl) ((k13.trans kz).trans (Kp.new hl))
    have T3' : Deck H3 t g (n + 6) := T3.mono (by omega)
    have mt : ∀ {m : Nat} {r : R4}, r ∈ rs.take m → K4 kd r := fun h => hk _ (List.mem_of_mem_take h)
    have md : ∀ {m : Nat} {r : R4}, r ∈ rs.drop m → K4 kd r := fun h => hk _ (List.mem_of_mem_drop h)
    have lv3 : vr.length = rs.length := lvr
    refine rd_ifI (fun c0 => ?_) (fun c0 => ?_)
    · walk_at "rd"
      refine ⟨(an : Int), rfl, ?_⟩
      refine ⟨L, vr, rfl, SqL.of (hL3), fun l1 hl1 => ?_⟩
      rw [cut_hi]
      have sl1 := same_upd (o := .lst (vr.take an)) hl1
      have el1 : upd H3 l1 (.lst (vr.take an)) l1 = some (.lst (vr.take an)) := upd_same
      generalize upd H3 l1 (.lst (vr.take an)) = H4 at sl1 el1
      walk_at "rd"
      refine ⟨_, rfl, ?_⟩
      refine rd_nopart ?_
      refine ⟨L, vr, rfl, SqL.of (sl1 _ _ hL3), fun l2 hl2 => ?_⟩
      rw [show ((an : Int) + 1) = ((an + 1 : Nat) : Int) by omega, cut_lo]
      have sl2 := same_upd (o := .lst (vr.drop (an + 1))) hl2
      have el2 : upd H4 l2 (.lst (vr.drop (an + 1))) l2 = some (.lst (vr.drop (an + 1))) := upd_same
      generalize upd H4 l2 (.lst (vr.drop (an + 1))) = H5 at sl2 el2
      walk_at "rd"
      refine ⟨l1, l2, _, _, rfl, rfl, sl2 _ _ el1, el2, Nat.le_of_lt (small1000 (by rw [List.length_take, List.length_drop]; omega)), fun l3 hl3 => ?_⟩
      have sA := sl1.trans sl2
      refine fin l3 H5 _ (rs.take an ++ rs.drop (an + 1)) (Kp.of sA) (T3'.same sA) hl3 ?_ (by rw [List.length_append, List.length_take, List.length_drop]; omega) (fun r hr => (List.mem_append.mp hr).elim mt md)
      rw [List.map_append, List.map_take, List.map_drop]
      exact ((rp3.keep (Tk.of sA)).takeN an).append ((rp3.keep (Tk.of sA)).dropM (an + 1))
    walk_at "rd"
    refine rd_ifI (fun c1 => ?_) (fun c1 => ?_)
    · walk_at "rd"
      refine ⟨(an : Int), rfl, ?_⟩
      refine ⟨L, vr, rfl, SqL.of (hL3), fun l1 hl1 => ?_⟩
      rw [cut_hi]
      have sl1 := same_upd (o := .lst (vr.take an)) hl1
      have el1 : upd H3 l1 (.lst (vr.take an)) l1 = some (.lst (vr.take an)) := upd_same
      generalize upd H3 l1 (.lst (vr.take an)) = H4 at sl1 el1
      walk_at "rd"
      intro l2 hl2
      have sl2 := same_upd (o := .lst [.ref qa]) hl2
      have el2 : upd H4 l2 (.lst [.ref qa]) l2 = some (.lst [.ref qa]) := upd_same
      generalize upd H4 l2 (.lst [.ref qa]) = H5 at sl2 el2
      walk_at "rd"
      refine ⟨l1, l2, _, _, rfl, rfl, sl2 _ _ el1, el2, Nat.le_of_lt (small1000 (by rw [List.length_take]; show _ + 1 ≤ 1000; omega)), fun l3 hl3 => ?_⟩
      have sl3 := same_upd (o := .lst (vr.take an ++ [.ref qa])) hl3
      have el3 : upd H5 l3 (.lst (vr.take an ++ [.ref qa])) l3 = some (.lst (vr.take an ++ [.ref qa])) := upd_same
      generalize upd H5 l3 (.lst (vr.take an ++ [.ref qa])) = H6 at sl3 el3
      have s36 := (sl1.trans sl2).trans sl3
      walk_at "rd"
      refine ⟨_, rfl, ?_⟩
      refine rd_nopart ?_
      refine ⟨L, vr, rfl, SqL.of (s36 _ _ hL3), fun l4 hl4 => ?_⟩
      rw [cut_lo]
      have sl4 := same_upd (o := .lst (vr.drop an)) hl4
      have el4 : upd H6 l4 (.lst (vr.drop an)) l4 = some (.lst (vr.drop an)) := upd_same
      generalize upd H6 l4 (.lst (vr.drop an)) = H7 at sl4 el4
      walk_at "rd"
      refine ⟨l3, l4, _, _, rfl, rfl, sl4 _ _ el3, el4, Nat.le_of_lt (small1000 (by rw [List.length_append, List.length_take, List.length_drop]; show _ + 1 + _ ≤ 1000; omega)), fun l5 hl5 => ?_⟩
      have sA := s36.trans sl4
      have rpA := rp3.keep (Tk.of sA)
      refine fin l5 H7 _ ((rs.take an ++ [ra]) ++ rs.drop an) (Kp.of sA) (T3'.same sA) hl5 ?_ (by rw [List.length_append, List.length_append, List.length_take, List.length_drop]; show _ + 1 + _ ≤ _; omega) (fun r hr => (List.mem_append.mp hr).elim (fun h => (List.mem_append.mp h).elim mt fun h => by rw [List.mem_singleton.mp h]; exact hka) md)
      rw [List.map_append, List.map_append, List.map_take, List.map_drop]
      exact ((rpA.takeN an).append (.cons (rru.keep (Tk.of sA)) .nil)).append (rpA.dropM an)
    walk_at "rd"
    refine rd_ifI (fun c2 => ?_) (fun c2 => ?_)
    · walk_at "rd"
      refine ⟨(an : Int), rfl, ?_⟩
      refine ⟨L, vr, rfl, SqL.of (hL3), fun l1 hl1 => ?_⟩
      rw [cut_hi]
      have sl1 := same_upd (o := .lst (vr.take an)) hl1
      have el1 : upd H3 l1 (.lst (vr.take an)) l1 = some (.lst (vr.take an)) := upd_same
      generalize upd H3 l1 (.lst (vr.take an)) = H4 at sl1 el1
      walk_at "rd"
      refine rd_revL ?_
      walk_at "rd"
      refine ⟨_, rfl, ?_⟩
      walk_at "rd"
      refine ⟨_, rfl, ?_⟩
      refine ⟨L, vr, rfl, SqL.of (sl1 _ _ hL3), fun l2 hl2 => ?_⟩
      rw [show ((an : Int) + 2) = ((an + 2 : Nat) : Int) by omega, cut_mid]
      have sl2 := same_upd (o := .lst ((vr.take (an + 2)).drop an)) hl2
      have el2 : upd H4 l2 (.lst ((vr.take (an + 2)).drop an)) l2 = some (.lst ((vr.take (an + 2)).drop an)) := upd_same
      generalize upd H4 l2 (.lst ((vr.take (an + 2)).drop an)) = H5 at sl2 el2
      refine ⟨l2, _, rfl, SqL.of el2, fun l3 hl3 => ?_⟩
      have sl3 := same_upd (o := .lst ((vr.take (an + 2)).drop an).reverse) hl3
      have el3 : upd H5 l3 (.lst ((vr.take (an + 2)).drop an).reverse) l3 = some (.lst ((vr.take (an + 2)).drop an).reverse) := upd_same
      generalize upd H5 l3 (.lst ((vr.take (an + 2)).drop an).reverse) = H6 at sl3 el3
      walk_at "rd"
      refine ⟨l1, l3, _, _, rfl, rfl, (sl2.trans sl3) _ _ el1, el3, Nat.le_of_lt (small1000 (by rw [List.length_reverse, List.length_drop, List.length_take, List.length_take]; omega)), fun l4 hl4 => ?_⟩
      have sl4 := same_upd (o := .lst (vr.take an ++ ((vr.take (an + 2)).drop an).reverse)) hl4
      have el4 : upd H6 l4 (.lst (vr.take an ++ ((vr.take (an + 2)).drop an).reverse)) l4 = some (.lst (vr.take an ++ ((vr.take (an + 2)).drop an).reverse)) := upd_same
      generalize upd H6 l4 (.lst (vr.take an ++ ((vr.take (an + 2)).drop an).reverse)) = H7 at sl4 el4
      have s37 := ((sl1.trans sl2).trans sl3).trans sl4
      walk_at "rd"
      refine ⟨_, rfl, ?_⟩
      refine rd_nopart ?_
      refine ⟨L, vr, rfl, SqL.of (s37 _ _ hL3), fun l5 hl5 => ?_⟩
      rw [show ((an : Int) + 2) = ((an + 2 : Nat) : Int) by omega, cut_lo]
      have sl5 := same_upd (o := .lst (vr.drop (an + 2))) hl5
      have el5 : upd H7 l5 (.lst (vr.drop (an + 2))) l5 = some (.lst (vr.drop (an + 2))) := upd_same
      generalize upd H7 l5 (.lst (vr.drop (an + 2))) = H8 at sl5 el5
      walk_at "rd"
      refine ⟨l4, l5, _, _, rfl, rfl, sl5 _ _ el4, el5, Nat.le_of_lt (small1000 (by rw [List.length_append, List.length_reverse, List.length_drop, List.length_take, List.length_take, List.length_drop]; omega)), fun l6 hl6 => ?_⟩
      have sA := s37.trans sl5
      have rpA := rp3.keep (Tk.of sA)
      refine fin l6 H8 _ ((rs.take an ++ ((rs.take (an + 2)).drop an).reverse) ++ rs.drop (an + 2)) (Kp.of sA) (T3'.same sA) hl6 ?_ (by rw [List.length_append, List.length_append, List.length_reverse, List.length_drop, List.length_take, List.length_take, List.length_drop]; omega) (fun r hr => (List.mem_append.mp hr).elim (fun h => (List.mem_append.mp h).elim mt fun h => mt (List.mem_of_mem_drop (List.mem_reverse.mp h))) md)
      rw [List.map_append, List.map_append, List.map_reverse, List.map_drop, List.map_take, List.map_take, List.map_drop]
      exact ((rpA.takeN an).append ((rpA.takeN (an + 2)).dropM an).revM).append (rpA.dropM (an + 2))
    walk_at "rd"
    refine use_take T3 (by omega) (by decide) (by decide) fun pt H4 pt0 pt4 T4 k4 => ?_
    have hL4 := k4 _ _ hL3 nt ng
    have rp4 := rp3.keep (k4.dk T3)
    have hqa4 := (k4.dk T3) _ _ hqa
    have cs : pt = 0 ∨ pt = 1 ∨ pt = 2 ∨ pt = 3 := by omega
    obtain ⟨x0, x1, x2, xl⟩ := ra
    dsimp only at hqa4 hka
    dsimp only at hqa hqa4 hka
    have hkn : ∀ a b c, K4 kd ⟨a, b, c, xl⟩ := fun a b c => by
      cases kd with
      | true => exact hka
      | false => exact hka
    rcases cs with rfl | rfl | rfl | rfl
    · walk_at "rd"
      intro ql hql
      walk_at "rd"
      refine use_take (T4.new hql) (by omega) (by decide) (by decide) fun ix H5 ix0 ix6 T5 k5 => ?_
      obtain ⟨ov, _, eov⟩ := at_int (l := [x0 + 1, x0 - 1, 0, 7, 100000000000000000000000000000000000000000000000000000000000, -100000000000000000000000000000000000000000000000000000000000]) ix0 ix6
      refine rd_ixL (k5 _ _ upd_same (T4.net hql) (T4.neg hql)) eov ?_
      have k35 : Kp t g H3 H5 := (k4.trans (Kp.new (o := .lst ([x0 + 1, x0 - 1, 0, 7, 100000000000000000000000000000000000000000000000000000000000, -100000000000000000000000000000000000000000000000000000000000].map V.int)) hql)).trans k5
      have hL5 := k35 _ _ hL3 nt ng
      have rp5 := rp3.keep (k35.dk T3)
      have hqa5 := (k35.dk T3) _ _ hqa
      walk_at "rd"
      refine ⟨(an : Int), rfl, ?_⟩
      refine ⟨L, vr, rfl, SqL.of hL5, fun l1 hl1 => ?_⟩
      rw [cut_hi]
      have sl1 := same_upd (o := .lst (vr.take an)) hl1
      have el1 : upd H5 l1 (.lst (vr.take an)) l1 = some (.lst (vr.take an)) := upd_same
      generalize upd H5 l1 (.lst (vr.take an)) = H6 at sl1 el1
      have hqa6 := sl1 _ _ hqa5
      walk_at "rd"
      refine ⟨_, rfl, ?_⟩
      refine rd_slA hqa6 fun q1 H7 s7 e7 => ?_
      replace e7 : H7 q1 = some (.tup []) := e7
      walk_at "rd"
      intro q2 hq2
      have s8 := same_upd (o := .tup [.int ov]) hq2
      refine rd_catA (s8 _ _ e7) upd_same (by show 0 + 1 ≤ 1000; decide) fun q3 H9 s9 e9 => ?_
      replace e9 : H9 q3 = some (.tup [.int ov]) := e9
      have s69 := (s7.trans s8).trans s9
      walk_at "rd"
      refine ⟨_, rfl, ?_⟩
      refine rd_nopart ?_
      refine rd_slA (s69 _ _ hqa6) fun q4 H10 s10 e10 => ?_
      replace e10 : H10 q4 = some (.tup [.int x1, .int x2, lV xl]) := e10
      refine rd_catA (s10 _ _ e9) e10 (by show 1 + 3 ≤ 1000; decide) fun q5 H11 s11 e11 => ?_
      replace e11 : H11 q5 = some (.tup [.int ov, .int x1, .int x2, lV xl]) := e11
      walk_at "rd"
      intro l2 hl2
      have sq5 := same_upd (o := .lst [.ref q5]) hl2
      have el2 : upd H11 l2 (.lst [.ref q5]) l2 = some (.lst [.ref q5]) := upd_same
      have sL2 := ((s69.trans s10).trans s11).trans sq5
      generalize upd H11 l2 (.lst [.ref q5]) = H12 at sq5 el2 sL2
      walk_at "rd"
      refine ⟨l1, l2, _, _, rfl, rfl, sL2 _ _ el1, el2, Nat.le_of_lt (small1000 (by rw [List.length_take]; show _ + 1 ≤ 1000; omega)), fun l3 hl3 => ?_⟩
      have sl3 := same_upd (o := .lst (vr.take an ++ [.ref q5])) hl3
      have el3 : upd H12 l3 (.lst (vr.take an ++ [.ref q5])) l3 = some (.lst (vr.take an ++ [.ref q5])) := upd_same
      generalize upd H12 l3 (.lst (vr.take an ++ [.ref q5])) = H13 at sl3 el3
      have s513 := (sl1.trans sL2).trans sl3
      walk_at "rd"
      refine ⟨_, rfl, ?_⟩
      refine rd_nopart ?_
      refine ⟨L, vr, rfl, SqL.of (s513 _ _ hL5), fun l4 hl4 => ?_⟩
      rw [show ((an : Int) + 1) = ((an + 1 : Nat) : Int) by omega, cut_lo]
      have sl4 := same_upd (o := .lst (vr.drop (an + 1))) hl4
      have el4 : upd H13 l4 (.lst (vr.drop (an + 1))) l4 = some (.lst (vr.drop (an + 1))) := upd_same
      generalize upd H13 l4 (.lst (vr.drop (an + 1))) = H14 at sl4 el4
      walk_at "rd"
      refine ⟨l3, l4, _, _, rfl, rfl, sl4 _ _ el3, el4, Nat.le_of_lt (small1000 (by rw [List.length_append, List.length_take, List.length_drop]; show _ + 1 + _ ≤ 1000; omega)), fun l5 hl5 => ?_⟩
      have sA := s513.trans sl4
      have rpA := rp5.keep (Tk.of sA)
      have rnew : Rp H14 (.ref q5) (R4.d ⟨ov, x1, x2, xl⟩) := tup_r4 (sl4 _ _ (sl3 _ _ (sq5 _ _ e11)))
      refine fin l5 H14 _ ((rs.take an ++ [⟨ov, x1, x2, xl⟩]) ++ rs.drop (an + 1)) (k35.trans (Kp.of sA)) ((T5.same sA).mono (by omega)) hl5 ?_ (by rw [List.length_append, List.length_append, List.length_take, List.length_drop]; show _ + 1 + _ ≤ _; omega) (fun r hr => (List.mem_append.mp hr).elim (fun h => (List.mem_append.mp h).elim mt fun h => by rw [List.mem_singleton.mp h]; exact hkn _ _ _) md)
      rw [List.map_append, List.map_append, List.map_take, List.map_drop]
      exact ((rpA.takeN an).append (.cons rnew .nil)).append (rpA.dropM (an + 1))
    · walk_at "rd"
      intro ql hql
      walk_at "rd"
      refine use_take (T4.new hql) (by omega) (by decide) (by decide) fun ix H5 ix0 ix6 T5 k5 => ?_
      obtain ⟨ov, _, eov⟩ := at_int (l := [x1 + 1, x1 - 1, 0, 7, 100000000000000000000000000000000000000000000000000000000000, -100000000000000000000000000000000000000000000000000000000000]) ix0 ix6
      refine rd_ixL (k5 _ _ upd_same (T4.net hql) (T4.neg hql)) eov ?_
      have k35 : Kp t g H3 H5 := (k4.trans (Kp.new (o := .lst ([x1 + 1, x1 - 1, 0, 7, 100000000000000000000000000000000000000000000000000000000000, -100000000000000000000000000000000000000000000000000000000000].map V.int)) hql)).trans k5
      have hL5 := k35 _ _ hL3 nt ng
      have rp5 := rp3.keep (k35.dk T3)
      have hqa5 := (k35.dk T3) _ _ hqa
      walk_at "rd"
      refine ⟨(an : Int), rfl, ?_⟩
      refine ⟨L, vr, rfl, SqL.of hL5, fun l1 hl1 => ?_⟩
      rw [cut_hi]
      have sl1 := same_upd (o := .lst (vr.take an)) hl1
      have el1 : upd H5 l1 (.lst (vr.take an)) l1 = some (.lst (vr.take an)) := upd_same
      generalize upd H5 l1 (.lst (vr.take an)) = H6 at sl1 el1
      have hqa6 := sl1 _ _ hqa5
      walk_at "rd"
      refine ⟨_, rfl, ?_⟩
      refine rd_slA hqa6 fun q1 H7 s7 e7 => ?_
      replace e7 : H7 q1 = some (.tup [.int x0]) := e7
      walk_at "rd"
      intro q2 hq2
      have s8 := same_upd (o := .tup [.int ov]) hq2
      refine rd_catA (s8 _ _ e7) upd_same (by show 1 + 1 ≤ 1000; decide) fun q3 H9 s9 e9 => ?_
      replace e9 : H9 q3 = some (.tup [.int x0, .int ov]) := e9
      have s69 := (s7.trans s8).trans s9
      walk_at "rd"
      refine ⟨_, rfl, ?_⟩
      refine rd_nopart ?_
      refine rd_slA (s69 _ _ hqa6) fun q4 H10 s10 e10 => ?_
      replace e10 : H10 q4 = some (.tup [.int x2, lV xl]) := e10
      refine rd_catA (s10 _ _ e9) e10 (by show 2 + 2 ≤ 1000; decide) fun q5 H11 s11 e11 => ?_
      replace e11 : H11 q5 = some (.tup [.int x0, .int ov, .int x2, lV xl]) := e11
      walk_at "rd"
      intro l2 hl2
      have sq5 := same_upd (o := .lst [.ref q5]) hl2
      have el2 : upd H11 l2 (.lst [.ref q5]) l2 = some (.lst [.ref q5]) := upd_same
      have sL2 := ((s69.trans s10).trans s11).trans sq5
      generalize upd H11 l2 (.lst [.ref q5]) = H12 at sq5 el2 sL2
      walk_at "rd"
      refine ⟨l1, l2, _, _, rfl, rfl, sL2 _ _ el1, el2, Nat.le_of_lt (small1000 (by rw [List.length_take]; show _ + 1 ≤ 1000; omega)), fun l3 hl3 => ?_⟩
      have sl3 := same_upd (o := .lst (vr.take an ++ [.ref q5])) hl3
      have el3 : upd H12 l3 (.lst (vr.take an ++ [.ref q5])) l3 = some (.lst (vr.take an ++ [.ref q5])) := upd_same
      generalize upd H12 l3 (.lst (vr.take an ++ [.ref q5])) = H13 at sl3 el3
      have s513 := (sl1.trans sL2).trans sl3
      walk_at "rd"
      refine ⟨_, rfl, ?_⟩
      refine rd_nopart ?_
      refine ⟨L, vr, rfl, SqL.of (s513 _ _ hL5), fun l4 hl4 => ?_⟩
      rw [show ((an : Int) + 1) = ((an + 1 : Nat) : Int) by omega, cut_lo]
      have sl4 := same_upd (o := .lst (vr.drop (an + 1))) hl4
      have el4 : upd H13 l4 (.lst (vr.drop (an + 1))) l4 = some (.lst (vr.drop (an + 1))) := upd_same
      generalize upd H13 l4 (.lst (vr.drop (an + 1))) = H14 at sl4 el4
      walk_at "rd"
      refine ⟨l3, l4, _, _, rfl, rfl, sl4 _ _ el3, el4, Nat.le_of_lt (small1000 (by rw [List.length_append, List.length_take, List.length_drop]; show _ + 1 + _ ≤ 1000; omega)), fun l5 hl5 => ?_⟩
      have sA := s513.trans sl4
      have rpA := rp5.keep (Tk.of sA)
      have rnew : Rp H14 (.ref q5) (R4.d ⟨x0, ov, x2, xl⟩) := tup_r4 (sl4 _ _ (sl3 _ _ (sq5 _ _ e11)))
      refine fin l5 H14 _ ((rs.take an ++ [⟨x0, ov, x2, xl⟩]) ++ rs.drop (an + 1)) (k35.trans (Kp.of sA)) ((T5.same sA).mono (by omega)) hl5 ?_ (by rw [List.length_append, List.length_append, List.length_take, List.length_drop]; show _ + 1 + _ ≤ _; omega) (fun r hr => (List.mem_append.mp hr).elim (fun h => (List.mem_append.mp h).elim mt fun h => by rw [List.mem_singleton.mp h]; exact hkn _ _ _) md)
      rw [List.map_append, List.map_append, List.map_take, List.map_drop]
      exact ((rpA.takeN an).append (.cons rnew .nil)).append (rpA.dropM (an + 1))
    · walk_at "rd"
      intro ql hql
      walk_at "rd"
      refine use_take (T4.new hql) (by omega) (by decide) (by decide) fun ix H5 ix0 ix6 T5 k5 => ?_
      obtain ⟨ov, _, eov⟩ := at_int (l := [x2 + 1, x2 - 1, 0, 7, 100000000000000000000000000000000000000000000000000000000000, -100000000000000000000000000000000000000000000000000000000000]) ix0 ix6
      refine rd_ixL (k5 _ _ upd_same (T4.net hql) (T4.neg hql)) eov ?_
      have k35 : Kp t g H3 H5 := (k4.trans (Kp.new (o := .lst ([x2 + 1, x2 - 1, 0, 7, 100000000000000000000000000000000000000000000000000000000000, -100000000000000000000000000000000000000000000000000000000000].map V.int)) hql)).trans k5
      have hL5 := k35 _ _ hL3 nt ng
      have rp5 := rp3.keep (k35.dk T3)
      have hqa5 := (k35.dk T3) _ _ hqa
      walk_at "rd"
      refine ⟨(an : Int), rfl, ?_⟩
      refine ⟨L, vr, rfl, SqL.of hL5, fun l1 hl1 => ?_⟩
      rw [cut_hi]
      have sl1 := same_upd (o := .lst (vr.take an)) hl1
      have el1 : upd H5 l1 (.lst (vr.take an)) l1 = some (.lst (vr.take an)) := upd_same
      generalize upd H5 l1 (.lst (vr.take an)) = H6 at sl1 el1
      have hqa6 := sl1 _ _ hqa5
      walk_at "rd"
      refine ⟨_, rfl, ?_⟩
      refine rd_slA hqa6 fun q1 H7 s7 e7 => ?_
      replace e7 : H7 q1 = some (.tup [.int x0, .int x1]) := e7
      walk_at "rd"
      intro q2 hq2
      have s8 := same_upd (o := .tup [.int ov]) hq2
      refine rd_catA (s8 _ _ e7) upd_same (by show 2 + 1 ≤ 1000; decide) fun q3 H9 s9 e9 => ?_
      replace e9 : H9 q3 = some (.tup [.int x0, .int x1, .int ov]) := e9
      have s69 := (s7.trans s8).trans s9
      walk_at "rd"
      refine ⟨_, rfl, ?_⟩
      refine rd_nopart ?_
      refine rd_slA (s69 _ _ hqa6) fun q4 H10 s10 e10 => ?_
      replace e10 : H10 q4 = some (.tup [lV xl]) := e10
      refine rd_catA (s10 _ _ e9) e10 (by show 3 + 1 ≤ 1000; decide) fun q5 H11 s11 e11 => ?_
      replace e11 : H11 q5 = some (.tup [.int x0, .int x1, .int ov, lV xl]) := e11
      walk_at "rd"
      intro l2 hl2
      have sq5 := same_upd (o := .lst [.ref q5]) hl2
      have el2 : upd H11 l2 (.lst [.ref q5]) l2 = some (.lst [.ref q5]) := upd_same
      have sL2 := ((s69.trans s10).trans s11).trans sq5
      generalize upd H11 l2 (.lst [.ref q5]) = H12 at sq5 el2 sL2
      walk_at "rd"
      refine ⟨l1, l2, _, _, rfl, rfl, sL2 _ _ el1, el2, Nat.le_of_lt (small1000 (by rw [List.length_take]; show _ + 1 ≤ 1000; omega)), fun l3 hl3 => ?_⟩
      have sl3 := same_upd (o := .lst (vr.take an ++ [.ref q5])) hl3
      have el3 : upd H12 l3 (.lst (vr.take an ++ [.ref q5])) l3 = some (.lst (vr.take an ++ [.ref q5])) := upd_same
      generalize upd H12 l3 (.lst (vr.take an ++ [.ref q5])) = H13 at sl3 el3
      have s513 := (sl1.trans sL2).trans sl3
      walk_at "rd"
      refine ⟨_, rfl, ?_⟩
      refine rd_nopart ?_
      refine ⟨L, vr, rfl, SqL.of (s513 _ _ hL5), fun l4 hl4 => ?_⟩
      rw [show ((an : Int) + 1) = ((an + 1 : Nat) : Int) by omega, cut_lo]
      have sl4 := same_upd (o := .lst (vr.drop (an + 1))) hl4
      have el4 : upd H13 l4 (.lst (vr.drop (an + 1))) l4 = some (.lst (vr.drop (an + 1))) := upd_same
      generalize upd H13 l4 (.lst (vr.drop (an + 1))) = H14 at sl4 el4
      walk_at "rd"
      refine ⟨l3, l4, _, _, rfl, rfl, sl4 _ _ el3, el4, Nat.le_of_lt (small1000 (by rw [List.length_append, List.length_take, List.length_drop]; show _ + 1 + _ ≤ 1000; omega)), fun l5 hl5 => ?_⟩
      have sA := s513.trans sl4
      have rpA := rp5.keep (Tk.of sA)
      have rnew : Rp H14 (.ref q5) (R4.d ⟨x0, x1, ov, xl⟩) := tup_r4 (sl4 _ _ (sl3 _ _ (sq5 _ _ e11)))
      refine fin l5 H14 _ ((rs.take an ++ [⟨x0, x1, ov, xl⟩]) ++ rs.drop (an + 1)) (k35.trans (Kp.of sA)) ((T5.same sA).mono (by omega)) hl5 ?_ (by rw [List.length_append, List.length_append, List.length_take, List.length_drop]; show _ + 1 + _ ≤ _; omega) (fun r hr => (List.mem_append.mp hr).elim (fun h => (List.mem_append.mp h).elim mt fun h => by rw [List.mem_singleton.mp h]; exact hkn _ _ _) md)
      rw [List.map_append, List.map_append, List.map_take, List.map_drop]
      exact ((rpA.takeN an).append (.cons rnew .nil)).append (rpA.dropM (an + 1))
    · cases kd with
      | true =>
        obtain ⟨xn, rfl⟩ := hka
        dsimp only [lV] at hqa hqa4
        walk_at "rd"
        intro ql hql
        walk_at "rd"
        refine use_take (T4.new hql) (by omega) (by decide) (by decide) fun ix H5 ix0 ix6 T5 k5 => ?_
        obtain ⟨ov, _, eov⟩ := at_int (l := [xn + 1, xn - 1, 0, 7, 100000000000000000000000000000000000000000000000000000000000, -100000000000000000000000000000000000000000000000000000000000]) ix0 ix6
        refine rd_ixL (k5 _ _ upd_same (T4.net hql) (T4.neg hql)) eov ?_
        have k35 : Kp t g H3 H5 := (k4.trans (Kp.new (o := .lst ([xn + 1, xn - 1, 0, 7, 100000000000000000000000000000000000000000000000000000000000, -100000000000000000000000000000000000000000000000000000000000].map V.int)) hql)).trans k5
        have hL5 := k35 _ _ hL3 nt ng
        have rp5 := rp3.keep (k35.dk T3)
        have hqa5 := (k35.dk T3) _ _ hqa
        walk_at "rd"
        refine ⟨(an : Int), rfl, ?_⟩
        refine ⟨L, vr, rfl, SqL.of hL5, fun l1 hl1 => ?_⟩
        rw [cut_hi]
        have sl1 := same_upd (o := .lst (vr.take an)) hl1
        have el1 : upd H5 l1 (.lst (vr.take an)) l1 = some (.lst (vr.take an)) := upd_same
        generalize upd H5 l1 (.lst (vr.take an)) = H6 at sl1 el1
        have hqa6 := sl1 _ _ hqa5
        walk_at "rd"
        refine ⟨_, rfl, ?_⟩
        refine rd_slA hqa6 fun q1 H7 s7 e7 => ?_
        replace e7 : H7 q1 = some (.tup [.int x0, .int x1, .int x2]) := e7
        walk_at "rd"
        intro q2 hq2
        have s8 := same_upd (o := .tup [.int ov]) hq2
        refine rd_catA (s8 _ _ e7) upd_same (by show 3 + 1 ≤ 1000; decide) fun q3 H9 s9 e9 => ?_
        replace e9 : H9 q3 = some (.tup [.int x0, .int x1, .int x2, .int ov]) := e9
        have s69 := (s7.trans s8).trans s9
        walk_at "rd"
        refine ⟨_, rfl, ?_⟩
        refine rd_nopart ?_
        refine rd_slA (s69 _ _ hqa6) fun q4 H10 s10 e10 => ?_
        replace e10 : H10 q4 = some (.tup []) := e10
        refine rd_catA (s10 _ _ e9) e10 (by show 4 + 0 ≤ 1000; decide) fun q5 H11 s11 e11 => ?_
        replace e11 : H11 q5 = some (.tup [.int x0, .int x1, .int x2, .int ov]) := e11
        walk_at "rd"
        intro l2 hl2
        have sq5 := same_upd (o := .lst [.ref q5]) hl2
        have el2 : upd H11 l2 (.lst [.ref q5]) l2 = some (.lst [.ref q5]) := upd_same
        have sL2 := ((s69.trans s10).trans s11).trans sq5
        generalize upd H11 l2 (.lst [.ref q5]) = H12 at sq5 el2 sL2
        walk_at "rd"
        refine ⟨l1, l2, _, _, rfl, rfl, sL2 _ _ el1, el2, Nat.le_of_lt (small1000 (by rw [List.length_take]; show _ + 1 ≤ 1000; omega)), fun l3 hl3 => ?_⟩
        have sl3 := same_upd (o := .lst (vr.take an ++ [.ref q5])) hl3
        have el3 : upd H12 l3 (.lst (vr.take an ++ [.ref q5])) l3 = some (.lst (vr.take an ++ [.ref q5])) := upd_same
        generalize upd H12 l3 (.lst (vr.take an ++ [.ref q5])) = H13 at sl3 el3
        have s513 := (sl1.trans sL2).trans sl3
        walk_at "rd"
        refine ⟨_, rfl, ?_⟩
        refine rd_nopart ?_
        refine ⟨L, vr, rfl, SqL.of (s513 _ _ hL5), fun l4 hl4 => ?_⟩
        rw [show ((an : Int) + 1) = ((an + 1 : Nat) : Int) by omega, cut_lo]
        have sl4 := same_upd (o := .lst (vr.drop (an + 1))) hl4
        have el4 : upd H13 l4 (.lst (vr.drop (an + 1))) l4 = some (.lst (vr.drop (an + 1))) := upd_same
        generalize upd H13 l4 (.lst (vr.drop (an + 1))) = H14 at sl4 el4
        walk_at "rd"
        refine ⟨l3, l4, _, _, rfl, rfl, sl4 _ _ el3, el4, Nat.le_of_lt (small1000 (by rw [List.length_append, List.length_take, List.length_drop]; show _ + 1 + _ ≤ 1000; omega)), fun l5 hl5 => ?_⟩
        have sA := s513.trans sl4
        have rpA := rp5.keep (Tk.of sA)
        have rnew : Rp H14 (.ref q5) (R4.d ⟨x0, x1, x2, .inl ov⟩) := tup_r4 (sl4 _ _ (sl3 _ _ (sq5 _ _ e11)))
        refine fin l5 H14 _ ((rs.take an ++ [⟨x0, x1, x2, .inl ov⟩]) ++ rs.drop (an + 1)) (k35.trans (Kp.of sA)) ((T5.same sA).mono (by omega)) hl5 ?_ (by rw [List.length_append, List.length_append, List.length_take, List.length_drop]; show _ + 1 + _ ≤ _; omega) (fun r hr => (List.mem_append.mp hr).elim (fun h => (List.mem_append.mp h).elim mt fun h => by rw [List.mem_singleton.mp h]; exact ⟨ov, rfl⟩) md)
        rw [List.map_append, List.map_append, List.map_take, List.map_drop]
        exact ((rpA.takeN an).append (.cons rnew .nil)).append (rpA.dropM (an + 1))
      | false =>
        clear hkn
        rcases hka with hka | hka
        · dsimp only at hka
          subst hka
          dsimp only [lV] at hqa hqa4
          have k35 : Kp t g H3 H4 := k4
          have hL5 := hL4
          have rp5 := rp4
          have hqa5 := hqa4
          have T5 := T4
          generalize H4 = H5 at k35 hL5 rp5 hqa5 T5
          walk_at "rd"
          refine ⟨(an : Int), rfl, ?_⟩
          refine ⟨L, vr, rfl, SqL.of hL5, fun l1 hl1 => ?_⟩
          rw [cut_hi]
          have sl1 := same_upd (o := .lst (vr.take an)) hl1
          have el1 : upd H5 l1 (.lst (vr.take an)) l1 = some (.lst (vr.take an)) := upd_same
          generalize upd H5 l1 (.lst (vr.take an)) = H6 at sl1 el1
          have hqa6 := sl1 _ _ hqa5
          walk_at "rd"
          refine ⟨3, rfl, ?_⟩
          refine rd_slA hqa6 fun q1 H7 s7 e7 => ?_
          replace e7 : H7 q1 = some (.tup [.int x0, .int x1, .int x2]) := e7
          have hqa7 := s7 _ _ hqa6
          walk_at "rd"
          refine .inr ⟨_, rfl, ?_⟩
          refine ⟨"rw", _, 119, rfl, rfl, by decide, rfl, ?_⟩
          walk_at "rd"
          intro q2 hq2
          have s8 := same_upd (o := .tup [.str "w"]) hq2
          refine rd_catA (s8 _ _ e7) upd_same (by show 3 + 1 ≤ 1000; decide) fun q5 H11 s11 e11 => ?_
          replace e11 : H11 q5 = some (.tup [.int x0, .int x1, .int x2, .str "w"]) := e11
          walk_at "rd"
          intro l2 hl2
          have sq5 := same_upd (o := .lst [.ref q5]) hl2
          have el2 : upd H11 l2 (.lst [.ref q5]) l2 = some (.lst [.ref q5]) := upd_same
          have sL2 := ((s7.trans s8).trans s11).trans sq5
          generalize upd H11 l2 (.lst [.ref q5]) = H12 at sq5 el2 sL2
          walk_at "rd"
          refine ⟨l1, l2, _, _, rfl, rfl, sL2 _ _ el1, el2, Nat.le_of_lt (small1000 (by rw [List.length_take]; show _ + 1 ≤ 1000; omega)), fun l3 hl3 => ?_⟩
          have sl3 := same_upd (o := .lst (vr.take an ++ [.ref q5])) hl3
          have el3 : upd H12 l3 (.lst (vr.take an ++ [.ref q5])) l3 = some (.lst (vr.take an ++ [.ref q5])) := upd_same
          generalize upd H12 l3 (.lst (vr.take an ++ [.ref q5])) = H13 at sl3 el3
          have s513 := (sl1.trans sL2).trans sl3
          walk_at "rd"
          refine ⟨_, rfl, ?_⟩
          refine rd_nopart ?_
          refine ⟨L, vr, rfl, SqL.of (s513 _ _ hL5), fun l4 hl4 => ?_⟩
          rw [show ((an : Int) + 1) = ((an + 1 : Nat) : Int) by omega, cut_lo]
          have sl4 := same_upd (o := .lst (vr.drop (an + 1))) hl4
          have el4 : upd H13 l4 (.lst (vr.drop (an + 1))) l4 = some (.lst (vr.drop (an + 1))) := upd_same
          generalize upd H13 l4 (.lst (vr.drop (an + 1))) = H14 at sl4 el4
          walk_at "rd"
          refine ⟨l3, l4, _, _, rfl, rfl, sl4 _ _ el3, el4, Nat.le_of_lt (small1000 (by rw [List.length_append, List.length_take, List.length_drop]; show _ + 1 + _ ≤ 1000; omega)), fun l5 hl5 => ?_⟩
          have sA := s513.trans sl4
          have rpA := rp5.keep (Tk.of sA)
          have rnew : Rp H14 (.ref q5) (R4.d ⟨x0, x1, x2, .inr "w"⟩) := tup_r4 (sl4 _ _ (sl3 _ _ (sq5 _ _ e11)))
          refine fin l5 H14 _ ((rs.take an ++ [⟨x0, x1, x2, .inr "w"⟩]) ++ rs.drop (an + 1)) (k35.trans (Kp.of sA)) ((T5.same sA).mono (by omega)) hl5 ?_ (by rw [List.length_append, List.length_append, List.length_take, List.length_drop]; show _ + 1 + _ ≤ _; omega) (fun r hr => (List.mem_append.mp hr).elim (fun h => (List.mem_append.mp h).elim mt fun h => by rw [List.mem_singleton.mp h]; exact .inr rfl) md)
          rw [List.map_append, List.map_append, List.map_take, List.map_drop]
          exact ((rpA.takeN an).append (.cons rnew .nil)).append (rpA.dropM (an + 1))
        · dsimp only at hka
          subst hka
          dsimp only [lV] at hqa hqa4
          have k35 : Kp t g H3 H4 := k4
          have hL5 := hL4
          have rp5 := rp4
          have hqa5 := hqa4
          have T5 := T4
          generalize H4 = H5 at k35 hL5 rp5 hqa5 T5
          walk_at "rd"
          refine ⟨(an : Int), rfl, ?_⟩
          refine ⟨L, vr, rfl, SqL.of hL5, fun l1 hl1 => ?_⟩
          rw [cut_hi]
          have sl1 := same_upd (o := .lst (vr.take an)) hl1
          have el1 : upd H5 l1 (.lst (vr.take an)) l1 = some (.lst (vr.take an)) := upd_same
          generalize upd H5 l1 (.lst (vr.take an)) = H6 at sl1 el1
          have hqa6 := sl1 _ _ hqa5
          walk_at "rd"
          refine ⟨3, rfl, ?_⟩
          refine rd_slA hqa6 fun q1 H7 s7 e7 => ?_
          replace e7 : H7 q1 = some (.tup [.int x0, .int x1, .int x2]) := e7
          have hqa7 := s7 _ _ hqa6
          walk_at "rd"
          refine .inr ⟨_, rfl, ?_⟩
          refine ⟨"rw", _, 114, rfl, rfl, by decide, rfl, ?_⟩
          walk_at "rd"
          intro q2 hq2
          have s8 := same_upd (o := .tup [.str "r"]) hq2
          refine rd_catA (s8 _ _ e7) upd_same (by show 3 + 1 ≤ 1000; decide) fun q5 H11 s11 e11 => ?_
          replace e11 : H11 q5 = some (.tup [.int x0, .int x1, .int x2, .str "r"]) := e11
          walk_at "rd"
          intro l2 hl2
          have sq5 := same_upd (o := .lst [.ref q5]) hl2
          have el2 : upd H11 l2 (.lst [.ref q5]) l2 = some (.lst [.ref q5]) := upd_same
          have sL2 := ((s7.trans s8).trans s11).trans sq5
          generalize upd H11 l2 (.lst [.ref q5]) = H12 at sq5 el2 sL2
          walk_at "rd"
          refine ⟨l1, l2, _, _, rfl, rfl, sL2 _ _ el1, el2, Nat.le_of_lt (small1000 (by rw [List.length_take]; show _ + 1 ≤ 1000; omega)), fun l3 hl3 => ?_⟩
          have sl3 := same_upd (o := .lst (vr.take an ++ [.ref q5])) hl3
          have el3 : upd H12 l3 (.lst (vr.take an ++ [.ref q5])) l3 = some (.lst (vr.take an ++ [.ref q5])) := upd_same
          generalize upd H12 l3 (.lst (vr.take an ++ [.ref q5])) = H13 at sl3 el3
          have s513 := (sl1.trans sL2).trans sl3
          walk_at "rd"
          refine ⟨_, rfl, ?_⟩
          refine rd_nopart ?_
          refine ⟨L, vr, rfl, SqL.of (s513 _ _ hL5), fun l4 hl4 => ?_⟩
          rw [show ((an : Int) + 1) = ((an + 1 : Nat) : Int) by omega, cut_lo]
          have sl4 := same_upd (o := .lst (vr.drop (an + 1))) hl4
          have el4 : upd H13 l4 (.lst (vr.drop (an + 1))) l4 = some (.lst (vr.drop (an + 1))) := upd_same
          generalize upd H13 l4 (.lst (vr.drop (an + 1))) = H14 at sl4 el4
          walk_at "rd"
          refine ⟨l3, l4, _, _, rfl, rfl, sl4 _ _ el3, el4, Nat.le_of_lt (small1000 (by rw [List.length_append, List.length_take, List.length_drop]; show _ + 1 + _ ≤ 1000; omega)), fun l5 hl5 => ?_⟩
          have sA := s513.trans sl4
          have rpA := rp5.keep (Tk.of sA)
          have rnew : Rp H14 (.ref q5) (R4.d ⟨x0, x1, x2, .inr "r"⟩) := tup_r4 (sl4 _ _ (sl3 _ _ (sq5 _ _ e11)))
          refine fin l5 H14 _ ((rs.take an ++ [⟨x0, x1, x2, .inr "r"⟩]) ++ rs.drop (an + 1)) (k35.trans (Kp.of sA)) ((T5.same sA).mono (by omega)) hl5 ?_ (by rw [List.length_append, List.length_append, List.length_take, List.length_drop]; show _ + 1 + _ ≤ _; omega) (fun r hr => (List.mem_append.mp hr).elim (fun h => (List.mem_append.mp h).elim mt fun h => by rw [List.mem_singleton.mp h]; exact .inl rfl) md)
          rw [List.map_append, List.map_append, List.map_take, List.map_drop]
          exact ((rpA.takeN an).append (.cons rnew .nil)).append (rpA.dropM (an + 1))

end
end Rg

namespace Rg
open PySem PySem.Spec L2
local macro_rules | `(tactic| walk_at "rd1") => `(tactic| first
  | with_reducible refine rd_seq ?_
  | with_reducible refine rd_asg ?_
  | ((with_reducible show tVar _ _ _ _); refine rd_var rfl ?_)
  | with_reducible refine rd_c ?_
  | with_reducible refine rd_op ?_
  | with_reducible refine rd_I0 ?_
  | with_reducible refine rd_name ?_
  | with_reducible refine rd_ret ?_
  | with_reducible refine rd_ifs ?_
  | with_reducible refine rd_test ?_
  | with_reducible refine rd_tB ?_
  | with_reducible refine rd_bl ?_
  | with_reducible refine rd_drop ?_
  | with_reducible refine rd_nil ?_
  | with_reducible refine rd_cons ?_
  | with_reducible refine rd_call ?_
  | with_reducible refine rd_cb ?_
  | with_reducible refine rd_tup ?_
  | with_reducible refine rd_lst ?_
  | with_reducible refine rd_and ?_
  | with_reducible refine rd_or ?_
  | with_reducible refine rd_not ?_
  | with_reducible refine rd_andV ?_
  | with_reducible refine rd_orV ?_
  | with_reducible refine rd_notV ?_
  | with_reducible refine rd_chain ?_
  | with_reducible refine rd_un ?_
  | with_reducible refine rd_isN ?_
  | with_reducible refine rd_bm ?_
  | with_reducible refine rd_bm0 ?_
  | with_reducible refine rd_gsub ?_
  | with_reducible refine rd_sl ?_
  | with_reducible refine rd_gt ?_
  | with_reducible refine rd_yes ?_
  | with_reducible refine rd_gcons ?_
  | with_reducible refine rd_gnil ?_
  | with_reducible refine rd_part ?_
  | with_reducible refine rd_nopart ?_
  | ((with_reducible show gTup _ _ _ _ _ _ _); refine rd_gtup (by first | assumption | exact upd_same) rfl ?_)
  | ((with_reducible show gLst _ _ _ _ _ _ _); refine rd_glst (by first | assumption | exact upd_same) rfl ?_)
  | ((with_reducible show rIsi _ _ _ _); first | refine rd_isi (b := true) (.ty _) (.base (by first | exact .int _ | exact .str _ | exact .bl _ | exact .non | exact .tup (by assumption) | exact .lst (by assumption))) (kit_ty (by decide +kernel)) ?_ | refine rd_isi (b := false) (.ty _) (.base (by first | exact .int _ | exact .str _ | exact .bl _ | exact .non | exact .tup (by assumption) | exact .lst (by assumption))) (kit_ty (by decide +kernel)) ?_)
  | with_reducible refine rd_fld ?_
  | with_reducible refine rd_sfld ?_
  | with_reducible refine rd_meth ?_
  | with_reducible refine rd_make ?_
  | with_reducible refine rd_makeK ?_
  | with_reducible refine rd_U ?_
  | with_reducible refine rd_makeKS ?_
  | with_reducible refine rd_callN ?_
  | with_reducible refine rd_rs ?_
  | with_reducible refine rd_rf ?_
  | with_reducible refine rd_star ?_
  | with_reducible refine rd_callS ?_
  | with_reducible refine rd_for ?_
  | with_reducible refine rd_lc ?_
  | with_reducible refine rd_ilist ?_
  | with_reducible refine rd_itup ?_
  | with_reducible refine rd_irng ?_
  | with_reducible refine rd_izipS ?_
  | with_reducible refine rd_ienum ?_
  | with_reducible refine rd_ienT ?_
  | with_reducible refine rd_next ?_
  | with_reducible refine rd_eq rfl ?_
  | with_reducible refine rd_ne rfl ?_
  | with_reducible refine iteT ?_
  | with_reducible refine iteF ?_
  | with_reducible refine rd_ifnT ?_
  | with_reducible refine rd_ifnF ?_
  | ((with_reducible show rI (fun _ j => (0 : Int) < j) _ _ _ _ _); refine rd_mod (by omega) ?_)
  | with_reducible refine rd_new rfl ?_
  | ((with_reducible show rIxL _ _ (V.int 0) _ _); refine rd_ixL0 (by first | assumption | exact upd_same) ?_)
  | ((with_reducible show rIxL _ _ _ _ _); refine rd_ixL (by first | assumption | exact upd_same) rfl ?_)
  | ((with_reducible show rSetL _ _ _ _ _); refine rd_setL (by first | assumption | exact upd_same) rfl ?_)
  | ((with_reducible show rI CMul _ _ _ _ _); refine rd_mul (by first | exact Or.inl ⟨by omega, by omega⟩ | exact Or.inr ⟨by omega, by omega⟩) ?_)
  | ((with_reducible show tyV _ "list" _ _ ∧ _); refine rd_tyL (by first | assumption | exact upd_same) ?_)
  | ((with_reducible show rIxT _ _ (V.int 0) _ _); refine rd_ixT0 (by first | assumption | exact upd_same) ?_)
  | ((with_reducible show rIxT _ _ _ _ _); refine rd_ixT (by first | assumption | exact upd_same) rfl ?_))
local macro_rules | `(tactic| walk_at "rdn1") => `(tactic| first
  | with_reducible refine rd_seq ?_
  | with_reducible refine rd_asg ?_
  | ((with_reducible show tVar _ _ _ _); refine rd_var rfl ?_)
  | with_reducible refine rd_c ?_
  | with_reducible refine rd_op ?_
  | with_reducible refine rd_I0 ?_
  | with_reducible refine rd_name ?_
  | with_reducible refine rd_ret ?_
  | with_reducible refine rd_ifs ?_
  | with_reducible refine rd_test ?_
  | with_reducible refine rd_tB ?_
  | with_reducible refine rd_bl ?_
  | with_reducible refine rd_drop ?_
  | with_reducible refine rd_nil ?_
  | with_reducible refine rd_cons ?_
  | with_reducible refine rd_call ?_
  | with_reducible refine rd_cb ?_
  | with_reducible refine rd_tup ?_
  | with_reducible refine rd_lst ?_
  | with_reducible refine rd_and ?_
  | with_reducible refine rd_or ?_
  | with_reducible refine rd_not ?_
  | with_reducible refine rd_notV ?_
  | with_reducible refine rd_chain ?_
  | with_reducible refine rd_un ?_
  | with_reducible refine rd_isN ?_
  | with_reducible refine rd_bm ?_
  | with_reducible refine rd_bm0 ?_
  | with_reducible refine rd_gsub ?_
  | with_reducible refine rd_sl ?_
  | with_reducible refine rd_gt ?_
  | with_reducible refine rd_yes ?_
  | with_reducible refine rd_gcons ?_
  | with_reducible refine rd_gnil ?_
  | with_reducible refine rd_part ?_
  | with_reducible refine rd_nopart ?_
  | ((with_reducible show gTup _ _ _ _ _ _ _); refine rd_gtup (by first | assumption | exact upd_same) rfl ?_)
  | ((with_reducible show gLst _ _ _ _ _ _ _); refine rd_glst (by first | assumption | exact upd_same) rfl ?_)
  | ((with_reducible show rIsi _ _ _ _); first | refine rd_isi (b := true) (.ty _) (.base (by first | exact .int _ | exact .str _ | exact .bl _ | exact .non | exact .tup (by assumption) | exact .lst (by assumption))) (kit_ty (by decide +kernel)) ?_ | refine rd_isi (b := false) (.ty _) (.base (by first | exact .int _ | exact .str _ | exact .bl _ | exact .non | exact .tup (by assumption) | exact .lst (by assumption))) (kit_ty (by decide +kernel)) ?_)
  | with_reducible refine rd_fld ?_
  | with_reducible refine rd_sfld ?_
  | with_reducible refine rd_meth ?_
  | with_reducible refine rd_make ?_
  | with_reducible refine rd_makeK ?_
  | with_reducible refine rd_U ?_
  | with_reducible refine rd_makeKS ?_
  | with_reducible refine rd_callN ?_
  | with_reducible refine rd_rs ?_
  | with_reducible refine rd_rf ?_
  | with_reducible refine rd_star ?_
  | with_reducible refine rd_callS ?_
  | with_reducible refine rd_for ?_
  | with_reducible refine rd_lc ?_
  | with_reducible refine rd_ilist ?_
  | with_reducible refine rd_itup ?_
  | with_reducible refine rd_irng ?_
  | with_reducible refine rd_izipS ?_
  | with_reducible refine rd_ienum ?_
  | with_reducible refine rd_ienT ?_
  | with_reducible refine rd_next ?_
  | with_reducible refine rd_eq rfl ?_
  | with_reducible refine rd_ne rfl ?_
  | with_reducible refine iteT ?_
  | with_reducible refine iteF ?_
  | with_reducible refine rd_ifnT ?_
  | with_reducible refine rd_ifnF ?_
  | ((with_reducible show rI (fun _ j => (0 : Int) < j) _ _ _ _ _); refine rd_mod (by omega) ?_)
  | with_reducible refine rd_new rfl ?_
  | ((with_reducible show rIxL _ _ (V.int 0) _ _); refine rd_ixL0 (by first | assumption | exact upd_same) ?_)
  | ((with_reducible show rIxL _ _ _ _ _); refine rd_ixL (by first | assumption | exact upd_same) rfl ?_)
  | ((with_reducible show rSetL _ _ _ _ _); refine rd_setL (by first | assumption | exact upd_same) rfl ?_)
  | ((with_reducible show rI CMul _ _ _ _ _); refine rd_mul (by first | exact Or.inl ⟨by omega, by omega⟩ | exact Or.inr ⟨by omega, by omega⟩) ?_)
  | ((with_reducible show tyV _ "list" _ _ ∧ _); refine rd_tyL (by first | assumption | exact upd_same) ?_)
  | ((with_reducible show rIxT _ _ (V.int 0) _ _); refine rd_ixT0 (by first | assumption | exact upd_same) ?_)
  | ((with_reducible show rIxT _ _ _ _ _); refine rd_ixT (by first | assumption | exact upd_same) rfl ?_))
local macro_rules | `(tactic| walk_at "rd") => `(tactic| (repeat (first | walk_at "rd1" | dsimp only)))
local macro_rules | `(tactic| walk_at "rds") => `(tactic| (dsimp only [cxOf, Cx.nox, Cx.wish, Cx.blk, L2.start]; walk_at "rd"))
local macro_rules | `(tactic| walk_at "rdn") => `(tactic| (repeat (first | walk_at "rdn1" | dsimp only)))
section
variable {P : Program} {w : World} {K : PySem.W.Frag} {mg : Str → Option Value} {base : Heap}

theorem SegsAt {H : Hp} {us : List V} {xs : List Sg} (rp : RpAll H us (xs.map Sg.d)) {g : Int} (g0 : 0 ≤ g) (gN : g < (xs.length : Int)) : ∃ v, atI us g = some v ∧ Rp H v (sgAt xs g).d ∧ sgAt xs g ∈ xs := by
  have hx : xs[g.toNat]? = some (sgAt xs g) := by
    unfold sgAt
    rw [List.getD_eq_getElem?_getD, List.getElem?_eq_getElem (show g.toNat < xs.length by omega)]
    rfl
  obtain ⟨v, hv, rv⟩ := rp.get2 (i := g.toNat) (d := (sgAt xs g).d) (by rw [List.getElem?_map, hx]; rfl)
  exact ⟨v, at_of (j := g.toNat) (by omega) hv, rv, List.mem_of_getElem? hx⟩
def spEntryD : Sp := fun vs H Q _ => ∃ (t g L : Addr) (n : Nat) (us : List V) (xs : List Sg) (b ring calls : Int), vs = [.ref t, .ref L, .int ring, .int calls] ∧ Deck H t g n ∧ n ≤ 800000 ∧ L ≠ t ∧ L ≠ g ∧ H L = some (.lst us) ∧ RpAll H us (xs.map Sg.d) ∧ 1 ≤ xs.length ∧ xs.length ≤ 8 ∧ (∀ x ∈ xs, SgForm x ∧ sgFits x b xs.length = true) ∧
  ∀ (v : V) (c : St4) (H' : Hp), Rp H' v (stD c) → 0 ≤ c.2.1 → c.2.1 < (xs.length : Int) → Deck H' t g (n + 6) → Kp t g H H' → Q v H'
theorem ok_entryD {f : Addr} {fd : FuncData} (B : BT mg) (F : Fun K "_law_entry_drawn" "_law_entry_drawn" s_law_entry_drawn f fd) (hm : mg "_law_entry_drawn" = some (.ref f)) (C_law_take : Cal P w K mg base "_law_take" 1 ["deck", "many"] spTake) (C_law_led : Cal P w K mg base "_law_led" 1 ["segment", "place", "ring"] spLedL) :
    Cal P w K mg base "_law_entry_drawn" 2 ["deck", "segments", "ring", "calls"] spEntryD := by
  refine ⟨f, fd, hm, F.kp, F.binds (ps := ["deck", "segments", "ring", "calls"]) fun _ _ _ _ _ _ us hl => match us, hl with | [_, _, _, _], _ => rfl, ?_⟩
  refine F.ok sc_law_entry_drawn (fun vs H Q E h => ?_) (fun cdv A outer s H vs Q E hr h => ?_)
  · obtain ⟨t, g, L, n, us, xs, b, ring, calls, rfl, _⟩ := h
    rfl
  · obtain ⟨t, g, L, n, us, xs, b, ring, calls, rfl, T, hn, nt, ng, hL, rp, l1, l8, hs, k⟩ := h
    refine ⟨_, (pss_cons (ps_setLc (i := 4) (own := [("k", 8)]) (g := gName 8) rfl sc_law_entry_drawn.nd rfl rfl (sw_true rfl rfl rfl (by decide +kernel)) (pi_range1 rfl B.g_range (pa_cons (pe_callB (cr_lenS (K := K)) rfl B.g_len PySem.boot_len (pa_cons (pv 1) pa_nil)) pa_nil)) (blkOk_by (own := [("k", 8)]) (N := ["deck", "segments", "ring", "calls", "some", "segment", "place", "led", "k"]) (sc := defScope s_law_entry_drawn) (by decide +kernel)) (fun _ _ _ _ _ => (pg_name (i := 8) sc_law_entry_drawn.nd rfl (by first | exact Or.inl rfl | exact Or.inr rfl))) (fun _ _ _ _ _ => (pts_one (PW.pt (pw_and (pt_cmpR (r := rNeD K) (op_neD hr.units) (pe_ix (r := rIxT K) ix_tup (pe_ix (r := rIxL K) ix_list (pv 1) (pv 8) (fun _ _ => rfl)) pe_int (fun _ _ => rfl)) (pe_tup pa_nil) (nomark _)) (pw_and1 (pt_cmpR op_in_sign pe_str (pe_ix (r := rIxT K) ix_tup (pe_ix (r := rIxL K) ix_list (pv 1) (pv 8) (fun _ _ => rfl)) pe_int (fun _ _ => rfl)) rfl)))))) (fun _ _ _ _ _ => (pv 8)))
 (pss_cons (ps_set (i := 5) sc_law_entry_drawn.nd rfl (Or.inl rfl) (pe_ix (r := rIxL K) ix_list (pe_op op_cat (pv 4) (pe_lst (pa_cons pe_int pa_nil))) (pe_cal C_law_take (hr.mono (by omega)) rfl (pa_cons (pv 0) (pa_cons (pe_callB (call_max2 rfl) rfl B.g_max (by decide +kernel) (pa_cons pe_int (pa_cons (pe_callB (cr_lenS (K := K)) rfl B.g_len PySem.boot_len (pa_cons (pv 4) pa_nil)) pa_nil))) pa_nil))) (fun _ _ => rfl)))
 (pss_cons (ps_set (i := 6) sc_law_entry_drawn.nd rfl (Or.inl rfl) (pe_cal C_law_take (hr.mono (by omega)) rfl (pa_cons (pv 0) (pa_cons (pe_callB (call_max2 rfl) rfl B.g_max (by decide +kernel) (pa_cons pe_int (pa_cons (pe_callB (cr_lenS (K := K)) rfl B.g_len PySem.boot_len (pa_cons (pe_ix (r := rIxT K) ix_tup (pe_ix (r := rIxL K) ix_list (pv 1) (pv 5) (fun _ _ => rfl)) pe_int (fun _ _ => rfl)) pa_nil)) pa_nil))) pa_nil))))
 (pss_cons (ps_set (i := 7) sc_law_entry_drawn.nd rfl (Or.inl rfl) (pe_cal C_law_led (hr.mono (by omega)) rfl (pa_cons (pe_ix (r := rIxL K) ix_list (pv 1) (pv 5) (fun _ _ => rfl)) (pa_cons (pv 6) (pa_cons (pe_ix (r := rIxL K) ix_list (pe_lst (pa_cons (pv 2) (pa_cons (pe_callB (call_max2 rfl) rfl B.g_max (by decide +kernel) (pa_cons (pv 2) (pa_cons (pe_cal C_law_take (hr.mono (by omega)) rfl (pa_cons (pv 0) (pa_cons pe_int pa_nil))) pa_nil))) pa_nil))) (pe_cal C_law_take (hr.mono (by omega)) rfl (pa_cons (pv 0) (pa_cons pe_int pa_nil))) (fun _ _ => rfl)) pa_nil)))))
 (pss_cons (ps_if (PW.pt (pw_or (pt_cmpR op_isN (pv 7) pe_non (nomark _)) (pw_or1 (pt_cmpR op_eq (pe_cal C_law_take (hr.mono (by omega)) rfl (pa_cons (pv 0) (pa_cons pe_int pa_nil))) pe_int (nomark _))))) (pss_one (ps_set (i := 7) sc_law_entry_drawn.nd rfl (Or.inl rfl) (pe_cal C_law_take (hr.mono (by omega)) rfl (pa_cons (pv 0) (pa_cons pe_int pa_nil))))) pss_nil)
 (pss_one (ps_ret (pe_tup (pa_cons (pv 7) (pa_cons (pv 5) (pa_cons (pv 6) (pa_cons (pv 3) pa_nil)))))))))))), ?_⟩
    have lu : us.length = xs.length := by rw [rp.length, List.length_map]
    walk_at "rds"
    refine ⟨L, us, rfl, .inl (SqL.of hL), ?_⟩
    rw [lu]
    refine ⟨_, rfl, by omega, by omega, fun D hD => ?_⟩
    refine lc_it (walk_range (n := ((xs.length : Nat) : Int).toNat)) (fun i H' => Same H H' ∧ ∃ ns : List Int, H' D = some (.lst (ns.map V.int)) ∧ ns.length ≤ i ∧ ∀ z ∈ ns, 0 ≤ z ∧ z < (xs.length : Int)) ⟨same_upd hD, [], upd_same, Nat.le_refl _, fun z hz => (nomatch hz)⟩ (fun _ _ _ _ => trivial) ?_ ?_
    · rintro i y H2 H3 hi ⟨s2, ns, hns, lns, bns⟩ ⟨rfl, rfl⟩
      have hi' : i < xs.length := by omega
      obtain ⟨sv, hsv, rsv, hm'⟩ := SegsAt (rp.keep (Tk.of s2)) (g := 0 + (i : Int)) (by omega) (by omega)
      have sm := sg_small (hs _ hm').2
      have sf := (hs _ hm').1
      generalize sgAt xs (0 + (i : Int)) = x at rsv sm sf
      obtain ⟨sp, pb, pw, pr, vw, vr, rfl, hsp, hpb, hpw, raw, hpr, rar⟩ := sg_full rsv
      have hL2 := s2 _ _ hL
      walk_at "rd"
      refine ⟨rfl, ?_⟩
      walk_at "rd"
      refine rd_ixL hL2 hsv ?_
      walk_at "rd"
      intro p0 hp0
      have s0 := same_upd (o := .tup []) hp0
      have layR : (PyData.tuple (x.rs.map Rw.d)).canLay0 = true := lay_map x.rs fun r hr => Rw.lay (sf r hr)
      refine rd_neD (d := .tuple (x.rs.map Rw.d)) (e := .tuple []) (Rp.tup (s0 _ _ hpr) (rar.keep (Tk.of s0))).dp (Rp.tup upd_same .nil).dp (shaped_of (j := 4) layR (okN_mono (j := 3) (by decide) (okN_map (by omega) fun r hr => Rw.ok (sf r hr))) (by decide)) (by decide) ?_
      have s20 := s2.trans s0
      have hns0 := s0 _ _ hns
      have hL0 := s0 _ _ hL2
      have hsp0 := s0 _ _ hsp
      generalize upd H3 p0 (.tup []) = H4 at s20 hns0 hL0 hsp0 s0
      walk_at "rd"
      have keep : ∀ H5, Same H4 H5 → Same H H5 ∧ ∃ ns : List Int, H5 D = some (.lst (ns.map V.int)) ∧ ns.length ≤ i + 1 ∧ ∀ z ∈ ns, 0 ≤ z ∧ z < (xs.length : Int) := fun H5 s5 => ⟨s20.trans s5, ns, s5 _ _ hns0, by omega, bns⟩
      refine rd_ifb (fun hb => ?_) (fun hb => ?_)
      case refine_2 => exact keep _ (Same.refl _)
      walk_at "rd"
      refine rd_ixL hL0 hsv ?_
      walk_at "rd"
      refine ⟨120, x.ri, rfl, rfl, ?_⟩
      walk_at "rd"
      refine rd_ifd (fun hx => ?_) (fun hx => ?_)
      case refine_2 => exact keep _ (Same.refl _)
      walk_at "rd"
      refine ⟨_, hns0, by rw [List.length_map]; exact small1000 (by omega), same_put s20 hD, ns ++ [0 + (i : Int)], upd_same.trans (by rw [List.map_append]; rfl), by rw [List.length_append]; show ns.length + 1 ≤ _; omega, fun z hz => ?_⟩
      rcases List.mem_append.mp hz with h | h
      · exact bns z h
      · rw [List.mem_singleton.mp h]; omega
    rintro H2 ⟨s2, ns, hns, lns, bns⟩
    have T2 := T.same s2
    walk_at "rd"
    intro l3 hl3
    have s3 := same_upd (o := .lst [.int 0]) hl3
    have el3 : upd H2 l3 (.lst [.int 0]) l3 = some (.lst [.int 0]) := upd_same
    have s23 := s2.trans s3
    have hns3 := s3 _ _ hns
    generalize upd H2 l3 (.lst [.int 0]) = H3 at s3 el3 s23 hns3
    walk_at "rd"
    refine ⟨D, l3, _, _, rfl, rfl, hns3, el3, Nat.le_of_lt (small1000 (by rw [List.length_map]; show _ + 1 ≤ 1000; omega)), fun l4 hl4 => ?_⟩
    have s4 := same_upd (o := .lst (ns.map V.int ++ [.int 0])) hl4
    have el4 : upd H3 l4 (.lst (ns.map V.int ++ [.int 0])) l4 = some (.lst ((ns ++ [0]).map V.int)) := by rw [upd_same, List.map_append]; rfl
    have s24 := s23.trans s4
    have hns4 := s4 _ _ hns3
    have fl4 : H l4 = none := s23.free hl4
    generalize upd H3 l4 (.lst (ns.map V.int ++ [.int 0])) = H4 at s4 el4 s24 hns4
    have T4 := T.same s24
    walk_at "rd"
    refine ⟨D, _, rfl, .inl (SqL.of hns4), ?_⟩
    rw [List.length_map]
    refine ⟨_, _, rfl, ?_⟩
    obtain ⟨mx0, hmx, bmx, bml⟩ : ∃ z : Int, (if (ns.length : Int) > 1 then (ns.length : Int) else 1) = z ∧ 0 < z ∧ z ≤ (ns.length : Int) + 1 := ⟨_, rfl, by split <;> omega, by split <;> omega⟩
    rw [hmx]
    walk_at "rd"
    refine use_take T4 (by omega) bmx (by omega) fun ix H5 ix0 ixN T5 k5 => ?_
    obtain ⟨sg, hsg, esg⟩ := at_int (l := ns ++ [0]) ix0 (by rw [List.length_append]; show ix < ((ns.length + 1 : Nat) : Int); omega)
    have ntl4 := T.net fl4
    have ngl4 := T.neg fl4
    refine rd_ixL (k5 _ _ el4 ntl4 ngl4) esg ?_
    have bsg : 0 ≤ sg ∧ sg < (xs.length : Int) := by
      rcases List.mem_append.mp hsg with h | h
      · exact bns sg h
      · rw [List.mem_singleton.mp h]; omega
    have k05 : Kp t g H H5 := (Kp.of s24).trans k5
    have hL5 := k05 _ _ hL nt ng
    obtain ⟨sv, hsv, rsv, hm'⟩ := SegsAt (rp.keep (k05.dk T)) bsg.1 bsg.2
    have sm := sg_small (hs _ hm').2
    generalize sgAt xs sg = x at rsv sm
    obtain ⟨sp, pb, pw, pr, vw, vr, rfl, hsp, hpb, hpw, raw, hpr, rar⟩ := sg_full rsv
    have lvr : vr.length = x.rs.length := by rw [rar.length, List.length_map]
    walk_at "rd"
    refine rd_ixL hL5 hsv ?_
    walk_at "rd"
    refine ⟨pr, vr, rfl, .inr (SqT.of hpr), ?_⟩
    refine ⟨_, _, rfl, ?_⟩
    have bm : 0 < (if (vr.length : Int) > 1 then (vr.length : Int) else 1) ∧ (if (vr.length : Int) > 1 then (vr.length : Int) else 1) ≤ 24 := by split <;> omega
    generalize (if (vr.length : Int) > 1 then (vr.length : Int) else 1) = mx1 at bm
    walk_at "rd"
    refine use_take T5 (by omega) bm.1 (by omega) fun pl H6 pl0 plN T6 k6 => ?_
    have k06 := k05.trans k6
    have hL6 := k06 _ _ hL nt ng
    walk_at "rd"
    refine rd_ixL hL6 hsv ?_
    walk_at "rd"
    refine use_take T6 (by omega) (by decide) (by decide) fun z7 H7 z70 z78 T7 k7 => ?_
    walk_at "rd"
    refine ⟨_, _, rfl, ?_⟩
    generalize (if z7 > ring then z7 else ring) = mx2
    walk_at "rd"
    intro l8 hl8
    walk_at "rd"
    refine use_take (T7.new hl8) (by omega) (by decide) (by decide) fun i9 H9 i90 i92 T9 k9 => ?_
    obtain ⟨e, _, ee⟩ := at_int (l := [ring, mx2]) i90 i92
    refine rd_ixL (k9 _ _ upd_same (T7.net hl8) (T7.neg hl8)) ee ?_
    have k59 : Kp t g H5 H9 := (k6.trans k7).trans ((Kp.new (o := .lst ([ring, mx2].map V.int)) hl8).trans k9)
    have k09 := k05.trans k59
    walk_at "rd"
    refine ⟨.ref sp, x, pl, e, rfl, rsv.keep (k59.dk T5), ?_⟩
    generalize ledJ x pl e = led
    have fin : ∀ (z : Int) (Hy : Hp), Kp t g H9 Hy → Deck Hy t g (n + 6) → ∀ q, Hy q = none → Q (.ref q) (upd Hy q (.tup [.int z, .int sg, .int pl, .int calls])) := fun z Hy kz Tz q hq =>
      k (.ref q) (z, sg, pl, calls) _ (.tup upd_same (.cons (.int _) (.cons (.int _) (.cons (.int _) (.cons (.int _) .nil))))) bsg.1 bsg.2 (Tz.new hq) ((k09.trans kz).trans (Kp.new hq))
    cases led with
    | none =>
      show gName 7 V.non _ H9 _
      walk_at "rd"
      refine ⟨rfl, ?_⟩
      walk_at "rd"
      refine rd_ifT rfl ?_
      walk_at "rd"
      refine use_take T9 (by omega) (by decide) (by decide) fun z Ha za zb Ta ka => ?_
      walk_at "rd"
      intro q hq
      exact fin z Ha ka (Ta.mono (by omega)) q hq
    | some lz =>
      show gName 7 (V.int lz) _ H9 _
      walk_at "rd"
      refine ⟨rfl, ?_⟩
      walk_at "rd"
      refine rd_ifF (fun z => nomatch z) ?_
      walk_at "rd"
      refine use_take T9 (by omega) (by decide) (by decide) fun z Ha za zb Ta ka => ?_
      walk_at "rd"
      refine rd_ifI (fun c => ?_) (fun c => ?_)
      · walk_at "rd"
        refine use_take Ta (by omega) (by decide) (by decide) fun z' Hb za' zb' Tb kb => ?_
        walk_at "rd"
        intro q hq
        exact fin z' Hb (ka.trans kb) (Tb.mono (by omega)) q hq
      · walk_at "rd"
        intro q hq
        exact fin lz Ha ka (Ta.mono (by omega)) q hq
theorem st_shape {st : List St4} (h : st.length ≤ 1000) : SeqAt.shaped (PyData.list (st.map stD)) = true := shaped_of (j := 3) (lay_map st fun _ _ => rfl) (okN_mapL (j := 2) h fun c _ => ⟨by show 4 ≤ 1000000; decide, fun e he => by
  simp only [List.mem_cons, List.not_mem_nil, or_false] at he
  rcases he with rfl | rfl | rfl | rfl <;> trivial⟩) (by decide)
theorem rp_last {H : Hp} {vs : List V} {c : St4} {st : List St4} (h : RpAll H vs ((st ++ [c]).map stD)) : ∃ vs' v, vs = vs' ++ [v] ∧ Rp H v (stD c) := by
  rcases List.eq_nil_or_concat vs with e2 | ⟨ws', v, e2⟩
  · rw [e2] at h
    have := h.length
    rw [List.length_map, List.length_append] at this
    exact absurd this (by show 0 ≠ st.length + 1; omega)
  rw [List.concat_eq_append] at e2
  subst e2
  refine ⟨ws', v, rfl, ?_⟩
  have l1' : ws'.length = st.length := by
    have := h.length
    rw [List.length_map, List.length_append, List.length_append] at this
    have h1 : ([v] : List V).length = 1 := rfl
    have h2 : ([c] : List St4).length = 1 := rfl
    omega
  obtain ⟨dz, hdz, rz⟩ := h.get (i := ws'.length) (v := v) (by simp)
  rw [List.getElem?_map, l1', List.getElem?_append_right (Nat.le_refl _), Nat.sub_self] at hdz
  cases hdz
  exact rz
def StG (N : Nat) (st : List St4) : Prop := ∀ c ∈ st, 0 ≤ c.2.1 ∧ c.2.1 < (N : Int)
def spStepsD : Sp := fun vs H Q _ => ∃ (t g L : Addr) (n : Nat) (us : List V) (xs : List Sg) (b ring : Int), vs = [.ref t, .ref L, .int ring] ∧ Deck H t g n ∧ n ≤ 700000 ∧ L ≠ t ∧ L ≠ g ∧ H L = some (.lst us) ∧ RpAll H us (xs.map Sg.d) ∧ 1 ≤ xs.length ∧ xs.length ≤ 8 ∧ (∀ x ∈ xs, SgForm x ∧ sgFits x b xs.length = true) ∧
  ∀ (D : Addr) (vs : List V) (st : List St4) (H' : Hp), H D = none → H' D = some (.lst vs) → RpAll H' vs (st.map stD) → st.length ≤ 12 → Deck H' t g (n + 100) → Kp t g H H' → Q (.ref D) H'
theorem ok_stepsD {f : Addr} {fd : FuncData} (B : BT mg) (F : Fun K "_law_steps_drawn" "_law_steps_drawn" s_law_steps_drawn f fd) (hm : mg "_law_steps_drawn" = some (.ref f)) (C_law_take : Cal P w K mg base "_law_take" 1 ["deck", "many"] spTake) (C_law_entry_drawn : Cal P w K mg base "_law_entry_drawn" 2 ["deck", "segments", "ring", "calls"] spEntryD) (C_law_step_row : Cal P w K mg base "_law_step_row" 2 ["segments", "step"] spStepRow) :
    Cal P w K mg base "_law_steps_drawn" 3 ["deck", "segments", "ring"] spStepsD := by
  refine ⟨f, fd, hm, F.kp, F.binds (ps := ["deck", "segments", "ring"]) fun _ _ _ _ _ _ us hl => match us, hl with | [_, _, _], _ => rfl, ?_⟩
  refine F.ok sc_law_steps_drawn (fun vs H Q E h => ?_) (fun cdv A outer s H vs Q E hr h => ?_)
  · obtain ⟨t, g, L, n, us, xs, b, ring, rfl, _⟩ := h
    rfl
  · obtain ⟨t, g, L, n, us, xs, b, ring, rfl, T, hn, nt, ng, hL, rp, l1, l8, hs, k⟩ := h
    refine ⟨_, (pss_cons (ps_set (i := 3) sc_law_steps_drawn.nd rfl (Or.inl rfl) (pe_lst pa_nil))
 (pss_cons (ps_for PassesOwn.never rfl (pi_range1 rfl B.g_range (pa_cons (pe_cal C_law_take (hr.mono (by omega)) rfl (pa_cons (pv 0) (pa_cons pe_int pa_nil))) pa_nil)) (pg_name (i := 4) sc_law_steps_drawn.nd rfl (Or.inl rfl))
 (pss_one (ps_if (pt_cmpR (r := rEqD K) (op_eqD hr.units) (pv 3) (pe_lst pa_nil) (nomark _)) (pss_one (ps_expr (pe_bm PySem.F.plainAttrs_list PySem.F.slot_list_append PySem.F.type_list_append mt_append (pv 3) (pa_cons (pe_cal C_law_entry_drawn (hr.mono (by omega)) rfl (pa_cons (pv 0) (pa_cons (pv 1) (pa_cons (pv 2) (pa_cons pe_int pa_nil))))) pa_nil)))) (pss_cons (ps_set (i := 5) sc_law_steps_drawn.nd rfl (Or.inr rfl) (pe_ix (r := rIxL K) ix_list (pv 3) (pe_un un_neg pe_int) (fun _ _ => rfl)))
 (pss_cons (ps_set (i := 6) sc_law_steps_drawn.nd rfl (Or.inl rfl) (pe_cal C_law_step_row (hr.mono (by omega)) rfl (pa_cons (pv 1) (pa_cons (pv 5) pa_nil))))
 (pss_cons (ps_set (i := 7) sc_law_steps_drawn.nd rfl (Or.inl rfl) (pe_ifExp (pt_cmpR op_isN (pv 6) pe_non (nomark _)) pe_str (pe_ix (r := rIxT K) ix_tup (pv 6) pe_int (fun _ _ => rfl))))
 (pss_cons (ps_setLc (i := 8) (own := [("one", 9)]) (g := gName 9) rfl sc_law_steps_drawn.nd rfl rfl (sw_true rfl rfl rfl (by decide +kernel)) (pi_listK (K := K) (pv 3)) (blkOk_by (own := [("one", 9)]) (N := ["deck", "segments", "ring", "steps", "k", "last", "row", "word", "some", "one"]) (sc := defScope s_law_steps_drawn) (by decide +kernel)) (fun _ _ _ _ _ => (pg_name (i := 9) sc_law_steps_drawn.nd rfl (by first | exact Or.inl rfl | exact Or.inr rfl))) (fun _ _ _ _ _ => (pts_one (pt_cmpR op_eq (pe_ix (r := rIxT K) ix_tup (pv 9) pe_int (fun _ _ => rfl)) (pe_op op_sub (pe_ix (r := rIxT K) ix_tup (pv 5) pe_int (fun _ _ => rfl)) pe_int) (nomark _)))) (fun _ _ _ _ _ => (pv 9)))
 (pss_one (ps_if (pt_cmpR op_eq (pv 7) pe_str (nomark _)) (pss_one (ps_expr (pe_bm PySem.F.plainAttrs_list PySem.F.slot_list_append PySem.F.type_list_append mt_append (pv 3) (pa_cons (pe_cal C_law_entry_drawn (hr.mono (by omega)) rfl (pa_cons (pv 0) (pa_cons (pv 1) (pa_cons (pe_ix (r := rIxT K) ix_tup (pv 5) pe_int (fun _ _ => rfl)) (pa_cons (pe_op op_add (pe_ix (r := rIxT K) ix_tup (pv 5) pe_int (fun _ _ => rfl)) pe_int) pa_nil))))) pa_nil)))) (pss_one (ps_if (PW.pt (pw_and (pt_cmpR op_eq (pv 7) pe_str (nomark _)) (pw_and1 (pt_cmpR (r := rNeD K) (op_neD hr.units) (pv 8) (pe_lst pa_nil) (nomark _))))) (pss_one (ps_expr (pe_bm PySem.F.plainAttrs_list PySem.F.slot_list_append PySem.F.type_list_append mt_append (pv 3) (pa_cons (pe_op (r := rCatA K) op_catA (pe_slice (r := rSlA K) sl_tupA (pe_ix (r := rIxL K) ix_list (pv 8) (pe_un un_neg pe_int) (fun _ _ => rfl)) po_none (po_some pe_int)) (pe_tup (pa_cons (pe_op op_add (pe_ix (r := rIxT K) ix_tup (pe_ix (r := rIxL K) ix_list (pv 8) (pe_un un_neg pe_int) (fun _ _ => rfl)) pe_int (fun _ _ => rfl)) pe_int) (pa_cons (pe_op op_sub (pe_ix (r := rIxT K) ix_tup (pv 5) pe_int (fun _ _ => rfl)) pe_int) pa_nil)))) pa_nil)))) (pss_one (ps_expr (pe_bm PySem.F.plainAttrs_list PySem.F.slot_list_append PySem.F.type_list_append mt_append (pv 3) (pa_cons (pe_op (r := rCatA K) op_catA (pe_slice (r := rSlA K) sl_tupA (pv 5) po_none (po_some pe_int)) (pe_tup (pa_cons (pe_cal C_law_take (hr.mono (by omega)) rfl (pa_cons (pv 0) (pa_cons (pe_callB (call_max2 rfl) rfl B.g_max (by decide +kernel) (pa_cons pe_int (pa_cons (pe_callB (cr_lenS (K := K)) rfl B.g_len PySem.boot_len (pa_cons (pe_ix (r := rIxT K) ix_tup (pe_ix (r := rIxL K) ix_list (pv 1) (pe_ix (r := rIxT K) ix_tup (pv 5) pe_int (fun _ _ => rfl)) (fun _ _ => rfl)) pe_int (fun _ _ => rfl)) pa_nil)) pa_nil))) pa_nil))) (pa_cons (pe_ix (r := rIxT K) ix_tup (pv 5) pe_int (fun _ _ => rfl)) pa_nil)))) pa_nil)))))))))))))))
 (pss_one (ps_ret (pv 3))))), ?_⟩
    walk_at "rds"
    intro D hD
    have T0 := T.new (o := .lst []) hD
    have k0 : Kp t g H (upd H D (.lst [])) := Kp.new hD
    have nDt := T.net hD
    have nDg := T.neg hD
    have eD0 : upd H D (.lst []) D = some (.lst []) := upd_same
    generalize upd H D (.lst []) = H0 at T0 k0 eD0
    walk_at "rd"
    refine use_take T0 (by omega) (by decide) (by decide) fun mn H1 m0 m13 T1 k1 => ?_
    walk_at "rd"
    refine ⟨mn, rfl, by omega, by omega, ?_⟩
    refine for_inv (walk_range (n := mn.toNat)) (fun i σ' H' => ∃ (c4 c5 c6 c7 c8 : Option V) (vs : List V) (st : List St4), σ' = [some (.ref t), some (.ref L), some (.int ring), some (.ref D), c4, c5, c6, c7, c8, none] ∧ H' D = some (.lst vs) ∧ RpAll H' vs (st.map stD) ∧ st.length ≤ i ∧ StG xs.length st ∧ Deck H' t g (n + 1 + 7 * i) ∧ Kp t g H H')
      ⟨_, _, _, _, _, [], [], rfl, k1 _ _ eD0 nDt nDg, .nil, Nat.le_refl _, fun c hc => (nomatch hc), T1, k0.trans k1⟩ (fun _ _ _ _ _ => trivial) ?_ ?_
    · rintro B2 i x1 σ1 H60 Ha hi ⟨c4, c5, c6, c7, c8, vs, st, rfl, hvs, rvs, lst, gst, Ta, ka⟩ ⟨rfl, rfl⟩
      have hi13 : i < 13 := by omega
      have lvs : vs.length = st.length := by rw [rvs.length, List.length_map]
      have tka := ka.dk T
      have hLa := ka _ _ hL nt ng
      have rpa := rp.keep tka
      have app : ∀ (c5 c6 c7 c8 : Option V) (y : V) (c : St4) (Hd : Hp), Rp Hd y (stD c) → 0 ≤ c.2.1 → c.2.1 < (xs.length : Int) → Deck Hd t g (n + 1 + 7 * (i + 1)) → Kp t g Ha Hd →
          ∃ (c4' c5' c6' c7' c8' : Option V) (vs' : List V) (st' : List St4), [some (.ref t), some (.ref L), some (.int ring), some (.ref D), some (.int (0 + (i : Int))), c5, c6, c7, c8, none] = [some (.ref t), some (.ref L), some (.int ring), some (.ref D), c4', c5', c6', c7', c8', none] ∧ upd Hd D (.lst (vs ++ [y])) D = some (.lst vs') ∧ RpAll (upd Hd D (.lst (vs ++ [y]))) vs' (st'.map stD) ∧ st'.length ≤ i + 1 ∧ StG xs.length st' ∧ Deck (upd Hd D (.lst (vs ++ [y]))) t g (n + 1 + 7 * (i + 1)) ∧ Kp t g H (upd Hd D (.lst (vs ++ [y]))) := fun c5 c6 c7 c8 y c Hd ry g0 gN Td kd => by
        have hD' := kd _ _ hvs nDt nDg
        have tk : Tk Hd (upd Hd D (.lst (vs ++ [y]))) := Tk.lst hD'
        refine ⟨_, _, _, _, _, vs ++ [y], st ++ [c], rfl, upd_same, ?_, by rw [List.length_append]; show st.length + 1 ≤ _; omega, fun z hz => ?_, Td.put nDt nDg, (ka.trans kd).put hD⟩
        · rw [List.map_append]
          exact ((rvs.keep (kd.dk Ta)).keep tk).append (.cons (ry.keep tk) .nil)
        · rcases List.mem_append.mp hz with h | h
          · exact gst z h
          · rw [List.mem_singleton.mp h]; exact ⟨g0, gN⟩
      walk_at "rd"
      intro p1 hp1
      have s1 := same_upd (o := .lst []) hp1
      refine rd_eqD (d := .list (st.map stD)) (e := .list []) (.lst (SqL.of (s1 _ _ hvs)) (rvs.keep (Tk.of s1)).dp) (.lst (SqL.of upd_same) .nil) (st_shape (by omega)) (by decide) ?_
      have Tb := Ta.same s1
      have hvb := s1 _ _ hvs
      have hLb := s1 _ _ hLa
      have rpb := rpa.keep (Tk.of s1)
      have rvb := rvs.keep (Tk.of s1)
      generalize upd Ha p1 (.lst []) = Hb at s1 Tb hvb hLb rpb rvb
      have kb : Kp t g Ha Hb := Kp.of s1
      rcases List.eq_nil_or_concat st with e | ⟨st', c, e⟩
      · subst e
        rw [show PyData.eqv (.list (([] : List St4).map stD)) (.list []) = true from rfl]
        walk_at "rd"
        refine ⟨t, g, L, _, us, xs, b, ring, 1, rfl, Tb, by omega, nt, ng, hLb, rpb, l1, l8, hs, fun v c Hc rc g0 gN Tc kc => ?_⟩
        refine rd_nil ?_
        refine rd_append ((kb.trans kc) _ _ hvs nDt nDg) (by rw [lvs]; decide) ?_
        walk_at "rd"
        exact app _ _ _ _ v c Hc rc g0 gN (Tc.mono (by omega)) (kb.trans kc)
      rw [List.concat_eq_append] at e
      have ev : PyData.eqv (.list (st.map stD)) (.list []) = false := by
        cases st with
        | nil => exact absurd (congrArg List.length e) (by rw [List.length_append]; show 0 ≠ st'.length + 1; omega)
        | cons a r => rfl
      rw [ev]
      have hc : c ∈ st := by rw [e]; exact List.mem_append_right _ (List.mem_singleton.mpr rfl)
      obtain ⟨cg0, cgN⟩ := gst c hc
      obtain ⟨vs', v, evs, rc⟩ := rp_last (st := st') (c := c) (by rw [← e]; exact rvb)
      obtain ⟨qc, rfl, hqc⟩ := st_tup rc
      walk_at "rd"
      refine rd_ixL hvb (by rw [evs]; exact at_last) ?_
      refine rd_name ?_
      refine rd_seqJ (fun σ' H' => H' = Hb ∧ ∃ vr : V, σ' = [some (.ref t), some (.ref L), some (.int ring), some (.ref D), some (.int (0 + (i : Int))), some (.ref qc), some vr, c7, c8, none] ∧ (vr = .non ∨ ∃ r : Rw, Rp Hb vr r.d)) (fun R hR => ?_) ?_
      · walk_at "rd"
        refine ⟨L, us, xs, .ref qc, c, rfl, hLb, rpb, rc, fun _ rv rrv => ?_, fun _ => ?_⟩
        · walk_at "rd"
          exact hR _ _ ⟨rfl, rv, rfl, .inr ⟨_, rrv⟩⟩
        · walk_at "rd"
          exact hR _ _ ⟨rfl, .non, rfl, .inl rfl⟩
      rintro σ2 Hb2 ⟨rfl, vr, rfl, hvr⟩
      refine rd_seqJ (fun σ' H' => H' = Hb2 ∧ ∃ w : Str, σ' = [some (.ref t), some (.ref L), some (.int ring), some (.ref D), some (.int (0 + (i : Int))), some (.ref qc), some vr, some (.str w), c8, none]) (fun R hR => ?_) ?_
      · walk_at "rd1"
        refine rd_tif ?_
        rcases hvr with rfl | ⟨r, rr⟩
        · walk_at "rd"
          refine ⟨rfl, ?_⟩
          walk_at "rd"
          refine rd_ifT rfl ?_
          walk_at "rd"
          exact hR _ _ ⟨rfl, _, rfl⟩
        · obtain ⟨qr, vr', rfl, hqr, har⟩ := rr.tup_inv
          obtain ⟨w0, wr, rfl, r0, har⟩ := har.cons_inv
          have e0 := r0.str_inv; subst e0
          walk_at "rd"
          refine ⟨rfl, ?_⟩
          walk_at "rd"
          refine rd_ifF (fun z => nomatch z) ?_
          walk_at "rd"
          exact hR _ _ ⟨rfl, _, rfl⟩
      rintro σ3 Hb3 ⟨rfl, w, rfl⟩
      walk_at "rd"
      refine ⟨D, rfl, ⟨_, SqL.of hvb⟩, fun D2 hD2 => ?_⟩
      refine lc_it (walk_list (xs := vs)) (fun j H' => Same Hb3 H' ∧ ∃ (ws : List V) (fs : List St4), H' D2 = some (.lst ws) ∧ RpAll H' ws (fs.map stD) ∧ fs.length ≤ j ∧ StG xs.length fs) ⟨same_upd hD2, [], [], upd_same, .nil, Nat.le_refl _, fun c hc => (nomatch hc)⟩ (fun j H' _ p => SqL.of (p.1 _ _ hvb)) ?_ ?_
      · rintro j y H2 H3 hj ⟨s2, ws, fs, hws, rws, lfs, gfs⟩ ⟨rfl, hy⟩
        obtain ⟨dd, hdd, ry⟩ := (rvb.keep (Tk.of s2)).get hy
        rw [List.getElem?_map] at hdd
        obtain ⟨e', he', rfl⟩ := Option.map_eq_some_iff.mp hdd
        obtain ⟨qe, rfl, hqe⟩ := st_tup ry
        have hqc3 := s2 _ _ hqc
        walk_at "rd"
        refine ⟨rfl, ?_⟩
        walk_at "rd"
        refine rd_ifI (fun ei => ?_) (fun ei => ?_)
        · walk_at "rd"
          have tk : Tk H3 (upd H3 D2 (.lst (ws ++ [.ref qe]))) := Tk.lst hws
          refine ⟨ws, hws, by rw [rws.length, List.length_map]; exact small1000 (by omega), same_put s2 hD2, ws ++ [.ref qe], fs ++ [e'], upd_same, ?_, by rw [List.length_append]; show fs.length + 1 ≤ _; omega, fun z hz => ?_⟩
          · rw [List.map_append]
            exact (rws.keep tk).append (.cons (ry.keep tk) .nil)
          · rcases List.mem_append.mp hz with h | h
            · exact gfs z h
            · rw [List.mem_singleton.mp h]; exact gst e' (List.mem_of_getElem? he')
        · exact ⟨s2, ws, fs, hws, rws, by omega, gfs⟩
      rintro Hc ⟨sc, ws, fs, hws, rws, lfs, gfs⟩
      have Tc := Tb.same sc
      have kc : Kp t g Ha Hc := kb.trans (Kp.of sc)
      have hqcc := sc _ _ hqc
      have hLc := sc _ _ hLb
      have rpc := rpb.keep (Tk.of sc)
      have hvc := sc _ _ hvb
      walk_at "rd"
      by_cases hw : w = "call"
      · rw [decide_eq_true (show V.str w = V.str "call" by rw [hw])]
        refine rd_ifbT rfl ?_
        walk_at "rd"
        refine ⟨t, g, L, _, us, xs, b, c.1, c.2.2.2 + 1, rfl, Tc, by omega, nt, ng, hLc, rpc, l1, l8, hs, fun v' c' Hd rc' g0 gN Td kd => ?_⟩
        refine rd_nil ?_
        refine rd_append ((kc.trans kd) _ _ hvs nDt nDg) (by rw [lvs]; exact small1000 (by omega)) ?_
        walk_at "rd"
        exact app _ _ _ _ v' c' Hd rc' g0 gN (Td.mono (by omega)) (kc.trans kd)
      rw [decide_eq_false (show ¬ V.str w = V.str "call" from fun z => hw (by injection z))]
      refine rd_ifbF rfl ?_
      walk_at "rd"
      by_cases hw2 : w = "return"
      case neg =>
        rw [decide_eq_false (show ¬ V.str w = V.str "return" from fun z => hw2 (by injection z))]
        refine rd_ifbF rfl ?_
        have hqcx := hqcc
        have hLx := hLc
        have rpx := rpc
        have Tx := Tc
        have kx := kc
        have hvx := hvc
        walk_at "rd"
        refine ⟨2, rfl, ?_⟩
        refine rd_slA hqcx fun q1 He se e1 => ?_
        replace e1 : He q1 = some (.tup [.int c.1, .int c.2.1]) := e1
        have Te := Tx.same se
        have ke := kx.trans (Kp.of se)
        have hLe := se _ _ hLx
        have hqce := se _ _ hqcx
        obtain ⟨sv, hsv, rsv, hm'⟩ := SegsAt (rpx.keep (Tk.of se)) cg0 cgN
        have sm := sg_small (hs _ hm').2
        generalize sgAt xs c.2.1 = x at rsv sm
        obtain ⟨sp, pb, pw, pr, vw, vr', rfl, hsp, hpb, hpw, raw, hpr, rar⟩ := sg_full rsv
        have lvr : vr'.length = x.rs.length := by rw [rar.length, List.length_map]
        walk_at "rd"
        refine rd_ixL hLe hsv ?_
        walk_at "rd"
        refine ⟨pr, vr', rfl, .inr (SqT.of hpr), ?_⟩
        refine ⟨_, _, rfl, ?_⟩
        have bm : 0 < (if (vr'.length : Int) > 1 then (vr'.length : Int) else 1) ∧ (if (vr'.length : Int) > 1 then (vr'.length : Int) else 1) ≤ 24 := by split <;> omega
        generalize (if (vr'.length : Int) > 1 then (vr'.length : Int) else 1) = mx1 at bm
        walk_at "rd"
        refine use_take Te (by omega) bm.1 (by omega) fun pl Hf pl0 plN Tf kf => ?_
        have tkf := kf.dk Te
        have hqcf := tkf _ _ hqce
        have e1f := tkf _ _ e1
        walk_at "rd"
        intro q2 hq2
        have s2 := same_upd (o := .tup [.int pl, .int c.2.2.2]) hq2
        refine rd_catA (s2 _ _ e1f) upd_same (by show 2 + 2 ≤ 1000; decide) fun q3 Hg sg e3 => ?_
        replace e3 : Hg q3 = some (.tup [.int c.1, .int c.2.1, .int pl, .int c.2.2.2]) := e3
        have kg := ((ke.trans kf).trans (Kp.of s2)).trans (Kp.of sg)
        refine rd_nil ?_
        refine rd_append (kg _ _ hvs nDt nDg) (by rw [lvs]; exact small1000 (by omega)) ?_
        walk_at "rd"
        exact app _ _ _ _ (.ref q3) (c.1, c.2.1, pl, c.2.2.2) Hg (.tup e3 (.cons (.int _) (.cons (.int _) (.cons (.int _) (.cons (.int _) .nil))))) cg0 cgN (((Tf.same s2).same sg).mono (by omega)) kg
      rw [decide_eq_true (show V.str w = V.str "return" by rw [hw2])]
      refine rd_ifbT rfl ?_
      walk_at "rd"
      intro p9 hp9
      have s9 := same_upd (o := .lst []) hp9
      have lF : fs.length ≤ 1000 := by omega
      refine rd_neD (d := .list (fs.map stD)) (e := .list []) (.lst (SqL.of (s9 _ _ hws)) (rws.keep (Tk.of s9)).dp) (.lst (SqL.of upd_same) .nil) (st_shape lF) (by decide) ?_
      have hqcx := s9 _ _ hqcc
      have hLx := s9 _ _ hLc
      have rpx := rpc.keep (Tk.of s9)
      have Tx := Tc.same s9
      have kx := kc.trans (Kp.of s9)
      have hvx := s9 _ _ hvc
      have hwsx := s9 _ _ hws
      have rwsx := rws.keep (Tk.of s9)
      generalize upd Hc p9 (.lst []) = Hx at hqcx hLx rpx Tx kx hvx hwsx rwsx
      rcases List.eq_nil_or_concat fs with e5 | ⟨fs', z, e5⟩
      · subst e5
        rw [show PyData.eqv (.list (([] : List St4).map stD)) (.list []) = true from rfl]
        walk_at "rd"
        refine ⟨2, rfl, ?_⟩
        refine rd_slA hqcx fun q1 He se e1 => ?_
        replace e1 : He q1 = some (.tup [.int c.1, .int c.2.1]) := e1
        have Te := Tx.same se
        have ke := kx.trans (Kp.of se)
        have hLe := se _ _ hLx
        have hqce := se _ _ hqcx
        obtain ⟨sv, hsv, rsv, hm'⟩ := SegsAt (rpx.keep (Tk.of se)) cg0 cgN
        have sm := sg_small (hs _ hm').2
        generalize sgAt xs c.2.1 = x at rsv sm
        obtain ⟨sp, pb, pw, pr, vw, vr', rfl, hsp, hpb, hpw, raw, hpr, rar⟩ := sg_full rsv
        have lvr : vr'.length = x.rs.length := by rw [rar.length, List.length_map]
        walk_at "rd"
        refine rd_ixL hLe hsv ?_
        walk_at "rd"
        refine ⟨pr, vr', rfl, .inr (SqT.of hpr), ?_⟩
        refine ⟨_, _, rfl, ?_⟩
        have bm : 0 < (if (vr'.length : Int) > 1 then (vr'.length : Int) else 1) ∧ (if (vr'.length : Int) > 1 then (vr'.length : Int) else 1) ≤ 24 := by split <;> omega
        generalize (if (vr'.length : Int) > 1 then (vr'.length : Int) else 1) = mx1 at bm
        walk_at "rd"
        refine use_take Te (by omega) bm.1 (by omega) fun pl Hf pl0 plN Tf kf => ?_
        have tkf := kf.dk Te
        have hqcf := tkf _ _ hqce
        have e1f := tkf _ _ e1
        walk_at "rd"
        intro q2 hq2
        have s2 := same_upd (o := .tup [.int pl, .int c.2.2.2]) hq2
        refine rd_catA (s2 _ _ e1f) upd_same (by show 2 + 2 ≤ 1000; decide) fun q3 Hg sg e3 => ?_
        replace e3 : Hg q3 = some (.tup [.int c.1, .int c.2.1, .int pl, .int c.2.2.2]) := e3
        have kg := ((ke.trans kf).trans (Kp.of s2)).trans (Kp.of sg)
        refine rd_nil ?_
        refine rd_append (kg _ _ hvs nDt nDg) (by rw [lvs]; exact small1000 (by omega)) ?_
        walk_at "rd"
        exact app _ _ _ _ (.ref q3) (c.1, c.2.1, pl, c.2.2.2) Hg (.tup e3 (.cons (.int _) (.cons (.int _) (.cons (.int _) (.cons (.int _) .nil))))) cg0 cgN (((Tf.same s2).same sg).mono (by omega)) kg
      rw [List.concat_eq_append] at e5
      have ev5 : PyData.eqv (.list (fs.map stD)) (.list []) = false := by
        cases fs with
        | nil => exact absurd (congrArg List.length e5) (by rw [List.length_append]; show 0 ≠ fs'.length + 1; omega)
        | cons a r => rfl
      rw [ev5]
      have hz : z ∈ fs := by rw [e5]; exact List.mem_append_right _ (List.mem_singleton.mpr rfl)
      obtain ⟨zg0, zgN⟩ := gfs z hz
      obtain ⟨ws', v', ews, rz⟩ := rp_last (st := fs') (c := z) (by rw [← e5]; exact rwsx)
      obtain ⟨qz, rfl, hqz⟩ := st_tup rz
      walk_at "rd"
      refine rd_ixL hwsx (by rw [ews]; exact at_last) ?_
      walk_at "rd"
      refine ⟨2, rfl, ?_⟩
      refine rd_slA hqz fun q5 H5 s5 e5' => ?_
      replace e5' : H5 q5 = some (.tup [.int z.1, .int z.2.1]) := e5'
      have hqz5 := s5 _ _ hqz
      have hqc5 := s5 _ _ hqcx
      walk_at "rd"
      refine rd_ixL (s5 _ _ hwsx) (by rw [ews]; exact at_last) ?_
      walk_at "rd"
      intro q6 hq6
      have s6 := same_upd (o := .tup [.int (z.2.2.1 + 1), .int (c.2.2.2 - 1)]) hq6
      refine rd_catA (s6 _ _ e5') upd_same (by show 2 + 2 ≤ 1000; decide) fun q7 H7 s7 e7 => ?_
      replace e7 : H7 q7 = some (.tup [.int z.1, .int z.2.1, .int (z.2.2.1 + 1), .int (c.2.2.2 - 1)]) := e7
      have s57 := (s5.trans s6).trans s7
      have k7 := kx.trans (Kp.of s57)
      refine rd_nil ?_
      refine rd_append (k7 _ _ hvs nDt nDg) (by rw [lvs]; exact small1000 (by omega)) ?_
      walk_at "rd"
      exact app _ _ _ _ (.ref q7) (z.1, z.2.1, z.2.2.1 + 1, c.2.2.2 - 1) H7 (.tup e7 (.cons (.int _) (.cons (.int _) (.cons (.int _) (.cons (.int _) .nil))))) zg0 zgN ((Tx.same s57).mono (by omega)) k7
    rintro σ1 Ha ⟨c4, c5, c6, c7, c8, vs, st, rfl, hvs, rvs, lst, gst, Ta, ka⟩
    walk_at "rd"
    exact k D vs st Ha hD hvs rvs (by omega) (Ta.mono (by omega)) ka
def spTouchesD : Sp := fun vs H Q _ => ∃ (t g L : Addr) (n : Nat) (us : List V) (xs : List Sg) (b : Int), vs = [.ref t, .ref L] ∧ Deck H t g n ∧ n ≤ 700000 ∧ L ≠ t ∧ L ≠ g ∧ H L = some (.lst us) ∧ RpAll H us (xs.map Sg.d) ∧ 1 ≤ xs.length ∧ xs.length ≤ 8 ∧ (∀ x ∈ xs, SgForm x ∧ sgFits x b xs.length = true) ∧
  ∀ (D : Addr) (vs : List V) (to : List (Int × Int × Int × Str)) (H' : Hp), H D = none → H' D = some (.lst vs) → RpAll H' vs (to.map toD) → to.length ≤ 6 → (∀ t ∈ to, t.2.2.2 = ("r" : Str) ∨ t.2.2.2 = ("w" : Str)) → Deck H' t g (n + 50) → Kp t g H H' → Q (.ref D) H'
theorem ok_touchesD {f : Addr} {fd : FuncData} (B : BT mg) (F : Fun K "_law_touches_drawn" "_law_touches_drawn" s_law_touches_drawn f fd) (hm : mg "_law_touches_drawn" = some (.ref f)) (C_law_take : Cal P w K mg base "_law_take" 1 ["deck", "many"] spTake) :
    Cal P w K mg base "_law_touches_drawn" 2 ["deck", "segments"] spTouchesD := by
  refine ⟨f, fd, hm, F.kp, F.binds (ps := ["deck", "segments"]) fun _ _ _ _ _ _ us hl => match us, hl with | [_, _], _ => rfl, ?_⟩
  refine F.ok sc_law_touches_drawn (fun vs H Q E h => ?_) (fun cdv A outer s H vs Q E hr h => ?_)
  · obtain ⟨t, g, L, n, us, xs, b, rfl, _⟩ := h
    rfl
  · obtain ⟨t, g, L, n, us, xs, b, rfl, T, hn, nt, ng, hL, rp, l1, l8, hs, k⟩ := h
    refine ⟨_, (pss_cons (ps_set (i := 2) sc_law_touches_drawn.nd rfl (Or.inl rfl) (pe_lst pa_nil))
 (pss_cons (ps_for PassesOwn.never rfl (pi_range1 rfl B.g_range (pa_cons (pe_cal C_law_take (hr.mono (by omega)) rfl (pa_cons (pv 0) (pa_cons pe_int pa_nil))) pa_nil)) (pg_name (i := 3) sc_law_touches_drawn.nd rfl (Or.inl rfl))
 (pss_cons (ps_set (i := 4) sc_law_touches_drawn.nd rfl (Or.inl rfl) (pe_cal C_law_take (hr.mono (by omega)) rfl (pa_cons (pv 0) (pa_cons (pe_callB (cr_lenS (K := K)) rfl B.g_len PySem.boot_len (pa_cons (pv 1) pa_nil)) pa_nil))))
 (pss_cons (ps_set (i := 5) sc_law_touches_drawn.nd rfl (Or.inl rfl) (pe_ix (r := rIxL K) ix_list (pe_lst (pa_cons (pe_ix (r := rIxT K) ix_tup (pe_ix (r := rIxT K) ix_tup (pe_ix (r := rIxL K) ix_list (pv 1) (pv 4) (fun _ _ => rfl)) pe_int (fun _ _ => rfl)) (pe_cal C_law_take (hr.mono (by omega)) rfl (pa_cons (pv 0) (pa_cons pe_int pa_nil))) (fun _ _ => rfl)) (pa_cons (pe_cal C_law_take (hr.mono (by omega)) rfl (pa_cons (pv 0) (pa_cons pe_int pa_nil))) pa_nil))) (pe_cal C_law_take (hr.mono (by omega)) rfl (pa_cons (pv 0) (pa_cons pe_int pa_nil))) (fun _ _ => rfl)))
 (pss_cons (ps_set (i := 6) sc_law_touches_drawn.nd rfl (Or.inl rfl) (pe_cal C_law_take (hr.mono (by omega)) rfl (pa_cons (pv 0) (pa_cons (pe_op op_add pe_int (pe_callB (cr_lenS (K := K)) rfl B.g_len PySem.boot_len (pa_cons (pe_ix (r := rIxT K) ix_tup (pe_ix (r := rIxL K) ix_list (pv 1) (pv 4) (fun _ _ => rfl)) pe_int (fun _ _ => rfl)) pa_nil))) pa_nil))))
 (pss_one (ps_expr (pe_bm PySem.F.plainAttrs_list PySem.F.slot_list_append PySem.F.type_list_append mt_append (pv 2) (pa_cons (pe_tup (pa_cons (pv 5) (pa_cons (pv 4) (pa_cons (pv 6) (pa_cons (pe_ix (r := rIxS) ix_str pe_str (pe_cal C_law_take (hr.mono (by omega)) rfl (pa_cons (pv 0) (pa_cons pe_int pa_nil))) (fun _ _ => rfl)) pa_nil))))) pa_nil))))))))
 (pss_one (ps_ret (pv 2))))), ?_⟩
    have lu : us.length = xs.length := by rw [rp.length, List.length_map]
    walk_at "rds"
    intro D hD
    have T0 := T.new (o := .lst []) hD
    have k0 : Kp t g H (upd H D (.lst [])) := Kp.new hD
    have nDt := T.net hD
    have nDg := T.neg hD
    have eD0 : upd H D (.lst []) D = some (.lst []) := upd_same
    generalize upd H D (.lst []) = H0 at T0 k0 eD0
    walk_at "rd"
    refine use_take T0 (by omega) (by decide) (by decide) fun mn H1 m0 m13 T1 k1 => ?_
    walk_at "rd"
    refine ⟨mn, rfl, by omega, by omega, ?_⟩
    refine for_inv (walk_range (n := mn.toNat)) (fun i σ' H' => ∃ (c3 c4 c5 c6 : Option V) (vs : List V) (to : List (Int × Int × Int × Str)), σ' = [some (.ref t), some (.ref L), some (.ref D), c3, c4, c5, c6] ∧ H' D = some (.lst vs) ∧ RpAll H' vs (to.map toD) ∧ to.length = i ∧ (∀ t ∈ to, t.2.2.2 = ("r" : Str) ∨ t.2.2.2 = ("w" : Str)) ∧ Deck H' t g (n + 1 + 7 * i) ∧ Kp t g H H')
      ⟨_, _, _, _, [], [], rfl, k1 _ _ eD0 nDt nDg, .nil, rfl, fun c hc => (nomatch hc), T1, k0.trans k1⟩ (fun _ _ _ _ _ => trivial) ?_ ?_
    · rintro B2 i x1 σ1 H60 Ha hi ⟨c3, c4, c5, c6, vs, to, rfl, hvs, rvs, lto, gto, Ta, ka⟩ ⟨rfl, rfl⟩
      have hi7 : i < 7 := by omega
      have lvs : vs.length = to.length := by rw [rvs.length, List.length_map]
      have hLa := ka _ _ hL nt ng
      walk_at "rd"
      refine ⟨L, us, rfl, .inl (SqL.of hLa), ?_⟩
      rw [lu]
      walk_at "rd"
      refine use_take Ta (by omega) (by omega) (by omega) fun sg Hb sg0 sgN Tb kb => ?_
      have kab := ka.trans kb
      have hLb := kab _ _ hL nt ng
      obtain ⟨sv, hsv, rsv, hm'⟩ := SegsAt (rp.keep (kab.dk T)) sg0 sgN
      have sm := sg_small (hs _ hm').2
      generalize sgAt xs sg = x at rsv sm
      obtain ⟨sp, pb, pw, pr, vw, vr', rfl, hsp, hpb, hpw, raw, hpr, rar⟩ := sg_full rsv
      have lvw : vw.length = x.ws.length := by rw [raw.length, List.length_map]
      walk_at "rd"
      refine rd_ixL hLb hsv ?_
      walk_at "rd"
      refine use_take Tb (by omega) (by decide) (by decide) fun i5 Hc i50 i52 Tc kc => ?_
      have hpbc := (kc.dk Tb) _ _ hpb
      obtain ⟨bv, hbv⟩ : ∃ bv : Int, atI [V.int x.r1, .int x.r2, .int x.r3] i5 = some (.int bv) := by
        have : i5 = 0 ∨ i5 = 1 := by omega
        rcases this with rfl | rfl
        · exact ⟨_, rfl⟩
        · exact ⟨_, rfl⟩
      refine rd_ixT hpbc hbv ?_
      walk_at "rd"
      refine use_take Tc (by omega) (by decide) (by decide) fun z6 Hd z60 z68 Td kd => ?_
      walk_at "rd"
      intro l7 hl7
      walk_at "rd"
      refine use_take (Td.new hl7) (by omega) (by decide) (by decide) fun i8 He i80 i82 Te ke => ?_
      obtain ⟨rg, _, erg⟩ := at_int (l := [bv, z6]) i80 i82
      refine rd_ixL (ke _ _ upd_same (Td.net hl7) (Td.neg hl7)) erg ?_
      have kbe : Kp t g Hb He := (kc.trans kd).trans ((Kp.new (o := .lst ([bv, z6].map V.int)) hl7).trans ke)
      have kae := kab.trans kbe
      have hLe := kae _ _ hL nt ng
      have tkbe := kbe.dk Tb
      have hspe := tkbe _ _ hsp
      have hpwe := tkbe _ _ hpw
      walk_at "rd"
      refine rd_ixL hLe hsv ?_
      walk_at "rd"
      refine ⟨pw, vw, rfl, .inr (SqT.of hpwe), ?_⟩
      walk_at "rd"
      refine use_take Te (by omega) (by omega) (by omega) fun pl Hf pl0 plN Tf kf => ?_
      have kaf := (kb.trans kbe).trans kf
      have hvf := kaf _ _ hvs nDt nDg
      walk_at "rd"
      refine use_take Tf (by omega) (by decide) (by decide) fun i9 Hg i90 i92 Tg kg => ?_
      have kag := kaf.trans kg
      have hvg := kag _ _ hvs nDt nDg
      obtain ⟨cc, hcc, hrw⟩ : ∃ cc : Nat, atI ("rw" : Str).cps.toList i9 = some cc ∧ ((⟨#[cc]⟩ : Str) = ("r" : Str) ∨ (⟨#[cc]⟩ : Str) = ("w" : Str)) := by
        have : i9 = 0 ∨ i9 = 1 := by omega
        rcases this with rfl | rfl
        · exact ⟨114, rfl, .inl rfl⟩
        · exact ⟨119, rfl, .inr rfl⟩
      refine ⟨"rw", i9, cc, rfl, rfl, by decide, hcc, ?_⟩
      walk_at "rd"
      intro q9 hq9
      have s9 := same_upd (o := .tup [.int rg, .int sg, .int pl, .str ⟨#[cc]⟩]) hq9
      have hv9 := s9 _ _ hvg
      walk_at "rd"
      refine rd_append hv9 (by rw [lvs]; exact small1000 (by omega)) ?_
      have tk : Tk _ (upd (upd Hg q9 (.tup [.int rg, .int sg, .int pl, .str ⟨#[cc]⟩])) D (.lst (vs ++ [.ref q9]))) := Tk.lst hv9
      walk_at "rd"
      refine ⟨_, _, _, _, vs ++ [.ref q9], to ++ [(rg, sg, pl, ⟨#[cc]⟩)], rfl, upd_same, ?_, by rw [List.length_append, lto]; rfl, fun z hz => ?_, ((Tg.same s9).put nDt nDg).mono (by omega), ((ka.trans kag).trans (Kp.of s9)).put hD⟩
      · rw [List.map_append]
        exact (((rvs.keep (kag.dk Ta)).keep (Tk.of s9)).keep tk).append (.cons (.tup (tk _ _ upd_same) (.cons (.int _) (.cons (.int _) (.cons (.int _) (.cons (.str _) .nil))))) .nil)
      · rcases List.mem_append.mp hz with h | h
        · exact gto z h
        · rw [List.mem_singleton.mp h]; exact hrw
    rintro σ1 Ha ⟨c3, c4, c5, c6, vs, to, rfl, hvs, rvs, lto, gto, Ta, ka⟩
    walk_at "rd"
    exact k D vs to Ha hD hvs rvs (by omega) gto (Ta.mono (by omega)) ka

end
end Rg

namespace Rg
open PySem PySem.Spec L2
local macro_rules | `(tactic| walk_at "rd1") => `(tactic| first
  | with_reducible refine rd_seq ?_
  | with_reducible refine rd_asg ?_
  | ((with_reducible show tVar _ _ _ _); refine rd_var rfl ?_)
  | with_reducible refine rd_c ?_
  | with_reducible refine rd_op ?_
  | with_reducible refine rd_I0 ?_
  | with_reducible refine rd_name ?_
  | with_reducible refine rd_ret ?_
  | with_reducible refine rd_ifs ?_
  | with_reducible refine rd_test ?_
  | with_reducible refine rd_tB ?_
  | with_reducible refine rd_bl ?_
  | with_reducible refine rd_drop ?_
  | with_reducible refine rd_nil ?_
  | with_reducible refine rd_cons ?_
  | with_reducible refine rd_call ?_
  | with_reducible refine rd_cb ?_
  | with_reducible refine rd_tup ?_
  | with_reducible refine rd_lst ?_
  | with_reducible refine rd_and ?_
  | with_reducible refine rd_or ?_
  | with_reducible refine rd_not ?_
  | with_reducible refine rd_andV ?_
  | with_reducible refine rd_orV ?_
  | with_reducible refine rd_notV ?_
  | with_reducible refine rd_chain ?_
  | with_reducible refine rd_un ?_
  | with_reducible refine rd_isN ?_
  | with_reducible refine rd_bm ?_
  | with_reducible refine rd_bm0 ?_
  | with_reducible refine rd_gsub ?_
  | with_reducible refine rd_sl ?_
  | with_reducible refine rd_gt ?_
  | with_reducible refine rd_yes ?_
  | with_reducible refine rd_gcons ?_
  | with_reducible refine rd_gnil ?_
  | with_reducible refine rd_part ?_
  | with_reducible refine rd_nopart ?_
  | ((with_reducible show gTup _ _ _ _ _ _ _); refine rd_gtup (by first | assumption | exact upd_same) rfl ?_)
  | ((with_reducible show gLst _ _ _ _ _ _ _); refine rd_glst (by first | assumption | exact upd_same) rfl ?_)
  | ((with_reducible show rIsi _ _ _ _); first | refine rd_isi (b := true) (.ty _) (.base (by first | exact .int _ | exact .str _ | exact .bl _ | exact .non | exact .tup (by assumption) | exact .lst (by assumption))) (kit_ty (by decide +kernel)) ?_ | refine rd_isi (b := false) (.ty _) (.base (by first | exact .int _ | exact .str _ | exact .bl _ | exact .non | exact .tup (by assumption) | exact .lst (by assumption))) (kit_ty (by decide +kernel)) ?_)
  | with_reducible refine rd_fld ?_
  | with_reducible refine rd_sfld ?_
  | with_reducible refine rd_meth ?_
  | with_reducible refine rd_make ?_
  | with_reducible refine rd_makeK ?_
  | with_reducible refine rd_U ?_
  | with_reducible refine rd_makeKS ?_
  | with_reducible refine rd_callN ?_
  | with_reducible refine rd_rs ?_
  | with_reducible refine rd_rf ?_
  | with_reducible refine rd_star ?_
  | with_reducible refine rd_callS ?_
  | with_reducible refine rd_for ?_
  | with_reducible refine rd_lc ?_
  | with_reducible refine rd_ilist ?_
  | with_reducible refine rd_itup ?_
  | with_reducible refine rd_irng ?_
  | with_reducible refine rd_izipS ?_
  | with_reducible refine rd_ienum ?_
  | with_reducible refine rd_ienT ?_
  | with_reducible refine rd_next ?_
  | with_reducible refine rd_eq rfl ?_
  | with_reducible refine rd_ne rfl ?_
  | with_reducible refine iteT ?_
  | with_reducible refine iteF ?_
  | with_reducible refine rd_ifnT ?_
  | with_reducible refine rd_ifnF ?_
  | ((with_reducible show rI (fun _ j => (0 : Int) < j) _ _ _ _ _); refine rd_mod (by omega) ?_)
  | with_reducible refine rd_new rfl ?_
  | ((with_reducible show rIxL _ _ (V.int 0) _ _); refine rd_ixL0 (by first | assumption | exact upd_same) ?_)
  | ((with_reducible show rIxL _ _ _ _ _); refine rd_ixL (by first | assumption | exact upd_same) rfl ?_)
  | ((with_reducible show rSetL _ _ _ _ _); refine rd_setL (by first | assumption | exact upd_same) rfl ?_)
  | ((with_reducible show rI CMul _ _ _ _ _); refine rd_mul (by first | exact Or.inl ⟨by omega, by omega⟩ | exact Or.inr ⟨by omega, by omega⟩) ?_)
  | ((with_reducible show tyV _ "list" _ _ ∧ _); refine rd_tyL (by first | assumption | exact upd_same) ?_)
  | ((with_reducible show rIxT _ _ (V.int 0) _ _); refine rd_ixT0 (by first | assumption | exact upd_same) ?_)
  | ((with_reducible show rIxT _ _ _ _ _); refine rd_ixT (by first | assumption | exact upd_same) rfl ?_))
local macro_rules | `(tactic| walk_at "rdn1") => `(tactic| first
  | with_reducible refine rd_seq ?_
  | with_reducible refine rd_asg ?_
  | ((with_reducible show tVar _ _ _ _); refine rd_var rfl ?_)
  | with_reducible refine rd_c ?_
  | with_reducible refine rd_op ?_
  | with_reducible refine rd_I0 ?_
  | with_reducible refine rd_name ?_
  | with_reducible refine rd_ret ?_
  | with_reducible refine rd_ifs ?_
  | with_reducible refine rd_test ?_
  | with_reducible refine rd_tB ?_
  | with_reducible refine rd_bl ?_
  | with_reducible refine rd_drop ?_
  | with_reducible refine rd_nil ?_
  | with_reducible refine rd_cons ?_
  | with_reducible refine rd_call ?_
  | with_reducible refine rd_cb ?_
  | with_reducible refine rd_tup ?_
  | with_reducible refine rd_lst ?_
  | with_reducible refine rd_and ?_
  | with_reducible refine rd_or ?_
  | with_reducible refine rd_not ?_
  | with_reducible refine rd_notV ?_
  | with_reducible refine rd_chain ?_
  | with_reducible refine rd_un ?_
  | with_reducible refine rd_isN ?_
  | with_reducible refine rd_bm ?_
  | with_reducible refine rd_bm0 ?_
  | with_reducible refine rd_gsub ?_
  | with_reducible refine rd_sl ?_
  | with_reducible refine rd_gt ?_
  | with_reducible refine rd_yes ?_
  | with_reducible refine rd_gcons ?_
  | with_reducible refine rd_gnil ?_
  | with_reducible refine rd_part ?_
  | with_reducible refine rd_nopart ?_
  | ((with_reducible show gTup _ _ _ _ _ _ _); refine rd_gtup (by first | assumption | exact upd_same) rfl ?_)
  | ((with_reducible show gLst _ _ _ _ _ _ _); refine rd_glst (by first | assumption | exact upd_same) rfl ?_)
  | ((with_reducible show rIsi _ _ _ _); first | refine rd_isi (b := true) (.ty _) (.base (by first | exact .int _ | exact .str _ | exact .bl _ | exact .non | exact .tup (by assumption) | exact .lst (by assumption))) (kit_ty (by decide +kernel)) ?_ | refine rd_isi (b := false) (.ty _) (.base (by first | exact .int _ | exact .str _ | exact .bl _ | exact .non | exact .tup (by assumption) | exact .lst (by assumption))) (kit_ty (by decide +kernel)) ?_)
  | with_reducible refine rd_fld ?_
  | with_reducible refine rd_sfld ?_
  | with_reducible refine rd_meth ?_
  | with_reducible refine rd_make ?_
  | with_reducible refine rd_makeK ?_
  | with_reducible refine rd_U ?_
  | with_reducible refine rd_makeKS ?_
  | with_reducible refine rd_callN ?_
  | with_reducible refine rd_rs ?_
  | with_reducible refine rd_rf ?_
  | with_reducible refine rd_star ?_
  | with_reducible refine rd_callS ?_
  | with_reducible refine rd_for ?_
  | with_reducible refine rd_lc ?_
  | with_reducible refine rd_ilist ?_
  | with_reducible refine rd_itup ?_
  | with_reducible refine rd_irng ?_
  | with_reducible refine rd_izipS ?_
  | with_reducible refine rd_ienum ?_
  | with_reducible refine rd_ienT ?_
  | with_reducible refine rd_next ?_
  | with_reducible refine rd_eq rfl ?_
  | with_reducible refine rd_ne rfl ?_
  | with_reducible refine iteT ?_
  | with_reducible refine iteF ?_
  | with_reducible refine rd_ifnT ?_
  | with_reducible refine rd_ifnF ?_
  | ((with_reducible show rI (fun _ j => (0 : Int) < j) _ _ _ _ _); refine rd_mod (by omega) ?_)
  | with_reducible refine rd_new rfl ?_
  | ((with_reducible show rIxL _ _ (V.int 0) _ _); refine rd_ixL0 (by first | assumption | exact upd_same) ?_)
  | ((with_reducible show rIxL _ _ _ _ _); refine rd_ixL (by first | assumption | exact upd_same) rfl ?_)
  | ((with_reducible show rSetL _ _ _ _ _); refine rd_setL (by first | assumption | exact upd_same) rfl ?_)
  | ((with_reducible show rI CMul _ _ _ _ _); refine rd_mul (by first | exact Or.inl ⟨by omega, by omega⟩ | exact Or.inr ⟨by omega, by omega⟩) ?_)
  | ((with_reducible show tyV _ "list" _ _ ∧ _); refine rd_tyL (by first | assumption | exact upd_same) ?_)
  | ((with_reducible show rIxT _ _ (V.int 0) _ _); refine rd_ixT0 (by first | assumption | exact upd_same) ?_)
  | ((with_reducible show rIxT _ _ _ _ _); refine rd_ixT (by first | assumption | exact upd_same) rfl ?_))
local macro_rules | `(tactic| walk_at "rd") => `(tactic| (repeat (first | walk_at "rd1" | dsimp only)))
local macro_rules | `(tactic| walk_at "rds") => `(tactic| (dsimp only [cxOf, Cx.nox, Cx.wish, Cx.blk, L2.start]; walk_at "rd"))
local macro_rules | `(tactic| walk_at "rdn") => `(tactic| (repeat (first | walk_at "rdn1" | dsimp only)))
section
variable {P : Program} {w : World} {K : PySem.W.Frag} {mg : Str → Option Value} {base : Heap}
def spLaw (K : PySem.W.Frag) : Sp := fun vs H Q _ => ∃ (a : Addr) (ns : List Int), vs = [.ref a] ∧ SqL K H a (ns.map V.int) ∧ ns.length ≤ 63 ∧ ∀ H', Q (.bl true) H'
theorem use_init {C x dx L : Addr} {us : List V} {xs : List Sg} {b : Int} {H : Hp} {Q : VK} {E : XK} (n1 : H x = none) (n2 : H dx = none) (ne : dx ≠ x) (hL : H L = some (.lst us)) (r : RpAll H us (xs.map Sg.d)) (l1 : 1 ≤ xs.length) (hl : xs.length ≤ 8) (b2 : 2 ≤ b) (hs : ∀ x ∈ xs, SgForm x ∧ sgFits x b xs.length = true)
    (h : ∀ H', MAt C H' x us b → Same H H' → Q .non H') : spInit C [.ref x, .ref L, .int b] (upd (upd H dx (.own x)) x (.ins C dx [])) Q E := by
  have n1' : upd H dx (.own x) x = none := by rw [upd_ne (Ne.symm ne)]; exact n1
  have s1 : Same H (upd (upd H dx (.own x)) x (.ins C dx [])) := (same_upd n2).trans (same_upd n1')
  refine ⟨x, dx, L, us, xs, b, rfl, upd_same, s1 _ _ hL, r.keep (Tk.of s1), l1, hl, b2, hs, fun H' m kp => h H' m fun c o e => ?_⟩
  exact kp c o (s1 c o e) (ne_of_none e n1)

theorem MAt.kp {C t g x : Addr} {H H' : Hp} {n : Nat} {us : List V} {b : Int} (h : MAt C H x us b) (T : Deck H t g n) (k : Kp t g H H') : MAt C H' x us b := by
  obtain ⟨dx, q, h1, h2⟩ := id h
  obtain ⟨_, e1⟩ := T.ht
  obtain ⟨_, e2⟩ := T.hg
  exact h.keep (fun o e => k _ _ e (ne_of h1 e1 (fun z => nomatch z)) (ne_of h1 e2 (fun z => nomatch z))) (k.dk T)
def stR (c : St4) : R4 := ⟨c.1, c.2.1, c.2.2.1, .inl c.2.2.2⟩
def rSt (r : R4) : St4 := (r.a, r.b, r.c, match r.l with | .inl n => n | .inr _ => 0)
def toR (c : Int × Int × Int × Str) : R4 := ⟨c.1, c.2.1, c.2.2.1, .inr c.2.2.2⟩
def rTo (r : R4) : Int × Int × Int × Str := (r.a, r.b, r.c, match r.l with | .inl _ => "" | .inr s => s)
theorem st_r4 (st : List St4) : st.map stD = (st.map stR).map R4.d := by rw [List.map_map]; rfl
theorem to_r4 (to : List (Int × Int × Int × Str)) : to.map toD = (to.map toR).map R4.d := by rw [List.map_map]; rfl
theorem st_k4 {st : List St4} : ∀ r ∈ st.map stR, K4 true r := fun r hr => by
  obtain ⟨c, _, rfl⟩ := List.mem_map.mp hr
  exact ⟨_, rfl⟩
theorem to_k4 {to : List (Int × Int × Int × Str)} (h : ∀ t ∈ to, t.2.2.2 = ("r" : Str) ∨ t.2.2.2 = ("w" : Str)) : ∀ r ∈ to.map toR, K4 false r := fun r hr => by
  obtain ⟨c, hc, rfl⟩ := List.mem_map.mp hr
  rcases h c hc with e | e
  · exact .inl (by unfold toR; rw [e])
  · exact .inr (by unfold toR; rw [e])
theorem r4_st {rs : List R4} (h : ∀ r ∈ rs, K4 true r) : rs.map R4.d = (rs.map rSt).map stD := by
  rw [List.map_map]
  refine List.map_congr_left fun r hr => ?_
  obtain ⟨a, b, c, l⟩ := r
  obtain ⟨n, e⟩ := h _ hr
  dsimp only at e
  subst e
  rfl
theorem r4_to {rs : List R4} (h : ∀ r ∈ rs, K4 false r) : rs.map R4.d = (rs.map rTo).map toD := by
  rw [List.map_map]
  refine List.map_congr_left fun r hr => ?_
  obtain ⟨a, b, c, l⟩ := r
  rcases h _ hr with e | e
  · dsimp only at e; subst e; rfl
  · dsimp only at e; subst e; rfl
theorem r4_way {rs : List R4} (h : ∀ r ∈ rs, K4 false r) : ∀ t ∈ rs.map rTo, t.2.2.2 = ("r" : Str) ∨ t.2.2.2 = ("w" : Str) := fun t ht => by
  obtain ⟨r, hr, rfl⟩ := List.mem_map.mp ht
  obtain ⟨a, b, c, l⟩ := r
  rcases h _ hr with e | e
  · dsimp only at e; subst e; exact .inl rfl
  · dsimp only at e; subst e; exact .inr rfl
theorem ok_law {f f1 fK C : Addr} {fd fd1 fdK : FuncData} {g1 : List Value → List Value → List Value} (B : BT mg) (T : MC K mg C) (F : Fun K "law" "law" s_law f fd) (Mk : Mk K C f1) (F_init : FnOk P w K mg base CX0 6 f1 fd1 ["self", "segments", "base"] (spInit C))
    (kb1 : KBn K fd1 ["self", "segments", "base"] 2 ["base"] g1 (fun vs zs => vs ++ zs))
    (hmK : mg "keeps" = some (.ref fK)) (hkK : PySem.W.keepIn K (.ref fK) = true) (bK : Binds K fdK ["machine", "ring", "steps", "touches"] []) (F_keeps : FnOk P w K mg base CX0 8 fK fdK ["machine", "ring", "steps", "touches"] (spKeeps C))
    (C_law_deck : Cal P w K mg base "_law_deck" 1 ["script"] (spDeck K)) (C_law_take : Cal P w K mg base "_law_take" 1 ["deck", "many"] spTake) (C_law_machine : Cal P w K mg base "_law_machine" 5 ["deck"] spMachine)
    (C_law_steps_drawn : Cal P w K mg base "_law_steps_drawn" 3 ["deck", "segments", "ring"] spStepsD) (C_law_touches_drawn : Cal P w K mg base "_law_touches_drawn" 2 ["deck", "segments"] spTouchesD) (C_law_spoilt : Cal P w K mg base "_law_spoilt" 2 ["deck", "rows", "far"] spSpoilt) (C_law_keeps : Cal P w K mg base "_law_keeps" 4 ["segments", "ring", "steps", "touches"] spKeepsL) :
    FnOk P w K mg base CX0 9 f fd ["script"] (spLaw K) := by
  refine F.ok sc_law (fun vs H Q E h => ?_) (fun cdv A outer s H vs Q E hr h => ?_)
  · obtain ⟨a, ns, rfl, _⟩ := h
    rfl
  · obtain ⟨a, ns, rfl, hS, hl, k⟩ := h
    refine ⟨_, (pss_cons (ps_set (i := 1) sc_law.nd rfl (Or.inl rfl) (pe_cal C_law_deck (hr.mono (by omega)) rfl (pa_cons (pv 0) pa_nil)))
 (pss_cons (ps_for PassesOwn.never rfl (pi_range1 rfl B.g_range (pa_cons pe_int pa_nil)) (pg_name (i := 2) sc_law.nd rfl (Or.inl rfl))
 (pss_cons (ps_asg (pe_cal C_law_machine (hr.mono (by omega)) rfl (pa_cons (pv 1) pa_nil)) (pg_tup (by rfl) (pgs_cons (pg_name (i := 3) sc_law.nd rfl (Or.inl rfl)) (pgs_cons (pg_name (i := 4) sc_law.nd rfl (Or.inl rfl)) pgs_nil))))
 (pss_cons (ps_set (i := 5) sc_law.nd rfl (Or.inl rfl) (pe_makeK Mk F_init (hr.mono (by omega)) rfl T.mgC kb1 pass0 (pa_cons (pe_callTy (cr_listOf (K := K)) rfl B.g_list (by decide +kernel) (pa_cons (pv 3) pa_nil)) pa_nil) (pk_cons (pv 4) pk_nil)))
 (pss_cons (ps_set (i := 6) sc_law.nd rfl (Or.inl rfl) (pe_cal C_law_take (hr.mono (by omega)) rfl (pa_cons (pv 1) (pa_cons pe_int pa_nil))))
 (pss_cons (ps_set (i := 7) sc_law.nd rfl (Or.inl rfl) (pe_cal C_law_steps_drawn (hr.mono (by omega)) rfl (pa_cons (pv 1) (pa_cons (pv 3) (pa_cons (pv 6) pa_nil)))))
 (pss_cons (ps_set (i := 8) sc_law.nd rfl (Or.inl rfl) (pe_cal C_law_touches_drawn (hr.mono (by omega)) rfl (pa_cons (pv 1) (pa_cons (pv 3) pa_nil))))
 (pss_cons (ps_for PassesOwn.never rfl (pi_range1 rfl B.g_range (pa_cons (pe_cal C_law_take (hr.mono (by omega)) rfl (pa_cons (pv 1) (pa_cons pe_int pa_nil))) pa_nil)) (pg_name (i := 9) sc_law.nd rfl (Or.inl rfl))
 (pss_one (ps_set (i := 7) sc_law.nd rfl (Or.inl rfl) (pe_cal C_law_spoilt (hr.mono (by omega)) rfl (pa_cons (pv 1) (pa_cons (pv 7) (pa_cons pe_int pa_nil)))))))
 (pss_one (ps_for PassesOwn.never rfl (pi_listK (K := K) (pe_lst (pa_cons (pe_tup (pa_cons (pv 7) (pa_cons (pe_lst pa_nil) pa_nil))) (pa_cons (pe_tup (pa_cons (pe_lst pa_nil) (pa_cons (pv 8) pa_nil))) (pa_cons (pe_tup (pa_cons (pv 7) (pa_cons (pv 8) pa_nil))) pa_nil))))) (pg_tup (by rfl) (pgs_cons (pg_name (i := 10) sc_law.nd rfl (Or.inl rfl)) (pgs_cons (pg_name (i := 11) sc_law.nd rfl (Or.inl rfl)) pgs_nil)))
 (pss_cons (ps_set (i := 12) sc_law.nd rfl (Or.inl rfl) (pe_call F_keeps (hr.mono (by omega)) rfl hmK hkK bK .nil pass0 (pa_cons (pv 5) (pa_cons (pv 6) (pa_cons (pv 10) (pa_cons (pv 11) pa_nil))))))
 (pss_one (ps_if (PW.pt (pw_or (pt_not (pt_val (pe_callB (r := rIsi K) call_isi rfl B.g_isinstance (by decide +kernel) (pa_cons (pv 12) (pa_cons (pe_bltn (v := .ty "bool") rfl B.g_bool (by decide +kernel) rfl) pa_nil))))) (pw_or1 (pt_cmpR op_ne (pv 12) (pe_cal C_law_keeps (hr.mono (by omega)) rfl (pa_cons (pv 3) (pa_cons (pv 6) (pa_cons (pv 10) (pa_cons (pv 11) pa_nil))))) (nomark _))))) (pss_one (ps_ret pe_bl)) pss_nil))))))))))))
 (pss_one (ps_ret pe_bl)))), ?_⟩
    walk_at "rds"
    refine ⟨a, ns, rfl, hS, hl, fun t g H1 s1 nt ng T1 => ?_⟩
    walk_at "rd"
    refine ⟨10, rfl, by decide, by decide, ?_⟩
    refine for_inv (walk_range (n := 10)) (fun i σ' H' => (∃ c2 c3 c4 c5 c6 c7 c8 c9 c10 c11 c12, σ' = [some (.ref a), some (.ref t), c2, c3, c4, c5, c6, c7, c8, c9, c10, c11, c12]) ∧ Deck H' t g (2000 * i)) ⟨⟨_, _, _, _, _, _, _, _, _, _, _, rfl⟩, T1.mono (by omega)⟩ (fun _ _ _ _ _ => trivial) ?_ ?_
    · rintro B' i x0 σ1 H50 H2 hi ⟨⟨c2, c3, c4, c5, c6, c7, c8, c9, c10, c11, c12, rfl⟩, T2⟩ ⟨rfl, rfl⟩
      walk_at "rd"
      refine ⟨t, g, _, rfl, T2, by omega, fun p L us xs b H3 nL hp hL rp l1 l8 b2 bB hs hbig T3 k3 => ?_⟩
      have ntL := T2.net nL
      have ngL := T2.neg nL
      have hfx : ∀ y ∈ xs, sgFits y b (xs.length : Int) = true := fun y hy => (hs y hy).2
      walk_at "rd"
      refine ⟨L, us, rfl, .inl (SqL.of hL), fun L2 hL2 => ?_⟩
      have s3 := same_upd (o := .lst us) hL2
      walk_at "rd"
      refine ⟨rfl, rfl, fun x dx nx ndx ne => ?_⟩
      refine use_init nx ndx ne upd_same (rp.keep (Tk.of s3)) l1 l8 b2 hs fun H4 m4 s4 => ⟨rfl, ?_⟩
      have s34 := s3.trans s4
      have hL4 := s34 _ _ hL
      have rp4 := rp.keep (Tk.of s34)
      have T4 := T3.same s34
      walk_at "rd"
      refine use_take T4 (by omega) (by decide) (by decide) fun hd H5 hd0 hd8 T5 k5 => ?_
      have hL5 := k5 _ _ hL4 ntL ngL
      have rp5 := rp4.keep (k5.dk T4)
      walk_at "rd"
      refine ⟨t, g, L, _, us, xs, b, hd, rfl, T5, by omega, ntL, ngL, hL5, rp5, l1, l8, hs, fun Dr vr st H6 nDr hDr rvr lst T6 k6 => ?_⟩
      have ntDr := T5.net nDr
      have ngDr := T5.neg nDr
      have k56 := k5.trans k6
      walk_at "rd"
      refine ⟨t, g, L, _, us, xs, b, rfl, T6, by omega, ntL, ngL, k56 _ _ hL4 ntL ngL, rp4.keep (k56.dk T4), l1, l8, hs, fun Dt vt to H7 nDt hDt rvt lto wto T7 k7 => ?_⟩
      have ntDt := T6.net nDt
      have ngDt := T6.neg nDt
      have k47 := k56.trans k7
      have m7 := m4.kp T4 k47
      have hL7 := k47 _ _ hL4 ntL ngL
      have rp7 := rp4.keep (k47.dk T4)
      have hDr7 := k7 _ _ hDr ntDr ngDr
      have rvr7 := rvr.keep (k7.dk T6)
      rw [st_r4] at rvr7
      walk_at "rd"
      refine use_take T7 (by omega) (by decide) (by decide) fun cn H8 cn0 cn3 T8 k8 => ?_
      walk_at "rd"
      refine ⟨cn, rfl, by omega, by omega, ?_⟩
      refine for_inv (walk_range (n := cn.toNat)) (fun j σ' H' => ∃ (c9 : Option V) (D : Addr) (vs : List V) (rs : List R4), σ' = [some (.ref a), some (.ref t), some (.int (0 + (i : Int))), some (.ref L), some (.int b), some (.ref x), some (.int hd), some (.ref D), some (.ref Dt), c9, c10, c11, c12] ∧ H' D = some (.lst vs) ∧ D ≠ t ∧ D ≠ g ∧ RpAll H' vs (rs.map R4.d) ∧ rs.length ≤ 12 + j ∧ (∀ r ∈ rs, K4 true r) ∧ Deck H' t g (2000 * i + 1800 + 6 * j) ∧ Kp t g H7 H')
        ⟨_, Dr, vr, st.map stR, rfl, k8 _ _ hDr7 ntDr ngDr, ntDr, ngDr, rvr7.keep (k8.dk T7), by rw [List.length_map]; omega, st_k4, T8.mono (by omega), k8⟩ (fun _ _ _ _ _ => trivial) ?_ ?_
      · rintro B3 j x2 σ2 H60 Ha hj ⟨c9, D, vs, rs, rfl, hD, ntD, ngD, rvs, lrs, krs, Ta, ka⟩ ⟨rfl, rfl⟩
        have hj3 : j < 3 := by omega
        walk_at "rd"
        refine ⟨t, g, D, _, .inl 1, vs, rs, true, rfl, Ta, by omega, hD, ntD, ngD, rvs, by omega, krs, ⟨1, rfl⟩, fun D' vs' rs' Hb nD' hD' rvs' lrs' krs' Tb kb => ?_⟩
        walk_at "rd"
        exact ⟨_, D', vs', rs', rfl, hD', Ta.net nD', Ta.neg nD', rvs', by omega, krs', Tb.mono (by omega), ka.trans kb⟩
      rintro σ2 Ha ⟨c9, D, vs, rs, rfl, hD, ntD, ngD, rvs, lrs, krs, Ta, ka⟩
      have lrs15 : rs.length ≤ 15 := by omega
      have tka := ka.dk T7
      have hDta := ka _ _ hDt ntDt ngDt
      have rvta := rvt.keep tka
      rw [r4_st krs] at rvs
      have lst' : (rs.map rSt).length ≤ 15 := by rw [List.length_map]; exact lrs15
      generalize rs.map rSt = st' at rvs lst'
      have Mk' : Msk C Ha x us xs b := ⟨m7.kp T7 ka, rp7.keep tka, l8⟩
      have hLa := ka _ _ hL7 ntL ngL
      have rpa := rp7.keep tka
      walk_at "rd"
      intro e1 he1
      walk_at "rd"
      intro q1 hq1
      walk_at "rd"
      intro e2 he2
      walk_at "rd"
      intro q2 hq2
      walk_at "rd"
      intro q3 hq3
      walk_at "rd"
      intro l4 hl4
      have sA := same_upd (o := .lst []) he1
      have sB := same_upd (o := .tup [.ref D, .ref e1]) hq1
      have sC := same_upd (o := .lst []) he2
      have sD := same_upd (o := .tup [.ref e2, .ref Dt]) hq2
      have sE := same_upd (o := .tup [.ref D, .ref Dt]) hq3
      have sF := same_upd (o := .lst [.ref q1, .ref q2, .ref q3]) hl4
      have sDF := (sD.trans sE).trans sF
      have sBF := (sB.trans sC).trans sDF
      have he1F := sBF _ _ (upd_same (H := Ha) (a := e1) (o := .lst []))
      have hq1F := (sC.trans sDF) _ _ (upd_same (a := q1) (o := .tup [.ref D, .ref e1]) (H := upd Ha e1 (.lst [])))
      have he2F := sDF _ _ (upd_same (a := e2) (o := .lst []) (H := upd (upd Ha e1 (.lst [])) q1 (.tup [.ref D, .ref e1])))
      have hq2F := (sE.trans sF) _ _ (upd_same (a := q2) (o := .tup [.ref e2, .ref Dt]) (H := upd (upd (upd Ha e1 (.lst [])) q1 (.tup [.ref D, .ref e1])) e2 (.lst [])))
      have hq3F := sF _ _ (upd_same (a := q3) (o := .tup [.ref D, .ref Dt]) (H := upd (upd (upd (upd Ha e1 (.lst [])) q1 (.tup [.ref D, .ref e1])) e2 (.lst [])) q2 (.tup [.ref e2, .ref Dt])))
      have hl4F : upd (upd (upd (upd (upd (upd Ha e1 (.lst [])) q1 (.tup [.ref D, .ref e1])) e2 (.lst [])) q2 (.tup [.ref e2, .ref Dt])) q3 (.tup [.ref D, .ref Dt])) l4 (.lst [.ref q1, .ref q2, .ref q3]) l4 = some (.lst [.ref q1, .ref q2, .ref q3]) := upd_same
      have sAF := sA.trans sBF
      generalize upd (upd (upd (upd (upd (upd Ha e1 (.lst [])) q1 (.tup [.ref D, .ref e1])) e2 (.lst [])) q2 (.tup [.ref e2, .ref Dt])) q3 (.tup [.ref D, .ref Dt])) l4 (.lst [.ref q1, .ref q2, .ref q3]) = Hz at he1F hq1F he2F hq2F hq3F hl4F sAF
      have Tz := Ta.same sAF
      have Mz := Mk'.same sAF
      have hLz := sAF _ _ hLa
      have rpz := rpa.keep (Tk.of sAF)
      have hDz := sAF _ _ hD
      have rvz := rvs.keep (Tk.of sAF)
      have hDtz := sAF _ _ hDta
      have rvtz := rvta.keep (Tk.of sAF)
      clear sA sB sC sD sE sF sDF sBF
      walk_at "rd"
      refine ⟨l4, rfl, ⟨_, SqL.of hl4F⟩, ?_⟩
      refine for_inv (walk_list (xs := [.ref q1, .ref q2, .ref q3])) (fun j σ' H' => (∃ (c10 c11 c12 : Option V), σ' = [some (.ref a), some (.ref t), some (.int (0 + (i : Int))), some (.ref L), some (.int b), some (.ref x), some (.int hd), some (.ref D), some (.ref Dt), c9, c10, c11, c12]) ∧ Same Hz H') ⟨⟨_, _, _, rfl⟩, Same.refl _⟩ (fun i σ' H' _ p => SqL.of (p.2 _ _ hl4F)) ?_ ?_
      · rintro B3 j y σ3 H70 Hb hj ⟨⟨c10, c11, c12, rfl⟩, sb⟩ ⟨rfl, hy⟩
        obtain ⟨q, la, lb, ss, ts, st0, to0, rfl, hq, hla, rss, l9a, hlb, rts, l9b, w0⟩ : ∃ (q la lb : Addr) (ss ts : List V) (st0 : List St4) (to0 : List (Int × Int × Int × Str)), y = .ref q ∧ Hb q = some (.tup [.ref la, .ref lb]) ∧ Hb la = some (.lst ss) ∧ RpAll Hb ss (st0.map stD) ∧ st0.length ≤ 900 ∧ Hb lb = some (.lst ts) ∧ RpAll Hb ts (to0.map toD) ∧ to0.length ≤ 900 ∧ ∀ t ∈ to0, t.2.2.2 = ("r" : Str) ∨ t.2.2.2 = ("w" : Str) := by
          have cj : j = 0 ∨ j = 1 ∨ j = 2 := by simp at hj; omega
          rcases cj with rfl | rfl | rfl
          · cases hy
            exact ⟨q1, D, e1, vs, [], st', [], rfl, sb _ _ hq1F, sb _ _ hDz, rvz.keep (Tk.of sb), by omega, sb _ _ he1F, .nil, by decide, fun t ht => (nomatch ht)⟩
          · cases hy
            exact ⟨q2, e2, Dt, [], vt, [], to, rfl, sb _ _ hq2F, sb _ _ he2F, .nil, by decide, sb _ _ hDtz, rvtz.keep (Tk.of sb), by omega, wto⟩
          · cases hy
            exact ⟨q3, D, Dt, vs, vt, st', to, rfl, sb _ _ hq3F, sb _ _ hDz, rvz.keep (Tk.of sb), by omega, sb _ _ hDtz, rvtz.keep (Tk.of sb), by omega, wto⟩
        walk_at "rd"
        refine ⟨x, la, lb, us, xs, b, hd, ss, ts, st0, to0, rfl, Mz.same sb, hla, rss, l9a, hlb, rts, l9b, hfx, by omega, by omega, fun Hc sc => ?_⟩
        have sbc := sb.trans sc
        walk_at "rd"
        refine ⟨L, la, lb, us, ss, ts, xs, b, hd, st0, to0, rfl, sbc _ _ hLz, rpz.keep (Tk.of sbc), hfx, sc _ _ hla, rss.keep (Tk.of sc), l9a, sc _ _ hlb, rts.keep (Tk.of sc), l9b, w0, by omega, by omega, fun Hd sd => ?_⟩
        walk_at "rd"
        rw [decide_eq_true rfl]
        refine rd_ifbF rfl ?_
        walk_at "rd"
        exact ⟨⟨_, _, _, rfl⟩, sbc.trans sd⟩
      rintro σ3 Hb ⟨⟨c10, c11, c12, rfl⟩, sb⟩
      walk_at "rd"
      exact ⟨⟨_, _, _, _, _, _, _, _, _, _, _, rfl⟩, (Tz.same sb).mono (by omega)⟩
    rintro σ1 H6 ⟨⟨c2, c3, c4, c5, c6, c7, c8, c9, c10, c11, c12, rfl⟩, _⟩
    walk_at "rd"
    exact k _

end
end Rg

namespace Rg
open PySem PySem.Spec L2
theorem all_mk {l : PySem.W.OpenLaw} {w : World} {K : PySem.W.Frag} {h : Heap} {mg : Str → Option Value} {fa : Addr} (X : K.In h) (G : h.Ns mainGlobals mg) (hfa : mg "law" = some (.ref fa))
    {f1 : Addr} {od1 an1 : Option Addr} {sl1 : Array (Option Value)} {oc1 kV1 dc1 pm1 cd1 ct1 : Value}
    {f2 : Addr} {od2 an2 : Option Addr} {sl2 : Array (Option Value)} {oc2 kV2 dc2 pm2 cd2 ct2 : Value}
    {f3 : Addr} {od3 an3 : Option Addr} {sl3 : Array (Option Value)} {oc3 kV3 dc3 pm3 cd3 ct3 : Value}
    {f4 : Addr} {od4 an4 : Option Addr} {sl4 : Array (Option Value)} {oc4 kV4 dc4 pm4 cd4 ct4 : Value}
    {f5 : Addr} {od5 an5 : Option Addr} {sl5 : Array (Option Value)} {oc5 kV5 dc5 pm5 cd5 ct5 : Value}
    {f6 : Addr} {od6 an6 : Option Addr} {sl6 : Array (Option Value)} {oc6 kV6 dc6 pm6 cd6 ct6 : Value}
    {f7 : Addr} {od7 an7 : Option Addr} {sl7 : Array (Option Value)} {oc7 kV7 dc7 pm7 cd7 ct7 : Value}
    {f8 : Addr} {od8 an8 : Option Addr} {sl8 : Array (Option Value)} {oc8 kV8 dc8 pm8 cd8 ct8 : Value}
    {f9 : Addr} {od9 an9 : Option Addr} {sl9 : Array (Option Value)} {oc9 kV9 dc9 pm9 cd9 ct9 : Value}
    {f10 : Addr} {od10 an10 : Option Addr} {sl10 : Array (Option Value)} {oc10 kV10 dc10 pm10 cd10 ct10 : Value}
    {f11 : Addr} {od11 an11 : Option Addr} {sl11 : Array (Option Value)} {oc11 kV11 dc11 pm11 cd11 ct11 : Value}
    {f12 : Addr} {od12 an12 : Option Addr} {sl12 : Array (Option Value)} {oc12 kV12 dc12 pm12 cd12 ct12 : Value}
    {f13 : Addr} {od13 an13 : Option Addr} {sl13 : Array (Option Value)} {oc13 kV13 dc13 pm13 cd13 ct13 : Value}
    {f14 : Addr} {od14 an14 : Option Addr} {sl14 : Array (Option Value)} {oc14 kV14 dc14 pm14 cd14 ct14 : Value}
    {f15 : Addr} {od15 an15 : Option Addr} {sl15 : Array (Option Value)} {oc15 kV15 dc15 pm15 cd15 ct15 : Value}
    {f16 : Addr} {od16 an16 : Option Addr} {sl16 : Array (Option Value)} {oc16 kV16 dc16 pm16 cd16 ct16 : Value}
    {f17 : Addr} {od17 an17 : Option Addr} {sl17 : Array (Option Value)} {oc17 kV17 dc17 pm17 cd17 ct17 : Value}
    {f18 : Addr} {od18 an18 : Option Addr} {sl18 : Array (Option Value)} {oc18 kV18 dc18 pm18 cd18 ct18 : Value}
    {f19 : Addr} {od19 an19 : Option Addr} {sl19 : Array (Option Value)} {oc19 kV19 dc19 pm19 cd19 ct19 : Value}
    {f20 : Addr} {od20 an20 : Option Addr} {sl20 : Array (Option Value)} {oc20 kV20 dc20 pm20 cd20 ct20 : Value}
    {f21 : Addr} {od21 an21 : Option Addr} {sl21 : Array (Option Value)} {oc21 kV21 dc21 pm21 cd21 ct21 : Value}
    {f22 : Addr} {od22 an22 : Option Addr} {sl22 : Array (Option Value)} {oc22 kV22 dc22 pm22 cd22 ct22 : Value}
    {f23 : Addr} {od23 an23 : Option Addr} {sl23 : Array (Option Value)} {oc23 kV23 dc23 pm23 cd23 ct23 : Value}
    {f24 : Addr} {od24 an24 : Option Addr} {sl24 : Array (Option Value)} {oc24 kV24 dc24 pm24 cd24 ct24 : Value}
    {f25 : Addr} {od25 an25 : Option Addr} {sl25 : Array (Option Value)} {oc25 kV25 dc25 pm25 cd25 ct25 : Value}
    {f26 : Addr} {od26 an26 : Option Addr} {sl26 : Array (Option Value)} {oc26 kV26 dc26 pm26 cd26 ct26 : Value}
    {f27 : Addr} {od27 an27 : Option Addr} {sl27 : Array (Option Value)} {oc27 kV27 dc27 pm27 cd27 ct27 : Value}
    {f28 : Addr} {od28 an28 : Option Addr} {sl28 : Array (Option Value)} {oc28 kV28 dc28 pm28 cd28 ct28 : Value}
    {f29 : Addr} {od29 an29 : Option Addr} {sl29 : Array (Option Value)} {oc29 kV29 dc29 pm29 cd29 ct29 : Value}
    {f30 : Addr} {od30 an30 : Option Addr} {sl30 : Array (Option Value)} {oc30 kV30 dc30 pm30 cd30 ct30 : Value}
    {f31 : Addr} {od31 an31 : Option Addr} {sl31 : Array (Option Value)} {oc31 kV31 dc31 pm31 cd31 ct31 : Value}
    {f32 : Addr} {od32 an32 : Option Addr} {sl32 : Array (Option Value)} {oc32 kV32 dc32 pm32 cd32 ct32 : Value}
    {f33 : Addr} {od33 an33 : Option Addr} {sl33 : Array (Option Value)} {oc33 kV33 dc33 pm33 cd33 ct33 : Value}
    {f34 : Addr} {od34 an34 : Option Addr} {sl34 : Array (Option Value)} {oc34 kV34 dc34 pm34 cd34 ct34 : Value}
    {f35 : Addr} {od35 an35 : Option Addr} {sl35 : Array (Option Value)} {oc35 kV35 dc35 pm35 cd35 ct35 : Value}
    {f36 : Addr} {od36 an36 : Option Addr} {sl36 : Array (Option Value)} {oc36 kV36 dc36 pm36 cd36 ct36 : Value}
    {f37 : Addr} {od37 an37 : Option Addr} {sl37 : Array (Option Value)} {oc37 kV37 dc37 pm37 cd37 ct37 : Value}
    {f38 : Addr} {od38 an38 : Option Addr} {sl38 : Array (Option Value)} {oc38 kV38 dc38 pm38 cd38 ct38 : Value}
    {f39 : Addr} {od39 an39 : Option Addr} {sl39 : Array (Option Value)} {oc39 kV39 dc39 pm39 cd39 ct39 : Value}
    {f40 : Addr} {od40 an40 : Option Addr} {sl40 : Array (Option Value)} {oc40 kV40 dc40 pm40 cd40 ct40 : Value}
    {C : Addr}
    {f41 : Addr} {od41 an41 : Option Addr} {sl41 : Array (Option Value)} {oc41 kV41 dc41 pm41 cd41 ct41 : Value}
    {f42 : Addr} {od42 an42 : Option Addr} {sl42 : Array (Option Value)} {oc42 kV42 dc42 pm42 cd42 ct42 : Value}
    {f43 : Addr} {od43 an43 : Option Addr} {sl43 : Array (Option Value)} {oc43  dc43 pm43 cd43 ct43 : Value}
    {D43 : Addr} {tk43 : Tok}
    {CF : Addr} {nm_F q_F : Str} {N_F : Addr} {bs_F : List Value} {sn_F : _} {sub_F : _} {ab_F : _} {col_F : _} {dd_F : _} {k0_F k1_F k2_F k3_F k5_F : _}
    {f44 : Addr} {od44 an44 : Option Addr} {sl44 : Array (Option Value)} {oc44 kV44 dc44 pm44 cd44 ct44 : Value}
    {t45 : Tok}
    {t46 : Tok}
    {t47 : Tok}
    {t48 : Tok}
    {t49 : Tok}
    {t50 : Tok}
    {R : Addr} {es : Array DictEntry} {nR : Nat}
    {q0 : Tok}
    {q1 : Tok}
    {q2 : Tok}
    {q3 : Tok}
    {q4 : Tok}
    {q5 : Tok}
    {q6 : Tok}
    {q7 : Tok}
    {q8 : Tok}
    {q9 : Tok}
    {q10 : Tok}
    {q11 : Tok}
    {TT : Addr} {dT : Option Addr} {nT : Nat} {slT : Array (Option Value)} {u0 : Tok} {u1 : Tok} {u2 : Tok} {u3 : Tok} {u4 : Tok} {u5 : Tok} {u6 : Tok} {u7 : Tok}
    (a1 : PySem.W.nsIn K mainGlobals "is_whole" = some (some (.ref f1)))
    (l1 : K.lookup f1 = some ⟨oc1, od1, .func (PySem.W.fnOf "is_whole" "is_whole" (defArgs s_is_whole) (defBody s_is_whole) (defScope s_is_whole) .none kV1 dc1 pm1 an1 cd1 ct1), sl1⟩)
    (c1 : PySem.W.codeIn K cd1 "is_whole" = true)
    (k1 : PySem.W.keepIn K (.ref f1) = true)
    (a2 : PySem.W.nsIn K mainGlobals "is_below" = some (some (.ref f2)))
    (l2 : K.lookup f2 = some ⟨oc2, od2, .func (PySem.W.fnOf "is_below" "is_below" (defArgs s_is_below) (defBody s_is_below) (defScope s_is_below) .none kV2 dc2 pm2 an2 cd2 ct2), sl2⟩)
    (c2 : PySem.W.codeIn K cd2 "is_below" = true)
    (k2 : PySem.W.keepIn K (.ref f2) = true)
    (a3 : PySem.W.nsIn K mainGlobals "is_ring" = some (some (.ref f3)))
    (l3 : K.lookup f3 = some ⟨oc3, od3, .func (PySem.W.fnOf "is_ring" "is_ring" (defArgs s_is_ring) (defBody s_is_ring) (defScope s_is_ring) .none kV3 dc3 pm3 an3 cd3 ct3), sl3⟩)
    (c3 : PySem.W.codeIn K cd3 "is_ring" = true)
    (k3 : PySem.W.keepIn K (.ref f3) = true)
    (a4 : PySem.W.nsIn K mainGlobals "number_fits" = some (some (.ref f4)))
    (l4 : K.lookup f4 = some ⟨oc4, od4, .func (PySem.W.fnOf "number_fits" "number_fits" (defArgs s_number_fits) (defBody s_number_fits) (defScope s_number_fits) .none kV4 dc4 pm4 an4 cd4 ct4), sl4⟩)
    (c4 : PySem.W.codeIn K cd4 "number_fits" = true)
    (k4 : PySem.W.keepIn K (.ref f4) = true)
    (a5 : PySem.W.nsIn K mainGlobals "row_fits" = some (some (.ref f5)))
    (l5 : K.lookup f5 = some ⟨oc5, od5, .func (PySem.W.fnOf "row_fits" "row_fits" (defArgs s_row_fits) (defBody s_row_fits) (defScope s_row_fits) .none kV5 dc5 pm5 an5 cd5 ct5), sl5⟩)
    (c5 : PySem.W.codeIn K cd5 "row_fits" = true)
    (k5 : PySem.W.keepIn K (.ref f5) = true)
    (a6 : PySem.W.nsIn K mainGlobals "word_fits" = some (some (.ref f6)))
    (l6 : K.lookup f6 = some ⟨oc6, od6, .func (PySem.W.fnOf "word_fits" "word_fits" (defArgs s_word_fits) (defBody s_word_fits) (defScope s_word_fits) .none kV6 dc6 pm6 an6 cd6 ct6), sl6⟩)
    (c6 : PySem.W.codeIn K cd6 "word_fits" = true)
    (k6 : PySem.W.keepIn K (.ref f6) = true)
    (a7 : PySem.W.nsIn K mainGlobals "brackets_fit" = some (some (.ref f7)))
    (l7 : K.lookup f7 = some ⟨oc7, od7, .func (PySem.W.fnOf "brackets_fit" "brackets_fit" (defArgs s_brackets_fit) (defBody s_brackets_fit) (defScope s_brackets_fit) .none kV7 dc7 pm7 an7 cd7 ct7), sl7⟩)
    (c7 : PySem.W.codeIn K cd7 "brackets_fit" = true)
    (k7 : PySem.W.keepIn K (.ref f7) = true)
    (a8 : PySem.W.nsIn K mainGlobals "segment_fits" = some (some (.ref f8)))
    (l8 : K.lookup f8 = some ⟨oc8, od8, .func (PySem.W.fnOf "segment_fits" "segment_fits" (defArgs s_segment_fits) (defBody s_segment_fits) (defScope s_segment_fits) .none kV8 dc8 pm8 an8 cd8 ct8), sl8⟩)
    (c8 : PySem.W.codeIn K cd8 "segment_fits" = true)
    (k8 : PySem.W.keepIn K (.ref f8) = true)
    (a9 : PySem.W.nsIn K mainGlobals "may_read" = some (some (.ref f9)))
    (l9 : K.lookup f9 = some ⟨oc9, od9, .func (PySem.W.fnOf "may_read" "may_read" (defArgs s_may_read) (defBody s_may_read) (defScope s_may_read) .none kV9 dc9 pm9 an9 cd9 ct9), sl9⟩)
    (c9 : PySem.W.codeIn K cd9 "may_read" = true)
    (k9 : PySem.W.keepIn K (.ref f9) = true)
    (a10 : PySem.W.nsIn K mainGlobals "may_write" = some (some (.ref f10)))
    (l10 : K.lookup f10 = some ⟨oc10, od10, .func (PySem.W.fnOf "may_write" "may_write" (defArgs s_may_write) (defBody s_may_write) (defScope s_may_write) .none kV10 dc10 pm10 an10 cd10 ct10), sl10⟩)
    (c10 : PySem.W.codeIn K cd10 "may_write" = true)
    (k10 : PySem.W.keepIn K (.ref f10) = true)
    (a11 : PySem.W.nsIn K mainGlobals "entered" = some (some (.ref f11)))
    (l11 : K.lookup f11 = some ⟨oc11, od11, .func (PySem.W.fnOf "entered" "entered" (defArgs s_entered) (defBody s_entered) (defScope s_entered) .none kV11 dc11 pm11 an11 cd11 ct11), sl11⟩)
    (c11 : PySem.W.codeIn K cd11 "entered" = true)
    (k11 : PySem.W.keepIn K (.ref f11) = true)
    (a12 : PySem.W.nsIn K mainGlobals "_law_deck" = some (some (.ref f12)))
    (l12 : K.lookup f12 = some ⟨oc12, od12, .func (PySem.W.fnOf "_law_deck" "_law_deck" (defArgs s_law_deck) (defBody s_law_deck) (defScope s_law_deck) .none kV12 dc12 pm12 an12 cd12 ct12), sl12⟩)
    (c12 : PySem.W.codeIn K cd12 "_law_deck" = true)
    (k12 : PySem.W.keepIn K (.ref f12) = true)
    (a13 : PySem.W.nsIn K mainGlobals "_law_take" = some (some (.ref f13)))
    (l13 : K.lookup f13 = some ⟨oc13, od13, .func (PySem.W.fnOf "_law_take" "_law_take" (defArgs s_law_take) (defBody s_law_take) (defScope s_law_take) .none kV13 dc13 pm13 an13 cd13 ct13), sl13⟩)
    (c13 : PySem.W.codeIn K cd13 "_law_take" = true)
    (k13 : PySem.W.keepIn K (.ref f13) = true)
    (a14 : PySem.W.nsIn K mainGlobals "_law_number" = some (some (.ref f14)))
    (l14 : K.lookup f14 = some ⟨oc14, od14, .func (PySem.W.fnOf "_law_number" "_law_number" (defArgs s_law_number) (defBody s_law_number) (defScope s_law_number) .none kV14 dc14 pm14 an14 cd14 ct14), sl14⟩)
    (c14 : PySem.W.codeIn K cd14 "_law_number" = true)
    (k14 : PySem.W.keepIn K (.ref f14) = true)
    (a15 : PySem.W.nsIn K mainGlobals "_law_word" = some (some (.ref f15)))
    (l15 : K.lookup f15 = some ⟨oc15, od15, .func (PySem.W.fnOf "_law_word" "_law_word" (defArgs s_law_word) (defBody s_law_word) (defScope s_law_word) .none kV15 dc15 pm15 an15 cd15 ct15), sl15⟩)
    (c15 : PySem.W.codeIn K cd15 "_law_word" = true)
    (k15 : PySem.W.keepIn K (.ref f15) = true)
    (a16 : PySem.W.nsIn K mainGlobals "_law_row" = some (some (.ref f16)))
    (l16 : K.lookup f16 = some ⟨oc16, od16, .func (PySem.W.fnOf "_law_row" "_law_row" (defArgs s_law_row) (defBody s_law_row) (defScope s_law_row) .none kV16 dc16 pm16 an16 cd16 ct16), sl16⟩)
    (c16 : PySem.W.codeIn K cd16 "_law_row" = true)
    (k16 : PySem.W.keepIn K (.ref f16) = true)
    (a17 : PySem.W.nsIn K mainGlobals "_law_segment" = some (some (.ref f17)))
    (l17 : K.lookup f17 = some ⟨oc17, od17, .func (PySem.W.fnOf "_law_segment" "_law_segment" (defArgs s_law_segment) (defBody s_law_segment) (defScope s_law_segment) .none kV17 dc17 pm17 an17 cd17 ct17), sl17⟩)
    (c17 : PySem.W.codeIn K cd17 "_law_segment" = true)
    (k17 : PySem.W.keepIn K (.ref f17) = true)
    (a18 : PySem.W.nsIn K mainGlobals "_law_machine" = some (some (.ref f18)))
    (l18 : K.lookup f18 = some ⟨oc18, od18, .func (PySem.W.fnOf "_law_machine" "_law_machine" (defArgs s_law_machine) (defBody s_law_machine) (defScope s_law_machine) .none kV18 dc18 pm18 an18 cd18 ct18), sl18⟩)
    (c18 : PySem.W.codeIn K cd18 "_law_machine" = true)
    (k18 : PySem.W.keepIn K (.ref f18) = true)
    (a19 : PySem.W.nsIn K mainGlobals "may_run" = some (some (.ref f19)))
    (l19 : K.lookup f19 = some ⟨oc19, od19, .func (PySem.W.fnOf "may_run" "may_run" (defArgs s_may_run) (defBody s_may_run) (defScope s_may_run) .none kV19 dc19 pm19 an19 cd19 ct19), sl19⟩)
    (c19 : PySem.W.codeIn K cd19 "may_run" = true)
    (k19 : PySem.W.keepIn K (.ref f19) = true)
    (a20 : PySem.W.nsIn K mainGlobals "touch_fits" = some (some (.ref f20)))
    (l20 : K.lookup f20 = some ⟨oc20, od20, .func (PySem.W.fnOf "touch_fits" "touch_fits" (defArgs s_touch_fits) (defBody s_touch_fits) (defScope s_touch_fits) .none kV20 dc20 pm20 an20 cd20 ct20), sl20⟩)
    (c20 : PySem.W.codeIn K cd20 "touch_fits" = true)
    (k20 : PySem.W.keepIn K (.ref f20) = true)
    (a21 : PySem.W.nsIn K mainGlobals "step_fits" = some (some (.ref f21)))
    (l21 : K.lookup f21 = some ⟨oc21, od21, .func (PySem.W.fnOf "step_fits" "step_fits" (defArgs s_step_fits) (defBody s_step_fits) (defScope s_step_fits) .none kV21 dc21 pm21 an21 cd21 ct21), sl21⟩)
    (c21 : PySem.W.codeIn K cd21 "step_fits" = true)
    (k21 : PySem.W.keepIn K (.ref f21) = true)
    (a22 : PySem.W.nsIn K mainGlobals "ring_led_to" = some (some (.ref f22)))
    (l22 : K.lookup f22 = some ⟨oc22, od22, .func (PySem.W.fnOf "ring_led_to" "ring_led_to" (defArgs s_ring_led_to) (defBody s_ring_led_to) (defScope s_ring_led_to) .none kV22 dc22 pm22 an22 cd22 ct22), sl22⟩)
    (c22 : PySem.W.codeIn K cd22 "ring_led_to" = true)
    (k22 : PySem.W.keepIn K (.ref f22) = true)
    (a23 : PySem.W.nsIn K mainGlobals "is_entered" = some (some (.ref f23)))
    (l23 : K.lookup f23 = some ⟨oc23, od23, .func (PySem.W.fnOf "is_entered" "is_entered" (defArgs s_is_entered) (defBody s_is_entered) (defScope s_is_entered) .none kV23 dc23 pm23 an23 cd23 ct23), sl23⟩)
    (c23 : PySem.W.codeIn K cd23 "is_entered" = true)
    (k23 : PySem.W.keepIn K (.ref f23) = true)
    (a24 : PySem.W.nsIn K mainGlobals "is_come_back_to" = some (some (.ref f24)))
    (l24 : K.lookup f24 = some ⟨oc24, od24, .func (PySem.W.fnOf "is_come_back_to" "is_come_back_to" (defArgs s_is_come_back_to) (defBody s_is_come_back_to) (defScope s_is_come_back_to) .none kV24 dc24 pm24 an24 cd24 ct24), sl24⟩)
    (c24 : PySem.W.codeIn K cd24 "is_come_back_to" = true)
    (k24 : PySem.W.keepIn K (.ref f24) = true)
    (a25 : PySem.W.nsIn K mainGlobals "follows" = some (some (.ref f25)))
    (l25 : K.lookup f25 = some ⟨oc25, od25, .func (PySem.W.fnOf "follows" "follows" (defArgs s_follows) (defBody s_follows) (defScope s_follows) .none kV25 dc25 pm25 an25 cd25 ct25), sl25⟩)
    (c25 : PySem.W.codeIn K cd25 "follows" = true)
    (k25 : PySem.W.keepIn K (.ref f25) = true)
    (a26 : PySem.W.nsIn K mainGlobals "begins_well" = some (some (.ref f26)))
    (l26 : K.lookup f26 = some ⟨oc26, od26, .func (PySem.W.fnOf "begins_well" "begins_well" (defArgs s_begins_well) (defBody s_begins_well) (defScope s_begins_well) .none kV26 dc26 pm26 an26 cd26 ct26), sl26⟩)
    (c26 : PySem.W.codeIn K cd26 "begins_well" = true)
    (k26 : PySem.W.keepIn K (.ref f26) = true)
    (a27 : PySem.W.nsIn K mainGlobals "goes_on_well" = some (some (.ref f27)))
    (l27 : K.lookup f27 = some ⟨oc27, od27, .func (PySem.W.fnOf "goes_on_well" "goes_on_well" (defArgs s_goes_on_well) (defBody s_goes_on_well) (defScope s_goes_on_well) .none kV27 dc27 pm27 an27 cd27 ct27), sl27⟩)
    (c27 : PySem.W.codeIn K cd27 "goes_on_well" = true)
    (k27 : PySem.W.keepIn K (.ref f27) = true)
    (a28 : PySem.W.nsIn K mainGlobals "keeps" = some (some (.ref f28)))
    (l28 : K.lookup f28 = some ⟨oc28, od28, .func (PySem.W.fnOf "keeps" "keeps" (defArgs s_keeps) (defBody s_keeps) (defScope s_keeps) .none kV28 dc28 pm28 an28 cd28 ct28), sl28⟩)
    (c28 : PySem.W.codeIn K cd28 "keeps" = true)
    (k28 : PySem.W.keepIn K (.ref f28) = true)
    (a29 : PySem.W.nsIn K mainGlobals "_law_segment_at" = some (some (.ref f29)))
    (l29 : K.lookup f29 = some ⟨oc29, od29, .func (PySem.W.fnOf "_law_segment_at" "_law_segment_at" (defArgs s_law_segment_at) (defBody s_law_segment_at) (defScope s_law_segment_at) .none kV29 dc29 pm29 an29 cd29 ct29), sl29⟩)
    (c29 : PySem.W.codeIn K cd29 "_law_segment_at" = true)
    (k29 : PySem.W.keepIn K (.ref f29) = true)
    (a30 : PySem.W.nsIn K mainGlobals "_law_touch_good" = some (some (.ref f30)))
    (l30 : K.lookup f30 = some ⟨oc30, od30, .func (PySem.W.fnOf "_law_touch_good" "_law_touch_good" (defArgs s_law_touch_good) (defBody s_law_touch_good) (defScope s_law_touch_good) .none kV30 dc30 pm30 an30 cd30 ct30), sl30⟩)
    (c30 : PySem.W.codeIn K cd30 "_law_touch_good" = true)
    (k30 : PySem.W.keepIn K (.ref f30) = true)
    (a31 : PySem.W.nsIn K mainGlobals "_law_step_row" = some (some (.ref f31)))
    (l31 : K.lookup f31 = some ⟨oc31, od31, .func (PySem.W.fnOf "_law_step_row" "_law_step_row" (defArgs s_law_step_row) (defBody s_law_step_row) (defScope s_law_step_row) .none kV31 dc31 pm31 an31 cd31 ct31), sl31⟩)
    (c31 : PySem.W.codeIn K cd31 "_law_step_row" = true)
    (k31 : PySem.W.keepIn K (.ref f31) = true)
    (a32 : PySem.W.nsIn K mainGlobals "_law_led" = some (some (.ref f32)))
    (l32 : K.lookup f32 = some ⟨oc32, od32, .func (PySem.W.fnOf "_law_led" "_law_led" (defArgs s_law_led) (defBody s_law_led) (defScope s_law_led) .none kV32 dc32 pm32 an32 cd32 ct32), sl32⟩)
    (c32 : PySem.W.codeIn K cd32 "_law_led" = true)
    (k32 : PySem.W.keepIn K (.ref f32) = true)
    (a33 : PySem.W.nsIn K mainGlobals "_law_entered" = some (some (.ref f33)))
    (l33 : K.lookup f33 = some ⟨oc33, od33, .func (PySem.W.fnOf "_law_entered" "_law_entered" (defArgs s_law_entered) (defBody s_law_entered) (defScope s_law_entered) .none kV33 dc33 pm33 an33 cd33 ct33), sl33⟩)
    (c33 : PySem.W.codeIn K cd33 "_law_entered" = true)
    (k33 : PySem.W.keepIn K (.ref f33) = true)
    (a34 : PySem.W.nsIn K mainGlobals "_law_behind" = some (some (.ref f34)))
    (l34 : K.lookup f34 = some ⟨oc34, od34, .func (PySem.W.fnOf "_law_behind" "_law_behind" (defArgs s_law_behind) (defBody s_law_behind) (defScope s_law_behind) .none kV34 dc34 pm34 an34 cd34 ct34), sl34⟩)
    (c34 : PySem.W.codeIn K cd34 "_law_behind" = true)
    (k34 : PySem.W.keepIn K (.ref f34) = true)
    (a35 : PySem.W.nsIn K mainGlobals "_law_keeps" = some (some (.ref f35)))
    (l35 : K.lookup f35 = some ⟨oc35, od35, .func (PySem.W.fnOf "_law_keeps" "_law_keeps" (defArgs s_law_keeps) (defBody s_law_keeps) (defScope s_law_keeps) .none kV35 dc35 pm35 an35 cd35 ct35), sl35⟩)
    (c35 : PySem.W.codeIn K cd35 "_law_keeps" = true)
    (k35 : PySem.W.keepIn K (.ref f35) = true)
    (a36 : PySem.W.nsIn K mainGlobals "_law_spoilt" = some (some (.ref f36)))
    (l36 : K.lookup f36 = some ⟨oc36, od36, .func (PySem.W.fnOf "_law_spoilt" "_law_spoilt" (defArgs s_law_spoilt) (defBody s_law_spoilt) (defScope s_law_spoilt) .none kV36 dc36 pm36 an36 cd36 ct36), sl36⟩)
    (c36 : PySem.W.codeIn K cd36 "_law_spoilt" = true)
    (k36 : PySem.W.keepIn K (.ref f36) = true)
    (a37 : PySem.W.nsIn K mainGlobals "_law_entry_drawn" = some (some (.ref f37)))
    (l37 : K.lookup f37 = some ⟨oc37, od37, .func (PySem.W.fnOf "_law_entry_drawn" "_law_entry_drawn" (defArgs s_law_entry_drawn) (defBody s_law_entry_drawn) (defScope s_law_entry_drawn) .none kV37 dc37 pm37 an37 cd37 ct37), sl37⟩)
    (c37 : PySem.W.codeIn K cd37 "_law_entry_drawn" = true)
    (k37 : PySem.W.keepIn K (.ref f37) = true)
    (a38 : PySem.W.nsIn K mainGlobals "_law_steps_drawn" = some (some (.ref f38)))
    (l38 : K.lookup f38 = some ⟨oc38, od38, .func (PySem.W.fnOf "_law_steps_drawn" "_law_steps_drawn" (defArgs s_law_steps_drawn) (defBody s_law_steps_drawn) (defScope s_law_steps_drawn) .none kV38 dc38 pm38 an38 cd38 ct38), sl38⟩)
    (c38 : PySem.W.codeIn K cd38 "_law_steps_drawn" = true)
    (k38 : PySem.W.keepIn K (.ref f38) = true)
    (a39 : PySem.W.nsIn K mainGlobals "_law_touches_drawn" = some (some (.ref f39)))
    (l39 : K.lookup f39 = some ⟨oc39, od39, .func (PySem.W.fnOf "_law_touches_drawn" "_law_touches_drawn" (defArgs s_law_touches_drawn) (defBody s_law_touches_drawn) (defScope s_law_touches_drawn) .none kV39 dc39 pm39 an39 cd39 ct39), sl39⟩)
    (c39 : PySem.W.codeIn K cd39 "_law_touches_drawn" = true)
    (k39 : PySem.W.keepIn K (.ref f39) = true)
    (a40 : PySem.W.nsIn K mainGlobals "law" = some (some (.ref f40)))
    (l40 : K.lookup f40 = some ⟨oc40, od40, .func (PySem.W.fnOf "law" "law" (defArgs s_law) (defBody s_law) (defScope s_law) .none kV40 dc40 pm40 an40 cd40 ct40), sl40⟩)
    (c40 : PySem.W.codeIn K cd40 "law" = true)
    (k40 : PySem.W.keepIn K (.ref f40) = true)
    (aC : PySem.W.nsIn K mainGlobals "Machine" = some (some (.ref C)))
    (pg : PySem.W.plainGet K C Str.empty = true)
    (hd : PySem.W.hasDictIn K C = true)
    (po : PySem.W.plainOver K C = true)
    (sa : PySem.W.findIn K (.ref C) "__setattr__" = some (some (.builtin "object.__setattr__")))
    (mk : PySem.W.makesIn K C = true)
    (kc : PySem.W.keepIn K (.ref C) = true)
    (nS : PySem.W.findIn K (.ref C) "segments" = some none)
    (nB : PySem.W.findIn K (.ref C) "base" = some none)
    (a41 : PySem.W.findIn K (.ref C) "segment" = some (some (.ref f41)))
    (l41 : K.lookup f41 = some ⟨oc41, od41, .func (PySem.W.fnOf "segment" "Machine.segment" (defArgs s_Machine_segment) (defBody s_Machine_segment) (defScope s_Machine_segment) .none kV41 dc41 pm41 an41 cd41 ct41), sl41⟩)
    (c41 : PySem.W.codeIn K cd41 "Machine.segment" = true)
    (k41 : PySem.W.keepIn K (.ref f41) = true)
    (i41 : PySem.W.isFn K (.ref f41) = true)
    (a42 : PySem.W.findIn K (.ref C) "__len__" = some (some (.ref f42)))
    (l42 : K.lookup f42 = some ⟨oc42, od42, .func (PySem.W.fnOf "__len__" "Machine.__len__" (defArgs s_Machine__len) (defBody s_Machine__len) (defScope s_Machine__len) .none kV42 dc42 pm42 an42 cd42 ct42), sl42⟩)
    (c42 : PySem.W.codeIn K cd42 "Machine.__len__" = true)
    (k42 : PySem.W.keepIn K (.ref f42) = true)
    (i42 : PySem.W.isFn K (.ref f42) = true)
    (a43 : PySem.W.findIn K (.ref C) "__init__" = some (some (.ref f43)))
    (l43 : K.lookup f43 = some ⟨oc43, od43, .func (PySem.W.fnOf "__init__" "Machine.__init__" (defArgs s_Machine__init) (defBody s_Machine__init) (defScope s_Machine__init) .none (.ref D43) dc43 pm43 an43 cd43 ct43), sl43⟩)
    (c43 : PySem.W.codeIn K cd43 "Machine.__init__" = true)
    (k43 : PySem.W.keepIn K (.ref f43) = true)
    (d43 : PySem.W.nsIn K D43 "base" = some (some (.int 16 tk43)))
    (i43 : PySem.W.isFn K (.ref f43) = true)
    (e_F : PySem.W.nsIn K mainGlobals "Fault" = some (some (.ref CF)))
    (x_F : K.lookup CF = some (excClassObj nm_F q_F CF N_F bs_F [.type "Exception", .type "BaseException", .type "object"] true sn_F sub_F ab_F col_F dd_F k0_F k1_F k2_F k3_F k5_F "Exception.__new__"))
    (a44 : PySem.W.findIn K (.ref CF) "__init__" = some (some (.ref f44)))
    (l44 : K.lookup f44 = some ⟨oc44, od44, .func (PySem.W.fnOf "__init__" "Fault.__init__" (defArgs s_Fault__init) (defBody s_Fault__init) (defScope s_Fault__init) .none kV44 dc44 pm44 an44 cd44 ct44), sl44⟩)
    (c44 : PySem.W.codeIn K cd44 "Fault.__init__" = true)
    (k44 : PySem.W.keepIn K (.ref f44) = true)
    (t_F : PySem.W.typeIn K (.ref f44) = some (.type "function"))
    (sa_F : PySem.W.findIn K (.ref CF) "__setattr__" = some (some (.builtin "object.__setattr__")))
    (be_F : PySem.W.subIn K (.ref CF) (.type "BaseException") = some true)
    (ty_F : PySem.W.typeIn K (.ref CF) = some (.type "type"))
    (kp_F : PySem.W.keepIn K (.ref CF) = true)
    (wh_F : PySem.W.findIn K (.ref CF) "cause" = some none)
    (ga_F : PySem.W.findIn K (.ref CF) "__getattribute__" = some (some (.builtin "BaseException.__getattribute__")))
    (gg_F : PySem.W.findIn K (.ref CF) "__getattr__" = some none)
    (hd_F : PySem.W.hasDictIn K CF = true)
    (em_F : PySem.W.exmOne K (.ref CF) (.ref CF) = some true)
    (gEx0 : PySem.W.nsIn K mainGlobals "Exception" = some none)
    (vEx : PySem.W.findCls K (.type "Exception") (.type "type") "__init__" = some (.val (.builtin "Exception.__init__")))
    (g45 : PySem.W.nsIn K mainGlobals "RINGS" = some (some (.int 8 t45)))
    (g46 : PySem.W.nsIn K mainGlobals "POINTERS" = some (some (.int 4 t46)))
    (g47 : PySem.W.nsIn K mainGlobals "MOST_SEGMENTS" = some (some (.int 8 t47)))
    (g48 : PySem.W.nsIn K mainGlobals "MOST_WORDS" = some (some (.int 16 t48)))
    (g49 : PySem.W.nsIn K mainGlobals "MOST_ROWS" = some (some (.int 24 t49)))
    (g50 : PySem.W.nsIn K mainGlobals "LEAST_BASE" = some (some (.int 2 t50)))
    (z51 : PySem.W.nsIn K mainGlobals "len" = some none)
    (z52 : PySem.W.nsIn K mainGlobals "range" = some none)
    (z53 : PySem.W.nsIn K mainGlobals "isinstance" = some none)
    (z54 : PySem.W.nsIn K mainGlobals "all" = some none)
    (z55 : PySem.W.nsIn K mainGlobals "max" = some none)
    (z56 : PySem.W.nsIn K mainGlobals "sorted" = some none)
    (z57 : PySem.W.nsIn K mainGlobals "tuple" = some none)
    (z58 : PySem.W.nsIn K mainGlobals "list" = some none)
    (z59 : PySem.W.nsIn K mainGlobals "int" = some none)
    (z60 : PySem.W.nsIn K mainGlobals "bool" = some none)
    (z61 : PySem.W.nsIn K mainGlobals "str" = some none)
    (z62 : PySem.W.nsIn K mainGlobals "enumerate" = some none)
    (z63 : PySem.W.nsIn K mainGlobals "zip" = some none)
    (z64 : PySem.W.nsIn K mainGlobals "sum" = some none)
    (z65 : PySem.W.nsIn K mainGlobals "min" = some none)
    (z66 : PySem.W.nsIn K mainGlobals "any" = some none)
    (z67 : PySem.W.nsIn K mainGlobals "abs" = some none)
    (aR : PySem.W.nsIn K mainGlobals "ROW_FORMS" = some (some (.ref R)))
    (lR : K.lookup R = some ⟨.type "dict", none, .dict es nR, #[]⟩)
    (kR : PySem.W.KeysLit w.params es.toList)
    (sR : (R == sysModules) = false)
    (r0 : PySem.W.nsIn K R "set" = some (some (.str "n" q0)))
    (r1 : PySem.W.nsIn K R "add" = some (some (.str "n" q1)))
    (r2 : PySem.W.nsIn K R "load" = some (some (.str "pn" q2)))
    (r3 : PySem.W.nsIn K R "store" = some (some (.str "pn" q3)))
    (r4 : PySem.W.nsIn K R "fetch" = some (some (.str "ppn" q4)))
    (r5 : PySem.W.nsIn K R "keep" = some (some (.str "ppn" q5)))
    (r6 : PySem.W.nsIn K R "aim" = some (some (.str "psn" q6)))
    (r7 : PySem.W.nsIn K R "move" = some (some (.str "ppn" q7)))
    (r8 : PySem.W.nsIn K R "zero" = some (some (.str "n" q8)))
    (r9 : PySem.W.nsIn K R "go" = some (some (.str "n" q9)))
    (r10 : PySem.W.nsIn K R "call" = some (some (.str "p" q10)))
    (r11 : PySem.W.nsIn K R "return" = some (some (.str "" q11)))
    (aT : PySem.W.nsIn K mainGlobals "RIGHTS" = some (some (.ref TT)))
    (lT : K.lookup TT = some ⟨.type "tuple", dT, .seq #[.str "" u0, .str "r" u1, .str "w" u2, .str "x" u3, .str "rw" u4, .str "rx" u5, .str "wx" u6, .str "rwx" u7] nT, slT⟩) :
    ∃ fd : FuncData, (∀ (s : Shared) (v : Value), BindsTo s fd ⟨[v], []⟩ [("script", v)]) ∧ ∀ base : Heap, K.In base → base.Ns mainGlobals mg → FnOk l.prog w K mg base CX0 9 fa fd ["script"] (spLaw K) := by
  have F_is_whole := fun_mk (st := s_is_whole) l1 c1 k1
  have m_is_whole := PySem.W.mg_of X G a1
  have F_is_below := fun_mk (st := s_is_below) l2 c2 k2
  have m_is_below := PySem.W.mg_of X G a2
  have F_is_ring := fun_mk (st := s_is_ring) l3 c3 k3
  have m_is_ring := PySem.W.mg_of X G a3
  have F_number_fits := fun_mk (st := s_number_fits) l4 c4 k4
  have m_number_fits := PySem.W.mg_of X G a4
  have F_row_fits := fun_mk (st := s_row_fits) l5 c5 k5
  have m_row_fits := PySem.W.mg_of X G a5
  have F_word_fits := fun_mk (st := s_word_fits) l6 c6 k6
  have m_word_fits := PySem.W.mg_of X G a6
  have F_brackets_fit := fun_mk (st := s_brackets_fit) l7 c7 k7
  have m_brackets_fit := PySem.W.mg_of X G a7
  have F_segment_fits := fun_mk (st := s_segment_fits) l8 c8 k8
  have m_segment_fits := PySem.W.mg_of X G a8
  have F_may_read := fun_mk (st := s_may_read) l9 c9 k9
  have m_may_read := PySem.W.mg_of X G a9
  have F_may_write := fun_mk (st := s_may_write) l10 c10 k10
  have m_may_write := PySem.W.mg_of X G a10
  have F_entered := fun_mk (st := s_entered) l11 c11 k11
  have m_entered := PySem.W.mg_of X G a11
  have F_law_deck := fun_mk (st := s_law_deck) l12 c12 k12
  have m_law_deck := PySem.W.mg_of X G a12
  have F_law_take := fun_mk (st := s_law_take) l13 c13 k13
  have m_law_take := PySem.W.mg_of X G a13
  have F_law_number := fun_mk (st := s_law_number) l14 c14 k14
  have m_law_number := PySem.W.mg_of X G a14
  have F_law_word := fun_mk (st := s_law_word) l15 c15 k15
  have m_law_word := PySem.W.mg_of X G a15
  have F_law_row := fun_mk (st := s_law_row) l16 c16 k16
  have m_law_row := PySem.W.mg_of X G a16
  have F_law_segment := fun_mk (st := s_law_segment) l17 c17 k17
  have m_law_segment := PySem.W.mg_of X G a17
  have F_law_machine := fun_mk (st := s_law_machine) l18 c18 k18
  have m_law_machine := PySem.W.mg_of X G a18
  have F_may_run := fun_mk (st := s_may_run) l19 c19 k19
  have m_may_run := PySem.W.mg_of X G a19
  have F_touch_fits := fun_mk (st := s_touch_fits) l20 c20 k20
  have m_touch_fits := PySem.W.mg_of X G a20
  have F_step_fits := fun_mk (st := s_step_fits) l21 c21 k21
  have m_step_fits := PySem.W.mg_of X G a21
  have F_ring_led_to := fun_mk (st := s_ring_led_to) l22 c22 k22
  have m_ring_led_to := PySem.W.mg_of X G a22
  have F_is_entered := fun_mk (st := s_is_entered) l23 c23 k23
  have m_is_entered := PySem.W.mg_of X G a23
  have F_is_come_back_to := fun_mk (st := s_is_come_back_to) l24 c24 k24
  have m_is_come_back_to := PySem.W.mg_of X G a24
  have F_follows := fun_mk (st := s_follows) l25 c25 k25
  have m_follows := PySem.W.mg_of X G a25
  have F_begins_well := fun_mk (st := s_begins_well) l26 c26 k26
  have m_begins_well := PySem.W.mg_of X G a26
  have F_goes_on_well := fun_mk (st := s_goes_on_well) l27 c27 k27
  have m_goes_on_well := PySem.W.mg_of X G a27
  have F_keeps := fun_mk (st := s_keeps) l28 c28 k28
  have m_keeps := PySem.W.mg_of X G a28
  have F_law_segment_at := fun_mk (st := s_law_segment_at) l29 c29 k29
  have m_law_segment_at := PySem.W.mg_of X G a29
  have F_law_touch_good := fun_mk (st := s_law_touch_good) l30 c30 k30
  have m_law_touch_good := PySem.W.mg_of X G a30
  have F_law_step_row := fun_mk (st := s_law_step_row) l31 c31 k31
  have m_law_step_row := PySem.W.mg_of X G a31
  have F_law_led := fun_mk (st := s_law_led) l32 c32 k32
  have m_law_led := PySem.W.mg_of X G a32
  have F_law_entered := fun_mk (st := s_law_entered) l33 c33 k33
  have m_law_entered := PySem.W.mg_of X G a33
  have F_law_behind := fun_mk (st := s_law_behind) l34 c34 k34
  have m_law_behind := PySem.W.mg_of X G a34
  have F_law_keeps := fun_mk (st := s_law_keeps) l35 c35 k35
  have m_law_keeps := PySem.W.mg_of X G a35
  have F_law_spoilt := fun_mk (st := s_law_spoilt) l36 c36 k36
  have m_law_spoilt := PySem.W.mg_of X G a36
  have F_law_entry_drawn := fun_mk (st := s_law_entry_drawn) l37 c37 k37
  have m_law_entry_drawn := PySem.W.mg_of X G a37
  have F_law_steps_drawn := fun_mk (st := s_law_steps_drawn) l38 c38 k38
  have m_law_steps_drawn := PySem.W.mg_of X G a38
  have F_law_touches_drawn := fun_mk (st := s_law_touches_drawn) l39 c39 k39
  have m_law_touches_drawn := PySem.W.mg_of X G a39
  have F_law := fun_mk (st := s_law) l40 c40 k40
  have m_law := PySem.W.mg_of X G a40
  have T : MC K mg C := ⟨⟨pg, hd, po, sa⟩, nS, nB, PySem.W.mg_of X G aC⟩
  have F_Machine_segment := fun_mk (st := s_Machine_segment) l41 c41 k41
  have F_Machine__len := fun_mk (st := s_Machine__len) l42 c42 k42
  have F_init : FunD K "__init__" "Machine.__init__" (defArgs s_Machine__init) (defBody s_Machine__init) (defScope s_Machine__init) [] [("base", .int 16)] f43 (PySem.W.fnOf "__init__" "Machine.__init__" (defArgs s_Machine__init) (defBody s_Machine__init) (defScope s_Machine__init) .none (.ref D43) dc43 pm43 an43 cd43 ct43) := ⟨⟨_, _, _, _, _, _, _, _, _, _, rfl, l43, c43, .inl ⟨rfl, rfl⟩, .inr ⟨_, rfl, fun q hq => by rw [List.mem_singleton.mp hq]; exact ⟨_, d43, ⟨_, rfl⟩⟩⟩⟩, k43⟩
  obtain ⟨mv1, kb1⟩ := F_init.kbinds0 (ps := ["self", "segments", "base"]) 2 ["base"] [] (fun us _ ws => us ++ ws) (by simp) (fun q hq => nomatch hq) (fun r1 _ r3 => r1.append r3) fun D doc pm an cdv ct us mv ws hl hk hw => match us, mv, ws, hl, hk, hw with
    | [_, _], [], [_], _, _, _ => rfl
  have F_F := fun_mk (st := s_Fault__init) l44 c44 k44
  have b_F := F_F.binds (ps := ["self", "cause"]) fun _ _ _ _ _ _ us hl => match us, hl with | [_, _], _ => rfl
  have xf_F : XfC K CF := ⟨ga_F, gg_F, be_F, hd_F⟩
  have ox_F : OexE K CF := ⟨⟨_, _, _, _, _, _, _, _, _, _, _, _, _, _, x_F⟩, sa_F, be_F, ty_F, kp_F⟩
  have G_RINGS : GI mg "RINGS" 8 := ⟨_, PySem.W.mg_of X G g45⟩
  have G_POINTERS : GI mg "POINTERS" 4 := ⟨_, PySem.W.mg_of X G g46⟩
  have G_MOST_SEGMENTS : GI mg "MOST_SEGMENTS" 8 := ⟨_, PySem.W.mg_of X G g47⟩
  have G_MOST_WORDS : GI mg "MOST_WORDS" 16 := ⟨_, PySem.W.mg_of X G g48⟩
  have G_MOST_ROWS : GI mg "MOST_ROWS" 24 := ⟨_, PySem.W.mg_of X G g49⟩
  have G_LEAST_BASE : GI mg "LEAST_BASE" 2 := ⟨_, PySem.W.mg_of X G g50⟩
  have B : BT mg := ⟨PySem.W.mg_none_of X G z51, PySem.W.mg_none_of X G z52, PySem.W.mg_none_of X G z53, PySem.W.mg_none_of X G z54, PySem.W.mg_none_of X G z55, PySem.W.mg_none_of X G z56, PySem.W.mg_none_of X G z57, PySem.W.mg_none_of X G z58, PySem.W.mg_none_of X G z59, PySem.W.mg_none_of X G z60, PySem.W.mg_none_of X G z61, PySem.W.mg_none_of X G z62, PySem.W.mg_none_of X G z63, PySem.W.mg_none_of X G z64, PySem.W.mg_none_of X G z65, PySem.W.mg_none_of X G z66, PySem.W.mg_none_of X G z67⟩
  have G_RIGHTS : GTu K mg "RIGHTS" (rightsL.map V.str) := ⟨TT, PySem.W.mg_of X G aT, fun H => .inr ⟨_, _, _, lT, rfl, rfl, by show 8 ≤ sizeLine; decide, .cons ⟨_, rfl⟩ (.cons ⟨_, rfl⟩ (.cons ⟨_, rfl⟩ (.cons ⟨_, rfl⟩ (.cons ⟨_, rfl⟩ (.cons ⟨_, rfl⟩ (.cons ⟨_, rfl⟩ (.cons ⟨_, rfl⟩ (.nil))))))))⟩⟩
  have G_ROW_FORMS : GFo K w mg := by
    refine ⟨R, PySem.W.mg_of X G aR, ⟨_, _, lR⟩, fun z l h => ?_⟩
    have hm := form_mem h
    simp only [rowForms, List.mem_cons, List.mem_nil_iff, or_false, Prod.mk.injEq] at hm
    rcases hm with ⟨rfl, rfl⟩ | ⟨rfl, rfl⟩ | ⟨rfl, rfl⟩ | ⟨rfl, rfl⟩ | ⟨rfl, rfl⟩ | ⟨rfl, rfl⟩ | ⟨rfl, rfl⟩ | ⟨rfl, rfl⟩ | ⟨rfl, rfl⟩ | ⟨rfl, rfl⟩ | ⟨rfl, rfl⟩ | ⟨rfl, rfl⟩
    · exact ⟨_, _, _, lR, kR, sR, r0, ⟨_, rfl⟩⟩
    · exact ⟨_, _, _, lR, kR, sR, r1, ⟨_, rfl⟩⟩
    · exact ⟨_, _, _, lR, kR, sR, r2, ⟨_, rfl⟩⟩
    · exact ⟨_, _, _, lR, kR, sR, r3, ⟨_, rfl⟩⟩
    · exact ⟨_, _, _, lR, kR, sR, r4, ⟨_, rfl⟩⟩
    · exact ⟨_, _, _, lR, kR, sR, r5, ⟨_, rfl⟩⟩
    · exact ⟨_, _, _, lR, kR, sR, r6, ⟨_, rfl⟩⟩
    · exact ⟨_, _, _, lR, kR, sR, r7, ⟨_, rfl⟩⟩
    · exact ⟨_, _, _, lR, kR, sR, r8, ⟨_, rfl⟩⟩
    · exact ⟨_, _, _, lR, kR, sR, r9, ⟨_, rfl⟩⟩
    · exact ⟨_, _, _, lR, kR, sR, r10, ⟨_, rfl⟩⟩
    · exact ⟨_, _, _, lR, kR, sR, r11, ⟨_, rfl⟩⟩
  have e := hfa.symm.trans m_law
  cases e
  refine ⟨PySem.W.fnOf "law" "law" (defArgs s_law) (defBody s_law) (defScope s_law) .none kV40 dc40 pm40 an40 cd40 ct40, fun s v => .of_eq rfl, fun base _ _ => ?_⟩
  have c1 := ok_whole (P := l.prog) (w := w) (base := base) B F_is_whole m_is_whole
  have c2 := ok_below (P := l.prog) (w := w) (base := base) B F_is_below m_is_below c1
  have c3 := ok_ring (P := l.prog) (w := w) (base := base) B F_is_ring m_is_ring G_RINGS c2
  have c4 := ok_nfits (P := l.prog) (w := w) (base := base) B F_number_fits m_number_fits G_POINTERS c1 c2
  have c5 := ok_rowFits (P := l.prog) (w := w) (base := base) B F_row_fits m_row_fits G_ROW_FORMS c4
  have c6 := ok_wordFits (P := l.prog) (w := w) (base := base) B F_word_fits m_word_fits c1 c2 c3
  have c7 := ok_brFits (P := l.prog) (w := w) (base := base) B F_brackets_fit m_brackets_fit c3
  have c8 := ok_sgFits (P := l.prog) (w := w) (base := base) B F_segment_fits m_segment_fits G_RIGHTS G_MOST_WORDS G_MOST_ROWS c2 c7 c6 c5
  have ci := ok_init (P := l.prog) (w := w) (base := base) B T F_init G_MOST_SEGMENTS G_LEAST_BASE c1 c8
  have d1 := ok_deck (P := l.prog) (w := w) (base := base) B F_law_deck m_law_deck
  have d2 := ok_take (P := l.prog) (w := w) (base := base) F_law_take m_law_take
  have d3 := ok_number (P := l.prog) (w := w) (base := base) B F_law_number m_law_number d2
  have d4 := ok_word (P := l.prog) (w := w) (base := base) B F_law_word m_law_word d2
  have d5 := ok_row (P := l.prog) (w := w) (base := base) B F_law_row m_law_row d2 d3
  have d6 := ok_segment (P := l.prog) (w := w) (base := base) B F_law_segment m_law_segment d2 d4 d5
  have d7 := ok_machine (P := l.prog) (w := w) (base := base) B F_law_machine m_law_machine d2 d6
  have Fc : FltC l.prog w K mg base CF := ⟨ox_F, wh_F, PySem.W.mg_of X G e_F, xf_F, _, _, a44, t_F, b_F, ok_Finit (P := l.prog) (w := w) (base := base) F_F (PySem.W.mg_none_of X G gEx0) vEx⟩
  have ms := ok_segAt (P := l.prog) (w := w) (base := base) B T ⟨a41, i41, k41⟩ F_Machine_segment c2
  have ml := ok_len (P := l.prog) (w := w) (base := base) B T ⟨a42, i42, k42⟩ F_Machine__len
  have y0 := ok_may_read (P := l.prog) (w := w) (base := base) B F_may_read m_may_read
  have y1 := ok_may_write (P := l.prog) (w := w) (base := base) B F_may_write m_may_write
  have re := ok_entered (P := l.prog) (w := w) (base := base) B Fc F_entered m_entered
  have yr := ok_may_run (P := l.prog) (w := w) (base := base) B F_may_run m_may_run
  have ktf := ok_touchFits (P := l.prog) (w := w) (base := base) B T F_touch_fits m_touch_fits ml ms c2 c3 y0 y1
  have ksf := ok_stepFits (P := l.prog) (w := w) (base := base) B T F_step_fits m_step_fits ml ms c2 yr
  have kld := ok_led (P := l.prog) (w := w) (base := base) Fc em_F F_ring_led_to m_ring_led_to re
  have kie := ok_isEnt (P := l.prog) (w := w) (base := base) B T G_RINGS F_is_entered m_is_entered ms kld
  have kbk := ok_back (P := l.prog) (w := w) (base := base) B F_is_come_back_to m_is_come_back_to
  have kfl := ok_follows (P := l.prog) (w := w) (base := base) B T F_follows m_follows ms kie kbk
  have kbg := ok_begins (P := l.prog) (w := w) (base := base) B F_begins_well m_begins_well kie
  have kgo := ok_goes (P := l.prog) (w := w) (base := base) B F_goes_on_well m_goes_on_well kfl
  have kk := ok_keeps (P := l.prog) (w := w) (base := base) B F_keeps ktf ksf kbg kgo
  have bK := F_keeps.binds (ps := ["machine", "ring", "steps", "touches"]) fun _ _ _ _ _ _ us hl => match us, hl with | [_, _, _, _], _ => rfl
  have j1 := ok_segAtL (P := l.prog) (w := w) (base := base) B F_law_segment_at m_law_segment_at
  have j2 := ok_touchG (P := l.prog) (w := w) (base := base) B F_law_touch_good m_law_touch_good j1
  have j3 := ok_stepRow (P := l.prog) (w := w) (base := base) B F_law_step_row m_law_step_row j1
  have j4 := ok_ledL (P := l.prog) (w := w) (base := base) B F_law_led m_law_led
  have j5 := ok_entL (P := l.prog) (w := w) (base := base) B F_law_entered m_law_entered j4
  have j6 := ok_behind (P := l.prog) (w := w) (base := base) B F_law_behind m_law_behind j3 j5
  have j7 := ok_keepsL (P := l.prog) (w := w) (base := base) B F_law_keeps m_law_keeps j2 j3 j5 j6
  have sp := ok_spoilt (P := l.prog) (w := w) (base := base) B F_law_spoilt m_law_spoilt d2
  have ed := ok_entryD (P := l.prog) (w := w) (base := base) B F_law_entry_drawn m_law_entry_drawn d2 j4
  have sd := ok_stepsD (P := l.prog) (w := w) (base := base) B F_law_steps_drawn m_law_steps_drawn d2 ed j3
  have td := ok_touchesD (P := l.prog) (w := w) (base := base) B F_law_touches_drawn m_law_touches_drawn d2
  exact ok_law B T F_law ⟨mk, a43, i43, kc⟩ ci kb1 m_keeps k28 bK kk d1 d2 d7 sd td sp j7
theorem walk {l : PySem.W.OpenLaw} {q : Program} {loose : List Str} {XP : (Str → Option Value) → Heap → Prop} {YP : World → Heap → Prop} {d : DefRec} {K : Params → PySem.W.Frag} (hn : l.most = some 63) (hdf : d.params.defaults = [])
    (hY : ∀ (w : World) (h : Heap), YP w h → (K w.params).In h)
    (F : ∀ (w : World) (mg : Str → Option Value) (fa : Addr) (h : Heap), (K w.params).In h → h.Ns mainGlobals mg → mg d.name = some (.ref fa) →
      ∃ fd : FuncData, (∀ (s : Shared) (u : Value), BindsTo s fd ⟨[u], []⟩ [("script", u)]) ∧ ∀ base : Heap, (K w.params).In base → base.Ns mainGlobals mg → FnOk l.prog w (K w.params) mg base CX0 9 fa fd ["script"] (spLaw (K w.params))) :
    PySem.W.WalkO q loose XP YP l.row.toRowW d [] (fun f vs => PySem.call f vs) :=
  L2.walk_of (n := 63) (k := 9) (x := "script") (CX := fun _ => CX0) (sp := fun w => spLaw (K w.params)) hn (by decide) hdf ⟨rfl, by decide, by decide⟩ hY F (fun _ _ a ns hl _ hS => ⟨a, ns, rfl, hS, hl, fun _ => rfl⟩) fun _ _ _ _ _ z => z
end Rg

open PySem PySem.W PyProof.Rows
set_option maxRecDepth 100000 in
set_option maxHeartbeats 0 in
theorem PySem.Challenge.cw_ringgates_k30_whole_any_lists_judged_holds : PySem.Challenge.rw_ringgates_k30_whole_any_lists_judged.Holds := by
  w_on; o_law; k_head; (case hw => w_witness2)
  k_fill
  refine Rg.walk (l := PySem.Challenge.rw_ringgates_k30_whole_any_lists_judged) rfl rfl (fun w h Y => PySem.W.kIn_of Y) ?F
  case F =>
    intro w mg fa h KX G hmg
    refine' Rg.all_mk KX G hmg ?a1 ?l1 ?c1 ?k1 ?a2 ?l2 ?c2 ?k2 ?a3 ?l3 ?c3 ?k3 ?a4 ?l4 ?c4 ?k4 ?a5 ?l5 ?c5 ?k5 ?a6 ?l6 ?c6 ?k6 ?a7 ?l7 ?c7 ?k7 ?a8 ?l8 ?c8 ?k8 ?a9 ?l9 ?c9 ?k9 ?a10 ?l10 ?c10 ?k10 ?a11 ?l11 ?c11 ?k11 ?a12 ?l12 ?c12 ?k12 ?a13 ?l13 ?c13 ?k13 ?a14 ?l14 ?c14 ?k14 ?a15 ?l15 ?c15 ?k15 ?a16 ?l16 ?c16 ?k16 ?a17 ?l17 ?c17 ?k17 ?a18 ?l18 ?c18 ?k18 ?a19 ?l19 ?c19 ?k19 ?a20 ?l20 ?c20 ?k20 ?a21 ?l21 ?c21 ?k21 ?a22 ?l22 ?c22 ?k22 ?a23 ?l23 ?c23 ?k23 ?a24 ?l24 ?c24 ?k24 ?a25 ?l25 ?c25 ?k25 ?a26 ?l26 ?c26 ?k26 ?a27 ?l27 ?c27 ?k27 ?a28 ?l28 ?c28 ?k28 ?a29 ?l29 ?c29 ?k29 ?a30 ?l30 ?c30 ?k30 ?a31 ?l31 ?c31 ?k31 ?a32 ?l32 ?c32 ?k32 ?a33 ?l33 ?c33 ?k33 ?a34 ?l34 ?c34 ?k34 ?a35 ?l35 ?c35 ?k35 ?a36 ?l36 ?c36 ?k36 ?a37 ?l37 ?c37 ?k37 ?a38 ?l38 ?c38 ?k38 ?a39 ?l39 ?c39 ?k39 ?a40 ?l40 ?c40 ?k40 ?aC ?pg ?hd ?po ?sa ?mk ?kc ?nS ?nB ?a41 ?l41 ?c41 ?k41 ?i41 ?a42 ?l42 ?c42 ?k42 ?i42 ?a43 ?l43 ?c43 ?k43 ?d43 ?i43 ?e_F ?x_F ?a44 ?l44 ?c44 ?k44 ?t_F ?sa_F ?be_F ?ty_F ?kp_F ?wh_F ?ga_F ?gg_F ?hd_F ?em_F ?gEx0 ?vEx ?g45 ?g46 ?g47 ?g48 ?g49 ?g50 ?z51 ?z52 ?z53 ?z54 ?z55 ?z56 ?z57 ?z58 ?z59 ?z60 ?z61 ?z62 ?z63 ?z64 ?z65 ?z66 ?z67 ?aR ?lR ?kR ?sR ?r0 ?r1 ?r2 ?r3 ?r4 ?r5 ?r6 ?r7 ?r8 ?r9 ?r10 ?r11 ?aT ?lT
    (case a1 => k_is)
    (case l1 => k_is)
    (case c1 => k_is)
    (case k1 => k_is)
    (case a2 => k_is)
    (case l2 => k_is)
    (case c2 => k_is)
    (case k2 => k_is)
    (case a3 => k_is)
    (case l3 => k_is)
    (case c3 => k_is)
    (case k3 => k_is)
    (case a4 => k_is)
    (case l4 => k_is)
    (case c4 => k_is)
    (case k4 => k_is)
    (case a5 => k_is)
    (case l5 => k_is)
    (case c5 => k_is)
    (case k5 => k_is)
    (case a6 => k_is)
    (case l6 => k_is)
    (case c6 => k_is)
    (case k6 => k_is)
    (case a7 => k_is)
    (case l7 => k_is)
    (case c7 => k_is)
    (case k7 => k_is)
    (case a8 => k_is)
    (case l8 => k_is)
    (case c8 => k_is)
    (case k8 => k_is)
    (case a9 => k_is)
    (case l9 => k_is)
    (case c9 => k_is)
    (case k9 => k_is)
    (case a10 => k_is)
    (case l10 => k_is)
    (case c10 => k_is)
    (case k10 => k_is)
    (case a11 => k_is)
    (case l11 => k_is)
    (case c11 => k_is)
    (case k11 => k_is)
    (case a12 => k_is)
    (case l12 => k_is)
    (case c12 => k_is)
    (case k12 => k_is)
    (case a13 => k_is)
    (case l13 => k_is)
    (case c13 => k_is)
    (case k13 => k_is)
    (case a14 => k_is)
    (case l14 => k_is)
    (case c14 => k_is)
    (case k14 => k_is)
    (case a15 => k_is)
    (case l15 => k_is)
    (case c15 => k_is)
    (case k15 => k_is)
    (case a16 => k_is)
    (case l16 => k_is)
    (case c16 => k_is)
    (case k16 => k_is)
    (case a17 => k_is)
    (case l17 => k_is)
    (case c17 => k_is)
    (case k17 => k_is)
    (case a18 => k_is)
    (case l18 => k_is)
    (case c18 => k_is)
    (case k18 => k_is)
    (case a19 => k_is)
    (case l19 => k_is)
    (case c19 => k_is)
    (case k19 => k_is)
    (case a20 => k_is)
    (case l20 => k_is)
    (case c20 => k_is)
    (case k20 => k_is)
    (case a21 => k_is)
    (case l21 => k_is)
    (case c21 => k_is)
    (case k21 => k_is)
    (case a22 => k_is)
    (case l22 => k_is)
    (case c22 => k_is)
    (case k22 => k_is)
    (case a23 => k_is)
    (case l23 => k_is)
    (case c23 => k_is)
    (case k23 => k_is)
    (case a24 => k_is)
    (case l24 => k_is)
    (case c24 => k_is)
    (case k24 => k_is)
    (case a25 => k_is)
    (case l25 => k_is)
    (case c25 => k_is)
    (case k25 => k_is)
    (case a26 => k_is)
    (case l26 => k_is)
    (case c26 => k_is)
    (case k26 => k_is)
    (case a27 => k_is)
    (case l27 => k_is)
    (case c27 => k_is)
    (case k27 => k_is)
    (case a28 => k_is)
    (case l28 => k_is)
    (case c28 => k_is)
    (case k28 => k_is)
    (case a29 => k_is)
    (case l29 => k_is)
    (case c29 => k_is)
    (case k29 => k_is)
    (case a30 => k_is)
    (case l30 => k_is)
    (case c30 => k_is)
    (case k30 => k_is)
    (case a31 => k_is)
    (case l31 => k_is)
    (case c31 => k_is)
    (case k31 => k_is)
    (case a32 => k_is)
    (case l32 => k_is)
    (case c32 => k_is)
    (case k32 => k_is)
    (case a33 => k_is)
    (case l33 => k_is)
    (case c33 => k_is)
    (case k33 => k_is)
    (case a34 => k_is)
    (case l34 => k_is)
    (case c34 => k_is)
    (case k34 => k_is)
    (case a35 => k_is)
    (case l35 => k_is)
    (case c35 => k_is)
    (case k35 => k_is)
    (case a36 => k_is)
    (case l36 => k_is)
    (case c36 => k_is)
    (case k36 => k_is)
    (case a37 => k_is)
    (case l37 => k_is)
    (case c37 => k_is)
    (case k37 => k_is)
    (case a38 => k_is)
    (case l38 => k_is)
    (case c38 => k_is)
    (case k38 => k_is)
    (case a39 => k_is)
    (case l39 => k_is)
    (case c39 => k_is)
    (case k39 => k_is)
    (case a40 => k_is)
    (case l40 => k_is)
    (case c40 => k_is)
    (case k40 => k_is)
    (case aC => k_is)
    (case pg => k_is)
    (case hd => k_is)
    (case po => k_is)
    (case sa => k_is)
    (case mk => k_is)
    (case kc => k_is)
    (case nS => k_is)
    (case nB => k_is)
    (case a41 => k_is)
    (case l41 => k_is)
    (case c41 => k_is)
    (case k41 => k_is)
    (case i41 => k_is)
    (case a42 => k_is)
    (case l42 => k_is)
    (case c42 => k_is)
    (case k42 => k_is)
    (case i42 => k_is)
    (case a43 => k_is)
    (case l43 => k_is)
    (case c43 => k_is)
    (case k43 => k_is)
    (case d43 => k_is)
    (case i43 => k_is)
    (case e_F => k_is)
    (case x_F => k_is)
    (case a44 => k_is)
    (case l44 => k_is)
    (case c44 => k_is)
    (case k44 => k_is)
    (case t_F => k_is)
    (case sa_F => k_is)
    (case be_F => k_is)
    (case ty_F => k_is)
    (case kp_F => k_is)
    (case wh_F => k_is)
    (case ga_F => k_is)
    (case gg_F => k_is)
    (case hd_F => k_is)
    (case em_F => first | k_is | rfl)
    (case gEx0 => k_is)
    (case vEx => k_is)
    (case g45 => k_is)
    (case g46 => k_is)
    (case g47 => k_is)
    (case g48 => k_is)
    (case g49 => k_is)
    (case g50 => k_is)
    (case z51 => k_is)
    (case z52 => k_is)
    (case z53 => k_is)
    (case z54 => k_is)
    (case z55 => k_is)
    (case z56 => k_is)
    (case z57 => k_is)
    (case z58 => k_is)
    (case z59 => k_is)
    (case z60 => k_is)
    (case z61 => k_is)
    (case z62 => k_is)
    (case z63 => k_is)
    (case z64 => k_is)
    (case z65 => k_is)
    (case z66 => k_is)
    (case z67 => k_is)
    (case aR => k_is)
    (case lR => k_is)
    (case kR => ((repeat (refine ⟨⟨_, _, rfl, rfl⟩, ?_⟩)); trivial))
    (case sR => rfl)
    (case r0 => k_is)
    (case r1 => k_is)
    (case r2 => k_is)
    (case r3 => k_is)
    (case r4 => k_is)
    (case r5 => k_is)
    (case r6 => k_is)
    (case r7 => k_is)
    (case r8 => k_is)
    (case r9 => k_is)
    (case r10 => k_is)
    (case r11 => k_is)
    (case aT => k_is)
    (case lT => k_is)

