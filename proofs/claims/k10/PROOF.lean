import PyProof.Rows.All
import Wide.All
import OpenK.AllK
import Wide.FinOn
import PyProof.ListStr
import PyProof.ReprRoads
import HandS.ForMost
import HandS.Walk
import HandS.Wide
import HandS.Strs
import HandS.StrMore
import HandS.IsInst
import HandS.Codes
import PyProof.StrLawsRepr
import PyProof.ReprText
import HandS.Replace
import HandS.ForExc
import HandS.ExcInit
import HandS.ExcField
import HandS.ExcIs
import KE.KExcIs
import HandS.ExcValue
import PySem.Challenge.RW_drillrow_k10_counts_errors
set_option Elab.async false
set_option linter.all false
set_option maxRecDepth 100000
set_option maxHeartbeats 4000000
/-! Rules that the hand layer lacks, for this program and its laws. -/
namespace Dr
open PySem L2
theorem map_get {α β : Type} {f : α → β} {l : List α} {i : Nat} {y : β} (h : (l.map f)[i]? = some y) : ∃ x, l[i]? = some x ∧ y = f x := by
  rw [List.getElem?_map] at h
  cases e : l[i]? with
  | none => rw [e] at h; cases h
  | some x => rw [e] at h; exact ⟨x, rfl, (Option.some.inj h).symm⟩
theorem lt_of_get {α : Type} {l : List α} {i : Nat} {x : α} (h : l[i]? = some x) : i < l.length := (List.getElem?_eq_some_iff.mp h).1
theorem get_of_lt {α : Type} {l : List α} {i : Nat} (h : i < l.length) : ∃ x, l[i]? = some x := ⟨l[i], by simp [h]⟩
theorem get_inj {α : Type} {l : List α} {i : Nat} {x y : α} (h : l[i]? = some x) (h' : l[i]? = some y) : x = y := Option.some.inj (h.symm.trans h')
theorem vals_of : ∀ {xs : List V} {us : List Value}, xs.length = us.length → (∀ (i : Nat) (x : V) (u : Value), xs[i]? = some x → us[i]? = some u → RelV x u) → Vals xs us
  | [], [], _, _ => .nil
  | [], _ :: _, h, _ => by simp at h
  | _ :: _, [], h, _ => by simp at h
  | x :: xs, u :: us, h, r => .cons (r 0 x u rfl rfl) (vals_of (by simpa using h) fun i y w h1 h2 => r (i + 1) y w (by simpa using h1) (by simpa using h2))
/-- a test that is known -/
theorem if_pos_dec {c A B : Prop} [Decidable c] (h : c) (a : A) : if decide c = true then A else B := by
  rw [decide_eq_true h, if_pos rfl]; exact a
theorem if_neg_dec {c A B : Prop} [Decidable c] (h : ¬ c) (b : B) : if decide c = true then A else B := by
  rw [decide_eq_false h, if_neg Bool.false_ne_true]; exact b
theorem if_two {c A B : Prop} [Decidable c] (a : c → A) (b : ¬ c → B) : if decide c = true then A else B := by
  by_cases h : c
  · exact if_pos_dec h (a h)
  · exact if_neg_dec h (b h)
theorem if_two_not {c A B : Prop} [Decidable c] (a : ¬ c → A) (b : c → B) : if (!decide c) = true then A else B := by
  by_cases h : c
  · rw [decide_eq_true h]; exact b h
  · rw [decide_eq_false h]; exact a h
section
variable {X : Cx}
/-- an item of a list by values, for a place that is no less than 0 -/
def rGetL (K : PySem.W.Frag) : V → V → Hp → VK → Prop := fun o i H Q =>
  ∃ (p : Addr) (xs : List V) (j : Nat) (v : V), o = .ref p ∧ i = .int (j : Int) ∧ SqL K H p xs ∧ xs[j]? = some v ∧ Q v H
theorem get_list : PGet X (rGetL X.K) := by
  intro pins s σ H o i ov iv Q I ro ri h
  obtain ⟨p, xs, j, v, rfl, rfl, hq, hx, q⟩ := h
  cases ro
  obtain ⟨t, rfl⟩ := ri
  obtain ⟨its, rv, pl, hz⟩ := I.list hq
  obtain ⟨u, hu, ru⟩ := rv.get hx
  have hj : j < xs.length := (List.getElem?_eq_some_iff.mp hx).1
  have hl := line63
  refine wpAny_getItem_list pl.isList (by omega) (by omega) (x := u) (by simpa using hu) ⟨v, H, I, ru, q⟩
/-- a power of two numbers: the answer below 2 ^ 2 ^ 27 -/
def CPowW (i j : Int) : Prop := 0 ≤ j ∧ ((i.natAbs.log2 : Int) + 1) * j ≤ 134217728
theorem op_powW : OpR X (binaryOp .Pow) (rI CPowW fun i j => .int (i ^ j.toNat)) := opI fun i j _ _ _ _ _ hc q => by
  have h0 : 0 ≤ j := hc.1
  have h1 : ((i.natAbs.log2 : Int) + 1) * j ≤ 134217728 := hc.2
  have hb : Builtin.Int.intBits i ≤ i.natAbs.log2 + 1 := by
    unfold Builtin.Int.intBits
    split <;> omega
  have h2 : ((Builtin.Int.intBits i : Nat) : Int) * j ≤ ((i.natAbs.log2 : Int) + 1) * j := Int.mul_le_mul_of_nonneg_right (by omega) h0
  exact PyProof.Rows.pow_int h0 (by omega) q
/-- list(text): a new list of its signs -/
theorem call_list_text (hc : X.calm = true) : CallR X (.type "list") (fun xs H Q => ∃ z : Str, xs = [.str z] ∧ z.cps.size ≤ sizeLine ∧
    ∀ l, H l = none → Q (.ref l) (upd H l (.lst (z.cps.toList.map fun c => V.str ⟨#[c]⟩)))) := by
  intro pins s σ H xs us Q I r h
  obtain ⟨z, rfl, hz, q⟩ := h
  obtain ⟨u, rfl, t, rfl⟩ := vals1 r
  refine call_list_str (I.ok.hd hc) z t (fun h' tk acc c k e it => ?_) hz
  have hv : Vals (z.cps.toList.map fun c => V.str ⟨#[c]⟩) acc.toList := by
    obtain ⟨hs, hp⟩ := it
    refine vals_of (by simp [hs]) fun i x u hx hu => ?_
    obtain ⟨c', w', h1, rfl⟩ := hp i u (by simpa using hu)
    obtain ⟨c2, h2, rfl⟩ := map_get hx
    have e2 : z.cps[i]? = some c2 := by simpa using h2
    rw [h1] at e2
    cases e2
    exact ⟨_, rfl⟩
  exact ⟨.ref s.heap.objs.size, _, I.laid (t' := tk) k (Nat.le_refl _) (show ObjOk X.prog X.w _ h' _ (.lst _) from ⟨by simpa using hz, acc.toList, c, hv, by simpa using e⟩), rfl, q _ (I.hok.fresh (Nat.le_refl _))⟩

/-! ### enumerate(text) -/
/-- signs of a text by turns, each in a new pair with its place -/
def ItEs (z : Str) : It := ⟨fun i _ => i < z.cps.size,
  fun i H v H' => ∃ (T : Addr) (c : Nat), v = .ref T ∧ H T = none ∧ H' = upd H T (.tup [.int (i : Nat), .str ⟨#[c]⟩]) ∧ z.cps[i]? = some c, fun i _ => i = z.cps.size⟩
def iEnumS (ta : TA) : TI := fun σ H R => ta σ H fun vs H1 => ∃ z : Str, vs = [.str z] ∧ R (ItEs z) H1
/-- how the iterator of a text lies: one of two kinds -/
def SIt (z : Str) (t : Tok) (it : Addr) (i : Nat) (h : Heap) : Prop := h.IsStrIter it (strIterType z) z t i
theorem draws_text {P : Program} {w : World} {A : Around} (hh : A.handled = none) (it : Addr) (z : Str) (t : Tok) :
    Draws P w A it [it] z.cps.size (fun i v => ∃ c u, z.cps[i]? = some c ∧ v = .str ⟨#[c]⟩ u) (SIt z t it) := by
  unfold SIt strIterType
  cases h : z.cps.all (· < 128)
  · exact Draws.strWide hh it z t
  · exact Draws.strAscii hh it z t
theorem turn_enumS {P : Program} {w : World} {K : PySem.W.Frag} {elts : List Expr} {kk : Nat} {tpos : Pos} (z : Str) (t : Tok) (e it : Addr) (hne : e ≠ it) :
    Turn P w K (.Tuple elts kk tpos) (ItEs z) [e, it] e (fun i h => (∃ old, IsEnum h e it ((i : Nat) : Int) old) ∧ SIt z t it i h) where
  mem := by simp
  obj := fun i h st b hb => by
    obtain ⟨⟨old, he⟩, hs⟩ := st
    have hb2 : b = e ∨ b = it := by simpa using hb
    rcases hb2 with q | q
    · subst q; exact ⟨_, he, fun v q => nomatch q⟩
    · subst q
      obtain ⟨o, ho, hc, hd⟩ := hs
      exact ⟨o, ho, fun v q => by rw [hd] at q; cases q⟩
  keep := fun i h h' st k => by
    obtain ⟨⟨old, he⟩, ⟨o, ho, r⟩⟩ := st
    exact ⟨⟨old, k e (by simp) _ he⟩, ⟨o, k it (by simp) _ ho, r⟩⟩
  item := by
    intro X hP hw hK hc i pins s σ H E I hf st hg
    subst hP hw hK
    obtain ⟨⟨old, he⟩, hit⟩ := st
    have D : Draws X.prog X.w X.A.in1 it [it] z.cps.size _ (SIt z t it) := draws_text (by rw [Around.in1_handled]; exact I.ok.hd hc) it z t
    have hel : e < s.heap.objs.size := Heap.lt_size he
    have hil : it < s.heap.objs.size := by obtain ⟨_, q, _⟩ := hit; exact Heap.lt_size q
    refine wpAny_pyNext_enum_itemD D he hit hg hne (by simp [hne]) fun x h' tk hx ho hit' hT hsz hk => ?_
    obtain ⟨c, u, hcx, rfl⟩ := hx
    refine ⟨_, rfl, wpAny_letOwnedTupleGo_enum (s := { s with heap := h', toks := tk + 1 }) ho fun h2 he' sb => ?_⟩
    have hT2 : h2.get? s.heap.objs.size = some { cls := .type "tuple", data := .seq #[.int i tk, .str ⟨#[c]⟩ u] } := (sb.2 _ (Nat.ne_of_gt hel)).trans hT
    have new : ObjOk X.prog X.w (upd H s.heap.objs.size (.tup [.int (i : Nat), .str ⟨#[c]⟩])) h2 s.heap.objs.size (.tup [.int (i : Nat), .str ⟨#[c]⟩]) :=
      ⟨by show 2 ≤ sizeLine; decide, [.int i tk, .str ⟨#[c]⟩ u], .cons ⟨_, rfl⟩ (.cons ⟨_, rfl⟩ .nil), ⟨_, hT2, rfl, _, rfl⟩⟩
    have kept2 : ∀ b ob, b ∉ [e, it] → s.heap.get? b = some ob → h2.get? b = some ob := fun b ob hb q => by
      have n1 : b ≠ e := fun q => hb (by simp [q])
      have n2 : b ≠ it := fun q => hb (by simp [q])
      exact (sb.2 b n1).trans (hk b ob n1 n2 q)
    have I1 := I.turnedNew (t' := tk + 1) (ch := [e, it]) kept2 hf (Nat.le_refl _) new
    refine ⟨.ref s.heap.objs.size, _, I1, rfl, ⟨_, c, rfl, I.hok.fresh (Nat.le_refl _), rfl, hcx⟩, ⟨⟨.str ⟨#[c]⟩ u, ?_⟩, ?_⟩, fun b hb => ?_⟩
    · have e1 : ((i + 1 : Nat) : Int) = (i : Int) + 1 := by omega
      rw [e1]; exact he'
    · obtain ⟨o, hoo, r⟩ := hit'
      exact ⟨o, (sb.2 it (Ne.symm hne)).trans hoo, r⟩
    · have hb2 : b = e ∨ b = it := by simpa using hb
      have hlt : b < s.heap.objs.size := by
        rcases hb2 with q | q
        · rw [q]; exact hel
        · rw [q]; exact hil
      rw [upd_ne (Nat.ne_of_lt hlt)]
      exact (hf b hb).1
  done := by
    intro X hP hw hK hc i pins s σ H E I hf st hg
    subst hP hw hK
    obtain ⟨⟨old, he⟩, hit⟩ := st
    have hi : i = z.cps.size := hg
    subst hi
    obtain ⟨f0, f1, f2, f3, f4, f5⟩ := hf it (by simp)
    have D : Draws X.prog X.w X.A.in1 it [it] z.cps.size _ (SIt z t it) := draws_text (by rw [Around.in1_handled]; exact I.ok.hd hc) it z t
    exact wpAny_pyNext_enum_endD D he hit fun h' eb => ⟨rfl, I.turned (t' := s.toks) (fun b o hb q => eb b o hb q) f0 f1 f3 f4 f5⟩
  self := fun A i s Q E st h => let ⟨⟨_, he⟩, _⟩ := st; wpAny_pyIter_enum he h
open PySem.Spec PyProof.Rows in
theorem pi_enumS {e : Expr} {ta : TA} {p pos tpos : Pos} {elts : List Expr} {kk : Nat} (hg : Gl X "enumerate") (hm : X.mg "enumerate" = none) (ha : PA X [e] ta)
    (hs : starEach [e] X.env = [(false, eval e X.env)] := by rfl) : PI X (.Tuple elts kk tpos) (.Call (.Name "enumerate" p) [e] [] pos) (iEnumS ta) := by
  refine ⟨fun pins s σ H R I h => ?_⟩
  refine Call_ (ld_blt I hg hm boot_enumerate (PyProof.Rows.callWith_type1 (thn (ha.run pos pins s σ H _ I h) fun us s1 got => ?_) hs rfl))
  obtain ⟨vs, H1, I1, r1, z, ez, q⟩ := got
  subst ez
  obtain ⟨u, rfl, t, rfl⟩ := vals1 r1
  refine call_enumerate_str fun h' he hit hsz hk => wpAny_pyIter_enum he ?_
  have I2 : Inv X pins σ H1 { s1 with heap := h' } := I1.kept (t' := s1.toks) hk
  refine ⟨s1.heap.objs.size + 1, [s1.heap.objs.size + 1, s1.heap.objs.size], _, _, H1, rfl, I2, turn_enumS z t _ _ (Nat.succ_ne_self _), ⟨⟨.none, he⟩, hit⟩, fun b hb => ?_, q⟩
  have hb2 : b = s1.heap.objs.size + 1 ∨ b = s1.heap.objs.size := by simpa using hb
  have hle : s1.heap.objs.size ≤ b := by
    rcases hb2 with q | q
    · rw [q]; exact Nat.le_succ _
    · exact Nat.le_of_eq q.symm
  exact I1.fpOk hle (I1.hok.fresh hle)
end
theorem walk_enumS {z : Str} : Walk (ItEs z) z.cps.size (fun _ => True)
    (fun i H v H' => ∃ (T : Addr) (c : Nat), v = .ref T ∧ H T = none ∧ H' = upd H T (.tup [.int (i : Nat), .str ⟨#[c]⟩]) ∧ z.cps[i]? = some c) :=
  ⟨fun _ _ h _ => h, fun _ _ => rfl, fun _ _ _ _ _ _ y => y⟩
end Dr
/-! ### the rules whose readings name the written part, with it by name -/
namespace Dr
open PySem L2
section
variable {X : Cx} {K : PySem.W.Frag}
theorem PE.as {e : Expr} {t t' : TE} (h : PE X e t) (q : t = t') : PE X e t' := q ▸ h
theorem ix_listK (h : X.K = K) : IxR X (rIxL K) := h ▸ ix_list
theorem ix_tupK (h : X.K = K) : IxR X (rIxT K) := h ▸ ix_tup
theorem op_in_seqK (h : X.K = K) : OpR X (compareOp .In) (rIn K false) := h ▸ op_in_seq
theorem op_notIn_seqK (h : X.K = K) : OpR X (compareOp .NotIn) (rIn K true) := h ▸ op_notIn_seq
theorem sl_listK (h : X.K = K) : SlR X (rSlL K) := h ▸ sl_list
theorem sl_tupK (h : X.K = K) : SlR X (rSlT K) := h ▸ sl_tup
theorem call_len_seqK (h : X.K = K) : CallR X (.builtin "len") (fun xs H Q => ∃ p ys, xs = [.ref p] ∧ (SqL K H p ys ∨ SqT K H p ys) ∧ Q (.int ys.length) H) := h ▸ call_len_seq
theorem call_list_ofK (h : X.K = K) : CallR X (.type "list") (fun xs H Q => ∃ p ys, xs = [.ref p] ∧ (SqL K H p ys ∨ SqT K H p ys) ∧ ∀ l, H l = none → Q (.ref l) (upd H l (.lst ys))) := h ▸ call_list_of
theorem call_isiK' (h : X.K = K) : CallR X (.builtin "isinstance") (rIsi K) := h ▸ call_isi
theorem op_eqDK (h : X.K = K) (hu : X.A.units + 64 < cLine) : OpR X (compareOp .Eq) (rEqD K) := h ▸ op_eqD hu
theorem op_neDK (h : X.K = K) (hu : X.A.units + 64 < cLine) : OpR X (compareOp .NotEq) (rNeD K) := h ▸ op_neD hu
variable {T id : String} {name : Str} {r : V → List V → Hp → VK → Prop} {o e : Expr} {es : List Expr} {to te : TE} {t : TA} {apos pos : Pos}
theorem pe_bm0K (h : X.K = K) (pa : PlainAttrs T) (slot : Slot T name id) (hty : typeOf (.builtin id) = pure (.type "method_descriptor")) (hm : MtR X id r) (ho : PE X o to)
    (hbase : attributeBase o name X.env (eval o X.env) = eval o X.env := by rfl) (hline : (apos.endLine == pos.line) = true := by rfl) :
    PE X (.Call (.Attribute o name apos) [] [] pos) (tBM0 K T r to) := h ▸ pe_bm0 pa slot hty hm ho hbase hline
theorem pe_bmK (h : X.K = K) (pa : PlainAttrs T) (slot : Slot T name id) (hty : typeOf (.builtin id) = pure (.type "method_descriptor")) (hm : MtR X id r) (ho : PE X o to) (ha : PA X (e :: es) t)
    (q1 : attributeBase o name X.env (eval o X.env) = eval o X.env := by rfl) (q2 : ((backTo pos (starEach (e :: es) X.env)).all (fun x => !x.1) && (backToKw pos (keywordEach [] X.env)).all (fun x => x.1.isSome)
      && decide ((e :: es).length + ([] : List Keyword).length + (if ([] : List Keyword).isEmpty then 0 else 1) < 30)) = true := by rfl) (q3 : (apos.endLine == pos.line) = true := by rfl)
    (q4 : starEach (e :: es) X.env = (false, eval e X.env) :: starEach es X.env := by rfl) (q5 : (backTo pos (starEach es X.env)).any (·.1) = false := by rfl) :
    PE X (.Call (.Attribute o name apos) (e :: es) [] pos) (tBM K T r to t) := h ▸ pe_bm pa slot hty hm ho ha q1 q2 q3 q4 q5
end
end Dr

namespace Dr
open PySem L2
theorem two_pow_mono {a b : Nat} (h : a ≤ b) : (2 : Int) ^ a ≤ 2 ^ b := by
  have := Nat.pow_le_pow_right (n := 2) (by decide) h
  have e : ∀ k : Nat, (2 : Int) ^ k = ((2 ^ k : Nat) : Int) := fun k => by rw [Int.natCast_pow]; rfl
  rw [e, e]
  omega
theorem pow3_ok {i : Int} (h : i.natAbs < 2 ^ 200) : CPowW i 3 := by
  have x := PySem.Flt.log2_lt_of (by decide : 0 < 200) h
  refine ⟨by decide, ?_⟩
  omega
end Dr
/-! Data of the program: colours, calls, drills; promises of its defs (valid arguments). -/
namespace Dr
open PySem L2

theorem Same.sqT {K : PySem.W.Frag} {H H' : Hp} {a : Addr} {xs : List V} (e : Same H H') (h : SqT K H a xs) : SqT K H' a xs := by
  rcases h with (h | ⟨o, h⟩) | h
  · exact .inl (.inl (e _ _ h))
  · exact .inl (.inr ⟨o, e _ _ h⟩)
  · exact .inr h
theorem Same.new {H : Hp} {p : Addr} {o : HO} (h : H p = none) : Same H (upd H p o) := fun b u e => by
  rw [upd_ne (ne_of_none e h)]; exact e
/-- the heap without the one at r -/
def hid (r : Addr) (H : Hp) : Hp := fun b => if b = r then none else H b
theorem hid_ne {r b : Addr} {H : Hp} (h : b ≠ r) : hid r H b = H b := if_neg h
theorem hid_r {r : Addr} {H : Hp} : hid r H r = none := if_pos rfl
theorem hid_same {r : Addr} {H : Hp} : Same (hid r H) H := fun b o e => by
  by_cases hb : b = r
  · subst hb; rw [hid_r] at e; cases e
  · rw [hid_ne hb] at e; exact e
theorem hid_some {r b : Addr} {H : Hp} {o : HO} (e : hid r H b = some o) : b ≠ r := fun hb => by
  subst hb; rw [hid_r] at e; cases e
theorem hid_mono {r : Addr} {H H' : Hp} (s : Same H H') : Same (hid r H) (hid r H') := fun b o e => by
  rw [hid_ne (hid_some e)]
  exact s b o (hid_same b o e)
theorem hid_upd {r : Addr} {H : Hp} {o : HO} : Same (hid r H) (hid r (upd H r o)) := fun b u e => by
  rw [hid_ne (hid_some e), upd_ne (hid_some e)]
  exact hid_same b u e
theorem hid_new {r p : Addr} {H : Hp} {o : HO} (h : H p = none) : Same (hid r H) (hid r (upd H p o)) := hid_mono (Same.new h)
theorem Same.sqL {K : PySem.W.Frag} {H H' : Hp} {a : Addr} {xs : List V} (e : Same H H') (h : SqL K H a xs) : SqL K H' a xs := e.seq h

/-! ### colours -/
abbrev sg (c : Nat) : Str := ⟨#[c]⟩
def colN : List Nat := [97, 98, 99, 100, 101, 102]
def colS : List Str := ["a", "b", "c", "d", "e", "f"]
def colV : List V := colS.map V.str
theorem colS_sg : colS = colN.map sg := by decide +kernel
def isC (z : Str) : Bool := decide (z ∈ colS)
theorem isC_iff {z : Str} : isC z = true ↔ ∃ c, c ∈ colN ∧ z = sg c := by
  unfold isC
  rw [decide_eq_true_iff, colS_sg, List.mem_map]
  constructor
  · rintro ⟨c, h, e⟩; exact ⟨c, h, e.symm⟩
  · rintro ⟨c, h, e⟩; exact ⟨c, h, e.symm⟩
theorem eqV_str (x y : Str) : eqV (.str x) (.str y) = decide (x = y) := by
  unfold eqV
  first
    | rfl
    | (rw [Bool.eq_iff_iff]; simp)
theorem inV_str (z : Str) (l : List Str) : inV (.str z) (l.map V.str) = decide (z ∈ l) := by
  unfold inV
  rw [Bool.eq_iff_iff, decide_eq_true_iff, List.any_eq_true]
  constructor
  · rintro ⟨v, hv, e⟩
    obtain ⟨y, hy, rfl⟩ := List.mem_map.mp hv
    rw [eqV_str] at e
    have e' := of_decide_eq_true e
    rw [← e']; exact hy
  · intro h
    exact ⟨.str z, List.mem_map.mpr ⟨z, h, rfl⟩, by rw [eqV_str]; simp⟩
theorem flat_strs (l : List Str) : (l.map V.str).all flatV = true := by
  rw [List.all_eq_true]
  intro v hv
  obtain ⟨y, _, rfl⟩ := List.mem_map.mp hv
  rfl

/-! ### calls -/
inductive Kd where
  | m (n : Int) | s (z : Str)
def Kd.v : Kd → V
  | .m n => .int n
  | .s z => .str z
def Kd.ok : Kd → Bool
  | .m n => decide (1 ≤ n)
  | .s z => decide (z ∈ (["all", "swap"] : List Str))
theorem scal_k (k : Kd) (z : Str) : scal k.v (.str z) = true := by cases k <;> rfl
structure Cl where
  k : Kd
  a : Str
  b : Str
def Cl.vs (c : Cl) : List V := [c.k.v, .str c.a, .str c.b]
def Cl.ok (c : Cl) : Bool := c.k.ok && (isC c.a && (isC c.b && !decide (c.a = c.b)))
/-- how great its number is -/
def Kd.le (t : Int) (k : Kd) : Prop := ∀ n, k = .m n → n ≤ t
def Cl.le (t : Int) (c : Cl) : Prop := Kd.le t c.k
/-- a drill stands at a -/
def Drill (K : PySem.W.Frag) (H : Hp) (a : Addr) (D : List Cl) : Prop :=
  ∃ ts : List Addr, SqL K H a (ts.map V.ref) ∧ ts.length = D.length ∧ ∀ (i : Nat) (t : Addr) (c : Cl), ts[i]? = some t → D[i]? = some c → SqT K H t c.vs
theorem Drill.same {K : PySem.W.Frag} {H H' : Hp} {a : Addr} {D : List Cl} (e : Same H H') (h : Drill K H a D) : Drill K H' a D := by
  obtain ⟨ts, h1, h2, h3⟩ := h
  exact ⟨ts, e.seq h1, h2, fun i t c x y => Same.sqT e (h3 i t c x y)⟩

/-! ### the promises of the checks -/
def sp_is_colour (K : PySem.W.Frag) : Sp := fun vs H Q _ => ∃ z, vs = [.str z] ∧ Q (.bl (isC z)) H
def sp_is_kind (K : PySem.W.Frag) : Sp := fun vs H Q _ => ∃ k : Kd, vs = [k.v] ∧ ∀ H', Same H H' → Q (.bl k.ok) H'
def sp_is_call (K : PySem.W.Frag) : Sp := fun vs H Q _ => ∃ (t : Addr) (c : Cl), vs = [.ref t] ∧ SqT K H t c.vs ∧ ∀ H', Same H H' → Q (.bl c.ok) H'
def sp_check_drill (K : PySem.W.Frag) : Sp := fun vs H Q _ => ∃ (a : Addr) (D : List Cl), vs = [.ref a] ∧ Drill K H a D ∧ (∀ c ∈ D, c.ok = true) ∧ ∀ H', Same H H' → Q .non H'
def sp_check_row (K : PySem.W.Frag) : Sp := fun vs H Q _ => ∃ z : Str, vs = [.str z] ∧ (∀ c ∈ z.cps.toList, c ∈ colN) ∧ ∀ H', Same H H' → Q .non H'
def sp_check_counts (K : PySem.W.Frag) : Sp := fun vs H Q _ => ∃ (a : Addr) (ns : List Int), vs = [.ref a] ∧ SqL K H a (ns.map V.int) ∧ ns.length = 6 ∧ (∀ n ∈ ns, 0 ≤ n) ∧ ∀ H', Same H H' → Q .non H'

/-! ### counts -/
def ci (z : Str) : Nat := colS.idxOf z
theorem ci_lt {z : Str} (h : isC z = true) : ci z < 6 := by
  have h' : z ∈ colS := of_decide_eq_true h
  exact List.idxOf_lt_length_of_mem h'
theorem ci_get {z : Str} (h : isC z = true) : colS[ci z]? = some z := by
  have h' : z ∈ colS := of_decide_eq_true h
  rw [List.getElem?_eq_some_iff]
  exact ⟨ci_lt h, List.getElem_idxOf (ci_lt h)⟩
theorem ci_first {z : Str} : ∀ m, m < ci z → colS[m]? ≠ some z := fun m hm e => by
  have h1 := List.getElem?_eq_some_iff.mp e
  obtain ⟨hl, he⟩ := h1
  have h2 := List.not_of_lt_findIdx (p := fun y => y == z) (xs := colS) (i := m) (by simpa [ci, List.idxOf] using hm)
  simp [he] at h2
theorem ci_inj {y z : Str} (hy : isC y = true) (hz : isC z = true) (h : y ≠ z) : ci y ≠ ci z := fun e => by
  have h1 := ci_get hy
  rw [e, ci_get hz] at h1
  exact h (Option.some.inj h1).symm
def movers (k : Kd) (n : Int) : Int := match k with
  | .s _ => n
  | .m m => if m ≤ n then 1 else 0
def Kd.swap (k : Kd) : Bool := match k with
  | .s z => decide (z = "swap")
  | .m _ => false
def cn (ns : List Int) (z : Str) : Int := ns.getD (ci z) 0
theorem cn_get {ns : List Int} {z : Str} (h6 : ns.length = 6) (h : isC z = true) : ns[ci z]? = some (cn ns z) := by
  have := ci_lt h
  unfold cn
  rw [List.getD_eq_getElem?_getD]
  obtain ⟨x, hx⟩ := get_of_lt (l := ns) (i := ci z) (by omega)
  rw [hx]; rfl
def mv (c : Cl) (ns : List Int) : List Int :=
  let g := movers c.k (cn ns c.a)
  let b := if c.k.swap = true then cn ns c.b else 0
  let n1 := ns.set (ci c.a) (cn ns c.a + (b - g))
  n1.set (ci c.b) (cn n1 c.b + (g - b))
theorem mv_len (c : Cl) (ns : List Int) : (mv c ns).length = ns.length := by
  unfold mv; simp
def mvs (D : List Cl) (ns : List Int) : List Int := D.foldl (fun n c => mv c n) ns
theorem mvs_len (D : List Cl) : ∀ ns, (mvs D ns).length = ns.length := by
  unfold mvs
  induction D with
  | nil => intro ns; rfl
  | cons c D ih => intro ns; rw [List.foldl_cons, ih, mv_len]
theorem take_one {α : Type} {l : List α} {i : Nat} {x : α} (h : l[i]? = some x) : l.take (i + 1) = l.take i ++ [x] := by
  rw [List.take_add_one, h]; rfl
theorem mvs_more {D : List Cl} {i : Nat} {c : Cl} {ns : List Int} (h : D[i]? = some c) : mvs (D.take (i + 1)) ns = mv c (mvs (D.take i) ns) := by
  rw [take_one h]
  unfold mvs
  rw [List.foldl_append]; rfl
theorem Cl.ok_a {c : Cl} (h : c.ok = true) : isC c.a = true := by
  unfold Cl.ok at h; simp only [Bool.and_eq_true] at h; exact h.2.1
theorem Cl.ok_b {c : Cl} (h : c.ok = true) : isC c.b = true := by
  unfold Cl.ok at h; simp only [Bool.and_eq_true] at h; exact h.2.2.1
theorem Cl.ok_k {c : Cl} (h : c.ok = true) : c.k.ok = true := by
  unfold Cl.ok at h; simp only [Bool.and_eq_true] at h; exact h.1
theorem Cl.ok_ne {c : Cl} (h : c.ok = true) : c.a ≠ c.b := by
  unfold Cl.ok at h; simp only [Bool.and_eq_true] at h
  have := h.2.2.2
  simpa using this
theorem Kd.ok_s {z : Str} (h : (Kd.s z).ok = true) : z = "all" ∨ z = "swap" := by
  have h' : z ∈ (["all", "swap"] : List Str) := of_decide_eq_true h
  simpa using h'
/-- a new list of ints -/
def NewInts (H : Hp) (ns : List Int) (Q : VK) : Prop := ∀ H' p, Same H H' → H p = none → H' p = some (.lst (ns.map V.int)) → Q (.ref p) H'
def sp_count_of (K : PySem.W.Frag) : Sp := fun vs H Q _ => ∃ (a : Addr) (ns : List Int) (z : Str), vs = [.ref a, .str z] ∧ SqL K H a (ns.map V.int) ∧ ns.length = 6 ∧ isC z = true ∧ Q (.int (cn ns z)) H
def sp_count_movers (K : PySem.W.Frag) : Sp := fun vs H Q _ => ∃ (k : Kd) (n : Int), vs = [k.v, .int n] ∧ k.ok = true ∧ Q (.int (movers k n)) H
def sp_move_counts (K : PySem.W.Frag) : Sp := fun vs H Q _ => ∃ (t : Addr) (c : Cl) (a : Addr) (ns : List Int), vs = [.ref t, .ref a] ∧ SqT K H t c.vs ∧ c.ok = true ∧
  SqL K H a (ns.map V.int) ∧ ns.length = 6 ∧ NewInts H (mv c ns) Q
def tally (l : List Nat) : List Int := colN.map fun c => (l.count c : Int)
def sp_count_colours (K : PySem.W.Frag) : Sp := fun vs H Q _ => ∃ z : Str, vs = [.str z] ∧ (∀ c ∈ z.cps.toList, c ∈ colN) ∧ NewInts H (tally z.cps.toList) Q
def sp_run_on_counts (K : PySem.W.Frag) : Sp := fun vs H Q _ => ∃ (d a : Addr) (D : List Cl) (ns : List Int), vs = [.ref d, .ref a] ∧ Drill K H d D ∧ (∀ c ∈ D, c.ok = true) ∧
  SqL K H a (ns.map V.int) ∧ ns.length = 6 ∧ (∀ n ∈ ns, 0 ≤ n) ∧ NewInts H (mvs D ns) Q
theorem map_int_set (ns : List Int) (i : Nat) (n : Int) : (ns.map V.int).set i (.int n) = (ns.set i n).map V.int := by
  rw [List.map_set]
theorem ixN_nat {n i : Nat} (h : i < n) : ixN n (i : Int) = some i := by
  unfold ixN
  rw [if_pos (by omega), if_pos (by omega)]
  simp
theorem cnt_count (c : Nat) : ∀ l : List Nat, PyProof.Rows.cnt c l = (l.count c : Int)
  | [] => rfl
  | n :: r => by
    rw [PyProof.Rows.cnt_cons, cnt_count c r, List.count_cons]
    by_cases e : n = c
    · subst e; simp; omega
    · simp [e]
theorem txt_count (z : Str) (c : Nat) : Txt.count z (sg c) = (z.cps.toList.count c : Int) := by
  rw [PyProof.Rows.count_cnt, cnt_count]
end Dr
/-! ### the draws of the laws with _law_rng -/
namespace Dr
open PySem L2
/-- the state of the draws at r: at most c of them were mixed -/
def Rg (H : Hp) (r : Addr) (c : Nat) : Prop := ∃ d s n : Int, H r = some (.lst [.int d, .int s, .int n]) ∧ 0 ≤ d ∧ 0 ≤ s ∧ s < 2305843009213693951 ∧ 0 ≤ n ∧ n ≤ c
theorem Rg.mono {H : Hp} {r : Addr} {c c' : Nat} (h : Rg H r c) (l : c ≤ c') : Rg H r c' := by
  obtain ⟨d, s, n, h1, h2, h3, h4, h5, h6⟩ := h
  exact ⟨d, s, n, h1, h2, h3, h4, h5, by omega⟩
/-- a def that draws: from H, at most k draws more; what it leaves beside the state of the draws is told by P -/
def Drawn (r : Addr) (H : Hp) (c : Nat) (P : Hp → Prop) : Prop := ∀ H', Same (hid r H) (hid r H') → Rg H' r c → P H'
theorem Rg.new {H : Hp} {r p : Addr} {c : Nat} {o : HO} (h : Rg H r c) (hp : H p = none) : Rg (upd H p o) r c := by
  obtain ⟨d, s, n, h1, h2⟩ := h
  exact ⟨d, s, n, by rw [upd_ne (ne_of_none h1 hp)]; exact h1, h2⟩
theorem Rg.ne {H : Hp} {r p : Addr} {c : Nat} (h : Rg H r c) (hp : H p = none) : p ≠ r := by
  obtain ⟨d, s, n, h1, h2⟩ := h
  exact (ne_of_none h1 hp).symm
theorem Rg.upd {H : Hp} {r p : Addr} {c : Nat} {o : HO} (h : Rg H r c) (hp : p ≠ r) : Rg (L2.upd H p o) r c := by
  obtain ⟨d, s, n, h1, h2⟩ := h
  exact ⟨d, s, n, by rw [upd_ne hp.symm]; exact h1, h2⟩
def sp_law_draw (K : PySem.W.Frag) : Sp := fun vs H Q _ => ∃ (r : Addr) (lim : Int) (c : Nat), vs = [.ref r, .int lim] ∧ Rg H r c ∧ c < 1000000000 ∧ 0 < lim ∧ lim < 2 ^ 200 ∧
  ∀ H' n, Same (hid r H) (hid r H') → Rg H' r (c + 1) → 0 ≤ n → n < lim → Q (.int n) H'
def sp_law_rng (K : PySem.W.Frag) : Sp := fun vs H Q _ => ∃ (a : Addr) (ns : List Int), vs = [.ref a] ∧ SqL K H a (ns.map V.int) ∧ ns.length ≤ 1000000 ∧ ∀ H' r, Same H H' → H r = none → Rg H' r 0 → Q (.ref r) H'
theorem cut_ints (ns : List Int) (lo hi : Option Int) : ∃ ms : List Int, cutV (ns.map V.int) lo hi = ms.map V.int ∧ ms.length ≤ ns.length := by
  refine ⟨(ns.drop (HT.sIx ns.length 0 lo)).take (HT.sIx ns.length ns.length hi - HT.sIx ns.length 0 lo), ?_, ?_⟩
  · unfold cutV
    rw [List.length_map, List.map_take, List.map_drop]
  · simp; omega
theorem cut_63 (ns : List Int) : (cutV (ns.map V.int) none (some 63)).length ≤ 63 := by
  unfold cutV
  rw [HT.sIx_none]
  have h : HT.sIx (ns.map V.int).length (ns.map V.int).length (some 63) = min 63 (ns.map V.int).length := HT.sIx_nat _ _ 63
  rw [h]
  simp
  omega
end Dr
namespace Dr
open PySem L2
theorem ext_get {r p : Addr} {H H' : Hp} {o : HO} (S : Same (hid r H) (hid r H')) (hp : p ≠ r) (h : H p = some o) : H' p = some o := by
  have e := S p o (by rw [hid_ne hp]; exact h)
  rw [hid_ne hp] at e
  exact e
theorem ext_free {r p : Addr} {H H' : Hp} (S : Same (hid r H) (hid r H')) (hp : p ≠ r) (h : H' p = none) : H p = none := by
  have e := S.free (l := p) (by rw [hid_ne hp]; exact h)
  rw [hid_ne hp] at e
  exact e
theorem hid_get {r p : Addr} {H : Hp} {o : HO} (hp : p ≠ r) (h : H p = some o) : hid r H p = some o := by rw [hid_ne hp]; exact h
theorem ext_upd {r p : Addr} {H H' : Hp} {o : HO} (S : Same (hid r H) (hid r H')) (hp : p ≠ r) (h : H p = none) : Same (hid r H) (hid r (upd H' p o)) := fun b u e => by
  have hb := hid_some e
  have e' := hid_same b u e
  have nb : b ≠ p := fun z => by subst z; rw [h] at e'; cases e'
  rw [hid_ne hb, upd_ne nb]
  exact ext_get S hb e'
theorem pick {α : Type} {xs : List α} {n : Int} (h0 : 0 ≤ n) (h1 : n < xs.length) : ∃ (j : Nat) (x : α), n = (j : Int) ∧ j < xs.length ∧ xs[j]? = some x ∧ atI xs n = some x ∧ x ∈ xs := by
  obtain ⟨j, rfl⟩ : ∃ j : Nat, n = (j : Int) := ⟨n.toNat, by omega⟩
  have hj : j < xs.length := by omega
  obtain ⟨x, hx⟩ := get_of_lt hj
  exact ⟨j, x, rfl, hj, hx, atI_nat hx, List.mem_of_getElem? hx⟩
theorem pick_ints {ns : List Int} {n : Int} (h0 : 0 ≤ n) (h1 : n < ns.length) : ∃ m, m ∈ ns ∧ atI (ns.map V.int) n = some (.int m) := by
  obtain ⟨j, x, rfl, hj, hx, _, hm⟩ := pick (xs := ns) h0 h1
  exact ⟨x, hm, at_of rfl (by rw [List.getElem?_map, hx]; rfl)⟩
theorem pick_strs {ls : List Str} {n : Int} (h0 : 0 ≤ n) (h1 : n < ls.length) : ∃ z, z ∈ ls ∧ atI (ls.map V.str) n = some (.str z) := by
  obtain ⟨j, x, rfl, hj, hx, _, hm⟩ := pick (xs := ls) h0 h1
  exact ⟨x, hm, at_of rfl (by rw [List.getElem?_map, hx]; rfl)⟩
theorem abc_signs : (("abcdef" : Str).cps.toList.map fun c => V.str ⟨#[c]⟩) = colV := by decide +kernel
theorem abc_list : ("abcdef" : Str).cps.toList = colN := by decide +kernel
/-- some colours that differ, in any order -/
structure Lett (ls : List Str) : Prop where
  pos : 1 ≤ ls.length
  six : ls.length ≤ 6
  nd : ls.Nodup
  col : ∀ z ∈ ls, isC z = true
theorem colS_nd : colS.Nodup := by decide +kernel
theorem col_isC {z : Str} (h : z ∈ colS) : isC z = true := decide_eq_true h
theorem Lett.of {got rest : List Str} (h : (got ++ rest).Perm colS) (h1 : 1 ≤ got.length) (h6 : got.length ≤ 6) : Lett got where
  pos := h1
  six := h6
  nd := by
    have := (List.Perm.nodup_iff h).mpr colS_nd
    exact (List.nodup_append.mp this).1
  col := fun z hz => col_isC (h.mem_iff.mp (List.mem_append_left _ hz))
theorem erase_perm {α : Type} : ∀ {l : List α} {k : Nat} {x : α}, l[k]? = some x → (x :: l.eraseIdx k).Perm l
  | [], _, _, h => by simp at h
  | a :: l, 0, x, h => by
    have e : a = x := Option.some.inj h
    subst e
    exact List.Perm.refl _
  | a :: l, k + 1, x, h => (List.Perm.swap a x _).trans (List.Perm.cons a (erase_perm (l := l) (k := k) (by simpa using h)))
theorem perm_pop {got rest : List Str} {k : Nat} {x : Str} (h : (got ++ rest).Perm colS) (hx : rest[k]? = some x) : ((got ++ [x]) ++ rest.eraseIdx k).Perm colS := by
  rw [List.append_assoc]
  exact (List.Perm.append_left got (erase_perm hx)).trans h
def sp_law_letters (K : PySem.W.Frag) : Sp := fun vs H Q _ => ∃ (r : Addr) (c : Nat), vs = [.ref r] ∧ Rg H r c ∧ c < 900000000 ∧
  ∀ H' p ls, Same (hid r H) (hid r H') → Rg H' r (c + 7) → H p = none → p ≠ r → H' p = some (.lst (ls.map V.str)) → Lett ls → Q (.ref p) H'
def sp_law_line (K : PySem.W.Frag) : Sp := fun vs H Q _ => ∃ (r l : Addr) (longest : Int) (ls : List Str) (c : Nat), vs = [.ref r, .ref l, .int longest] ∧ Rg H r c ∧ c < 900000000 ∧
  SqL K (hid r H) l (ls.map V.str) ∧ Lett ls ∧ 0 ≤ longest ∧ longest ≤ 1000 ∧
  ∀ H' z, Same (hid r H) (hid r H') → Rg H' r (c + 4000) → (∀ x ∈ z.cps.toList, x ∈ colN) → (z.cps.size : Int) ≤ longest → Q (.str z) H'
def sp_law_order (K : PySem.W.Frag) : Sp := fun vs H Q _ => ∃ (r l : Addr) (top : Int) (ls : List Str) (c : Nat), vs = [.ref r, .ref l, .int top] ∧ Rg H r c ∧ c < 950000000 ∧
  SqL K (hid r H) l (ls.map V.str) ∧ Lett ls ∧ 2 ≤ top ∧ top ≤ 1000 ∧
  ∀ (H' : Hp) (t : Addr) (cl : Cl), Same (hid r H) (hid r H') → Rg H' r (c + 6) → t ≠ r → H' t = some (.tup cl.vs) → cl.ok = true → Cl.le top cl → Q (.ref t) H'
def sp_law_orders (K : PySem.W.Frag) : Sp := fun vs H Q _ => ∃ (r l : Addr) (longest top : Int) (ls : List Str) (c : Nat), vs = [.ref r, .ref l, .int longest, .int top] ∧ Rg H r c ∧ c < 900000000 ∧
  SqL K (hid r H) l (ls.map V.str) ∧ Lett ls ∧ 0 ≤ longest ∧ longest ≤ 1000 ∧ 2 ≤ top ∧ top ≤ 1000 ∧
  ∀ (H' : Hp) (a : Addr) (D : List Cl), Same (hid r H) (hid r H') → Rg H' r (c + 7000) → Drill K (hid r H') a D → (∀ cl ∈ D, cl.ok = true) → (∀ cl ∈ D, Cl.le top cl) → (D.length : Int) ≤ longest → Q (.ref a) H'
def sp_law_tally (K : PySem.W.Frag) : Sp := fun vs H Q _ => ∃ z : Str, vs = [.str z] ∧ NewInts H (tally z.cps.toList) Q
end Dr
namespace Dr
open PySem L2
theorem erase_map {α β : Type} (f : α → β) : ∀ (l : List α) (j : Nat), (l.map f).eraseIdx j = (l.eraseIdx j).map f
  | [], _ => by simp
  | _ :: _, 0 => rfl
  | a :: l, j + 1 => by
    show f a :: (l.map f).eraseIdx j = f a :: (l.eraseIdx j).map f
    rw [erase_map f l j]
theorem str_last {z : Str} (h : ¬ z = "") : ∃ x, x ∈ z.cps.toList ∧ atI z.cps.toList (-1) = some x := by
  have hne : z.cps.toList ≠ [] := fun e => h (by
    cases z with | mk a => cases a; simp at e; subst e; rfl)
  refine ⟨z.cps.toList.getLast hne, List.getLast_mem hne, ?_⟩
  have e := List.dropLast_concat_getLast hne
  have q := atI_last z.cps.toList.dropLast (z.cps.toList.getLast hne)
  rw [e] at q
  exact q
theorem str_app (a b : Str) : (a ++ b).cps.toList = a.cps.toList ++ b.cps.toList := by
  show (a.cps ++ b.cps).toList = _
  simp
theorem str_size (a b : Str) : (a ++ b).cps.size = a.cps.size + b.cps.size := by
  show (a.cps ++ b.cps).size = _
  simp
end Dr
namespace Dr
open PySem L2
abbrev without (x : Str) (l : List Str) : List Str := l.filter fun y => !decide (V.str y = V.str x)
theorem without_len {x : Str} : ∀ {l : List Str}, l.Nodup → x ∈ l → (without x l).length + 1 = l.length
  | [], _, h => by simp at h
  | a :: l, nd, h => by
    obtain ⟨h1, h2⟩ := List.nodup_cons.mp nd
    unfold without
    by_cases e : a = x
    · subst e
      rw [List.filter_cons_of_neg (by simp)]
      have : l.filter (fun y => !decide (V.str y = V.str a)) = l := List.filter_eq_self.mpr fun y hy => by
        have : y ≠ a := fun q => h1 (q ▸ hy)
        simp [this]
      rw [this, List.length_cons]
    · rw [List.filter_cons_of_pos (by simp [e]), List.length_cons, List.length_cons]
      have hx : x ∈ l := by
        rcases List.mem_cons.mp h with q | q
        · exact absurd q.symm e
        · exact q
      rw [without_len h2 hx]
theorem without_mem {x y : Str} {l : List Str} (h : y ∈ without x l) : y ∈ l ∧ y ≠ x := by
  obtain ⟨h1, h2⟩ := List.mem_filter.mp h
  refine ⟨h1, fun e => ?_⟩
  subst e
  simp at h2
theorem filter_take {α : Type} (p : α → Bool) {l : List α} {i : Nat} {x : α} (h : l[i]? = some x) : (l.take (i + 1)).filter p = (l.take i).filter p ++ (if p x = true then [x] else []) := by
  rw [take_one h, List.filter_append]
  congr 1
  by_cases e : p x = true
  · rw [if_pos e, List.filter_cons_of_pos e]; rfl
  · rw [if_neg e, List.filter_cons_of_neg e]; rfl
theorem kind_menu {n t : Int} (hn : 1 ≤ n) (ht : n ≤ t) (h2 : 2 ≤ t) {v : V} (h : v ∈ [V.int 1, V.int 1, V.int 2, V.int n, V.str "all", V.str "swap"]) : ∃ k : Kd, k.v = v ∧ k.ok = true ∧ Kd.le t k := by
  simp only [List.mem_cons, List.not_mem_nil, or_false] at h
  rcases h with h | h | h | h | h | h
  · exact ⟨.m 1, h.symm, by decide, fun m e => by cases e; omega⟩
  · exact ⟨.m 1, h.symm, by decide, fun m e => by cases e; omega⟩
  · exact ⟨.m 2, h.symm, by decide, fun m e => by cases e; omega⟩
  · exact ⟨.m n, h.symm, decide_eq_true hn, fun m e => by cases e; exact ht⟩
  · exact ⟨.s "all", h.symm, by decide +kernel, fun m e => by cases e⟩
  · exact ⟨.s "swap", h.symm, by decide +kernel, fun m e => by cases e⟩
theorem Cl.le_mono {s t : Int} {c : Cl} (h : Cl.le s c) (e : s ≤ t) : Cl.le t c := fun n q => Int.le_trans (h n q) e
theorem abc_at {i c : Nat} (h : ("abcdef" : Str).cps[i]? = some c) : colS[i]? = some (sg c) := by
  have h' : colN[i]? = some c := by rw [← abc_list]; simpa using h
  rw [colS_sg, List.getElem?_map, h']
  rfl
theorem Cl.mk_ok {k : Kd} {a b : Str} (hk : k.ok = true) (ha : isC a = true) (hb : isC b = true) (h : a ≠ b) : (Cl.mk k a b).ok = true := by
  unfold Cl.ok
  rw [hk, ha, hb]
  simp [h]
end Dr
/-! Calls on rows, person by person, and their counts. -/
namespace Dr
open PySem L2
def cc (z : Str) : Nat := z.cps.toList.headD 0
theorem cc_sg (c : Nat) : cc (sg c) = c := rfl
theorem sg_cc {z : Str} (h : isC z = true) : sg (cc z) = z := by
  obtain ⟨c, _, rfl⟩ := isC_iff.mp h
  rfl
theorem cc_col {z : Str} (h : isC z = true) : cc z ∈ colN := by
  obtain ⟨c, hc, rfl⟩ := isC_iff.mp h
  exact hc
theorem sg_inj {a b : Nat} (h : sg a = sg b) : a = b := congrArg cc h
theorem cc_ne {a b : Str} (ha : isC a = true) (hb : isC b = true) (h : a ≠ b) : cc a ≠ cc b := fun e => h (by rw [← sg_cc ha, ← sg_cc hb, e])
/-- the places of the wearers of a -/
def posN (a : Nat) (l : List Nat) : List Nat := (List.range l.length).filter fun p => decide (l[p]? = some a)
def setAll (b : Nat) (l : List Nat) (ps : List Nat) : List Nat := ps.foldl (fun l p => l.set p b) l
/-- one call, as the laws reckon it: the places first -/
def run1 (c : Cl) (l : List Nat) : List Nat :=
  let ch := posN (cc c.a) l
  match c.k with
  | .m n => setAll (cc c.b) l ((ch.drop (n - 1).toNat).take 1)
  | .s z => if z = "swap" then setAll (cc c.b) (l.map fun y => if y = cc c.b then cc c.a else y) ch else setAll (cc c.b) l ch
def runs (D : List Cl) (l : List Nat) : List Nat := D.foldl (fun l c => run1 c l) l
theorem runs_more {D : List Cl} {i : Nat} {c : Cl} {l : List Nat} (h : D[i]? = some c) : runs (D.take (i + 1)) l = run1 c (runs (D.take i) l) := by
  rw [take_one h]
  unfold runs
  rw [List.foldl_append]; rfl
theorem setAll_len (b : Nat) : ∀ (ps l : List Nat), (setAll b l ps).length = l.length
  | [], _ => rfl
  | p :: ps, l => by
    show (setAll b (l.set p b) ps).length = _
    rw [setAll_len b ps, List.length_set]
theorem run1_len (c : Cl) (l : List Nat) : (run1 c l).length = l.length := by
  unfold run1
  split
  · exact setAll_len _ _ _
  · split
    · rw [setAll_len]; simp
    · exact setAll_len _ _ _
theorem runs_len (D : List Cl) : ∀ l, (runs D l).length = l.length := by
  unfold runs
  induction D with
  | nil => intro l; rfl
  | cons c D ih => intro l; rw [List.foldl_cons, ih, run1_len]
theorem posN_iff {a : Nat} {l : List Nat} {p : Nat} : p ∈ posN a l ↔ l[p]? = some a := by
  unfold posN
  rw [List.mem_filter, List.mem_range]
  constructor
  · exact fun h => of_decide_eq_true h.2
  · exact fun h => ⟨lt_of_get h, decide_eq_true h⟩
theorem posN_nd (a : Nat) (l : List Nat) : (posN a l).Nodup := List.Pairwise.filter _ List.nodup_range
theorem count_set {a b x : Nat} : ∀ {l : List Nat} {p : Nat}, l[p]? = some a → ((l.set p b).count x : Int) = l.count x - (if a = x then 1 else 0) + (if b = x then 1 else 0)
  | [], _, h => by simp at h
  | y :: l, 0, h => by
    have e : y = a := Option.some.inj h
    subst e
    show (((b :: l).count x : Nat) : Int) = _
    rw [List.count_cons, List.count_cons]
    by_cases h1 : b = x <;> by_cases h2 : y = x <;> simp [h1, h2] <;> omega
  | y :: l, p + 1, h => by
    have ih := count_set (a := a) (b := b) (x := x) (l := l) (p := p) (by simpa using h)
    show (((y :: l.set p b).count x : Nat) : Int) = _
    rw [List.count_cons, List.count_cons]
    omega
theorem count_setAll {a b x : Nat} (hab : a ≠ b) : ∀ {ps l : List Nat}, ps.Nodup → (∀ p ∈ ps, l[p]? = some a) →
    ((setAll b l ps).count x : Int) = l.count x - (if a = x then (ps.length : Int) else 0) + (if b = x then (ps.length : Int) else 0)
  | [], l, _, _ => by
    show (l.count x : Int) = _
    simp
  | p :: ps, l, nd, h => by
    obtain ⟨h1, h2⟩ := List.nodup_cons.mp nd
    have h0 := h p List.mem_cons_self
    have ih := count_setAll (x := x) hab (ps := ps) (l := l.set p b) h2 fun q hq => by
      have nq : p ≠ q := fun e => h1 (e ▸ hq)
      rw [List.getElem?_set_ne nq]
      exact h q (List.mem_cons_of_mem _ hq)
    show ((setAll b (l.set p b) ps).count x : Int) = _
    rw [ih, count_set h0, List.length_cons]
    by_cases c1 : a = x <;> by_cases c2 : b = x <;> simp [c1, c2] <;> omega
theorem posN_len (a : Nat) : ∀ l : List Nat, (posN a l).length = l.count a := by
  intro l
  unfold posN
  rw [← List.countP_eq_length_filter]
  induction l with
  | nil => rfl
  | cons y l ih =>
    rw [List.length_cons, List.range_succ_eq_map, List.countP_cons, List.countP_map, List.count_cons]
    have e : ((fun p => decide ((y :: l)[p]? = some a)) ∘ Nat.succ) = fun p => decide (l[p]? = some a) := by
      funext p; simp
    rw [e, ih]
    by_cases h : y = a <;> simp [h]
theorem count_map_ab {a b x : Nat} (hab : a ≠ b) : ∀ l : List Nat, ((l.map fun y => if y = b then a else y).count x : Int) = if x = a then (l.count a : Int) + l.count b else if x = b then 0 else (l.count x : Int)
  | [] => by simp
  | y :: l => by
    have ih := count_map_ab (x := x) hab l
    rw [List.map_cons, List.count_cons, List.count_cons, List.count_cons, List.count_cons]
    by_cases h1 : y = b
    · subst h1
      by_cases h2 : x = a
      · subst h2
        simp [hab, Ne.symm hab] at ih ⊢
        omega
      · by_cases h3 : x = y
        · subst h3
          simp [h2, Ne.symm h2, hab] at ih ⊢
          omega
        · simp [h2, h3, Ne.symm h2, Ne.symm h3] at ih ⊢
          omega
    · by_cases h2 : x = a
      · subst h2
        by_cases h4 : y = x <;> simp [h1, h4, hab] at ih ⊢ <;> omega
      · by_cases h3 : x = b
        · subst h3
          simp [h1, h2] at ih ⊢
          omega
        · by_cases h4 : y = x <;> simp [h1, h2, h3, h4] at ih ⊢ <;> omega

theorem tally_at {l : List Nat} {z : Str} (h : isC z = true) : cn (tally l) z = (l.count (cc z) : Int) := by
  have h1 := cn_get (ns := tally l) rfl h
  have h2 := ci_get h
  rw [colS_sg, List.getElem?_map] at h2
  unfold tally at h1 ⊢
  rw [List.getElem?_map] at h1
  cases e : colN[ci z]? with
  | none => rw [e] at h2; cases h2
  | some c =>
    rw [e] at h1 h2
    have e1 : sg c = z := Option.some.inj h2
    rw [← e1, cc_sg]
    rw [← e1] at h1
    exact (Option.some.inj h1).symm
/-- how many change -/
def moved (c : Cl) (l : List Nat) : Int := movers c.k (l.count (cc c.a))
theorem run1_count {c : Cl} (hv : c.ok = true) (l : List Nat) (x : Nat) : ((run1 c l).count x : Int) =
    l.count x - (if cc c.a = x then moved c l - (if c.k.swap = true then (l.count (cc c.b) : Int) else 0) else 0) + (if cc c.b = x then moved c l - (if c.k.swap = true then (l.count (cc c.b) : Int) else 0) else 0) := by
  have va := Cl.ok_a hv
  have vb := Cl.ok_b hv
  have hk := Cl.ok_k hv
  have hab : cc c.a ≠ cc c.b := cc_ne va vb (Cl.ok_ne hv)
  have nd := posN_nd (cc c.a) l
  have len := posN_len (cc c.a) l
  unfold run1 moved
  cases e : c.k with
  | m n =>
    rw [e] at hk
    have hn : 1 ≤ n := of_decide_eq_true hk
    have es : ¬ (Kd.m n).swap = true := by intro z; cases z
    dsimp only
    rw [count_setAll hab (((List.take_sublist _ _).trans (List.drop_sublist _ _)).nodup nd) (fun p hp => posN_iff.mp (List.mem_of_mem_drop (List.mem_of_mem_take hp))), if_neg es]
    have hl : ((((posN (cc c.a) l).drop (n - 1).toNat).take 1).length : Int) = movers (.m n) (l.count (cc c.a)) := by
      rw [List.length_take, List.length_drop, len]
      show _ = if n ≤ (l.count (cc c.a) : Int) then (1 : Int) else 0
      split <;> omega
    rw [hl]
    split <;> split <;> omega
  | s z =>
    rw [e] at hk
    dsimp only
    by_cases hz : z = "swap"
    · have es : (Kd.s z).swap = true := decide_eq_true hz
      rw [if_pos hz, if_pos es]
      have hpos : ∀ p ∈ posN (cc c.a) l, (l.map fun y => if y = cc c.b then cc c.a else y)[p]? = some (cc c.a) := fun p hp => by
        rw [List.getElem?_map, posN_iff.mp hp]
        simp [hab]
      rw [count_setAll hab nd hpos, count_map_ab hab, len]
      show _ = (l.count x : Int) - (if cc c.a = x then (l.count (cc c.a) : Int) - _ else 0) + (if cc c.b = x then (l.count (cc c.a) : Int) - _ else 0)
      by_cases h1 : cc c.a = x
      · subst h1
        simp [hab, Ne.symm hab]
        omega
      · by_cases h2 : cc c.b = x
        · subst h2
          simp [hab, Ne.symm hab]
          omega
        · simp [h1, h2, Ne.symm h1, Ne.symm h2]
    · have es : ¬ (Kd.s z).swap = true := fun q => hz (of_decide_eq_true q)
      rw [if_neg hz, if_neg es]
      rw [count_setAll hab nd (fun p hp => posN_iff.mp hp), len]
      show _ = (l.count x : Int) - (if cc c.a = x then (l.count (cc c.a) : Int) - 0 else 0) + (if cc c.b = x then (l.count (cc c.a) : Int) - 0 else 0)
      split <;> split <;> omega
theorem colN_ci {z : Str} (h : isC z = true) : colN[ci z]? = some (cc z) := by
  have h2 := ci_get h
  rw [colS_sg, List.getElem?_map] at h2
  cases e : colN[ci z]? with
  | none => rw [e] at h2; cases h2
  | some c => rw [e] at h2; rw [← Option.some.inj h2]; rfl
theorem tally_run1 {c : Cl} (hv : c.ok = true) (l : List Nat) : tally (run1 c l) = mv c (tally l) := by
  have va := Cl.ok_a hv
  have vb := Cl.ok_b hv
  have hab : cc c.a ≠ cc c.b := cc_ne va vb (Cl.ok_ne hv)
  have hci := ci_inj va vb (Cl.ok_ne hv)
  have la := ci_lt va
  have lb := ci_lt vb
  have h6 : (tally l).length = 6 := rfl
  refine List.ext_getElem? fun i => ?_
  by_cases hi : i < 6
  · obtain ⟨x, hx⟩ := get_of_lt (l := colN) (i := i) hi
    have e1 : (tally (run1 c l))[i]? = some ((run1 c l).count x : Int) := by unfold tally; rw [List.getElem?_map, hx]; rfl
    have e0 : (tally l)[i]? = some (l.count x : Int) := by unfold tally; rw [List.getElem?_map, hx]; rfl
    rw [e1, run1_count hv]
    have ixa : ci c.a = i ↔ cc c.a = x := by
      constructor
      · intro e; have := colN_ci va; rw [e, hx] at this; exact (Option.some.inj this).symm
      · intro e
        have := colN_ci va
        rw [e] at this
        exact nd_ix (l := colN) (by decide) this hx
    have ixb : ci c.b = i ↔ cc c.b = x := by
      constructor
      · intro e; have := colN_ci vb; rw [e, hx] at this; exact (Option.some.inj this).symm
      · intro e
        have := colN_ci vb
        rw [e] at this
        exact nd_ix (l := colN) (by decide) this hx
    unfold mv moved
    rw [tally_at va, tally_at vb]
    dsimp only
    have hcn : cn ((tally l).set (ci c.a) ((l.count (cc c.a) : Int) + ((if c.k.swap = true then (l.count (cc c.b) : Int) else 0) - movers c.k (l.count (cc c.a))))) c.b = (l.count (cc c.b) : Int) := by
      have h1 := cn_get (ns := (tally l).set (ci c.a) ((l.count (cc c.a) : Int) + ((if c.k.swap = true then (l.count (cc c.b) : Int) else 0) - movers c.k (l.count (cc c.a))))) (by rw [List.length_set]; rfl) vb
      rw [List.getElem?_set_ne hci] at h1
      have h2 := cn_get (ns := tally l) rfl vb
      rw [h2, tally_at vb] at h1
      exact (Option.some.inj h1).symm
    rw [hcn]
    by_cases h2 : ci c.b = i
    · rw [h2, List.getElem?_set_self (by rw [List.length_set]; omega)]
      have n1 : ¬ cc c.a = x := fun e => hab (e.trans (ixb.mp h2).symm)
      rw [if_neg n1, if_pos (ixb.mp h2), ← ixb.mp h2]
      congr 1 <;> omega
    · rw [List.getElem?_set_ne h2]
      rw [if_neg (fun e => h2 (ixb.mpr e))]
      by_cases h1 : ci c.a = i
      · rw [h1, List.getElem?_set_self (by omega), if_pos (ixa.mp h1), ← ixa.mp h1]
        congr 1 <;> omega
      · rw [List.getElem?_set_ne h1, e0, if_neg (fun e => h1 (ixa.mpr e))]
        congr 1 <;> omega
  · rw [List.getElem?_eq_none (by show 6 ≤ i; omega), List.getElem?_eq_none (by rw [mv_len]; show 6 ≤ i; omega)]
theorem tally_runs {D : List Cl} (hv : ∀ c ∈ D, c.ok = true) : ∀ l, tally (runs D l) = mvs D (tally l) := by
  induction D with
  | nil => intro l; rfl
  | cons c D ih =>
    intro l
    show tally (runs D (run1 c l)) = mvs D (mv c (tally l))
    rw [ih (fun x hx => hv x (List.mem_cons_of_mem _ hx)), tally_run1 (hv c List.mem_cons_self)]
theorem setAll_mem {b : Nat} : ∀ {ps l : List Nat} {y : Nat}, y ∈ setAll b l ps → y = b ∨ y ∈ l
  | [], l, y, h => .inr h
  | p :: ps, l, y, h => by
    rcases setAll_mem (ps := ps) (l := l.set p b) h with h | h
    · exact .inl h
    · exact (List.mem_or_eq_of_mem_set h).symm
theorem run1_col {c : Cl} (hv : c.ok = true) {l : List Nat} (h : ∀ y ∈ l, y ∈ colN) : ∀ y ∈ run1 c l, y ∈ colN := by
  have ka := cc_col (Cl.ok_a hv)
  have kb := cc_col (Cl.ok_b hv)
  intro y hy
  unfold run1 at hy
  dsimp only at hy
  split at hy
  · rcases setAll_mem hy with q | q
    · rw [q]; exact kb
    · exact h y q
  · split at hy
    · rcases setAll_mem hy with q | q
      · rw [q]; exact kb
      · obtain ⟨x, hx, rfl⟩ := List.mem_map.mp q
        split
        · exact ka
        · exact h x hx
    · rcases setAll_mem hy with q | q
      · rw [q]; exact kb
      · exact h y q
theorem runs_col {D : List Cl} (hv : ∀ c ∈ D, c.ok = true) : ∀ {l : List Nat}, (∀ y ∈ l, y ∈ colN) → ∀ y ∈ runs D l, y ∈ colN := by
  induction D with
  | nil => intro l h; exact h
  | cons c D ih =>
    intro l h
    exact ih (fun x hx => hv x (List.mem_cons_of_mem _ hx)) (run1_col (hv c List.mem_cons_self) h)
end Dr
namespace Dr
open PySem L2
abbrev cV (c : Nat) : V := V.str (sg c)
abbrev nV (n : Nat) : V := V.int (n : Int)
open TL in
theorem joinL_one : ∀ l : List Nat, joinL [] (l.map fun c => [c]) = l
  | [] => rfl
  | [c] => rfl
  | c :: d :: l => by
    have ih := joinL_one (d :: l)
    show [c] ++ [] ++ joinL [] ((d :: l).map fun c => [c]) = _
    rw [ih]
    rfl
open TL in
theorem join_sg (l : List Nat) : Txt.join "" (l.map sg) = ⟨l.toArray⟩ := by
  have h : tl (Txt.join "" (l.map sg)) = l := by
    rw [join_eq, tl_join, List.map_map]
    exact joinL_one l
  have h' : (Txt.join "" (l.map sg)).cps.toList = l := h
  cases e : Txt.join "" (l.map sg) with
  | mk a =>
    rw [e] at h'
    have : a = l.toArray := by
      rw [← h']
    rw [this]
theorem cut_call {α : Type} (xs : List α) {n : Nat} (hn : 1 ≤ n) : (xs.drop (min (n - 1) xs.length)).take (min n xs.length - min (n - 1) xs.length) = (xs.drop (n - 1)).take 1 := by
  by_cases h : n ≤ xs.length
  · rw [Nat.min_eq_left h, Nat.min_eq_left (by omega), show n - (n - 1) = 1 by omega]
  · rw [List.drop_eq_nil_of_le (i := n - 1) (by omega), show min n xs.length - min (n - 1) xs.length = 0 by omega]
    simp
theorem cutV_call (xs : List V) {n : Int} (hn : 1 ≤ n) : cutV xs (some (n - 1)) (some n) = (xs.drop (n - 1).toNat).take 1 := by
  obtain ⟨k, rfl⟩ : ∃ k : Nat, n = (k : Int) := ⟨n.toNat, by omega⟩
  have h1 : ((k : Int) - 1) = ((k - 1 : Nat) : Int) := by omega
  unfold cutV
  rw [h1, HT.sIx_nat, HT.sIx_nat, cut_call xs (by omega), Int.toNat_natCast]
def sp_law_run (K : PySem.W.Frag) : Sp := fun vs H Q _ => ∃ (d : Addr) (z : Str) (D : List Cl), vs = [.ref d, .str z] ∧ Drill K H d D ∧ (∀ c ∈ D, c.ok = true) ∧ z.cps.size ≤ 1000 ∧
  ∀ H', Same H H' → Q (.str ⟨(runs D z.cps.toList).toArray⟩) H'
theorem setAll_more {b : Nat} {l : List Nat} {ps : List Nat} {i p : Nat} (h : ps[i]? = some p) : setAll b l (ps.take (i + 1)) = (setAll b l (ps.take i)).set p b := by
  rw [take_one h]
  unfold setAll
  rw [List.foldl_append]; rfl
theorem map_part {f : Nat → Nat} {l : List Nat} {i y : Nat} (h : l[i]? = some y) : ((l.take i).map f ++ l.drop i).set i (f y) = (l.take (i + 1)).map f ++ l.drop (i + 1) := by
  have hi := lt_of_get h
  have hl : ((l.take i).map f).length = i := by rw [List.length_map, List.length_take]; omega
  rw [List.set_append_right _ _ (by omega), hl, Nat.sub_self, List.drop_eq_getElem_cons hi, take_one h, List.map_append, List.append_assoc]
  rfl
theorem map_part_at {f : Nat → Nat} {l : List Nat} {i : Nat} (hi : i < l.length) : ((l.take i).map f ++ l.drop i)[i]? = l[i]? := by
  have hl : ((l.take i).map f).length = i := by rw [List.length_map, List.length_take]; omega
  rw [List.getElem?_append_right (by omega), hl, Nat.sub_self, List.getElem?_drop, Nat.add_zero]
theorem map_part_len {f : Nat → Nat} {l : List Nat} {i : Nat} (hi : i ≤ l.length) : ((l.take i).map f ++ l.drop i).length = l.length := by
  rw [List.length_append, List.length_map, List.length_take, List.length_drop]; omega
end Dr

namespace Dr
open PySem L2
/-- a change at a new place -/
theorem ext_same {H H' G : Hp} {p : Addr} {o : HO} (S : Same H H') (hp : G p = none) (g : Same H G) : Same H (upd H' p o) := fun b u e => by
  rw [upd_ne (ne_of_none e (g.free hp))]
  exact S b u e
theorem set_self {α : Type} : ∀ {l : List α} {i : Nat} {x : α}, l[i]? = some x → l.set i x = l
  | [], _, _, h => by simp at h
  | a :: l, 0, x, h => by
    have e : a = x := Option.some.inj h
    subst e; rfl
  | a :: l, i + 1, x, h => by
    show a :: l.set i x = a :: l
    rw [set_self (l := l) (i := i) (by simpa using h)]
end Dr

namespace Dr
open PySem L2
theorem filter_one {α : Type} (p : α → Bool) (x : α) : [x].filter p = if p x = true then [x] else [] := by
  by_cases e : p x = true
  · rw [if_pos e, List.filter_cons_of_pos e]; rfl
  · rw [if_neg e, List.filter_cons_of_neg e]; rfl
theorem sum_sg : ∀ l : List Nat, ((l.map sg).map (·.length)).sum = l.length
  | [] => rfl
  | c :: l => by
    have ih := sum_sg l
    simp only [List.map_cons, List.sum_cons, List.length_cons] at ih ⊢
    rw [ih]
    show 1 + l.length = l.length + 1
    omega
end Dr
/-! Promises that hold where no repr is under way; the law's own call; repr of data. -/
namespace Dr
open PySem PySem.Spec PyProof.Rows L2
/-- a promise that is kept where nothing is being written by repr -/
structure FnG (P : Program) (w : World) (K : PySem.W.Frag) (mg : Str → Option Value) (base : Heap) (CX : CXT) (k : Nat) (f : Addr) (fd : FuncData) (ps : List Str) (sp : Sp) : Prop where
  len : ∀ vs H Q E, sp vs H Q E → vs.length = ps.length
  run : ∀ (A : Around) (outer : List Env) (s : Shared) (H : Hp) (args : Args) (us : List Value) (vs : List V) (Q : VK) (E : XK), Room k A → A.guards = some [] →
    Env0 P w K mg base A outer s H → BindsTo s fd args (ps.zip us) → Vals vs us → sp vs H Q E → codeAny (model P w) A (.call (.ref f) args) (CR CX outer P w H s Q E) s
section
variable {P : Program} {w : World} {K : PySem.W.Frag} {mg : Str → Option Value} {base : Heap} {CX : CXT} {f : Addr} {fd : FuncData} {ps : List Str} {sp : Sp}
theorem FnG.of {k : Nat} (F : FnOk P w K mg base CX k f fd ps sp) : FnG P w K mg base CX k f fd ps sp :=
  ⟨F.len, fun A outer s H args us vs Q E hr _ e b r h => F.run A outer s H args us vs Q E hr e b r h⟩
theorem deeper_guards {A : Around} (env : Env) (h : A.guards = some []) : (A.deeper env).guards = some [] := h
/-- the rule for such a def, by its body -/
theorem okG {x qual : Str} {st : Stmt} {N : List Str} {k : Nat} (F : Fun K x qual st f fd) (S : FnScope N ps (defScope st)) (len : ∀ vs H Q E, sp vs H Q E → vs.length = ps.length)
    (body : ∀ (cdv : Value) (A : Around) (outer : List Env) (s : Shared) (H : Hp) (vs : List V) (Q : VK) (E : XK), Room k (A.deeper (envOfC qual (defScope st) s.heap.objs.size f cdv)) →
      (A.deeper (envOfC qual (defScope st) s.heap.objs.size f cdv)).guards = some [] → sp vs H Q E →
      ∃ t, PSs (cxOf CX P w K mg base N qual (defScope st) f cdv A outer s H E).nox (defBody st) t ∧ t { nx := fun _ H' => Q .non H', rt := Q } (start N vs) H) :
    FnG P w K mg base CX (k + 1) f fd ps sp := by
  obtain ⟨oc, od, kV, doc, pm, an, cdv, ct, osl, rfl, lk, hcd⟩ := F.ex
  constructor
  · exact len
  intro A outer s H args us vs Q E room gd e0 binds rel want
  have kin : K.In s.heap := e0.mod.kin.keeps fun b o e => (e0.bs b o e).1
  have lim : s.heap.NoLimit := e0.mod.nolimit.keeps fun b o e => (e0.bs b o e).1
  have kinds : ∀ y ∈ ps.zip us, (defScope st).names.lookup y.1 = some .local ∨ ((defScope st).names.lookup y.1 = some .cell ∧
      ((cellsFrom (s.heap.objs.size + 1) (defScope st).names []).lookup y.1).isSome = true) := by
    rintro ⟨n, v⟩ hy
    rcases S.par n (List.of_mem_zip hy).1 with q | q
    · exact .inl q
    · exact .inr ⟨q, PySem.W.cellsFrom_some _ _ _ (.inl q)⟩
  refine codeAny_call_function room.depth (kin _ _ lk) rfl S.co S.gen rfl (PySem.W.codeRec_of kin hcd) (binds _ _ _ _ (wpAny_newFunctionEnv_cells S.kind kinds ?_))
  rintro env rfl s1 x
  refine ⟨lim.keeps x.toInCall.keep, codeAny_func ?_⟩
  obtain ⟨t, ht, hq⟩ := body cdv A outer s H vs Q E (room.deeper _) gd want
  have I := inv_start (CX := CX) (E := E) S room.hd e0 (len _ _ _ _ want) rel x
  refine wpAny_mono (ht.nox.run [] s1 (start N vs) H _ I hq) ?_ fun e s' hs => hs
  intro fl s' hs
  cases fl with
  | ret u =>
    obtain ⟨v, σ', H', J, rv, q⟩ := hs
    exact ⟨v, H', J.os, J.bare, J.base, J.hok, rv, q⟩
  | next =>
    obtain ⟨σ', H', J, q⟩ := hs
    exact ⟨.non, H', J.os, J.bare, J.base, J.hok, rfl, q⟩
  | brk => exact hs.elim fun _ hs => hs.elim fun _ hs => hs.2.elim
  | cont => exact hs.elim fun _ hs => hs.elim fun _ hs => hs.2.elim
end
section
variable {X : Cx} {CX : CXT} {k : Nat} {f : Addr} {fd : FuncData} {ps : List Str} {sp : Sp} {E : XK} {x : Str} {p pos : Pos} {e : Expr} {es : List Expr} {t : TA}
/-- a call of such a def -/
theorem pe_callG (F : FnG X.prog X.w X.K X.mg X.base CX k f fd ps sp) (room : Room k X.A) (gd : X.A.guards = some []) (hg : Gl X x) (hm : X.mg x = some (.ref f)) (hk : PySem.W.keepIn X.K (.ref f) = true)
    (hb : Binds X.K fd ps []) (hx : Passes CX X E) (ha : PA X (e :: es) t) (d1 : (x == ("__debug__" : Str)) = false := by decide)
    (d2 : starEach (e :: es) X.env = (false, eval e X.env) :: starEach es X.env := by rfl) (d3 : (backTo pos (starEach es X.env)).any (·.1) = false := by rfl) :
    PE X (.Call (.Name x p) (e :: es) [] pos) (tCall sp [] E t) := by
  constructor
  intro pins s σ H Q I h
  refine wpAny_Call_Name_kw (ld_glob I hg hm (PySem.W.callWith_K (h₀ := X.base) I.ok.mod.kin hk (thn (ha.run pos pins s σ H _ I h) ?_) d2 d3) d1)
  rintro us s1 ⟨vs, H1, I1, r, q⟩
  refine ⟨I1.kIn, ?_⟩
  have q' : sp vs H1 Q E := by
    have z : sp (vs ++ []) H1 Q E := q
    rw [List.append_nil] at z
    exact z
  have hl : us.length = ps.length := by rw [← r.length]; exact F.len _ _ _ _ q'
  have b := hb s1 us I1.kIn (by simpa using hl)
  rw [List.append_nil] at b
  refine wpAny_call (codeAny_mono (F.run X.A X.stack s1 H1 ⟨us, []⟩ us vs Q E room gd I1.env0 b r q') ?_)
  intro fin s' hq
  cases fin with
  | error e => exact hx pins σ H1 s1 e s' I1 hq
  | ok fl =>
    cases fl with
    | ret u => exact I1.after hq
    | next => exact hq.elim
    | brk => exact hq.elim
    | cont => exact hq.elim
/-- f(k = v, ..), nothing by place -/
theorem pe_callK0 {kws : List Keyword} {ks : List Str} {g : List Value → List Value → List Value} {gV : List V → List V → List V} {tk : TA} (F : FnOk X.prog X.w X.K X.mg X.base CX k f fd ps sp) (room : Room k X.A) (hg : Gl X x)
    (hm : X.mg x = some (.ref f)) (hk : PySem.W.keepIn X.K (.ref f) = true) (hb : KBinds X.K fd ps ks g gV) (hx : Passes CX X E) (hkw : PK X kws tk) (d0 : (backToKw pos (keywordEach kws X.env)).all (·.1.isSome) = true := by rfl)
    (d1 : (backToKw pos (keywordEach kws X.env)).filterMap (·.1) = ks := by rfl) (d2 : (x == ("__debug__" : Str)) = false := by decide)
    (d3 : ((backTo pos (starEach [] X.env)).any (·.1) || (backToKw pos (keywordEach kws X.env)).any (·.1.isNone)) = false := by rfl) :
    PE X (.Call (.Name x p) [] kws pos) (tCallK sp gV E tNil tk) := by
  constructor
  intro pins s σ H Q I h
  refine wpAny_Call_Name_kw (ld_glob I hg hm (PySem.W.callWith_KW0 (h₀ := X.base) I.ok.mod.kin hk d0 (thn (hkw.run pos pins s σ H _ I h) ?_) d3) d2)
  rintro ws s2 ⟨zs, H2, I2, rz, q2⟩
  refine ⟨I2.kIn, ?_⟩
  rw [d1]
  exact run_fnk (us := []) (vs := []) F room hb hx I2 .nil rz q2
/-- repr of data: lists and tuples of ints, texts, of any depth -/
theorem call_reprD (gd : X.A.guards = some []) (hu : X.A.units + 64 < cLine) : CallR X (.builtin "repr") (fun xs H Q => ∃ (a : Addr) (d : PyData), xs = [.ref a] ∧ Dp X.K H (.ref a) d ∧ d.showable = true ∧ d.hasDict = false ∧
    d.depth < 60 ∧ d.shown.length ≤ sizeLine ∧ Q (.str d.shown) H) := by
  intro pins s σ H xs us Q I r h
  obtain ⟨a, d, rfl, hd, h1, h2, h3, h4, q⟩ := h
  obtain ⟨u, rfl, ru⟩ := vals1 r
  cases ru
  obtain ⟨as, hr⟩ := Dp.reads I d (.ref a) (.ref a) hd rfl
  refine repr_of_reads' hr h1 (fun e => by rw [h2] at e; cases e) gd (by omega) (fun b o e => e) (fun h' u tk hk => ?_) h4
  exact ⟨.str d.shown, H, I.kept (t' := tk) hk, ⟨u, rfl⟩, q⟩
end
end Dr
namespace Dr
open PySem PySem.Spec PyProof.Rows L2
/-- the law's own call, from a promise that wants no repr under way -/
theorem law_callG {P : Program} {w : World} {K : PySem.W.Frag} {mg mb : Str → Option Value} {CX : CXT} {k : Nat} {fa a : Addr} {fd : FuncData} {x : Str} {sp : Sp} {s1 : Shared} {vs : List Value} {ns : List Int}
    (kin : K.In s1.heap) (hmg : s1.heap.Ns mainGlobals mg) (hmb : s1.heap.Ns builtinsNs mb) (blt : ∀ x : Str, x ≠ "__name__" → mb x = bootBuiltins x) (lim : s1.heap.NoLimit) (g0 : s1.gens = #[])
    (ha : s1.heap.get? a = some { cls := .type "list", data := .seq vs.toArray }) (hi : IntsAre vs ns) (few : ns.length ≤ sizeLine) (room : Room k callerA)
    (F : ∀ base : Heap, K.In base → base.Ns mainGlobals mg → FnG P w K mg base CX k fa fd [x] sp) (hbind : ∀ (s : Shared) (u : Value), BindsTo s fd ⟨[u], []⟩ [(x, u)])
    (hsp : ∀ H : Hp, SqL K H a (ns.map V.int) → sp [.ref a] H (fun v _ => v = .bl true) fun _ _ _ => False)
    (hCX : ∀ H e s', CX [] H s1 (fun _ _ _ => False) e s' → False) :
    codeAny (model P w) callerA (.call (.ref fa) ⟨[.ref a], []⟩) (fun r s' => r = .ok (.ret (.bool true)) ∧ OldK s1.heap s'.heap ∧ s'.os = s1.os ∧ AllBare s'.gens) s1 := by
  have rv := vals_ints hi
  have lv := hi.length
  let ob : Obj := { cls := .type "list", data := .seq vs.toArray }
  -- what is tracked: the script at most
  have main : ∀ H : Hp, (∀ b, H b = none ∨ (b = a ∧ H b = some (.frz ob (.lst (ns.map V.int))))) → SqL K H a (ns.map V.int) → HOk P w H s1.heap → (H a ≠ none → K.lookup a = none) →
      codeAny (model P w) callerA (.call (.ref fa) ⟨[.ref a], []⟩) (fun r s' => r = .ok (.ret (.bool true)) ∧ OldK s1.heap s'.heap ∧ s'.os = s1.os ∧ AllBare s'.gens) s1 := by
    intro H only seq hok hK
    have untracked : ∀ {b : Addr} {m : Str → Option Value}, s1.heap.Ns b m → H b = none := fun {b m} h => by
      rcases only b with q | ⟨q, _⟩
      · exact q
      · obtain ⟨o, es, ep, e, d, _⟩ := h
        rw [q, ha] at e
        have e' := Option.some.inj e
        rw [← e'] at d
        cases d
    have nsBase : ∀ {b : Addr} {m : Str → Option Value}, s1.heap.Ns b m → (hidT s1.heap H).Ns b m := fun {b m} h => by
      have n := untracked h
      obtain ⟨o, es, ep, e, r⟩ := h
      exact ⟨o, es, ep, hidT_get e n, r⟩
    have kb : K.In (hidT s1.heap H) := fun b o e => hidT_get (kin b o e) (by
      rcases only b with q | ⟨q, q2⟩
      · exact q
      · subst q
        rw [hK (by rw [q2]; intro z; cases z)] at e
        cases e)
    have md : Mod K mg (hidT s1.heap H) := ⟨kb, nsBase hmg, ⟨mb, nsBase hmb, blt⟩, by
      obtain ⟨mc, l1, l2⟩ := lim
      exact ⟨mc, nsBase l1, l2⟩⟩
    have env : Env0 P w K mg (hidT s1.heap H) callerA [] s1 H :=
      ⟨rfl, md, fun b o e => of_hidT e, Nat.le_of_eq (hidT_size _ _), trivial, (fun b hb => (nomatch hb)), hok, .of_eq g0⟩
    refine codeAny_mono ((F _ kb (nsBase hmg)).run callerA [] s1 H ⟨[.ref a], []⟩ [.ref a] [.ref a] _ _ room rfl env (hbind s1 (.ref a)) (.cons rfl .nil) (hsp H seq)) ?_
    intro r s' h
    cases r with
    | error e => exact (hCX H e s' h).elim
    | ok fl =>
      cases fl with
      | next => exact h.elim
      | brk => exact h.elim
      | cont => exact h.elim
      | ret u =>
        obtain ⟨v, H', os, bare, un, hok', rel, q⟩ := h
        have ev : v = .bl true := q
        rw [ev] at rel
        have eu : u = Value.bool true := rel
        rw [eu]
        refine ⟨rfl, OldK.of_keep ?_, os, bare⟩
        intro b o e
        rcases only b with n | ⟨rfl, n⟩
        · exact un.keep b o e n (fun z => (nomatch z)) (fun z => (nomatch z))
        · have n2 := un.frzs b ob _ n
          obtain ⟨e2, _⟩ := hok' b _ n2
          have eo : ob = o := by rw [ha] at e; exact Option.some.inj e
          rw [← eo]
          exact e2
  cases hk : K.lookup a with
  | some o =>
    have e := kin a o hk
    rw [ha] at e
    have eo := Option.some.inj e
    subst eo
    refine main (fun _ => none) (fun _ => .inl rfl) ?_ (fun b u z => by cases z) (fun z => absurd rfl z)
    exact .inr ⟨_, vs.toArray, _, hk, rfl, rfl, rfl, by rw [List.size_toArray]; omega, by simpa using rv⟩
  | none =>
    let H : Hp := fun b => if b = a then some (.frz ob (.lst (ns.map V.int))) else none
    have Ha : H a = some (.frz ob (.lst (ns.map V.int))) := if_pos rfl
    have Hb : ∀ {b}, b ≠ a → H b = none := fun h => if_neg h
    refine main H (fun b => ?_) (.inl (.inr ⟨ob, Ha⟩)) (fun b u z => ?_) fun _ => hk
    · by_cases q : b = a
      · subst q; exact .inr ⟨rfl, Ha⟩
      · exact .inl (Hb q)
    · by_cases q : b = a
      · subst q
        rw [Ha] at z
        have z' := Option.some.inj z
        subst z'
        exact ⟨ha, by rw [List.length_map]; exact few, vs, _, rv, ha⟩
      · rw [Hb q] at z; cases z
/-- the goal that the head leaves -/
theorem walk_G {l : PySem.W.OpenLaw} {n k : Nat} {q : Program} {loose : List Str} {XP : (Str → Option Value) → Heap → Prop} {YP : World → Heap → Prop} {d : DefRec} {K : Params → PySem.W.Frag} {sp : PySem.W.Frag → Sp}
    (hn : l.most = some n) (hn2 : n ≤ sizeLine) (hdf : d.params.defaults = []) (room : Room k callerA) (hY : ∀ (w : World) (h : Heap), YP w h → (K w.params).In h)
    (F : ∀ (w : World) (mg : Str → Option Value) (fa : Addr) (h : Heap), (K w.params).In h → h.Ns mainGlobals mg → mg d.name = some (.ref fa) →
      ∃ fd : FuncData, (∀ (s : Shared) (u : Value), BindsTo s fd ⟨[u], []⟩ [("script", u)]) ∧
        ∀ base : Heap, (K w.params).In base → base.Ns mainGlobals mg → FnG l.prog w (K w.params) mg base CX0 k fa fd ["script"] (sp (K w.params)))
    (hsp : ∀ (K : PySem.W.Frag) (H : Hp) (a : Addr) (ns : List Int), ns.length ≤ n → SqL K H a (ns.map V.int) → sp K [.ref a] H (fun v _ => v = .bl true) fun _ _ _ => False) :
    PySem.W.WalkO q loose XP YP l.row.toRowW d [] (fun f vs => PySem.call f vs) := by
  refine Att.attach_call hn hdf ?_
  intro w s0 s1 mg mb fa o pm cd doc a vs ns G Y ho hd hcd hmg hobj hints hlen hg
  have kin := hY w _ Y
  obtain ⟨fd, hb, hF⟩ := F w mg fa _ kin G.T.g hmg
  exact law_callG kin G.T.g G.T.b G.T.builtins G.T.nolimit hg hobj hints (Nat.le_trans hlen hn2) room hF hb (fun H hS => hsp _ H a ns hlen hS) fun _ _ _ z => z
end Dr

namespace Dr
open PySem L2
/-- keywords alone, laid in the parameters' order -/
def gP (is : List Nat) (us ws : List Value) : List Value := match us with
  | [] => if ws.length = is.length then is.filterMap (fun i => ws[i]?) else []
  | _ :: _ => []
def gPV (is : List Nat) (us ws : List V) : List V := match us with
  | [] => if ws.length = is.length then is.filterMap (fun i => ws[i]?) else []
  | _ :: _ => []
theorem vals_pick {zs : List V} {ws : List Value} (r : Vals zs ws) : ∀ is : List Nat, Vals (is.filterMap fun i => zs[i]?) (is.filterMap fun i => ws[i]?)
  | [] => .nil
  | i :: is => by
    have ih := vals_pick r is
    cases e : zs[i]? with
    | none => rw [List.filterMap_cons_none e, List.filterMap_cons_none (r.none_of e)]; exact ih
    | some x =>
      obtain ⟨u, hu, ru⟩ := r.get e
      rw [List.filterMap_cons_some e, List.filterMap_cons_some hu]
      exact .cons ru ih
theorem gP_rel (is : List Nat) {vs : List V} {us : List Value} {zs : List V} {ws : List Value} (r : Vals vs us) (q : Vals zs ws) : Vals (gPV is vs zs) (gP is us ws) := by
  cases r with
  | cons _ _ => exact .nil
  | nil =>
    show Vals (if zs.length = is.length then _ else []) (if ws.length = is.length then _ else [])
    rw [q.length]
    split
    · exact vals_pick q is
    · exact .nil
end Dr
/-! How long the texts are that repr writes of data. -/
namespace Dr
open PySem L2
structure Sh (n k : Nat) (d : PyData) : Prop where
  len : d.shown.length ≤ n
  ok : d.showable = true
  nd : d.hasDict = false
  dp : d.depth ≤ k
theorem Sh.mono {n k n' k' : Nat} {d : PyData} (h : Sh n k d) (a : n ≤ n') (b : k ≤ k') : Sh n' k' d := ⟨Nat.le_trans h.len a, h.ok, h.nd, Nat.le_trans h.dp b⟩
theorem len_list (ts : List Str) : (listText ts).length ≤ piled ts + 2 := by
  cases ts with
  | nil => decide
  | cons t r =>
    rw [listText_eq_join, PySem.strLen_append, PySem.strLen_append]
    have h := join_length_add (t :: r) (by simp)
    have e1 : (("[" : Str)).length = 1 := rfl
    have e2 : (("]" : String) : Str).length = 1 := rfl
    omega
theorem len_tup (ts : List Str) : (tupleText ts).length ≤ piled ts + 3 := by
  unfold tupleText
  rw [PySem.strLen_append, PySem.strLen_append]
  have e1 : ((("(" : String) : Str)).length = 1 := rfl
  have e3 : (((if ts.length == 1 then ",)" else ")" : String) : Str)).length ≤ 2 := by split <;> decide
  have h : (Str.join ", " ts).length ≤ piled ts := by
    cases ts with
    | nil => decide
    | cons t r =>
      have := join_length_add (t :: r) (by simp)
      omega
  omega
theorem sh_all {n k : Nat} : ∀ {ds : List PyData}, (∀ d ∈ ds, Sh n k d) → piled (PyData.shownAll ds) ≤ ds.length * (n + 2) ∧ PyData.showableAll ds = true ∧ PyData.hasDictAll ds = false ∧ PyData.depthAll ds ≤ k
  | [], _ => ⟨by show 0 ≤ _; omega, rfl, rfl, Nat.zero_le _⟩
  | d :: ds, h => by
    obtain ⟨a1, a2, a3, a4⟩ := h d List.mem_cons_self
    obtain ⟨b1, b2, b3, b4⟩ := sh_all fun x hx => h x (List.mem_cons_of_mem d hx)
    refine ⟨?_, ?_, ?_, ?_⟩
    · show piled (d.shown :: PyData.shownAll ds) ≤ _
      rw [piled_cons, List.length_cons, Nat.add_mul]
      omega
    · show (PyData.showable d && PyData.showableAll ds) = true
      rw [a2, b2]; rfl
    · show (PyData.hasDict d || PyData.hasDictAll ds) = false
      rw [a3, b3]; rfl
    · show max d.depth (PyData.depthAll ds) ≤ k
      omega
theorem sh_list {n k : Nat} {ds : List PyData} (h : ∀ d ∈ ds, Sh n k d) : Sh (ds.length * (n + 2) + 2) (k + 1) (.list ds) := by
  obtain ⟨b1, b2, b3, b4⟩ := sh_all h
  refine ⟨?_, by simp only [PyData.showable]; exact b2, by simp only [PyData.hasDict]; exact b3, by simp only [PyData.depth]; omega⟩
  simp only [PyData.shown]
  exact Nat.le_trans (len_list _) (by omega)
theorem sh_tup {n k : Nat} {ds : List PyData} (h : ∀ d ∈ ds, Sh n k d) : Sh (ds.length * (n + 2) + 3) (k + 1) (.tuple ds) := by
  obtain ⟨b1, b2, b3, b4⟩ := sh_all h
  refine ⟨?_, by simp only [PyData.showable]; exact b2, by simp only [PyData.hasDict]; exact b3, by simp only [PyData.depth]; omega⟩
  simp only [PyData.shown]
  exact Nat.le_trans (len_tup _) (by omega)
theorem sh_str {z : Str} {n : Nat} (hn : z.cps.size ≤ n) (h : ∀ c ∈ z.cps.toList, c < 16 ^ 8) : Sh (10 * n + 2) 0 (.str z) := by
  refine ⟨?_, by simp only [PyData.showable], by simp only [PyData.hasDict], by simp only [PyData.depth]; exact Nat.le_refl _⟩
  simp only [PyData.shown]
  have := StrLaws.reprText_len z h
  have e : z.length = z.cps.size := rfl
  omega
open TL in
theorem sh_nat {n : Nat} {k : Nat} (hk : 0 < k) (h6 : k ≤ 300) (h : n < 10 ^ k) : Sh k 0 (.int (n : Int)) := by
  refine ⟨?_, ?_, by simp only [PyData.hasDict], by simp only [PyData.depth]; exact Nat.le_refl _⟩
  · simp only [PyData.shown]
    have e : (Str.ofString (toString ((n : Nat) : Int))).cps.toList = numL n := tl_num n
    have e2 : (Str.ofString (toString ((n : Nat) : Int))).length = (numL n).length := by
      rw [← e]; simp [Str.length]
    rw [e2]
    exact numL_len hk h
  · simp only [PyData.showable]
    refine decide_eq_true ?_
    have e : ((n : Int)).natAbs = n := Int.natAbs_natCast n
    rw [e]
    have h2 : n < 2 ^ 1900 := Nat.lt_of_lt_of_le h (Nat.le_trans (Nat.pow_le_pow_right (by decide) h6) (by decide +kernel))
    have := PySem.Flt.log2_lt_of (by decide : 0 < 1900) h2
    omega
theorem sh_int {i : Int} {k : Nat} (h0 : 0 ≤ i) (hk : 0 < k) (h6 : k ≤ 300) (h : i < 10 ^ k) : Sh k 0 (.int i) := by
  obtain ⟨n, rfl⟩ : ∃ n : Nat, i = (n : Int) := ⟨i.toNat, by omega⟩
  refine sh_nat hk h6 ?_
  have e : ((10 : Int) ^ k) = ((10 ^ k : Nat) : Int) := by rw [Int.natCast_pow]; rfl
  omega
/-! ### the data of the laws -/
def dK : Kd → PyData
  | .m n => .int n
  | .s z => .str z
def dCl (c : Cl) : PyData := .tuple [dK c.k, .str c.a, .str c.b]
def dIs (ns : List Int) : PyData := .list (ns.map .int)
theorem dp_ints {K : PySem.W.Frag} {H : Hp} : ∀ ns : List Int, DpAll K H (ns.map V.int) (ns.map .int)
  | [] => .nil
  | n :: ns => .cons (.int n) (dp_ints ns)
theorem dp_is {K : PySem.W.Frag} {H : Hp} {a : Addr} {ns : List Int} (h : SqL K H a (ns.map V.int)) : Dp K H (.ref a) (dIs ns) := .lst h (dp_ints ns)
theorem dp_k {K : PySem.W.Frag} {H : Hp} (k : Kd) : Dp K H k.v (dK k) := by
  cases k with
  | m n => exact .int n
  | s z => exact .str z
theorem dp_cl {K : PySem.W.Frag} {H : Hp} {t : Addr} {c : Cl} (h : SqT K H t c.vs) : Dp K H (.ref t) (dCl c) := .tup h (.cons (dp_k c.k) (.cons (.str c.a) (.cons (.str c.b) .nil)))
theorem dp_cls {K : PySem.W.Frag} {H : Hp} : ∀ {ts : List Addr} {D : List Cl}, ts.length = D.length → (∀ (i : Nat) (t : Addr) (c : Cl), ts[i]? = some t → D[i]? = some c → SqT K H t c.vs) → DpAll K H (ts.map V.ref) (D.map dCl)
  | [], [], _, _ => .nil
  | [], _ :: _, h, _ => by simp at h
  | _ :: _, [], h, _ => by simp at h
  | t :: ts, c :: D, h, r => .cons (dp_cl (r 0 t c rfl rfl)) (dp_cls (by simpa using h) fun i t' c' h1 h2 => r (i + 1) t' c' (by simpa using h1) (by simpa using h2))
theorem dp_drill {K : PySem.W.Frag} {H : Hp} {a : Addr} {D : List Cl} (h : Drill K H a D) : Dp K H (.ref a) (.list (D.map dCl)) := by
  obtain ⟨ts, h1, h2, h3⟩ := h
  exact .lst h1 (dp_cls h2 h3)
theorem sh_col {z : Str} (h : isC z = true) : Sh 12 0 (.str z) := by
  obtain ⟨c, hc, rfl⟩ := isC_iff.mp h
  refine sh_str (n := 1) (Nat.le_refl _) fun x hx => ?_
  have e : x = c := List.mem_singleton.mp hx
  subst e
  have : ∀ y ∈ colN, y < 16 ^ 8 := by decide +kernel
  exact this x hc
theorem sh_cl {c : Cl} (hv : c.ok = true) {k : Nat} (hk : 0 < k) (h6 : k ≤ 300) {t : Int} (ht : Cl.le t c) (h : t < 10 ^ k) : Sh (3 * (44 + k + 2) + 3) 1 (dCl c) := by
  have ha := sh_col (Cl.ok_a hv)
  have hb := sh_col (Cl.ok_b hv)
  have hok := Cl.ok_k hv
  have hkd : Sh (44 + k) 0 (dK c.k) := by
    cases e : c.k with
    | m n =>
      rw [e] at hok
      have h1 : 1 ≤ n := of_decide_eq_true hok
      have h2 := ht n e
      exact (sh_int (k := k) (by omega) hk h6 (by omega)).mono (by omega) (Nat.le_refl _)
    | s z =>
      rw [e] at hok
      rcases Kd.ok_s hok with q | q
      · rw [q]; exact (sh_str (n := 4) (by decide +kernel) (by decide +kernel)).mono (by omega) (Nat.le_refl _)
      · rw [q]; exact (sh_str (n := 4) (by decide +kernel) (by decide +kernel)).mono (by omega) (Nat.le_refl _)
  refine sh_tup (n := 44 + k) (k := 0) (ds := [dK c.k, .str c.a, .str c.b]) fun d hd => ?_
  simp only [List.mem_cons, List.not_mem_nil, or_false] at hd
  rcases hd with hd | hd | hd
  · rw [hd]; exact hkd
  · rw [hd]; exact ha.mono (by omega) (Nat.le_refl _)
  · rw [hd]; exact hb.mono (by omega) (Nat.le_refl _)
end Dr
namespace Dr
open PySem L2
theorem Rg.same {H H' : Hp} {r : Addr} {c : Nat} (S : Same H H') (h : Rg H r c) : Rg H' r c := by
  obtain ⟨d, s, n, h1, h2⟩ := h
  exact ⟨d, s, n, S _ _ h1, h2⟩
theorem tally_small {l : List Nat} {n : Int} (hn : n ∈ tally l) (hl : l.length ≤ 60) : 0 ≤ n ∧ n < 10 ^ 3 := by
  unfold tally at hn
  obtain ⟨c, _, rfl⟩ := List.mem_map.mp hn
  have := List.count_le_length (a := c) (l := l)
  constructor
  · omega
  · have : ((l.count c : Nat) : Int) ≤ 60 := by omega
    exact Int.lt_of_le_of_lt this (by decide)
def sp_law (K : PySem.W.Frag) : Sp := fun vs H Q _ => ∃ (a : Addr) (ns : List Int), vs = [.ref a] ∧ SqL K H a (ns.map V.int) ∧ ns.length ≤ 63 ∧ ∀ H', Q (.bl true) H'
end Dr
/-! Counts: what a call does to them, sums, large counts; list.count of bools. -/
namespace Dr
open PySem L2
def eqB (k : Bool) (v : Value) : Bool := match v with
  | .bool b => b == k
  | _ => false
theorem vals_bl : ∀ {bs : List Bool} {us : List Value}, Vals (bs.map V.bl) us → us = bs.map Value.bool
  | [], _, .nil => rfl
  | b :: bs, _, .cons r h => by
    cases r
    rw [vals_bl h]; rfl
theorem eqB_count {k : Bool} : ∀ (bs : List Bool), (bs.map Value.bool).countP (eqB k) = bs.count k
  | [] => rfl
  | b :: bs => by
    have ih := eqB_count (k := k) bs
    rw [List.map_cons, List.countP_cons, List.count_cons, ih] <;> rfl
section
variable {X : Cx} {K : PySem.W.Frag}
def rCntB (K : PySem.W.Frag) : V → List V → Hp → VK → Prop := fun x xs H Q => ∃ (p : Addr) (bs : List Bool) (k : Bool), x = .ref p ∧ xs = [.bl k] ∧ SqL K H p (bs.map V.bl) ∧ Q (.int (bs.count k : Nat)) H
theorem mt_lcountB : MtR X "list.count" (rCntB X.K) := by
  intro pins s σ H x xs v us Q I rx rxs h
  obtain ⟨p, bs, k, rfl, rfl, hs, q⟩ := h
  cases rx
  obtain ⟨u, rfl, ru⟩ := rxs.one
  cases ru
  obtain ⟨its, rv, ⟨⟨cls, dd, data, sl⟩, n, ho, hc, hdn, hd⟩, hlen⟩ := I.list hs
  simp only at hc hd
  subst hc hd
  have hi := vals_bl rv
  subst hi
  refine call_meets PySem.F.slot_list_count ⟨_, ho, rfl⟩ PySem.F.entry_list_count (PySem.F.args_list_count_2 _ _)
    (SeqAt.list_countAt p (bs.map Value.bool).toArray n dd sl (.bool k) (eqB k)) ⟨ho, fun y hy => ?_, ?_⟩
  · obtain ⟨b, _, rfl⟩ := List.mem_map.mp (by simpa using hy : y ∈ bs.map Value.bool)
    exact PySem.SeqAt.EqAt.bool_bool b k
  have ec : (bs.map Value.bool).toArray.toList.countP (eqB k) = bs.count k := eqB_count bs
  refine ⟨.int (bs.count k : Nat), H, I.tok _, ⟨s.toks, ?_⟩, q⟩
  show Value.int (((bs.map Value.bool).toArray.toList.countP (eqB k) : Nat) : Int) s.toks = Value.int ((bs.count k : Nat) : Int) s.toks
  rw [ec]
theorem mt_lcountBK (h : X.K = K) : MtR X "list.count" (rCntB K) := h ▸ mt_lcountB
theorem pg_tupK {es : List Expr} {k : Nat} {pos : Pos} {t : TGs} (n : Nat) (h : X.K = K) (hc : X.calm = true) (g : PGs X es t)
    (hn : (assignEach es X.env).length = n := by rfl) (hst : (assignEach es X.env).findIdx? (·.1) = none := by rfl) : PG X (.Tuple es k pos) (gTup K n t) := h ▸ pg_tup hc g hn hst
theorem cr_sumK (h : X.K = K) (hc : X.calm = true) : CallR X (.builtin "sum") (rSum K) := h ▸ cr_sum hc
end
/-! ### what a call does -/
theorem getD_set {l : List Int} {i j : Nat} {x : Int} (hi : i < l.length) : (l.set i x).getD j 0 = if i = j then x else l.getD j 0 := by
  rw [List.getD_eq_getElem?_getD, List.getElem?_set, List.getD_eq_getElem?_getD]
  by_cases e : i = j
  · subst e; rw [if_pos rfl, if_pos hi, if_pos rfl]; rfl
  · rw [if_neg e, if_neg e]
theorem set_getD {l : List Int} {i : Nat} (hi : i < l.length) : l.set i (l.getD i 0) = l := by
  apply List.ext_getElem?
  intro j
  rw [List.getElem?_set]
  by_cases e : i = j
  · subst e
    obtain ⟨x, hx⟩ := get_of_lt hi
    rw [if_pos rfl, if_pos hi, List.getD_eq_getElem?_getD, hx]; rfl
  · rw [if_neg e]
theorem mv_eq {c : Cl} {ns : List Int} (h6 : ns.length = 6) (hv : c.ok = true) :
    mv c ns = (ns.set (ci c.a) (cn ns c.a + ((if c.k.swap = true then cn ns c.b else 0) - movers c.k (cn ns c.a)))).set (ci c.b) (cn ns c.b + (movers c.k (cn ns c.a) - (if c.k.swap = true then cn ns c.b else 0))) := by
  have ha := ci_lt (Cl.ok_a hv)
  have ne := ci_inj (Cl.ok_a hv) (Cl.ok_b hv) (Cl.ok_ne hv)
  unfold mv
  dsimp only
  congr 1
  have e : cn (ns.set (ci c.a) (cn ns c.a + ((if c.k.swap = true then cn ns c.b else 0) - movers c.k (cn ns c.a)))) c.b = cn ns c.b := by
    unfold cn
    rw [getD_set (by omega), if_neg ne]
  rw [e]
theorem mv_swap {c : Cl} {ns : List Int} (h6 : ns.length = 6) (hv : c.ok = true) (hk : c.k = .s "swap") : mv c ns = (ns.set (ci c.a) (cn ns c.b)).set (ci c.b) (cn ns c.a) := by
  rw [mv_eq h6 hv, hk]
  have e : (Kd.s "swap").swap = true := by decide +kernel
  rw [if_pos e]
  show (ns.set (ci c.a) (cn ns c.a + (cn ns c.b - cn ns c.a))).set (ci c.b) (cn ns c.b + (cn ns c.a - cn ns c.b)) = _
  rw [show cn ns c.a + (cn ns c.b - cn ns c.a) = cn ns c.b by omega, show cn ns c.b + (cn ns c.a - cn ns c.b) = cn ns c.a by omega]
theorem mv_all {c : Cl} {ns : List Int} (h6 : ns.length = 6) (hv : c.ok = true) (hk : c.k = .s "all") : mv c ns = (ns.set (ci c.b) (cn ns c.b + cn ns c.a)).set (ci c.a) 0 := by
  have ne := ci_inj (Cl.ok_a hv) (Cl.ok_b hv) (Cl.ok_ne hv)
  rw [mv_eq h6 hv, hk]
  have e : ¬ (Kd.s "all").swap = true := by decide +kernel
  rw [if_neg e]
  show (ns.set (ci c.a) (cn ns c.a + (0 - cn ns c.a))).set (ci c.b) (cn ns c.b + (cn ns c.a - 0)) = _
  rw [show cn ns c.a + (0 - cn ns c.a) = 0 by omega, show cn ns c.b + (cn ns c.a - 0) = cn ns c.b + cn ns c.a by omega]
  exact List.set_comm _ _ ne
theorem mv_num {c : Cl} {ns : List Int} {m : Int} (h6 : ns.length = 6) (hv : c.ok = true) (hk : c.k = .m m) : mv c ns = if m ≤ cn ns c.a then (ns.set (ci c.a) (cn ns c.a - 1)).set (ci c.b) (cn ns c.b + 1) else ns := by
  have ha := ci_lt (Cl.ok_a hv)
  have hb := ci_lt (Cl.ok_b hv)
  rw [mv_eq h6 hv, hk]
  have e : ¬ (Kd.m m).swap = true := fun h => by cases h
  rw [if_neg e]
  show (ns.set (ci c.a) (cn ns c.a + (0 - (if m ≤ cn ns c.a then 1 else 0)))).set (ci c.b) (cn ns c.b + ((if m ≤ cn ns c.a then 1 else 0) - 0)) = _
  split
  · rw [show cn ns c.a + (0 - 1) = cn ns c.a - 1 by omega, show cn ns c.b + ((1 : Int) - 0) = cn ns c.b + 1 by omega]
  · rw [show cn ns c.a + (0 - 0) = cn ns c.a by omega, show cn ns c.b + ((0 : Int) - 0) = cn ns c.b by omega]
    unfold cn
    rw [set_getD (by omega), set_getD (by omega)]
theorem Cl.kinds {c : Cl} (hv : c.ok = true) : c.k = .s "all" ∨ c.k = .s "swap" ∨ ∃ m, c.k = .m m ∧ 1 ≤ m := by
  have hk := Cl.ok_k hv
  cases e : c.k with
  | m m => rw [e] at hk; exact .inr (.inr ⟨m, rfl, of_decide_eq_true hk⟩)
  | s z =>
    rw [e] at hk
    rcases Kd.ok_s hk with q | q
    · left; rw [q]
    · right; left; rw [q]
theorem sum_set : ∀ {l : List Int} {i : Nat} {x : Int}, i < l.length → (l.set i x).sum = l.sum + (x - l.getD i 0)
  | [], _, _, h => absurd h (Nat.not_lt_zero _)
  | a :: l, 0, x, _ => by
    show x + l.sum = a + l.sum + (x - a)
    omega
  | a :: l, i + 1, x, h => by
    have ih := sum_set (l := l) (i := i) (x := x) (by simpa using h)
    show a + (l.set i x).sum = a + l.sum + (x - l.getD i 0)
    omega
theorem mv_sum {c : Cl} {ns : List Int} (h6 : ns.length = 6) (hv : c.ok = true) : (mv c ns).sum = ns.sum := by
  have ha := ci_lt (Cl.ok_a hv)
  have hb := ci_lt (Cl.ok_b hv)
  have ne := ci_inj (Cl.ok_a hv) (Cl.ok_b hv) (Cl.ok_ne hv)
  rw [mv_eq h6 hv, sum_set (by rw [List.length_set]; omega), sum_set (by omega), getD_set (by omega), if_neg ne]
  unfold cn
  omega
theorem mvs_sum {D : List Cl} : ∀ {ns : List Int}, ns.length = 6 → (∀ c ∈ D, c.ok = true) → (mvs D ns).sum = ns.sum := by
  induction D with
  | nil => intro ns _ _; rfl
  | cons c D ih =>
    intro ns h6 hv
    show (mvs D (mv c ns)).sum = _
    rw [ih (by rw [mv_len, h6]) (fun x hx => hv x (List.mem_cons_of_mem _ hx)), mv_sum h6 (hv c List.mem_cons_self)]
theorem mvs_append (D1 D2 : List Cl) (ns : List Int) : mvs (D1 ++ D2) ns = mvs D2 (mvs D1 ns) := by
  unfold mvs
  rw [List.foldl_append]
theorem nn_iff {ns : List Int} : (∀ n ∈ ns, 0 ≤ n) ↔ ∀ i, 0 ≤ ns.getD i 0 := by
  constructor
  · intro h i
    rw [List.getD_eq_getElem?_getD]
    cases e : ns[i]? with
    | none => exact Int.le_refl _
    | some x => exact h x (List.mem_of_getElem? e)
  · intro h n hn
    obtain ⟨i, hi⟩ := List.getElem?_of_mem hn
    have := h i
    rw [List.getD_eq_getElem?_getD, hi] at this
    exact this
theorem mv_nn {c : Cl} {ns : List Int} (h6 : ns.length = 6) (hv : c.ok = true) (h : ∀ n ∈ ns, 0 ≤ n) : ∀ n ∈ mv c ns, 0 ≤ n := by
  have ha := ci_lt (Cl.ok_a hv)
  have hb := ci_lt (Cl.ok_b hv)
  rw [nn_iff] at h ⊢
  intro i
  have na := h (ci c.a)
  have nb := h (ci c.b)
  have ni := h i
  rcases Cl.kinds hv with e | e | ⟨m, e, h1⟩
  · rw [mv_all h6 hv e, getD_set (by rw [List.length_set]; omega), getD_set (by omega)]
    unfold cn
    split
    · omega
    · split <;> omega
  · rw [mv_swap h6 hv e, getD_set (by rw [List.length_set]; omega), getD_set (by omega)]
    unfold cn
    split
    · omega
    · split <;> omega
  · rw [mv_num h6 hv e]
    split
    · next hm =>
      rw [getD_set (by rw [List.length_set]; omega), getD_set (by omega)]
      unfold cn at hm ⊢
      split
      · omega
      · split <;> omega
    · exact ni
theorem mvs_nn {D : List Cl} : ∀ {ns : List Int}, ns.length = 6 → (∀ c ∈ D, c.ok = true) → (∀ n ∈ ns, 0 ≤ n) → ∀ n ∈ mvs D ns, 0 ≤ n := by
  induction D with
  | nil => intro ns _ _ h; exact h
  | cons c D ih =>
    intro ns h6 hv h
    exact ih (ns := mv c ns) (by rw [mv_len, h6]) (fun x hx => hv x (List.mem_cons_of_mem _ hx)) (mv_nn h6 (hv c List.mem_cons_self) h)
theorem sum_nn : ∀ {l : List Int}, (∀ n ∈ l, 0 ≤ n) → 0 ≤ l.sum
  | [], _ => Int.le_refl _
  | a :: l, h => by
    have h1 := h a List.mem_cons_self
    have h2 := sum_nn (l := l) fun n hn => h n (List.mem_cons_of_mem _ hn)
    show 0 ≤ a + l.sum
    omega
theorem le_sum : ∀ {l : List Int}, (∀ n ∈ l, 0 ≤ n) → ∀ n ∈ l, n ≤ l.sum
  | [], _ => fun n hn => by cases hn
  | a :: l, h => fun n hn => by
    have h1 := h a List.mem_cons_self
    have h3 : ∀ n ∈ l, 0 ≤ n := fun n hn => h n (List.mem_cons_of_mem _ hn)
    have h2 := sum_nn h3
    show n ≤ a + l.sum
    rcases List.mem_cons.mp hn with e | e
    · omega
    · have := le_sum h3 n e
      omega
theorem sum_le : ∀ {l : List Int} {t : Int}, (∀ n ∈ l, n ≤ t) → l.sum ≤ l.length * t
  | [], _, _ => by simp
  | a :: l, t, h => by
    have h1 := h a List.mem_cons_self
    have h2 := sum_le (l := l) (t := t) fun n hn => h n (List.mem_cons_of_mem _ hn)
    show a + l.sum ≤ ((l.length + 1 : Nat) : Int) * t
    rw [Int.natCast_add, Int.add_mul]
    omega
/-! ### large counts -/
/-- x is y and some of 100000 more, where y is large -/
def Far (j : Nat) (x y : Int) : Prop := ∃ k : Int, 0 ≤ k ∧ x = y + 100000 * k ∧ 0 ≤ y ∧ (k = 0 ∨ 900000 - (j : Int) ≤ y)
def FarS (j : Nat) (xs ys : List Int) : Prop := xs.length = 6 ∧ ys.length = 6 ∧ ∀ i, i < 6 → Far j (xs.getD i 0) (ys.getD i 0)
theorem Far.mono {j : Nat} {x y : Int} (h : Far j x y) : Far (j + 1) x y := by
  obtain ⟨k, h1, h2, h3, h4⟩ := h
  exact ⟨k, h1, h2, h3, by omega⟩
theorem Far.zero (j : Nat) : Far j 0 0 := ⟨0, by decide, by omega, by decide, .inl rfl⟩
theorem Far.add {j : Nat} {x y z w : Int} (h : Far j x y) (g : Far j z w) : Far j (x + z) (y + w) := by
  obtain ⟨k, h1, h2, h3, h4⟩ := h
  obtain ⟨l, g1, g2, g3, g4⟩ := g
  refine ⟨k + l, by omega, by omega, by omega, ?_⟩
  rcases h4 with h4 | h4
  · rcases g4 with g4 | g4
    · left; omega
    · right; omega
  · right; omega
theorem Far.up {j : Nat} {x y : Int} (h : Far j x y) : Far j (x + 1) (y + 1) := by
  obtain ⟨k, h1, h2, h3, h4⟩ := h
  exact ⟨k, h1, by omega, by omega, by omega⟩
theorem Far.down {j : Nat} {x y : Int} (h : Far j x y) (hy : 1 ≤ y) : Far (j + 1) (x - 1) (y - 1) := by
  obtain ⟨k, h1, h2, h3, h4⟩ := h
  exact ⟨k, h1, by omega, by omega, by omega⟩
theorem Far.test {j : Nat} {x y m : Int} (h : Far j x y) (hj : j ≤ 1000) (hm : m ≤ 1000) : m ≤ x ↔ m ≤ y := by
  obtain ⟨k, h1, h2, h3, h4⟩ := h
  rcases h4 with h4 | h4
  · subst h4; omega
  · omega
theorem far_mv {j : Nat} {c : Cl} {xs ys : List Int} (h : FarS j xs ys) (hv : c.ok = true) (hj : j ≤ 1000) (hl : Cl.le 1000 c) : FarS (j + 1) (mv c xs) (mv c ys) := by
  have ha := ci_lt (Cl.ok_a hv)
  have hb := ci_lt (Cl.ok_b hv)
  obtain ⟨hx, hy, h⟩ := h
  have fa : Far j (cn xs c.a) (cn ys c.a) := h _ ha
  have fb : Far j (cn xs c.b) (cn ys c.b) := h _ hb
  refine ⟨by rw [mv_len, hx], by rw [mv_len, hy], fun i hi => ?_⟩
  have fi := (h i hi).mono
  rcases Cl.kinds hv with e | e | ⟨m, e, h1⟩
  · rw [mv_all hx hv e, mv_all hy hv e, getD_set (by rw [List.length_set]; omega), getD_set (by omega), getD_set (by rw [List.length_set]; omega), getD_set (by omega)]
    split
    · exact Far.zero _
    · split
      · exact (fb.add fa).mono
      · exact fi
  · rw [mv_swap hx hv e, mv_swap hy hv e, getD_set (by rw [List.length_set]; omega), getD_set (by omega), getD_set (by rw [List.length_set]; omega), getD_set (by omega)]
    split
    · exact fa.mono
    · split
      · exact fb.mono
      · exact fi
  · have hm : m ≤ 1000 := hl m e
    have ht := fa.test hj hm
    rw [mv_num hx hv e, mv_num hy hv e]
    by_cases q : m ≤ cn ys c.a
    · rw [if_pos q, if_pos (ht.mpr q), getD_set (by rw [List.length_set]; omega), getD_set (by omega), getD_set (by rw [List.length_set]; omega), getD_set (by omega)]
      split
      · exact fb.up.mono
      · split
        · exact fa.down (by omega)
        · exact fi
    · rw [if_neg q, if_neg (fun z => q (ht.mp z))]
      exact fi
theorem far_mvs {D : List Cl} : ∀ {j : Nat} {xs ys : List Int}, FarS j xs ys → (∀ c ∈ D, c.ok = true) → (∀ c ∈ D, Cl.le 1000 c) → j + D.length ≤ 1000 → FarS (j + D.length) (mvs D xs) (mvs D ys) := by
  induction D with
  | nil => intro j xs ys h _ _ _; exact h
  | cons c D ih =>
    intro j xs ys h hv hl hj
    rw [List.length_cons] at hj ⊢
    have := ih (far_mv h (hv c List.mem_cons_self) (by omega) (hl c List.mem_cons_self)) (fun x hx => hv x (List.mem_cons_of_mem _ hx)) (fun x hx => hl x (List.mem_cons_of_mem _ hx)) (by omega)
    rw [show j + (D.length + 1) = j + 1 + D.length by omega]
    exact this
/-! ### data of ints -/
theorem lay_ints : ∀ ns : List Int, PyData.canLayAll0 (ns.map .int) = true
  | [] => rfl
  | n :: ns => by
    show (PyData.canLay0 (.int n) && PyData.canLayAll0 (ns.map .int)) = true
    rw [lay_ints ns]; rfl
theorem dep_ints : ∀ ns : List Int, PyData.depthAll (ns.map .int) = 0
  | [] => rfl
  | n :: ns => by
    show max (PyData.depth (.int n)) (PyData.depthAll (ns.map .int)) = 0
    rw [dep_ints ns]
    simp [PyData.depth]
theorem shaped_is (ns : List Int) : SeqAt.shaped (dIs ns) = true := by
  unfold SeqAt.shaped dIs
  rw [Bool.and_eq_true]
  refine ⟨by simp only [PyData.canLay0]; exact lay_ints ns, decide_eq_true ?_⟩
  simp only [PyData.depth]
  rw [dep_ints]
  decide
theorem eqv_is (ns : List Int) : PyData.eqv (dIs ns) (dIs ns) = true := SeqAt.eqv_refl _ (SeqAt.canLay_of_shaped (shaped_is ns))
theorem cut_from {xs : List V} (k : Nat) : cutV xs (some (k : Int)) none = xs.drop k := by
  unfold cutV
  rw [HT.sIx_nat, HT.sIx_none]
  by_cases h : k ≤ xs.length
  · rw [Nat.min_eq_left h, List.take_of_length_le (by rw [List.length_drop]; omega)]
  · rw [Nat.min_eq_right (by omega), List.drop_length, List.drop_eq_nil_of_le (by omega), List.take_nil]
theorem cut_upto {xs : List V} (k : Nat) : cutV xs none (some (k : Int)) = xs.take k := by
  unfold cutV
  rw [HT.sIx_nat, HT.sIx_none, List.drop_zero, Nat.sub_zero]
  by_cases h : k ≤ xs.length
  · rw [Nat.min_eq_left h]
  · rw [Nat.min_eq_right (by omega), List.take_of_length_le (Nat.le_refl _), List.take_of_length_le (by omega)]
section
variable {K : PySem.W.Frag} {H : Hp} {ts : List Addr} {D : List Cl} {p : Addr} {k : Nat}
theorem drill_drop (hl : ts.length = D.length) (hT : ∀ (i : Nat) (t : Addr) (c : Cl), ts[i]? = some t → D[i]? = some c → SqT K H t c.vs) (hp : SqL K H p ((ts.map V.ref).drop k)) : Drill K H p (D.drop k) :=
  ⟨ts.drop k, by rw [List.map_drop]; exact hp, by simp [hl], fun i t c h1 h2 => hT (k + i) t c (by rw [← List.getElem?_drop]; exact h1) (by rw [← List.getElem?_drop]; exact h2)⟩
theorem drill_take (hl : ts.length = D.length) (hT : ∀ (i : Nat) (t : Addr) (c : Cl), ts[i]? = some t → D[i]? = some c → SqT K H t c.vs) (hp : SqL K H p ((ts.map V.ref).take k)) : Drill K H p (D.take k) :=
  ⟨ts.take k, by rw [List.map_take]; exact hp, by simp [hl], fun i t c h1 h2 => by
    rw [List.getElem?_take] at h1 h2
    split at h1
    · next hk => rw [if_pos hk] at h2; exact hT i t c h1 h2
    · cases h1⟩
end
/-- the counts less 100000, where they are large -/
def big (n : Int) : Bool := decide (1000000 < n)
def less (n : Int) : Int := n - 100000 * (if big n = true then 1 else 0)
theorem far_less {ns : List Int} (h6 : ns.length = 6) (h : ∀ n ∈ ns, 0 ≤ n) : FarS 0 ns (ns.map less) := by
  refine ⟨h6, by rw [List.length_map, h6], fun i hi => ?_⟩
  obtain ⟨x, hx⟩ := get_of_lt (l := ns) (i := i) (by omega)
  have h0 := h x (List.mem_of_getElem? hx)
  rw [List.getD_eq_getElem?_getD, List.getD_eq_getElem?_getD, List.getElem?_map, hx]
  show Far 0 x (less x)
  unfold less
  by_cases hb : big x = true
  · have := of_decide_eq_true hb
    rw [if_pos hb]
    exact ⟨1, by decide, by omega, by omega, by omega⟩
  · rw [if_neg hb]
    exact ⟨0, by decide, by omega, by omega, by omega⟩
theorem sum_less : ∀ ns : List Int, (ns.map less).sum = ns.sum - 100000 * (((ns.map big).count true : Nat) : Int)
  | [] => rfl
  | n :: ns => by
    have ih := sum_less ns
    show less n + (ns.map less).sum = n + ns.sum - 100000 * (((big n :: ns.map big).count true : Nat) : Int)
    rw [ih, List.count_cons]
    unfold less
    cases e : big n
    · simp; omega
    · simp; omega
theorem less_nn {ns : List Int} (h : ∀ n ∈ ns, 0 ≤ n) : ∀ n ∈ ns.map less, 0 ≤ n := fun y hy => by
  obtain ⟨x, hx, rfl⟩ := List.mem_map.mp hy
  have h0 := h x hx
  unfold less
  by_cases hb : big x = true
  · have := of_decide_eq_true hb
    rw [if_pos hb]
    omega
  · rw [if_neg hb]
    omega
/-- pairs of a list of ints, item by item -/
def gapsOf (xs ys : List Int) : List Int := (xs.zip ys).map fun p => p.1 - p.2
theorem gaps_far {j : Nat} {xs ys : List Int} (h : FarS j xs ys) : ∀ g ∈ gapsOf xs ys, 0 ≤ g ∧ g % 100000 = 0 := fun g hg => by
  obtain ⟨hx, hy, h⟩ := h
  obtain ⟨⟨x, y⟩, hp, rfl⟩ := List.mem_map.mp hg
  obtain ⟨i, hi⟩ := List.getElem?_of_mem hp
  have hi6 : i < 6 := by
    have := lt_of_get hi
    rw [List.length_zip] at this
    omega
  obtain ⟨h1, h2⟩ := List.getElem?_zip_eq_some.mp hi
  obtain ⟨k, k0, e, _, _⟩ := h i hi6
  rw [List.getD_eq_getElem?_getD, List.getD_eq_getElem?_getD, h1, h2] at e
  have e' : x = y + 100000 * k := e
  show 0 ≤ x - y ∧ (x - y) % 100000 = 0
  omega
/-! ### promises -/
def sp_law_numbers (K : PySem.W.Frag) : Sp := fun vs H Q _ => ∃ (r : Addr) (c : Nat), vs = [.ref r] ∧ Rg H r c ∧ c < 900000000 ∧
  ∀ (H' : Hp) (p : Addr) (ns : List Int), Same (hid r H) (hid r H') → Rg H' r (c + 30) → H p = none → p ≠ r → H' p = some (.lst (ns.map V.int)) → ns.length = 6 → (∀ n ∈ ns, 0 ≤ n ∧ n ≤ 10 ^ 29) → Q (.ref p) H'
def sp_law_after (K : PySem.W.Frag) : Sp := fun vs H Q _ => ∃ (d a : Addr) (D : List Cl) (ns : List Int), vs = [.ref d, .ref a] ∧ Drill K H d D ∧ (∀ c ∈ D, c.ok = true) ∧
  SqL K H a (ns.map V.int) ∧ ns.length = 6 ∧ NewInts H (mvs D ns) Q
theorem abc_index {z : Str} (h : isC z = true) : ∃ rest, Builtin.Str.occurrences ("abcdef" : Str) z 0 ("abcdef" : Str).length 1 = ci z :: rest := by
  obtain ⟨c, hc, rfl⟩ := isC_iff.mp h
  have e : ∀ c ∈ colN, Builtin.Str.occurrences ("abcdef" : Str) (sg c) 0 ("abcdef" : Str).length 1 = [ci (sg c)] := by decide +kernel
  exact ⟨[], e c hc⟩
end Dr
/-! One person of a row: the colour by the counts ahead. -/
namespace Dr
open PySem L2
theorem filt_at {p : Nat → Bool} : ∀ {n i : Nat}, i < n → p i = true → ((List.range n).filter p)[((List.range i).filter p).length]? = some i
  | 0, _, h, _ => absurd h (Nat.not_lt_zero _)
  | n + 1, i, h, hp => by
    rw [List.range_succ, List.filter_append]
    by_cases e : i < n
    · have ih := filt_at e hp
      rw [List.getElem?_append_left (lt_of_get ih)]
      exact ih
    · have e' : i = n := by omega
      subst e'
      rw [List.getElem?_append_right (Nat.le_refl _), Nat.sub_self, List.filter_cons_of_pos hp]
      rfl
theorem posN_take {a : Nat} {l : List Nat} {i : Nat} (hi : i ≤ l.length) : (List.range i).filter (fun p => decide (l[p]? = some a)) = posN a (l.take i) := by
  unfold posN
  rw [List.length_take, Nat.min_eq_left hi]
  refine List.filter_congr fun p hp => ?_
  have hp' : p < i := List.mem_range.mp hp
  rw [List.getElem?_take, if_pos hp']
theorem posN_at {a : Nat} {l : List Nat} {i j : Nat} : (posN a l)[j]? = some i ↔ l[i]? = some a ∧ (l.take i).count a = j := by
  have fwd : ∀ {i : Nat}, l[i]? = some a → (posN a l)[(l.take i).count a]? = some i := fun {i} h => by
    have hi := lt_of_get h
    have := filt_at (p := fun p => decide (l[p]? = some a)) hi (decide_eq_true h)
    rw [posN_take (Nat.le_of_lt hi), posN_len] at this
    exact this
  constructor
  · intro h
    have h1 := posN_iff.mp (List.mem_of_getElem? h)
    exact ⟨h1, nd_ix (posN_nd a l) (fwd h1) h⟩
  · rintro ⟨h1, rfl⟩
    exact fwd h1
theorem setAll_at {b : Nat} : ∀ {ps l : List Nat} {i : Nat}, i < l.length → (setAll b l ps)[i]? = if i ∈ ps then some b else l[i]?
  | [], l, i, _ => by simp [setAll]
  | p :: ps, l, i, h => by
    show (setAll b (l.set p b) ps)[i]? = _
    rw [setAll_at (by rw [List.length_set]; exact h), List.getElem?_set]
    by_cases h1 : i ∈ ps
    · rw [if_pos h1, if_pos (List.mem_cons_of_mem _ h1)]
    · rw [if_neg h1]
      by_cases h2 : p = i
      · subst h2
        rw [if_pos rfl, if_pos h, if_pos List.mem_cons_self]
      · rw [if_neg h2, if_neg (fun q => by rcases List.mem_cons.mp q with e | e; exact h2 e.symm; exact h1 e)]
/-- what a person wears after a call: n wear the call's colour ahead -/
def stp (c : Cl) (n : Int) (x : Nat) : Nat :=
  if c.k.swap = true ∧ x = cc c.b then cc c.a else if x = cc c.a then (match c.k with
    | .s _ => cc c.b
    | .m m => if n = m - 1 then cc c.b else x) else x
theorem run1_at {c : Cl} {l : List Nat} {i x : Nat} (hv : c.ok = true) (hx : l[i]? = some x) : (run1 c l)[i]? = some (stp c ((l.take i).count (cc c.a)) x) := by
  have hab : cc c.a ≠ cc c.b := cc_ne (Cl.ok_a hv) (Cl.ok_b hv) (Cl.ok_ne hv)
  have hi := lt_of_get hx
  have pa : i ∈ posN (cc c.a) l ↔ x = cc c.a := by rw [posN_iff, hx]; exact ⟨fun e => Option.some.inj e, fun e => by rw [e]⟩
  unfold run1 stp
  rcases Cl.kinds hv with e | e | ⟨m, e, hm⟩
  · rw [e]
    dsimp only
    have es : ¬ (Kd.s "all").swap = true := by decide +kernel
    have g : ¬ ((Kd.s "all").swap = true ∧ x = cc c.b) := fun q => es q.1
    rw [if_neg (show ¬ ("all" : Str) = "swap" by decide +kernel), setAll_at hi, if_neg g, hx]
    by_cases q : x = cc c.a
    · rw [if_pos (pa.mpr q), if_pos q]
    · rw [if_neg (fun z => q (pa.mp z)), if_neg q]
  · rw [e]
    dsimp only
    have es : (Kd.s "swap").swap = true := by decide +kernel
    rw [if_pos rfl, setAll_at (by rw [List.length_map]; exact hi), List.getElem?_map, hx]
    by_cases q : x = cc c.a
    · rw [if_pos (pa.mpr q), if_neg (fun z => hab (q.symm.trans z.2)), if_pos q]
    · rw [if_neg (fun z => q (pa.mp z))]
      show some (if x = cc c.b then cc c.a else x) = _
      by_cases q2 : x = cc c.b
      · rw [if_pos q2, if_pos ⟨es, q2⟩]
      · rw [if_neg q2, if_neg (fun z => q2 z.2), if_neg q]
  · rw [e]
    dsimp only
    have es : ¬ (Kd.m m).swap = true := fun z => by cases z
    have g : ¬ ((Kd.m m).swap = true ∧ x = cc c.b) := fun q => es q.1
    rw [if_neg g, setAll_at hi, hx]
    have mem : i ∈ ((posN (cc c.a) l).drop (m - 1).toNat).take 1 ↔ x = cc c.a ∧ (((l.take i).count (cc c.a) : Nat) : Int) = m - 1 := by
      have h1 : i ∈ ((posN (cc c.a) l).drop (m - 1).toNat).take 1 ↔ (posN (cc c.a) l)[(m - 1).toNat]? = some i := by
        rw [List.take_one, List.head?_drop]
        cases (posN (cc c.a) l)[(m - 1).toNat]? with
        | none => simp
        | some y => simp; exact eq_comm
      rw [h1, posN_at, hx]
      constructor
      · rintro ⟨h2, h3⟩; exact ⟨Option.some.inj h2, by omega⟩
      · rintro ⟨h2, h3⟩; exact ⟨by rw [h2], by omega⟩
    by_cases q : x = cc c.a
    · rw [if_pos q]
      by_cases q2 : (((l.take i).count (cc c.a) : Nat) : Int) = m - 1
      · rw [if_pos (mem.mpr ⟨q, q2⟩), if_pos q2]
      · rw [if_neg (fun z => q2 (mem.mp z).2), if_neg q2]
    · rw [if_neg (fun z => q (mem.mp z).1), if_neg q]
theorem run1_take {c : Cl} {l : List Nat} (hv : c.ok = true) (p : Nat) : (run1 c l).take p = run1 c (l.take p) := by
  refine List.ext_getElem? fun i => ?_
  by_cases h : i < p ∧ i < l.length
  · obtain ⟨x, hx⟩ := get_of_lt h.2
    have h2 : (l.take p)[i]? = some x := by rw [List.getElem?_take, if_pos h.1]; exact hx
    rw [List.getElem?_take, if_pos h.1, run1_at hv hx, run1_at hv h2, List.take_take, Nat.min_eq_left (by omega)]
  · rw [List.getElem?_eq_none (by rw [List.length_take, run1_len]; omega), List.getElem?_eq_none (by rw [run1_len, List.length_take]; omega)]
theorem runs_take {D : List Cl} (hv : ∀ c ∈ D, c.ok = true) (p : Nat) : ∀ l, (runs D l).take p = runs D (l.take p) := by
  induction D with
  | nil => intro l; rfl
  | cons c D ih =>
    intro l
    show (runs D (run1 c l)).take p = runs D (run1 c (l.take p))
    rw [ih (fun x hx => hv x (List.mem_cons_of_mem _ hx)), run1_take (hv c List.mem_cons_self)]
/-! ### colour_after -/
def one (c : Cl) (ns : List Int) (w : Str) : Str :=
  if c.k.swap = true ∧ w = c.b then c.a else if w = c.a then (match c.k with
    | .s _ => c.b
    | .m m => if cn ns c.a = m - 1 then c.b else w) else w
def ones (D : List Cl) (p : List Int × Str) : List Int × Str := D.foldl (fun p c => (mv c p.1, one c p.1 p.2)) p
theorem ones_fst (D : List Cl) : ∀ p, (ones D p).1 = mvs D p.1 := by
  induction D with
  | nil => intro p; rfl
  | cons c D ih => intro p; exact ih _
theorem ones_more {D : List Cl} {i : Nat} {c : Cl} {p : List Int × Str} (h : D[i]? = some c) : ones (D.take (i + 1)) p = (mv c (ones (D.take i) p).1, one c (ones (D.take i) p).1 (ones (D.take i) p).2) := by
  rw [take_one h]
  unfold ones
  rw [List.foldl_append]; rfl
theorem one_isC {c : Cl} {ns : List Int} {w : Str} (hv : c.ok = true) (h : isC w = true) : isC (one c ns w) = true := by
  have ha := Cl.ok_a hv
  have hb := Cl.ok_b hv
  unfold one
  split
  · exact ha
  · split
    · split
      · exact hb
      · split
        · exact hb
        · exact h
    · exact h
theorem ones_isC {D : List Cl} (hv : ∀ c ∈ D, c.ok = true) : ∀ {p : List Int × Str}, isC p.2 = true → isC (ones D p).2 = true := by
  induction D with
  | nil => intro p h; exact h
  | cons c D ih =>
    intro p h
    exact ih (fun x hx => hv x (List.mem_cons_of_mem _ hx)) (p := (mv c p.1, one c p.1 p.2)) (one_isC (hv c List.mem_cons_self) h)
theorem sg_cc_iff {z : Str} {x : Nat} (h : isC z = true) : sg x = z ↔ x = cc z := by
  constructor
  · rintro rfl; rfl
  · rintro rfl; exact sg_cc h
theorem one_stp {c : Cl} {l : List Nat} {x : Nat} (hv : c.ok = true) : one c (tally l) (sg x) = sg (stp c (l.count (cc c.a)) x) := by
  have ha := Cl.ok_a hv
  have hb := Cl.ok_b hv
  unfold one stp
  rw [tally_at ha]
  simp only [sg_cc_iff ha, sg_cc_iff hb]
  by_cases h1 : c.k.swap = true ∧ x = cc c.b
  · rw [if_pos h1, if_pos h1, sg_cc ha]
  · rw [if_neg h1, if_neg h1]
    by_cases h2 : x = cc c.a
    · rw [if_pos h2, if_pos h2]
      cases c.k with
      | s z => exact (sg_cc hb).symm
      | m m =>
        dsimp only
        split
        · exact (sg_cc hb).symm
        · rfl
    · rw [if_neg h2, if_neg h2]
theorem ones_runs {D : List Cl} (hv : ∀ c ∈ D, c.ok = true) : ∀ {l : List Nat} {p x : Nat}, l[p]? = some x → ∃ y, (runs D l)[p]? = some y ∧ (ones D (tally (l.take p), sg x)).2 = sg y := by
  induction D with
  | nil => intro l p x h; exact ⟨x, h, rfl⟩
  | cons c D ih =>
    intro l p x h
    have hc := hv c List.mem_cons_self
    have h1 := run1_at hc h
    obtain ⟨y, hy, e⟩ := ih (fun x hx => hv x (List.mem_cons_of_mem _ hx)) h1
    refine ⟨y, hy, ?_⟩
    show (ones D (mv c (tally (l.take p)), one c (tally (l.take p)) (sg x))).2 = sg y
    rw [← tally_run1 hc, one_stp hc, ← run1_take hc]
    exact e
/-! ### a person behind a great crowd -/
def crowd1 (c : Cl) (w : Str) : Str :=
  match c.k with
  | .m _ => w
  | .s z => if z = "all" then (if w = c.a then c.b else w) else if w = c.a ∨ w = c.b then (if w = c.a then c.b else c.a) else w
def crowds (D : List Cl) (w : Str) : Str := D.foldl (fun w c => crowd1 c w) w
theorem crowds_more {D : List Cl} {i : Nat} {c : Cl} {w : Str} (h : D[i]? = some c) : crowds (D.take (i + 1)) w = crowd1 c (crowds (D.take i) w) := by
  rw [take_one h]
  unfold crowds
  rw [List.foldl_append]; rfl
theorem crowd_step {c : Cl} {ns : List Int} {w : Str} {b : Int} (hv : c.ok = true) (hl : Cl.le 20 c) (h6 : ns.length = 6) (h0 : ∀ n ∈ ns, 0 ≤ n) (hw : isC w = true) (hb : b ≤ cn ns w) (h21 : 21 ≤ b) :
    one c ns w = crowd1 c w ∧ b - 1 ≤ cn (mv c ns) (crowd1 c w) ∧ isC (crowd1 c w) = true := by
  have ha := Cl.ok_a hv
  have hcb := Cl.ok_b hv
  have la := ci_lt ha
  have lb := ci_lt hcb
  have lw := ci_lt hw
  have hne := Cl.ok_ne hv
  have nab := ci_inj ha hcb hne
  have nn := nn_iff.mp h0
  have n1 : 0 ≤ cn ns c.a := nn _
  have n2 : 0 ≤ cn ns c.b := nn _
  have n3 : 0 ≤ cn ns w := nn _
  rcases Cl.kinds hv with e | e | ⟨m, e, hm⟩
  · have es : ¬ c.k.swap = true := by rw [e]; decide +kernel
    have e1 : crowd1 c w = if w = c.a then c.b else w := by unfold crowd1; rw [e]; dsimp only; rw [if_pos rfl]
    have e2 : one c ns w = if w = c.a then c.b else w := by unfold one; rw [if_neg (fun q => es q.1), e]
    rw [e1, e2, mv_all h6 hv e]
    refine ⟨rfl, ?_, ?_⟩
    · by_cases q : w = c.a
      · subst q
        rw [if_pos rfl]
        unfold cn at *
        rw [getD_set (by rw [List.length_set]; omega), if_neg nab, getD_set (by omega), if_pos rfl]
        omega
      · rw [if_neg q]
        have na := ci_inj hw ha q
        unfold cn at *
        rw [getD_set (by rw [List.length_set]; omega), if_neg (Ne.symm na), getD_set (by omega)]
        split
        · next q2 => rw [← q2] at hb; omega
        · omega
    · split
      · exact hcb
      · exact hw
  · have es : c.k.swap = true := by rw [e]; decide +kernel
    have e1 : crowd1 c w = if w = c.a ∨ w = c.b then (if w = c.a then c.b else c.a) else w := by unfold crowd1; rw [e]; dsimp only; rw [if_neg (by decide +kernel)]
    have e2 : one c ns w = if w = c.b then c.a else if w = c.a then c.b else w := by
      unfold one
      by_cases q : w = c.b
      · rw [if_pos ⟨es, q⟩, if_pos q]
      · rw [if_neg (fun z => q z.2), if_neg q, e]
    have e3 : one c ns w = crowd1 c w := by
      rw [e1, e2]
      by_cases q : w = c.b
      · have q2 : ¬ w = c.a := fun z => hne (z.symm.trans q)
        rw [if_pos q, if_pos (.inr q), if_neg q2]
      · by_cases q2 : w = c.a
        · rw [if_neg q, if_pos q2, if_pos (.inl q2), if_pos q2]
        · rw [if_neg q, if_neg q2, if_neg (by rintro (z | z); exact q2 z; exact q z)]
    refine ⟨e3, ?_, by rw [← e3]; exact one_isC hv hw⟩
    rw [← e3, e2, mv_swap h6 hv e]
    by_cases q : w = c.b
    · rw [if_pos q]
      subst q
      unfold cn at *
      rw [getD_set (by rw [List.length_set]; omega), if_neg (Ne.symm nab), getD_set (by omega), if_pos rfl]
      omega
    · rw [if_neg q]
      by_cases q2 : w = c.a
      · rw [if_pos q2]
        subst q2
        unfold cn at *
        rw [getD_set (by rw [List.length_set]; omega), if_pos rfl]
        omega
      · rw [if_neg q2]
        have na := ci_inj hw ha q2
        have nb := ci_inj hw hcb q
        unfold cn at *
        rw [getD_set (by rw [List.length_set]; omega), if_neg (Ne.symm nb), getD_set (by omega), if_neg (Ne.symm na)]
        omega
  · have es : ¬ c.k.swap = true := by rw [e]; exact fun z => by cases z
    have e1 : crowd1 c w = w := by unfold crowd1; rw [e]
    have h20 : m ≤ 20 := hl m e
    have e2 : one c ns w = w := by
      unfold one
      rw [if_neg (fun q => es q.1), e]
      by_cases q : w = c.a
      · rw [if_pos q]
        dsimp only
        subst q
        rw [if_neg (by omega)]
      · rw [if_neg q]
    rw [e1, e2, mv_num h6 hv e]
    refine ⟨rfl, ?_, hw⟩
    split
    · unfold cn at *
      rw [getD_set (by rw [List.length_set]; omega), getD_set (by omega)]
      split
      · next q2 => rw [← q2] at hb; omega
      · split
        · next q2 => rw [← q2] at hb; omega
        · omega
    · omega
theorem crowd_runs {D : List Cl} : ∀ {ns : List Int} {w : Str} {b : Int}, (∀ c ∈ D, c.ok = true) → (∀ c ∈ D, Cl.le 20 c) → ns.length = 6 → (∀ n ∈ ns, 0 ≤ n) → isC w = true → b ≤ cn ns w → 21 + (D.length : Int) ≤ b → (ones D (ns, w)).2 = crowds D w := by
  induction D with
  | nil => intro ns w b _ _ _ _ _ _ _; rfl
  | cons c D ih =>
    intro ns w b hv hl h6 h0 hw hb h21
    rw [List.length_cons] at h21
    obtain ⟨h1, h2, h3⟩ := crowd_step (hv c List.mem_cons_self) (hl c List.mem_cons_self) h6 h0 hw hb (by omega)
    show (ones D (mv c ns, one c ns w)).2 = crowds D (crowd1 c w)
    rw [h1]
    exact ih (fun x hx => hv x (List.mem_cons_of_mem _ hx)) (fun x hx => hl x (List.mem_cons_of_mem _ hx)) (by rw [mv_len, h6]) (mv_nn h6 (hv c List.mem_cons_self) h0) h3 h2 (by omega)
theorem in_two {x a b : Str} : (if (false : Bool) = true then !inV (.str x) [.str a, .str b] else inV (.str x) [.str a, .str b]) = decide (x = a ∨ x = b) := by
  rw [if_neg (by decide)]
  have := inV_str x [a, b]
  rw [show [V.str a, V.str b] = [a, b].map V.str from rfl, this]
  congr 1
  simp
theorem one_swap {c : Cl} {ns : List Int} {w : Str} (e : c.k = .s "swap") : one c ns w = if w = c.b then c.a else if w = c.a then c.b else w := by
  have es : c.k.swap = true := by rw [e]; decide +kernel
  unfold one
  by_cases q : w = c.b
  · rw [if_pos ⟨es, q⟩, if_pos q]
  · rw [if_neg (fun z => q z.2), if_neg q, e]
theorem one_all {c : Cl} {ns : List Int} {w : Str} (e : c.k = .s "all") : one c ns w = if w = c.a then c.b else w := by
  have es : ¬ c.k.swap = true := by rw [e]; decide +kernel
  unfold one; rw [if_neg (fun q => es q.1), e]
theorem one_num {c : Cl} {ns : List Int} {w : Str} {m : Int} (e : c.k = .m m) : one c ns w = if w = c.a then (if cn ns c.a = m - 1 then c.b else w) else w := by
  have es : ¬ c.k.swap = true := by rw [e]; exact fun z => by cases z
  unfold one; rw [if_neg (fun q => es q.1), e]
theorem crowd_all {c : Cl} {w : Str} (e : c.k = .s "all") : crowd1 c w = if w = c.a then c.b else w := by unfold crowd1; rw [e]; dsimp only; rw [if_pos rfl]
theorem crowd_swap {c : Cl} {w : Str} (e : c.k = .s "swap") : crowd1 c w = if w = c.a ∨ w = c.b then (if w = c.a then c.b else c.a) else w := by unfold crowd1; rw [e]; dsimp only; rw [if_neg (by decide +kernel)]
theorem crowd_num {c : Cl} {w : Str} {m : Int} (e : c.k = .m m) : crowd1 c w = w := by unfold crowd1; rw [e]
theorem swap_ne_all : ¬ (V.str "swap" = V.str "all") := fun z => absurd (V.str.inj z) (by decide +kernel)
theorem all_ne_swap : ¬ (V.str "all" = V.str "swap") := fun z => absurd (V.str.inj z) (by decide +kernel)
theorem cutS_upto (z : Str) (k : Nat) : (cutS z none (some (k : Int))).cps.toList = z.cps.toList.take k := by
  unfold cutS
  rw [HT.sIx_nat, HT.sIx_none]
  have e : z.length = z.cps.toList.length := by show z.cps.size = _; simp
  show (z.cps.toList.drop 0).take (min k z.length - 0) = _
  rw [List.drop_zero, Nat.sub_zero, e]
  by_cases h : k ≤ z.cps.toList.length
  · rw [Nat.min_eq_left h]
  · rw [Nat.min_eq_right (by omega), List.take_of_length_le (Nat.le_refl _), List.take_of_length_le (by omega)]
/-! ### data of texts -/
def dSs (zs : List Str) : PyData := .list (zs.map .str)
theorem dp_strs {K : PySem.W.Frag} {H : Hp} : ∀ zs : List Str, DpAll K H (zs.map V.str) (zs.map .str)
  | [] => .nil
  | z :: zs => .cons (.str z) (dp_strs zs)
theorem dp_ss {K : PySem.W.Frag} {H : Hp} {a : Addr} {zs : List Str} (h : SqL K H a (zs.map V.str)) : Dp K H (.ref a) (dSs zs) := .lst h (dp_strs zs)
theorem dep_strs : ∀ zs : List Str, PyData.depthAll (zs.map .str) = 0
  | [] => rfl
  | z :: zs => by
    show max (PyData.depth (.str z)) (PyData.depthAll (zs.map .str)) = 0
    rw [dep_strs zs]
    simp [PyData.depth]
theorem ok_col {z : Str} (h : isC z = true) : PyData.strOk z = true := by
  obtain ⟨c, hc, rfl⟩ := isC_iff.mp h
  have e : ∀ c ∈ colN, PyData.strOk (sg c) = true := by decide +kernel
  exact e c hc
theorem lay_strs : ∀ zs : List Str, (∀ z ∈ zs, isC z = true) → PyData.canLayAll0 (zs.map .str) = true
  | [], _ => rfl
  | z :: zs, h => by
    show (PyData.canLay0 (.str z) && PyData.canLayAll0 (zs.map .str)) = true
    rw [lay_strs zs fun x hx => h x (List.mem_cons_of_mem _ hx)]
    simp only [PyData.canLay0, Bool.and_true]
    exact ok_col (h z List.mem_cons_self)
theorem shaped_ss {zs : List Str} (h : ∀ z ∈ zs, isC z = true) : SeqAt.shaped (dSs zs) = true := by
  unfold SeqAt.shaped dSs
  rw [Bool.and_eq_true]
  refine ⟨by simp only [PyData.canLay0]; exact lay_strs zs h, decide_eq_true ?_⟩
  simp only [PyData.depth]
  rw [dep_strs]
  decide
theorem eqv_ss {zs : List Str} (h : ∀ z ∈ zs, isC z = true) : PyData.eqv (dSs zs) (dSs zs) = true := SeqAt.eqv_refl _ (SeqAt.canLay_of_shaped (shaped_ss h))
theorem tally_nn (l : List Nat) : ∀ n ∈ tally l, 0 ≤ n := fun n hn => by
  unfold tally at hn
  obtain ⟨c, _, rfl⟩ := List.mem_map.mp hn
  omega
/-! ### promises -/
def sp_check_colour (K : PySem.W.Frag) : Sp := fun vs H Q _ => ∃ z, vs = [.str z] ∧ isC z = true ∧ Q .non H
def sp_colour_after_call (K : PySem.W.Frag) : Sp := fun vs H Q _ => ∃ (t : Addr) (c : Cl) (a : Addr) (ns : List Int) (w : Str), vs = [.ref t, .ref a, .str w] ∧ SqT K H t c.vs ∧ c.ok = true ∧
  SqL K H a (ns.map V.int) ∧ ns.length = 6 ∧ isC w = true ∧ Q (.str (one c ns w)) H
def sp_colour_after (K : PySem.W.Frag) : Sp := fun vs H Q _ => ∃ (d a : Addr) (D : List Cl) (ns : List Int) (w : Str), vs = [.ref d, .ref a, .str w] ∧ Drill K H d D ∧ (∀ c ∈ D, c.ok = true) ∧
  SqL K H a (ns.map V.int) ∧ ns.length = 6 ∧ (∀ n ∈ ns, 0 ≤ n) ∧ isC w = true ∧ ∀ H', Same H H' → Q (.str (ones D (ns, w)).2) H'
def sp_law_crowd_colour (K : PySem.W.Frag) : Sp := fun vs H Q _ => ∃ (d : Addr) (D : List Cl) (w : Str), vs = [.ref d, .str w] ∧ Drill K H d D ∧ (∀ c ∈ D, c.ok = true) ∧ isC w = true ∧
  ∀ H', Same H H' → Q (.str (crowds D w)) H'
end Dr
/-! Own errors with one field, value: made, raised; what a def lets out. -/
namespace Dr
open PySem L2
/-- the def at place j of a class's body -/
def meth (st : Stmt) (j : Nat) : Stmt := match st with
  | .ClassDef (body := b) .. => b.getD j (.Pass ⟨0, 0, 0, 0⟩)
  | _ => .Pass ⟨0, 0, 0, 0⟩
def sp_init (C : Addr) : Sp := fun vs H Q _ => ∃ (e : Addr) (v : V), vs = [.ref e, v] ∧ H e = some (exo e C none) ∧
  ∀ dx, H dx = none → dx ≠ e → Q .non (upd (upd H dx (exd dx [("value", v)])) e (exo e C (some dx)))
structure Own (K : PySem.W.Frag) (mg : Str → Option Value) (x qual : String) (st : Stmt) (C fI : Addr) (fd : FuncData) : Prop where
  g : mg x = some (.ref C)
  T : OexC K C
  iC : PySem.W.findIn K (.ref C) "__init__" = some (some (.ref fI))
  tI : PySem.W.typeIn K (.ref fI) = some (.type "function")
  no : PySem.W.findIn K (.ref C) "value" = some none
  F : L2.Fun K "__init__" qual st fI fd
  b : Binds K fd ["self", "value"] []
section
variable {P : Program} {w : World} {K : PySem.W.Frag} {mg : Str → Option Value} {base : Heap}
theorem ok_init {x qual : String} {st : Stmt} {C fI : Addr} {fd : FuncData} {p1 p2 p3 p4 : Pos} (O : Own K mg x qual st C fI fd)
    (SC : FnScope ["self", "value"] ["self", "value"] (defScope st)) (hb : defBody st = [.Assign [.Attribute (.Name "self" p1) "value" p2] (.Name "value" p3) p4])
    (hl1 : (defScope st).names.lookup ("self" : Str) = some .local) (hl2 : (defScope st).names.lookup ("value" : Str) = some .local)
    (hs : ∀ env : Env, swapsWith (.Name "value" p3) (some (.Attribute (.Name "self" p1) "value" p2)) p4.line env = pure false) :
    FnOk P w K mg base CX0 1 fI fd ["self", "value"] (sp_init C) := by
  refine O.F.ok SC (fun vs H Q E h => ?_) (fun cdv A outer s H vs Q E hr h => ?_)
  · obtain ⟨e, v, rfl, _⟩ := h
    rfl
  · obtain ⟨e, v, rfl, he, q⟩ := h
    rw [hb]
    refine ⟨_, pss_one (ps_ost (pv 0 rfl (.inl hl1)) (pv 1 rfl (.inl hl2)) (hs _)), ?_⟩
    refine ⟨_, rfl, _, rfl, e, C, rfl, O.T, O.no, .inl ⟨he, fun dx hdx hne => ?_⟩⟩
    exact q dx hdx hne
/-- what a made error leaves -/
theorem mk_out {C : Addr} {H1 : Hp} {v : V} {Q : XK} (q : ∀ (d : Addr) (H' : Hp), Same H1 H' → H1 d = none → H' d = some (.xd [(("value" : Str), v)]) → Q (.ref C) (some d) H') :
    [v].length ≤ 1000 ∧ ∀ a, H1 a = none → sp_init C (.ref a :: ([v] ++ [])) (upd H1 a (exo a C none)) (fun v2 H2 => v2 = .non ∧ ∃ (d : Addr) (fs : List (Str × V)), H2 a = some (exo a C (some d)) ∧ H2 d = some (exd d fs) ∧ H1 d = none ∧ Q (.ref C) (some d) (upd (del H2 a) d (.xd fs))) (fun _ _ _ => False) := by
  refine ⟨by show 1 ≤ 1000; decide, fun a ha => ⟨a, v, rfl, upd_same, fun dx hdx hne => ?_⟩⟩
  have hdx1 : H1 dx = none := by rw [upd_ne hne] at hdx; exact hdx
  refine ⟨rfl, dx, _, upd_same, by rw [upd_ne hne]; exact upd_same, hdx1, q dx _ (fun b u e => ?_) hdx1 upd_same⟩
  have nb : b ≠ a := ne_of_none e ha
  have nd : b ≠ dx := ne_of_none e hdx1
  rw [upd_ne nd, del_ne nb, upd_ne nb, upd_ne nd, upd_ne nb]
  exact e
end
section
variable {X : Cx} {C fI : Addr} {fd : FuncData} {x qual : String} {st : Stmt}
/-- raise X(e) -/
theorem ps_raiseOwn {a : Expr} {ta : TA} {W : WX} {p pos pos2 : Pos} (hc : X.calm = true) (O : Own X.K X.mg x qual st C fI fd) (G : FnOk X.prog X.w X.K X.mg X.base CX0 1 fI fd ["self", "value"] (sp_init C)) (hr : Room 2 X.A) (tk : Takes X W)
    (ha : PA X [a] ta) (hg : Gl X x) (hdb : ((x : Str) == ("__debug__" : Str)) = false := by decide)
    (he : starEach (a :: []) X.env = (false, eval a X.env) :: starEach [] X.env := by rfl) (hpl : (backTo pos (starEach [] X.env)).any (·.1) = false := by rfl) :
    PS X (.Raise (some (.Call (.Name x p) [a] [] pos)) none pos2) (fun _ σ H => tMkO C (sp_init C) [] ta σ H fun cls d H' => W cls d σ H') :=
  ps_raise hc tk (pmk_oex O.T O.iC O.tI G hr O.b .nil pass0 hg O.g ha hdb he hpl)
end
/-- an error of the class at C, with v in it, goes out -/
def Out (H : Hp) (E : XK) (C : Addr) (v : V) : Prop := ∀ (d : Addr) (H' : Hp), Same H H' → H d = none → H' d = some (.xd [(("value" : Str), v)]) → E (.ref C) (some d) H'
theorem Out.from {H H1 : Hp} {E : XK} {C : Addr} {v : V} (h : Out H E C v) (S : Same H H1) : Out H1 E C v := fun d H' S' f e => h d H' (S.trans S') (S.free f) e
end Dr
/-! ### the checks, both ends -/
namespace Dr
open PySem L2
theorem first_some {α : Type} {p : α → Bool} : ∀ {l : List α} {i : Nat} {x : α}, l[i]? = some x → p x = true → (∀ j y, j < i → l[j]? = some y → p y = false) → l.findIdx? p = some i
  | [], _, _, h, _, _ => by simp at h
  | a :: l, 0, x, h, hp, _ => by
    have e : a = x := Option.some.inj h
    rw [List.findIdx?_cons, e, hp]
    rfl
  | a :: l, i + 1, x, h, hp, hb => by
    have ih := first_some (l := l) (i := i) (x := x) (by simpa using h) hp fun j y hj hy => hb (j + 1) y (by omega) (by simpa using hy)
    rw [List.findIdx?_cons, hb 0 a (by omega) rfl, ih]
    rfl
theorem first_none {α : Type} {p : α → Bool} {l : List α} (h : ∀ (j : Nat) (y : α), l[j]? = some y → p y = false) : l.findIdx? p = none := by
  rw [List.findIdx?_eq_none_iff]
  intro x hx
  obtain ⟨j, hj⟩ := List.getElem?_of_mem hx
  exact h j x hj
theorem none_first {α : Type} {p : α → Bool} {l : List α} (h : l.findIdx? p = none) : ∀ x ∈ l, p x = false := by
  rw [List.findIdx?_eq_none_iff] at h
  exact h
def badZ (z : Str) : Option Nat := z.cps.toList.findIdx? fun c => !isC (sg c)
def badD (D : List Cl) : Option Nat := D.findIdx? fun c => !c.ok
def badN (ns : List Int) : Option V := if ns.length = 6 then (ns.findIdx? fun n => decide (n < 0)).map fun i => .int (i : Nat) else some .non
theorem badZ_none {z : Str} (h : badZ z = none) : ∀ c ∈ z.cps.toList, c ∈ colN := fun c hc => by
  have := none_first h c hc
  have e : isC (sg c) = true := by simpa using this
  obtain ⟨x, hx, q⟩ := isC_iff.mp e
  rw [sg_inj q]; exact hx
theorem badD_none {D : List Cl} (h : badD D = none) : ∀ c ∈ D, c.ok = true := fun c hc => by
  have := none_first h c hc
  simpa using this
theorem badN_none {ns : List Int} (h : badN ns = none) : ns.length = 6 ∧ ∀ n ∈ ns, 0 ≤ n := by
  unfold badN at h
  by_cases e : ns.length = 6
  · rw [if_pos e] at h
    refine ⟨e, fun n hn => ?_⟩
    have h2 : ns.findIdx? (fun n => decide (n < 0)) = none := by
      cases q : ns.findIdx? (fun n => decide (n < 0)) with
      | none => rfl
      | some i => rw [q] at h; cases h
    have := none_first h2 n hn
    have := of_decide_eq_false this
    omega
  · rw [if_neg e] at h; cases h
/-- both ends of a check -/
def Ends2 (H : Hp) (Q : VK) (E : XK) (C : Addr) (b : Option V) : Prop := (∀ v, b = some v → Out H E C v) ∧ (b = none → ∀ H', Same H H' → Q .non H')
def iV (b : Option Nat) : Option V := b.map fun i => .int (i : Nat)
theorem iV_some {b : Option Nat} {v : V} (h : iV b = some v) : ∃ i, b = some i ∧ V.int (i : Nat) = v := by
  cases b with
  | none => cases h
  | some i => exact ⟨i, rfl, Option.some.inj h⟩
theorem iV_none {b : Option Nat} (h : iV b = none) : b = none := by
  cases b with
  | none => rfl
  | some i => cases h
def sx_check_colour (K : PySem.W.Frag) (C : Addr) : Sp := fun vs H Q E => ∃ z, vs = [.str z] ∧ (isC z = true → Q .non H) ∧ (isC z = false → Out H E C (.str z))
def sx_check_row (K : PySem.W.Frag) (C : Addr) : Sp := fun vs H Q E => ∃ z, vs = [.str z] ∧ Ends2 H Q E C (iV (badZ z))
def sx_check_drill (K : PySem.W.Frag) (C : Addr) : Sp := fun vs H Q E => ∃ (a : Addr) (D : List Cl), vs = [.ref a] ∧ Drill K H a D ∧ Ends2 H Q E C (iV (badD D))
def sx_check_counts (K : PySem.W.Frag) (C : Addr) : Sp := fun vs H Q E => ∃ (a : Addr) (ns : List Int), vs = [.ref a] ∧ SqL K H a (ns.map V.int) ∧ Ends2 H Q E C (badN ns)
def sx_count_colours (K : PySem.W.Frag) (C : Addr) : Sp := fun vs H Q E => ∃ z : Str, vs = [.str z] ∧ (∀ i, badZ z = some i → Out H E C (.int (i : Nat))) ∧ (badZ z = none → NewInts H (tally z.cps.toList) Q)
def sx_run_on_counts (K : PySem.W.Frag) (C1 C2 : Addr) : Sp := fun vs H Q E => ∃ (d a : Addr) (D : List Cl) (ns : List Int), vs = [.ref d, .ref a] ∧ Drill K H d D ∧ SqL K H a (ns.map V.int) ∧
  (∀ i, badD D = some i → Out H E C1 (.int (i : Nat))) ∧ (badD D = none → ∀ v, badN ns = some v → Out H E C2 v) ∧ (badD D = none → badN ns = none → NewInts H (mvs D ns) Q)
def sx_colour_after (K : PySem.W.Frag) (C1 C2 C3 : Addr) : Sp := fun vs H Q E => ∃ (d a : Addr) (D : List Cl) (ns : List Int) (w : Str), vs = [.ref d, .ref a, .str w] ∧ Drill K H d D ∧ SqL K H a (ns.map V.int) ∧
  (∀ i, badD D = some i → Out H E C1 (.int (i : Nat))) ∧ (badD D = none → ∀ v, badN ns = some v → Out H E C2 v) ∧ (badD D = none → badN ns = none → isC w = false → Out H E C3 (.str w)) ∧
  (badD D = none → badN ns = none → isC w = true → ∀ H', Same H H' → Q (.str (ones D (ns, w)).2) H')
end Dr
/-! A caught error of one of several own classes: isinstance, its field. -/
namespace Dr
open PySem L2
structure ErrC (K : PySem.W.Frag) (C : Addr) : Prop where
  X : XfC K C
  no : PySem.W.findIn K (.ref C) "value" = some none
  cl : (PySem.W.clsIn K C).isSome = true
  ha : PySem.W.findIn K (.ref C) "__class__" = some (some (.builtin "object.__class__"))
  hn : PySem.W.specialIn K (.builtin "object.__class__") "__get__" = some (some (.builtin "getset_descriptor.__get__"))
  ht : PySem.W.takesIn K (.builtin "object.__class__") = some true
  hm : PySem.W.mroIn K C (.type "object") = some true
/-- isinstance(e, c), e the error that the suite holds, of the class cls, with the dict d -/
def rIsX (K : PySem.W.Frag) (cls : Value) (d : Option Addr) (a : Addr) : List V → Hp → VK → Prop := fun xs H Q => ∃ (C dd : Addr) (fs : List (Str × V)) (c : V) (u : Value) (b : Bool), xs = [.ref a, c] ∧ cls = .ref C ∧ ErrC K C ∧
  d = some dd ∧ H dd = some (.xd fs) ∧ ClsV c u ∧ PySem.W.kitOne K (.ref C) u = some b ∧ Q (.bl b) H
def rIsXT (K : PySem.W.Frag) (cls : Value) (d : Option Addr) (a : Addr) : List V → Hp → VK → Prop := fun xs H Q => ∃ (C dd tp : Addr) (fs : List (Str × V)) (cs : List V) (us : List Value) (b : Bool), xs = [.ref a, .ref tp] ∧ cls = .ref C ∧ ErrC K C ∧
  d = some dd ∧ H dd = some (.xd fs) ∧ H tp = some (.tup cs) ∧ Paired ClsV cs us ∧ PySem.W.kitAny K (.ref C) us = some b ∧ Q (.bl b) H
section
theorem mt_indexK {X : Cx} {K : PySem.W.Frag} (h : X.K = K) : MtR X "list.index" (rIndex K) := h ▸ mt_index
variable {X : Cx} {K : PySem.W.Frag} {a : Addr} {oe : Obj} {cls : Value} {d : Option Addr} {pn : List (Addr × Obj)}
theorem suite_inst {pins : List (Addr × Obj)} {σ : St} {H : Hp} {s : Shared} {C dd : Addr} {fs : List (Str × V)} (I : Inv (X.suite a ((a, oe) :: pn)) pins σ H s) (hz : Zc cls d oe) (hf : ∃ vs, oe.data = .fields vs) (ec : cls = .ref C) (ed : d = some dd) (hd : H dd = some (.xd fs)) :
    ∃ od : Obj, PySem.W.InstAt s.heap a oe C (some od) := by
  subst ec
  subst ed
  obtain ⟨ha, _⟩ := I.pin (a, oe) (List.mem_append_left _ List.mem_cons_self)
  obtain ⟨vs, hv⟩ := hf
  have hx : ObjOk X.prog X.w H s.heap dd (.xd fs) := I.hok dd _ hd
  obtain ⟨mA, hns, hr⟩ := hx
  obtain ⟨od, ho, hl⟩ := lookIn_ns hns
  exact ⟨od, ha, hz.1, by unfold PySem.W.notCls; rw [hv] <;> rfl, by rw [hz.2]; exact ho⟩
theorem call_isX (hK : X.K = K) (hz : Zc cls d oe) (hf : ∃ vs, oe.data = .fields vs) : CallR (X.suite a ((a, oe) :: pn)) (.builtin "isinstance") (rIsX K cls d a) := by
  subst hK
  intro pins s σ H xs us Q I r h
  obtain ⟨C, dd, fs, c, u, b, rfl, ec, T, ed, hd, k, e, q⟩ := h
  obtain ⟨u1, u2, rfl, r1, r2⟩ := vals2 r
  have e2 := k.eq r2
  subst e2
  cases (show u1 = Value.ref a from r1)
  obtain ⟨od, J⟩ := suite_inst I hz hf ec ed hd
  exact PySem.W.kia_one (PySem.W.kitx_exc T.cl T.X.ga T.X.gg T.X.exC T.ha T.hn T.ht T.hm) I.kIn J e (fun z => nomatch z) fun tk => ⟨.bl b, H, I.tok tk, rfl, q⟩
theorem call_isXT (hK : X.K = K) (hz : Zc cls d oe) (hf : ∃ vs, oe.data = .fields vs) : CallR (X.suite a ((a, oe) :: pn)) (.builtin "isinstance") (rIsXT K cls d a) := by
  subst hK
  intro pins s σ H xs us Q I r h
  obtain ⟨C, dd, tp, fs, cs, ws, b, rfl, ec, T, ed, hd, hT, k, e, q⟩ := h
  obtain ⟨u1, u2, rfl, r1, r2⟩ := vals2 r
  cases (show u2 = Value.ref tp from r2)
  cases (show u1 = Value.ref a from r1)
  obtain ⟨od, J⟩ := suite_inst I hz hf ec ed hd
  obtain ⟨_, its, rv, o, h1, h2, n, h3⟩ := (show ObjOk X.prog X.w H s.heap tp (.tup cs) from I.hok tp _ hT)
  have e3 := ClsV.all k rv
  subst e3
  obtain ⟨oc, od', dt, sl⟩ := o
  simp only at h2 h3
  subst h2 h3
  exact PySem.W.kia_tup (PySem.W.kitx_exc T.cl T.X.ga T.X.gg T.X.exC T.ha T.hn T.ht T.hm) I.kIn J h1 e (fun z => nomatch z) fun tk => ⟨.bl b, H, I.tok tk, rfl, q⟩
/-- e.value -/
def tXv (K : PySem.W.Frag) (a : Addr) (cls : Value) (d : Option Addr) (te : TE) : TE := fun σ H Q => te σ H fun x H1 => x = .ref a ∧ ∃ (C dd : Addr) (fs : List (Str × V)) (v : V), cls = .ref C ∧ ErrC K C ∧ d = some dd ∧ H1 dd = some (.xd fs) ∧ fs.lookup ("value" : Str) = some v ∧ Q v H1
theorem pe_xv {e : Expr} {te : TE} {pos : Pos} (hK : X.K = K) (hz : Zc cls d oe) (hf : ∃ vs, oe.data = .fields vs) (he : PE (X.suite a ((a, oe) :: pn)) e te) (hb : attributeBase e "value" X.env (eval e X.env) = eval e X.env := by rfl) :
    PE (X.suite a ((a, oe) :: pn)) (.Attribute e "value" pos) (tXv K a cls d te) := by
  subst hK
  refine ⟨fun pins s σ H Q I h => ?_⟩
  refine attr_of hb (thn (he.run pins s σ H _ I h) fun u s1 hh => ?_)
  obtain ⟨x, H1, I1, rx, ex, C, dd, fs, v, ec, T, ed, ea, l, q⟩ := hh
  subst ex
  obtain rfl : u = Value.ref a := rx
  subst ec
  subst ed
  obtain ⟨ha, _⟩ := I1.pin (a, oe) (List.mem_append_left _ List.mem_cons_self)
  obtain ⟨vs, hd⟩ := hf
  have hx : ObjOk X.prog X.w H1 s1.heap dd (.xd fs) := I1.hok dd _ ea
  obtain ⟨mA, hns, hr⟩ := hx
  obtain ⟨od, ho, hl⟩ := lookIn_ns hns
  obtain ⟨u, hu, ru⟩ := RelO.some_of (v := v) (o := mA "value") (by rw [← l]; exact hr "value")
  have J : PySem.W.InstAt s1.heap a oe C (some od) := ⟨ha, hz.1, by unfold PySem.W.notCls; rw [hd] <;> rfl, by rw [hz.2]; exact ho⟩
  exact HandSPX.exc_get I1.kIn J T.X.ga T.X.gg T.X.exC (PySem.W.findObj_own T.X.hdC T.no rfl (by rw [hl, hu])) (handed_of ru) ⟨v, H1, I1.tok _, ru, q⟩
end
end Dr
/-! ### the law's own asking -/
namespace Dr
open PySem L2
/-- which error, by its name and its value; none: no error -/
def due0 (z : Str) : Option (Str × V) := (badZ z).map fun i => ("row", .int (i : Nat))
def due1 (D : List Cl) (ns : List Int) : Option (Str × V) := match badD D with
  | some i => some ("call", .int (i : Nat))
  | none => (badN ns).map fun v => ("counts", v)
def due2 (D : List Cl) (ns : List Int) (w : Str) : Option (Str × V) := match due1 D ns with
  | some p => some p
  | none => if isC w = true then none else some ("colour", .str w)
def due (door : Int) (D : List Cl) (ns : List Int) (w : Str) : Option (Str × V) := if door = 0 then due0 w else if door = 1 then due1 D ns else due2 D ns w
/-- a pair, or None -/
def Told (H : Hp) (Q : VK) (p : Option (Str × V)) : Prop := match p with
  | none => ∀ H', Same H H' → Q .non H'
  | some (x, v) => ∀ (H' : Hp) (t : Addr), Same H H' → H t = none → H' t = some (.tup [.str x, v]) → Q (.ref t) H'
def sx_law_error (K : PySem.W.Frag) (_C1 _C2 _C3 _C4 : Addr) : Sp := fun vs H Q _ => ∃ (door : Int) (d a : Addr) (D : List Cl) (ns : List Int) (w : Str), vs = [.int door, .ref d, .ref a, .str w] ∧ Drill K H d D ∧ SqL K H a (ns.map V.int) ∧
  Told H Q (due door D ns w)
end Dr
namespace Dr
open PySem L2
theorem kit_four {K : PySem.W.Frag} {t a b c d : Value} (h1 : PySem.W.kitOne K t a = some false) (h2 : PySem.W.kitOne K t b = some false) (h3 : PySem.W.kitOne K t c = some false) (h4 : PySem.W.kitOne K t d = some false) : PySem.W.kitAny K t [a, b, c, d] = some false := by
  simp only [PySem.W.kitAny, h1, h2, h3, h4]
end Dr
/-! Own errors held as values: made, asked for their class, their field read. -/
namespace Dr
open PySem L2
/-- an error object at a, of the class cls, with the dict d -/
def Err (cls : Value) (d : Option Addr) (a : Addr) : HO := .ext fun h => ∃ (oe : Obj) (vs : Array Value), h.get? a = some oe ∧ Zc cls d oe ∧ oe.data = .fields vs
theorem err_ok {P : Program} {w : World} {H : Hp} {h : Heap} {a : Addr} {cls : Value} {d : Option Addr} {oe : Obj} {vs : Array Value} (e : h.get? a = some oe) (z : Zc cls d oe) (f : oe.data = .fields vs) : ObjOk P w H h a (Err cls d a) :=
  ⟨⟨oe, vs, e, z, f⟩, ⟨oe, e⟩, fun _ _ ⟨o, v, q, r⟩ k => ⟨o, v, k o q, r⟩⟩
section
variable {X : Cx} {K : PySem.W.Frag}
/-- what makes an error, as a value -/
theorem pe_made {e : Expr} {t : St → Hp → XK → Prop} (hm : PMk X e t) : PE X e (fun σ H Q => t σ H fun cls d H' => ∀ a, H' a = none → Q (.ref a) (upd H' a (Err cls d a))) := by
  refine ⟨fun pins s σ H Q I h => thn (hm pins s σ H _ I h) fun u s' hu => ?_⟩
  obtain ⟨a, oe, vs, sI, H', cls, d, rfl, J, k, hne, ha, hz, hd, h1, na, os, ag, r, q⟩ := hu
  obtain ⟨h2, g2, d2, t2, o2⟩ := s'
  obtain rfl : o2 = sI.os := os
  have hok := J.hok.laidN k na (err_ok (H := upd H' a (Err cls d a)) ha hz hd)
  exact ⟨.ref a, _, J.call (h' := h2) (g' := g2) (d' := d2) (t' := t2) (ch := []) (Un.laidN k hne na) hok ag (fun b z => absurd z (by simp)), rfl, q a na⟩
theorem err_inst {pins : List (Addr × Obj)} {σ : St} {H : Hp} {s : Shared} {a C : Addr} {d : Option Addr} (I : Inv X pins σ H s) (h : H a = some (Err (.ref C) d a)) (hd : d = none ∨ ∃ dd fs, d = some dd ∧ H dd = some (.xd fs)) :
    ∃ (oe : Obj) (od : Option Obj), PySem.W.InstAt s.heap a oe C od := by
  obtain ⟨⟨oe, vs, e, z, f⟩, _⟩ := (show ObjOk X.prog X.w H s.heap a (Err (.ref C) d a) from I.hok a _ h)
  have no : PySem.W.notCls oe = true := by unfold PySem.W.notCls; rw [f] <;> rfl
  rcases hd with rfl | ⟨dd, fs, rfl, hx⟩
  · exact ⟨oe, none, e, z.1, no, by rw [z.2]; trivial⟩
  · obtain ⟨mA, hns, _⟩ := (show ObjOk X.prog X.w H s.heap dd (.xd fs) from I.hok dd _ hx)
    obtain ⟨od, ho, _⟩ := lookIn_ns hns
    exact ⟨oe, some od, e, z.1, no, by rw [z.2]; exact ho⟩
/-- isinstance(x, c), x an error that is held -/
def rIsH (K : PySem.W.Frag) : List V → Hp → VK → Prop := fun xs H Q => ∃ (a C : Addr) (d : Option Addr) (c : V) (u : Value) (b : Bool), xs = [.ref a, c] ∧ H a = some (Err (.ref C) d a) ∧ (d = none ∨ ∃ dd fs, d = some dd ∧ H dd = some (.xd fs)) ∧ ErrC K C ∧
  ClsV c u ∧ PySem.W.kitOne K (.ref C) u = some b ∧ Q (.bl b) H
theorem call_isH (hK : X.K = K) : CallR X (.builtin "isinstance") (rIsH K) := by
  subst hK
  intro pins s σ H xs us Q I r h
  obtain ⟨a, C, d, c, u, b, rfl, he, hd, T, k, e, q⟩ := h
  obtain ⟨u1, u2, rfl, r1, r2⟩ := vals2 r
  have e2 := k.eq r2
  subst e2
  cases (show u1 = Value.ref a from r1)
  obtain ⟨oe, od, J⟩ := err_inst I he hd
  exact PySem.W.kia_one (PySem.W.kitx_exc T.cl T.X.ga T.X.gg T.X.exC T.ha T.hn T.ht T.hm) I.kIn J e (fun z => nomatch z) fun tk => ⟨.bl b, H, I.tok tk, rfl, q⟩
/-- x.value, x an error that is held -/
def tHv (K : PySem.W.Frag) (te : TE) : TE := fun σ H Q => te σ H fun x H1 => ∃ (a C dd : Addr) (fs : List (Str × V)) (v : V), x = .ref a ∧ H1 a = some (Err (.ref C) (some dd) a) ∧ H1 dd = some (.xd fs) ∧ ErrC K C ∧ fs.lookup ("value" : Str) = some v ∧ Q v H1
theorem pe_hv {e : Expr} {te : TE} {pos : Pos} (hK : X.K = K) (he : PE X e te) (hb : attributeBase e "value" X.env (eval e X.env) = eval e X.env := by rfl) : PE X (.Attribute e "value" pos) (tHv K te) := by
  subst hK
  refine ⟨fun pins s σ H Q I h => attr_of hb (thn (he.run pins s σ H _ I h) fun u s1 hh => ?_)⟩
  obtain ⟨x, H1, I1, rx, a, C, dd, fs, v, ex, ha, hx, T, l, q⟩ := hh
  subst ex
  obtain rfl : u = Value.ref a := rx
  obtain ⟨⟨oe, vs, e0, z, f⟩, _⟩ := (show ObjOk X.prog X.w H1 s1.heap a (Err (.ref C) (some dd) a) from I1.hok a _ ha)
  obtain ⟨mA, hns, hr⟩ := (show ObjOk X.prog X.w H1 s1.heap dd (.xd fs) from I1.hok dd _ hx)
  obtain ⟨od, ho, hl⟩ := lookIn_ns hns
  obtain ⟨u, hu, ru⟩ := RelO.some_of (v := v) (o := mA "value") (by rw [← l]; exact hr "value")
  have J : PySem.W.InstAt s1.heap a oe C (some od) := ⟨e0, z.1, by unfold PySem.W.notCls; rw [f] <;> rfl, by rw [z.2]; exact ho⟩
  exact HandSPX.exc_get I1.kIn J T.X.ga T.X.gg T.X.exC (PySem.W.findObj_own T.X.hdC T.no rfl (by rw [hl, hu])) (handed_of ru) ⟨v, H1, I1.tok _, ru, q⟩
end
end Dr
namespace Dr
open PySem L2
def sp_law_bad_order (K : PySem.W.Frag) : Sp := fun vs H Q _ => ∃ (d : Addr) (D : List Cl), vs = [.ref d] ∧ Drill K H d D ∧ (∀ i, badD D = some i → ∀ H', Same H H' → Q (.int (i : Nat)) H') ∧ (badD D = none → ∀ H', Same H H' → Q .non H')
theorem notin_two {x a b : Str} : (if (true : Bool) = true then !inV (.str x) [.str a, .str b] else inV (.str x) [.str a, .str b]) = !decide (x = a ∨ x = b) := by
  rw [if_pos rfl]
  have := in_two (x := x) (a := a) (b := b)
  rw [if_neg (by decide)] at this
  rw [this]
theorem notin_abc {x : Str} : (if (true : Bool) = true then !inV (.str x) colV else inV (.str x) colV) = !isC x := by
  rw [if_pos rfl]
  show (!inV (.str x) (colS.map V.str)) = _
  rw [inV_str]
  rfl
end Dr
namespace Dr
open PySem L2
theorem badN_len {ns : List Int} (h : ns.length ≠ 6) : badN ns = some .non := by unfold badN; rw [if_neg h]
theorem badN_ok {ns : List Int} (h6 : ns.length = 6) (h : ∀ n ∈ ns, 0 ≤ n) : badN ns = none := by
  unfold badN
  rw [if_pos h6, first_none (p := fun n => decide (n < 0)) fun j y hy => decide_eq_false (by have := h y (List.mem_of_getElem? hy); omega)]
  rfl
theorem badN_at {ns : List Int} {i : Nat} {x : Int} (h6 : ns.length = 6) (hx : ns[i]? = some x) (hn : x < 0) (h : ∀ j y, j < i → ns[j]? = some y → 0 ≤ y) : badN ns = some (.int (i : Nat)) := by
  unfold badN
  rw [if_pos h6, first_some (p := fun n => decide (n < 0)) hx (decide_eq_true hn) fun j y hj hy => decide_eq_false (by have := h j y hj hy; omega)]
  rfl
def wrongs (b : Option V) : List V := match b with | none => [] | some v => [v]
def sp_law_spoiled_numbers (K : PySem.W.Frag) : Sp := fun vs H Q _ => ∃ (r a : Addr) (c : Nat) (ns : List Int), vs = [.ref r, .ref a] ∧ Rg H r c ∧ c < 900000000 ∧ a ≠ r ∧ H a = some (.lst (ns.map V.int)) ∧ ns.length = 6 ∧ (∀ n ∈ ns, 0 ≤ n) ∧
  ∀ (H' : Hp) (t p q : Addr) (ms : List Int), Same (hid r H) (hid r H') → Rg H' r (c + 30) → t ≠ r → p ≠ r → q ≠ r → H' t = some (.tup [.ref p, .ref q]) → H' p = some (.lst (ms.map V.int)) → H' q = some (.lst (wrongs (badN ms))) → Q (.ref t) H'
end Dr
namespace Dr
theorem map_rep {n : Nat} {x : Int} : (List.replicate n x).map L2.V.int = List.replicate n (L2.V.int x) := List.map_replicate
end Dr
namespace Dr
open PySem L2
/-- tuples of calls that were laid, beside the state of the draws -/
def Menu (r : Addr) (G : Hp) (vs : List V) : Prop := ∀ v ∈ vs, ∃ (t : Addr) (c : Cl), v = .ref t ∧ t ≠ r ∧ G t = some (.tup c.vs)
theorem Menu.nil {r : Addr} {G : Hp} : Menu r G [] := fun v h => absurd h (by simp)
theorem Menu.new {r p : Addr} {G : Hp} {vs : List V} {o : HO} (h : Menu r G vs) (hp : G p = none) : Menu r (upd G p o) vs := fun v hv => by
  obtain ⟨t, c, e, n, q⟩ := h v hv
  exact ⟨t, c, e, n, (Same.new hp) _ _ q⟩
theorem Menu.tup {r p : Addr} {G : Hp} {vs : List V} {c : Cl} (h : Menu r G vs) (hp : G p = none) (np : p ≠ r) : Menu r (upd G p (.tup c.vs)) (vs ++ [.ref p]) := fun v hv => by
  rcases List.mem_append.mp hv with hv | hv
  · exact (h.new hp) v hv
  · rw [List.mem_singleton.mp hv]; exact ⟨p, c, rfl, np, upd_same⟩
theorem Menu.app {r : Addr} {G : Hp} {vs ws : List V} (h : Menu r G vs) (g : Menu r G ws) : Menu r G (vs ++ ws) := fun v hv => by
  rcases List.mem_append.mp hv with hv | hv
  · exact h v hv
  · exact g v hv
theorem Menu.ext {r : Addr} {G G' : Hp} {vs : List V} (h : Menu r G vs) (S : Same (hid r G) (hid r G')) : Menu r G' vs := fun v hv => by
  obtain ⟨t, c, e, n, q⟩ := h v hv
  exact ⟨t, c, e, n, ext_get S n q⟩
def sp_law_spoiled_orders (K : PySem.W.Frag) : Sp := fun vs H Q _ => ∃ (r d : Addr) (c : Nat) (D : List Cl), vs = [.ref r, .ref d] ∧ Rg H r c ∧ c < 900000000 ∧ Drill K (hid r H) d D ∧ D.length ≤ 1000 ∧
  ∀ (H' : Hp) (p : Addr) (D' : List Cl), Same (hid r H) (hid r H') → Rg H' r (c + 2000) → Drill K (hid r H') p D' → Q (.ref p) H'
end Dr
namespace Dr
theorem upd_at {H : L2.Hp} {l : PySem.Addr} {o : L2.HO} (_ : H l = none) : L2.upd H l o l = some o := L2.upd_same
end Dr
namespace Dr
open PySem L2
theorem hid2_upd {r p : Addr} {H : Hp} {o : HO} : Same (hid p (hid r H)) (hid p (hid r (upd H p o))) := fun b u e => by
  have hb := hid_some e
  rw [hid_ne hb] at e ⊢
  have hr := hid_some e
  rw [hid_ne hr] at e ⊢
  rw [upd_ne hb]
  exact e
theorem hid2_new {r p : Addr} {H : Hp} {o : HO} (h : H p = none) : Same (hid r H) (hid p (hid r (upd H p o))) := fun b u e => by
  have hr := hid_some e
  have e' := hid_same b u e
  have hb : b ≠ p := ne_of_none e' h
  rw [hid_ne hb, hid_ne hr, upd_ne hb]
  exact e'
end Dr
/-! An own error made by C(name=v): no value by place, one by its name. -/
namespace DrKw
open PySem PySem.W PySem.Calls PySem.HandSPX PySem.Builtin PySem.Builtin.ObjectAttr
section
variable {M : Model} {A : Around} {E : Value → Shared → Prop} {h : Heap} {g : Array GenState} {d : Drawn} {t : Nat} {os : OsState}
variable {nm q : Str} {C N : Addr} {bs bm bmB : List Value} {hdct : Bool} {sn : List Str} {sub : List Value} {ab : Bool} {col : Option Bool} {dd : Option Addr} {k0 k1 k2 k3 k5 : Option Value} {B newId initId : String}
theorem kw_check_new (F : ExcBaseFacts B newId initId bmB) (hT : ∀ X : String, bm.contains (.type X) = bmB.contains (.type X)) {kn : Str} {v : Value} {Q : Unit → Shared → Prop}
    (hC : h.get? C = some (excClassObj nm q C N bs bm hdct sn sub ab col dd k0 k1 k2 k3 k5 newId)) (hq : Q () ⟨h, g, d, t, os⟩) : wpAny M A (checkBuiltinCall newId ⟨[.ref C], [(kn, v)]⟩) Q E ⟨h, g, d, t, os⟩ := by
  have hcn : (Value.ref C :: bm).contains (.type B) = true := by rw [List.contains_cons, hT, F.hasB, Bool.or_true]
  have hst := F.noStar
  simp only [checkBuiltinCall, F.newKind, F.newSplit, F.newRow]
  repeat (first | refine wpAny_loadPart_at hC ?_ | (refine wpAny_isSubtype_exc hC ?_; rw [hcn]) | refine wpAny_staticBase_exc hC ?_ | refine wpAny_madeBy_exc hC ?_ | simp only [bne_self_eq_false, Bool.false_eq_true, if_false] | wp_step)
  exact hq
end
section
variable {prog : Program} {w : World} {A : Around} {E : Value → Shared → Prop} {R : Result → Shared → Prop} {h : Heap} {g : Array GenState} {d : Drawn} {t : Nat} {os : OsState}
variable {nm q : Str} {C N : Addr} {bs bm bmB : List Value} {hdct : Bool} {sn : List Str} {sub : List Value} {ab : Bool} {col : Option Bool} {dd : Option Addr} {k0 k1 k2 k3 k5 : Option Value} {B newId initId : String}
theorem kw_new (F : ExcBaseFacts B newId initId bmB) (hT : ∀ X : String, bm.contains (.type X) = bmB.contains (.type X)) {kn : Str} {v : Value}
    (hC : h.get? C = some (excClassObj nm q C N bs bm hdct sn sub ab col dd k0 k1 k2 k3 k5 newId))
    (hr : R (.ok (.ret (.ref (h.objs.size + 1)))) ⟨(h.push (W.kdv_tup [])).push (excO C h.objs.size), g, d, t, os⟩) :
    codeAny (model prog w) A (.builtin newId ⟨[.ref C], [(kn, v)]⟩) R ⟨h, g, d, t, os⟩ := by
  have he := F.ends
  have h1 : (Value.ref C :: bm).contains (.type B) = true := by rw [List.contains_cons, hT, F.hasB, Bool.or_true]
  have h2 : (Value.ref C :: bm).contains (.type "AttributeError") = false := by rw [List.contains_cons, hT, F.noAttr]; rfl
  have h3 : (Value.ref C :: bm).contains (.type "NameError") = false := by rw [List.contains_cons, hT, F.noName]; rfl
  refine codeAny_builtinAt F.entry ?_; unfold Builtin.«BaseException.__new__»; refine wpAt_bind ?_; show PySem.wpAt _ _ _ (stack >>= _) _ _ _
  refine wpAt_bind (wpAt_stack fun ps bl => wpAt_of_wpAny ?_); wp_walk
  refine wpAt_of_wpAny ?_; rw [F.owner]
  repeat (first | with_reducible refine wpAny_madeHere_exc F.canon hC ?_ | with_reducible refine wpAny_loadPart_at hC ?_ | (with_reducible refine wpAny_isSubtype_exc hC ?_; first | rw [h1] | rw [h2] | rw [h3]) | wp_step)
  show R _ _
  rw [Heap.size_push]
  exact hr
theorem kw_type_call (F : ExcBaseFacts B newId initId bmB) (hT : ∀ X : String, bm.contains (.type X) = bmB.contains (.type X)) {kn : Str} {v : Value} {fI : Addr} {Q : Fin → Shared → Prop}
    (hC : h.get? C = some (excClassObj nm q C N bs bm hdct sn sub ab col dd k0 k1 k2 k3 k5 newId))
    (hi : W.Looks (model prog w) h (typeLookup (.ref C) "__init__") (some (.ref fI))) (hb : ∀ self, W.Looks (model prog w) h (bindSpecial (.ref fI) self) (.ref fI, [self]))
    (hk : codeAny (model prog w) A (.call (.ref fI) ⟨[.ref (h.objs.size + 1)], [(kn, v)]⟩)
      (fun r s' => match r with | .ok (.ret v) => v = .none ∧ Q (.done (.ret (.ref (h.objs.size + 1)))) s' | .ok _ => False | .error e => E e s')
      ⟨(h.push (W.kdv_tup [])).push (excO C h.objs.size), g, d, t, os⟩) :
    wpAny (model prog w) A (Builtin.«type.__call__» ⟨[.ref C], [(kn, v)]⟩) Q E ⟨h, g, d, t, os⟩ := by
  repeat (first | with_reducible refine wpAny_loadPart_at hC ?_ | with_reducible refine wpAny_madeBy_exc hC ?_ | wp_step)
  refine codeAny_call_builtin_code (Code.quiet_builtin _ F.quiet) (kw_check_new F hT hC (kw_new F hT hC ?_))
  show wpAny (model prog w) _ _ _ _ _
  have kp : ∀ b o, h.get? b = some o → ((h.push (W.kdv_tup [])).push (excO C h.objs.size)).get? b = some o := fun b o e => Heap.get?_push_of_some _ (Heap.get?_push_of_some _ e)
  have hC2 := kp _ _ hC
  have hg : ((h.push (W.kdv_tup [])).push (excO C h.objs.size)).get? (h.objs.size + 1) = some (excO C h.objs.size) := by heap_get
  have hcc : (Value.ref C :: bm).contains (.ref C) = true := by simp
  have hi2 := hi.keeps kp
  have hb2 := (hb (.ref (h.objs.size + 1))).keeps kp
  unfold isInstance
  repeat (first | with_reducible refine wpAny_loadPart_at hg ?_ | (with_reducible refine wpAny_isSubtype_exc hC2 ?_; rw [hcc]) | wp_step)
  show wpAny (model prog w) _ (typeLookup (.ref C) _) _ _ _
  refine hi2.at (wpAny_holding (wpAny_bind (hb2.at ?_)))
  refine wpAny_bind (wpAny_call (codeAny_mono hk fun r s' z => ?_))
  cases r with
  | error e => exact z
  | ok fl =>
    cases fl with
    | ret v =>
      obtain ⟨rfl, z⟩ := z
      first | exact wpAny_pure (wpAny_pure z) | (wp_walk; exact z) | wp_walk
    | _ => exact z.elim
theorem kw_call (F : ExcBaseFacts B newId initId bmB) (hT : ∀ X : String, bm.contains (.type X) = bmB.contains (.type X)) {kn : Str} {v : Value} {fI : Addr}
    (hC : h.get? C = some (excClassObj nm q C N bs bm hdct sn sub ab col dd k0 k1 k2 k3 k5 newId))
    (hi : W.Looks (model prog w) h (typeLookup (.ref C) "__init__") (some (.ref fI))) (hb : ∀ self, W.Looks (model prog w) h (bindSpecial (.ref fI) self) (.ref fI, [self]))
    (hk : codeAny (model prog w) (A.under (.builtin "type.__call__" ⟨[.ref C], [(kn, v)]⟩)) (.call (.ref fI) ⟨[.ref (h.objs.size + 1)], [(kn, v)]⟩) (W.InitBack (h.objs.size + 1) R)
      ⟨(h.push (W.kdv_tup [])).push (excO C h.objs.size), g, d, t, os⟩) :
    codeAny (model prog w) A (.call (.ref C) ⟨[], [(kn, v)]⟩) R ⟨h, g, d, t, os⟩ := by
  have f1 := tc_lookup
  have f2 := tc_bind (.ref C)
  have hTy : (⟨h, g, d, t, os⟩ : Shared).TypeIs (.ref C) "type" := ⟨_, hC, rfl⟩
  refine codeAny_of_tree (?_ : wpAny _ _ (callAny (.ref C) _) _ _ _)
  repeat (any_goals (first | assumption | with_reducible refine wpAny_loadPart_at hC ?_ | wp_step))
  refine ⟨rfl, ?_⟩
  refine codeAny_call_builtin_at (Code.quiet_builtin _ (by decide +kernel)) entry_typeCall ?_
  have f3 := tc_sub
  have hz : wpAny (model prog w) (A.under (.builtin "type.__call__" ⟨[.ref C], [(kn, v)]⟩)) (Builtin.«type.__call__» ⟨[.ref C], [(kn, v)]⟩) (fun fin s' => match fin with | .done f => R (.ok f) s' | .again c' => c'.quiet = true ∧ codeAny (model prog w) A c' R s') (fun e s' => R (.error e) s') ⟨h, g, d, t, os⟩ :=
    kw_type_call F hT hC hi hb (codeAny_mono hk fun r s' z => by
      cases r with
      | error e => exact z
      | ok fl => cases fl <;> exact z)
  simp only [checkBuiltinCall, tc_kind, tc_split]
  repeat (any_goals (first | assumption | with_reducible refine wpAny_loadPart_at hC ?_ | with_reducible refine wpAny_onRaise ?_ | with_reducible refine wpAny_map ?_ | wp_step))
end
end DrKw
namespace Dr
open PySem PySem.Spec L2
/-- how a method binds self and one value that is given by its name -/
def KwOne (fd : FuncData) (n : Str) : Prop := ∀ (s : Shared) (u v : Value), BindsTo s fd ⟨[u], [(n, v)]⟩ [("self", u), (n, v)]
section
variable {X : Cx} {C fI : Addr} {fd : FuncData} {x n : Str} {sp : Sp} {te : TE} {e : Expr} {p pos kpos : Pos} {k : Nat}
def oneOf (Q : V → Hp → Prop) : List V → Hp → Prop := fun vs H => match vs with | [v] => Q v H | _ => False
theorem oneOf_is {Q : V → Hp → Prop} {vs : List V} {H : Hp} (h : oneOf Q vs H) : ∃ v, vs = [v] ∧ Q v H := by
  match vs, h with
  | [v], h => exact ⟨v, rfl, h⟩
/-- what C(n=e) asks -/
def tMkK (C : Addr) (sp : Sp) (te : TE) : St → Hp → XK → Prop := fun σ H Q => te σ H fun v H1 =>
  ∀ a, H1 a = none → sp [.ref a, v] (upd H1 a (exo a C none)) (fun v2 H2 => v2 = .non ∧ ∃ (d : Addr) (fs : List (Str × V)), H2 a = some (exo a C (some d)) ∧ H2 d = some (exd d fs) ∧ H1 d = none ∧ Q (.ref C) (some d) (upd (del H2 a) d (.xd fs))) (fun _ _ _ => False)
theorem pmk_oexK (T : OexC X.K C) (iC : PySem.W.findIn X.K (.ref C) "__init__" = some (some (.ref fI))) (tI : PySem.W.typeIn X.K (.ref fI) = some (.type "function"))
    (F1 : FnOk X.prog X.w X.K X.mg X.base CX0 k fI fd ["self", n] sp) (hr : Room (k + 1) X.A) (hb : KwOne fd n) (hg : Gl X x) (hm : X.mg x = some (.ref C)) (he : PE X e te)
    (hdb : (x == ("__debug__" : Str)) = false := by decide) (hall : (backToKw pos (keywordEach [⟨some n, e, kpos⟩] X.env)).all (·.1.isSome) = true := by rfl) (hks : (backToKw pos (keywordEach [⟨some n, e, kpos⟩] X.env)).filterMap (·.1) = [n] := by rfl)
    (hpl : ((backTo pos (starEach [] X.env)).any (·.1) || (backToKw pos (keywordEach [⟨some n, e, kpos⟩] X.env)).any (·.1.isNone)) = false := by rfl) :
    PMk X (.Call (.Name x p) [] [⟨some n, e, kpos⟩] pos) (tMkK C sp te) := by
  intro pins s σ H Q I h
  obtain ⟨nm, q, N, bs, bm, sn, sub, ab, col, dd, k0, k1, k2, k3, k5, hC, hbm⟩ := T.cls
  have hkw : PK X [⟨some n, e, kpos⟩] (tCons te tNil) := pk_cons he pk_nil
  refine wpAny_Call_Name_kw (ld_glob I hg hm ?_ hdb)
  refine PySem.W.callWith_KW0 (h₀ := X.base) I.ok.mod.kin T.kC hall (thn (hkw.run pos pins s σ H (oneOf fun v H1 => ∀ a, H1 a = none → sp [.ref a, v] (upd H1 a (exo a C none)) (fun v2 H2 => v2 = .non ∧ ∃ (d : Addr) (fs : List (Str × V)), H2 a = some (exo a C (some d)) ∧ H2 d = some (exd d fs) ∧ H1 d = none ∧ Q (.ref C) (some d) (upd (del H2 a) d (.xd fs))) (fun _ _ _ => False)) I h) fun us s1 hh => ?_) hpl
  obtain ⟨zs, H1, I1, r1, q1⟩ := hh
  obtain ⟨v, rfl, q1⟩ := oneOf_is q1
  refine ⟨I1.kIn, ?_⟩
  rw [hks]
  cases r1 with
  | cons rv rn =>
  cases rn
  rename_i u
  show wpAny _ _ (call (.ref C) [] [(n, u)]) _ _ _
  obtain ⟨hp, g, dr, tk, os⟩ := s1
  have hsz : hp.objs.size ≤ hp.objs.size + 1 := Nat.le_succ _
  have hn : H1 (hp.objs.size + 1) = none := I1.hok.fresh hsz
  have hq := q1 (hp.objs.size + 1) hn
  have kk : ∀ b o, hp.get? b = some o → ((hp.push (PySem.W.kdv_tup [])).push (PySem.HandSPX.excO C hp.objs.size)).get? b = some o := fun b o z => Heap.get?_push_of_some _ (Heap.get?_push_of_some _ z)
  have hget : ((hp.push (PySem.W.kdv_tup [])).push (PySem.HandSPX.excO C hp.objs.size)).get? (hp.objs.size + 1) = some (PySem.HandSPX.excO C hp.objs.size) := by heap_get
  have I2 : Inv X pins σ (upd H1 (hp.objs.size + 1) (exo (hp.objs.size + 1) C none)) ⟨(hp.push (PySem.W.kdv_tup [])).push (PySem.HandSPX.excO C hp.objs.size), g, dr, tk, os⟩ :=
    I1.laid (t' := tk) (a := hp.objs.size + 1) (o := exo (hp.objs.size + 1) C none) (h' := (hp.push (PySem.W.kdv_tup [])).push (PySem.HandSPX.excO C hp.objs.size)) kk hsz (exo_ok hget)
  have r2 : Vals [V.ref (hp.objs.size + 1), v] [Value.ref (hp.objs.size + 1), u] := .cons rfl (.cons rv .nil)
  refine wpAny_call (DrKw.kw_call F.excBase_ValueError (fun Y => PySem.HandSPX.refsVE_contains Y bm hbm) (I1.kIn _ _ hC) (PySem.W.looks_findIn I1.kIn iC) (fun self => PySem.W.bind_fn I1.kIn self tI)
    (codeAny_mono (F1.run _ X.stack _ _ ⟨[Value.ref (hp.objs.size + 1)], [(n, u)]⟩ [Value.ref (hp.objs.size + 1), u] _ _ (fun _ _ _ => False) (hr.make C [] [(n, u)]) (I2.env0.make C [] [(n, u)]) (hb _ _ _) r2 hq) fun r s' hq' => ?_))
  cases r with
  | error er => exact pass0 pins σ _ _ er s' I2 hq'
  | ok fl =>
    cases fl with
    | ret u' =>
      obtain ⟨v2, H2, os2, bare2, un2, hok2, rv2, ev, d, fs, ea, ed, hd1, q2⟩ := hq'
      subst ev
      obtain ⟨h2, g2, d2, t2, os'⟩ := s'
      exact ⟨rv2, mk_end (raises_own T.exC T.tyC) I1 hsz kk un2 hok2 os2 bare2 ea ed hd1 q2⟩
    | _ => exact False.elim hq'
end
end Dr
namespace Dr
open PySem L2
/-- x is an own error that is held, with v in it; D: the class under which all of them stand -/
def HE (K : PySem.W.Frag) (D : Addr) (H : Hp) (x v : V) : Prop := ∃ a C dd, x = .ref a ∧ ErrC K C ∧ H a = some (Err (.ref C) (some dd) a) ∧ H dd = some (.xd [(("value" : Str), v)]) ∧
  PySem.W.kitOne K (.ref C) (.ref D) = some true ∧ PySem.W.kitOne K (.ref C) (.type "ValueError") = some true
theorem HE.same {K : PySem.W.Frag} {D : Addr} {H G : Hp} {x v : V} (h : HE K D H x v) (S : Same H G) : HE K D G x v := by
  obtain ⟨a, C, dd, e, T, h1, h2, h3, h4⟩ := h
  exact ⟨a, C, dd, e, T, S _ _ h1, S _ _ h2, h3, h4⟩
theorem he_new {K : PySem.W.Frag} {D C a d : Addr} {G : Hp} {v : V} (T : ErrC K C) (h3 : PySem.W.kitOne K (.ref C) (.ref D) = some true) (h4 : PySem.W.kitOne K (.ref C) (.type "ValueError") = some true)
    (e : G d = some (.xd [(("value" : Str), v)])) (n : G a = none) : HE K D (upd G a (Err (.ref C) (some d) a)) (.ref a) v :=
  ⟨a, C, d, rfl, T, upd_same, (Same.new n) _ _ e, h3, h4⟩
/-- x is an own error that is held, with a field or bare -/
def HB (K : PySem.W.Frag) (D : Addr) (H : Hp) (x : V) : Prop := ∃ (a C : Addr) (d : Option Addr), x = .ref a ∧ H a = some (Err (.ref C) d a) ∧ (d = none ∨ ∃ dd fs, d = some dd ∧ H dd = some (.xd fs)) ∧ ErrC K C ∧
  PySem.W.kitOne K (.ref C) (.ref D) = some true ∧ PySem.W.kitOne K (.ref C) (.type "ValueError") = some true
theorem HE.toB {K : PySem.W.Frag} {D : Addr} {H : Hp} {x v : V} (h : HE K D H x v) : HB K D H x := by
  obtain ⟨a, C, dd, e, T, h1, h2, h3, h4⟩ := h
  exact ⟨a, C, some dd, e, h1, .inr ⟨dd, _, rfl, h2⟩, T, h3, h4⟩
def HEs (K : PySem.W.Frag) (D : Addr) (H : Hp) (xs vs : List V) : Prop := xs.length = vs.length ∧ ∀ (i : Nat) (x v : V), xs[i]? = some x → vs[i]? = some v → HE K D H x v
theorem HEs.nil {K : PySem.W.Frag} {D : Addr} {H : Hp} : HEs K D H [] [] := ⟨rfl, fun i x v h => absurd h (by simp)⟩
theorem HEs.same {K : PySem.W.Frag} {D : Addr} {H G : Hp} {xs vs : List V} (h : HEs K D H xs vs) (S : Same H G) : HEs K D G xs vs := ⟨h.1, fun i x v a b => (h.2 i x v a b).same S⟩
theorem HEs.more {K : PySem.W.Frag} {D : Addr} {H : Hp} {xs vs : List V} {x v : V} (h : HEs K D H xs vs) (g : HE K D H x v) : HEs K D H (xs ++ [x]) (vs ++ [v]) := by
  refine ⟨by rw [List.length_append, List.length_append, h.1] <;> rfl, fun i y w a b => ?_⟩
  by_cases hi : i < xs.length
  · rw [List.getElem?_append_left hi] at a
    rw [List.getElem?_append_left (h.1 ▸ hi)] at b
    exact h.2 i y w a b
  · rw [List.getElem?_append_right (by omega)] at a
    rw [List.getElem?_append_right (by have := h.1; omega)] at b
    have z : i - xs.length = 0 := by
      have := lt_of_get a
      simp at this
      omega
    rw [z] at a
    rw [show i - vs.length = 0 by rw [← h.1]; exact z] at b
    rw [← Option.some.inj a, ← Option.some.inj b]
    exact g
def sp_law_classes_right (_ : PySem.W.Frag) : Sp := fun vs H Q _ => vs = [] ∧ ∀ H', Same H H' → Q (.bl true) H'
end Dr
namespace Dr
open PySem L2
section
variable {H1 : Hp} {C a dx : Addr} {v : V} {e : Value}
theorem made_dict (hdx : upd H1 a (exo a C none) dx = none) (hne : dx ≠ a) : (upd (upd (upd H1 a (exo a C none)) dx (exd dx [(("value" : Str), v)])) a (exo a C (some dx))) dx = some (exd dx [(("value" : Str), v)]) := by
  rw [upd_ne hne]; exact upd_same
theorem made_free (hdx : upd H1 a (exo a C none) dx = none) (hne : dx ≠ a) : H1 dx = none := by rw [upd_ne hne] at hdx; exact hdx
theorem made_same (ha : H1 a = none) (hdx : upd H1 a (exo a C none) dx = none) (hne : dx ≠ a) :
    Same H1 (upd (del (upd (upd (upd H1 a (exo a C none)) dx (exd dx [(("value" : Str), v)])) a (exo a C (some dx))) a) dx (.xd [(("value" : Str), v)])) := fun b u e => by
  have nb : b ≠ a := ne_of_none e ha
  have nd : b ≠ dx := ne_of_none e (made_free hdx hne)
  rw [upd_ne nd, del_ne nb, upd_ne nb, upd_ne nd, upd_ne nb]
  exact e
theorem made_both (ha : H1 a = none) (hdx : upd H1 a (exo a C none) dx = none) (hne : dx ≠ a) :
    Same H1 (upd (del (upd (upd (upd H1 a (exo a C none)) dx (exd dx [(("value" : Str), v)])) a (exo a C (some dx))) a) dx (.xd [(("value" : Str), v)])) ∧
    (upd (del (upd (upd (upd H1 a (exo a C none)) dx (exd dx [(("value" : Str), v)])) a (exo a C (some dx))) a) dx (.xd [(("value" : Str), v)])) dx = some (.xd [(("value" : Str), v)]) := ⟨made_same ha hdx hne, upd_same⟩
end
end Dr
/-! What is due, held as a value beside what is told (the laws of errors). -/
namespace Dr
open PySem L2
def ScV (v : V) : Prop := v = .non ∨ (∃ i, v = .int i) ∨ ∃ z, v = .str z ∧ PyData.strOk z = true
def dV (v : V) : PyData := match v with
  | .int i => .int i
  | .str z => .str z
  | _ => .none
theorem dp_v {K : PySem.W.Frag} {H : Hp} {v : V} (h : ScV v) : Dp K H v (dV v) := by
  rcases h with rfl | ⟨i, rfl⟩ | ⟨z, rfl, _⟩
  · exact .non
  · exact .int _
  · exact .str _
/-- x is p as a value: None, or a pair -/
def DueV (K : PySem.W.Frag) (H : Hp) (p : Option (Str × V)) (x : V) : Prop := match p with
  | none => x = .non
  | some (y, v) => ∃ t, x = .ref t ∧ SqT K H t [.str y, v]
theorem DueV.same {K : PySem.W.Frag} {H G : Hp} {p : Option (Str × V)} {x : V} (h : DueV K H p x) (S : Same H G) : DueV K G p x := by
  match p, h with
  | none, h => exact h
  | some (y, v), ⟨t, e, q⟩ => exact ⟨t, e, Same.sqT S q⟩
def dP (p : Option (Str × V)) : PyData := match p with
  | none => .none
  | some (y, v) => .tuple [.str y, dV v]
/-- what a pair may hold, so that it is compared -/
def ScP (p : Option (Str × V)) : Prop := ∀ y v, p = some (y, v) → PyData.strOk y = true ∧ ScV v
theorem dp_p {K : PySem.W.Frag} {H : Hp} {p : Option (Str × V)} {x : V} (s : ScP p) (h : DueV K H p x) : Dp K H x (dP p) := by
  match p, s, h with
  | none, _, h => rw [show x = .non from h]; exact .non
  | some (y, v), s, ⟨t, e, q⟩ => rw [e]; exact .tup q (.cons (.str _) (.cons (dp_v (s y v rfl).2) .nil))
theorem shaped_p {p : Option (Str × V)} (s : ScP p) : SeqAt.shaped (dP p) = true := by
  match p, s with
  | none, _ => decide +kernel
  | some (y, v), s =>
    obtain ⟨h, h2⟩ := s y v rfl
    rcases h2 with rfl | ⟨i, rfl⟩ | ⟨z, rfl, hz⟩
    · simp [SeqAt.shaped, dP, dV, PyData.canLay0, PyData.canLayAll0, PyData.depth, PyData.depthAll, h]
    · simp [SeqAt.shaped, dP, dV, PyData.canLay0, PyData.canLayAll0, PyData.depth, PyData.depthAll, h]
    · simp [SeqAt.shaped, dP, dV, PyData.canLay0, PyData.canLayAll0, PyData.depth, PyData.depthAll, h, hz]
theorem eqv_p {p : Option (Str × V)} (s : ScP p) : PyData.eqv (dP p) (dP p) = true := SeqAt.eqv_refl _ (SeqAt.canLay_of_shaped (shaped_p s))
theorem told_due {K : PySem.W.Frag} {H : Hp} {Q : VK} {p : Option (Str × V)} (h : ∀ H' x, Same H H' → DueV K H' p x → Q x H') : Told H Q p := by
  match p with
  | none => exact fun H' S => h H' _ S rfl
  | some (y, v) => exact fun H' t S _ e => h H' _ S ⟨t, rfl, SqT.of e⟩
theorem due0_sc {z : Str} : ScP (due0 z) := fun y v h => by
  unfold due0 at h
  cases q : badZ z with
  | none => rw [q] at h; cases h
  | some i => rw [q] at h; cases h; exact ⟨by decide +kernel, .inr (.inl ⟨_, rfl⟩)⟩
theorem badN_sc {ns : List Int} {v : V} (h : badN ns = some v) : ScV v := by
  unfold badN at h
  by_cases e : ns.length = 6
  · rw [if_pos e] at h
    cases q : ns.findIdx? (fun n => decide (n < 0)) with
    | none => rw [q] at h; cases h
    | some i => rw [q] at h; cases h; exact .inr (.inl ⟨_, rfl⟩)
  · rw [if_neg e] at h; cases h; exact .inl rfl
theorem due1_sc {D : List Cl} {ns : List Int} : ScP (due1 D ns) := fun y v h => by
  unfold due1 at h
  cases q : badD D with
  | some i => rw [q] at h; cases h; exact ⟨by decide +kernel, .inr (.inl ⟨_, rfl⟩)⟩
  | none =>
    rw [q] at h
    cases q2 : badN ns with
    | none => rw [q2] at h; cases h
    | some w => rw [q2] at h; cases h; exact ⟨by decide +kernel, badN_sc q2⟩
theorem due2_sc {D : List Cl} {ns : List Int} {w : Str} (hw : PyData.strOk w = true) : ScP (due2 D ns w) := fun y v h => by
  unfold due2 at h
  cases q : due1 D ns with
  | some p => rw [q] at h; cases h; exact due1_sc _ _ q
  | none =>
    rw [q] at h
    cases c : isC w with
    | true => rw [c] at h; cases h
    | false => rw [c] at h; cases h; exact ⟨by decide +kernel, .inr (.inr ⟨_, rfl, hw⟩)⟩
/-- the places of a row at which no colour stands -/
def bads (z : Str) (n : Nat) : List Nat := (List.range n).filter fun i => !decide ((z.cps.toList.getD i 0) ∈ colN)
theorem bads_more (z : Str) (n : Nat) : bads z (n + 1) = bads z n ++ (if z.cps.toList.getD n 0 ∈ colN then [] else [n]) := by
  unfold bads
  rw [List.range_succ, List.filter_append]
  congr 1
  by_cases h : z.cps.toList.getD n 0 ∈ colN
  · rw [if_pos h, List.filter_cons, decide_eq_true h]; rfl
  · rw [if_neg h, List.filter_cons, decide_eq_false h]; rfl
theorem isC_sg {c : Nat} : isC (sg c) = decide (c ∈ colN) := by
  by_cases h : c ∈ colN
  · rw [decide_eq_true h]; exact isC_iff.mpr ⟨c, h, rfl⟩
  · rw [decide_eq_false h]
    cases q : isC (sg c) with
    | false => rfl
    | true =>
      obtain ⟨x, hx, e⟩ := isC_iff.mp q
      rw [sg_inj e] at h
      exact absurd hx h
theorem bads_head : ∀ (z : Str), (bads z z.cps.size).head? = badZ z := by
  intro z
  have key : ∀ (l : List Nat), ((List.range l.length).filter fun i => !decide ((l.getD i 0) ∈ colN)).head? = l.findIdx? fun c => !isC (sg c) := by
    intro l
    induction l with
    | nil => rfl
    | cons a l ih =>
      rw [List.length_cons, List.range_succ_eq_map, List.findIdx?_cons, List.filter_cons]
      rw [show (a :: l).getD 0 0 = a from rfl, isC_sg]
      cases c : decide (a ∈ colN) with
      | false => rfl
      | true =>
        rw [if_neg (by decide), if_neg (by decide), List.filter_map, List.head?_map, ← ih]
        rfl
  have e : z.cps.size = z.cps.toList.length := by simp
  unfold bads badZ
  rw [e]
  exact key z.cps.toList
end Dr
namespace Dr
open PySem L2
theorem eqv_no (x : PyData) (l : List PyData) : PyData.eqv (.list (x :: l)) (.list []) = false := by
  simp [PyData.eqv, PyData.eqvAll]
theorem eqv_nil : PyData.eqv (.list []) (.list []) = true := by decide +kernel
theorem shaped_one {v : V} (h : ScV v) : SeqAt.shaped (.list [dV v]) = true := by
  rcases h with rfl | ⟨i, rfl⟩ | ⟨z, rfl, hz⟩
  · decide +kernel
  · simp [SeqAt.shaped, dV, PyData.canLay0, PyData.canLayAll0, PyData.depth, PyData.depthAll]
  · simp [SeqAt.shaped, dV, PyData.canLay0, PyData.canLayAll0, PyData.depth, PyData.depthAll, hz]
def nI (l : List Nat) : List Int := l.map fun (i : Nat) => (i : Int)
end Dr
namespace Dr
open PySem PySem.W
section
variable {K : Frag} {C D : Addr} {t : Value}
theorem cls_some (h : hasDictIn K C = true) : (clsIn K C).isSome = true := by
  unfold hasDictIn at h
  cases e : clsIn K C with
  | none => rw [e] at h; cases h
  | some x => rfl
theorem kitCls_sub {b : Bool} (hd : hasDictIn K D = true) (ht : typeIn K (.ref D) = some (.type "type")) (s : subIn K t (.ref D) = some b) : kitCls K t (.ref D) = some b := by
  have z : ((clsIn K D).isSome && typeIn K (.ref D) == some (.type "type")) = true := by rw [cls_some hd, ht]; rfl
  show (if ((clsIn K D).isSome && typeIn K (.ref D) == some (.type "type")) = true then subIn K t (.ref D) else none) = some b
  rw [if_pos z, s]
theorem kit_yes (hd : hasDictIn K D = true) (ht : typeIn K (.ref D) = some (.type "type")) (s : subIn K t (.ref D) = some true) : kitOne K t (.ref D) = some true := by
  unfold kitOne
  split
  · rfl
  · exact kitCls_sub hd ht s
theorem kit_no (hd : hasDictIn K D = true) (ht : typeIn K (.ref D) = some (.type "type")) (s : subIn K t (.ref D) = some false) (r : subIn K (.ref D) (.ref D) = some true) : kitOne K t (.ref D) = some false := by
  unfold kitOne
  split
  · rename_i h
    have e : t = .ref D := beq_iff_eq.mp h
    rw [e, r] at s
    cases s
  · exact kitCls_sub hd ht s
theorem kit_VE (s : subIn K (.ref C) (.type "ValueError") = some true) : kitOne K (.ref C) (.type "ValueError") = some true := by
  unfold kitOne
  split
  · rfl
  · show (if kitMeta "ValueError" = true then subIn K (.ref C) (.type "ValueError") else none) = some true
    rw [if_pos (by decide +kernel), s]
theorem exm_sub (b : subIn K (.ref D) (.type "BaseException") = some true) (hd : hasDictIn K D = true) (ht : typeIn K (.ref D) = some (.type "type")) (s : subIn K t (.ref D) = some true) : exmOne K t (.ref D) = some true := by
  unfold exmOne
  rw [b, if_pos (by rfl)]
  exact kitCls_sub hd ht s
end
end Dr
namespace Dr
open PySem L2
def top (i : Nat) : Stmt := PySem.Challenge.pw_drillrow_k10_counts_errors.main.body.getD i (.Pass ⟨0, 0, 0, 0⟩)
abbrev s_is_colour : Stmt := top 12
abbrev s_is_kind : Stmt := top 13
abbrev s_is_call : Stmt := top 14
abbrev s_check_row : Stmt := top 15
abbrev s_check_drill : Stmt := top 16
abbrev s_check_counts : Stmt := top 17
abbrev s_check_colour : Stmt := top 18
abbrev s_count_of : Stmt := top 20
abbrev s_count_movers : Stmt := top 21
abbrev s_move_counts : Stmt := top 22
abbrev s_colour_after_call : Stmt := top 23
abbrev s_count_colours : Stmt := top 24
abbrev s_run_on_counts : Stmt := top 25
abbrev s_colour_after : Stmt := top 26
abbrev s__law_rng : Stmt := top 28
abbrev s__law_draw : Stmt := top 29
abbrev s__law_letters : Stmt := top 30
abbrev s__law_line : Stmt := top 31
abbrev s__law_order : Stmt := top 32
abbrev s__law_orders : Stmt := top 33
abbrev s__law_tally : Stmt := top 34
abbrev s__law_spoiled_orders : Stmt := top 35
abbrev s__law_bad_order : Stmt := top 36
abbrev s__law_spoiled_numbers : Stmt := top 37
abbrev s__law_error : Stmt := top 38
abbrev s__law_classes_right : Stmt := top 39
abbrev s_law : Stmt := top 40
/-- what the top has left -/
structure Txt (K : PySem.W.Frag) (mg : Str → Option Value) : Type where
  a_is_colour : Addr
  fd_is_colour : FuncData
  F_is_colour : Fun K "is_colour" "is_colour" s_is_colour a_is_colour fd_is_colour
  m_is_colour : mg "is_colour" = some (.ref a_is_colour)
  b_is_colour : Binds K fd_is_colour ["text"] []
  a_is_kind : Addr
  fd_is_kind : FuncData
  F_is_kind : Fun K "is_kind" "is_kind" s_is_kind a_is_kind fd_is_kind
  m_is_kind : mg "is_kind" = some (.ref a_is_kind)
  b_is_kind : Binds K fd_is_kind ["kind"] []
  a_is_call : Addr
  fd_is_call : FuncData
  F_is_call : Fun K "is_call" "is_call" s_is_call a_is_call fd_is_call
  m_is_call : mg "is_call" = some (.ref a_is_call)
  b_is_call : Binds K fd_is_call ["call"] []
  a_check_row : Addr
  fd_check_row : FuncData
  F_check_row : Fun K "check_row" "check_row" s_check_row a_check_row fd_check_row
  m_check_row : mg "check_row" = some (.ref a_check_row)
  b_check_row : Binds K fd_check_row ["row"] []
  a_check_drill : Addr
  fd_check_drill : FuncData
  F_check_drill : Fun K "check_drill" "check_drill" s_check_drill a_check_drill fd_check_drill
  m_check_drill : mg "check_drill" = some (.ref a_check_drill)
  b_check_drill : Binds K fd_check_drill ["drill"] []
  a_check_counts : Addr
  fd_check_counts : FuncData
  F_check_counts : Fun K "check_counts" "check_counts" s_check_counts a_check_counts fd_check_counts
  m_check_counts : mg "check_counts" = some (.ref a_check_counts)
  b_check_counts : Binds K fd_check_counts ["counts"] []
  a_check_colour : Addr
  fd_check_colour : FuncData
  F_check_colour : Fun K "check_colour" "check_colour" s_check_colour a_check_colour fd_check_colour
  m_check_colour : mg "check_colour" = some (.ref a_check_colour)
  b_check_colour : Binds K fd_check_colour ["colour"] []
  a_count_of : Addr
  fd_count_of : FuncData
  F_count_of : Fun K "count_of" "count_of" s_count_of a_count_of fd_count_of
  m_count_of : mg "count_of" = some (.ref a_count_of)
  b_count_of : Binds K fd_count_of ["counts", "colour"] []
  a_count_movers : Addr
  fd_count_movers : FuncData
  F_count_movers : Fun K "count_movers" "count_movers" s_count_movers a_count_movers fd_count_movers
  m_count_movers : mg "count_movers" = some (.ref a_count_movers)
  b_count_movers : Binds K fd_count_movers ["kind", "wearers"] []
  a_move_counts : Addr
  fd_move_counts : FuncData
  F_move_counts : Fun K "move_counts" "move_counts" s_move_counts a_move_counts fd_move_counts
  m_move_counts : mg "move_counts" = some (.ref a_move_counts)
  b_move_counts : Binds K fd_move_counts ["call", "counts"] []
  a_colour_after_call : Addr
  fd_colour_after_call : FuncData
  F_colour_after_call : Fun K "colour_after_call" "colour_after_call" s_colour_after_call a_colour_after_call fd_colour_after_call
  m_colour_after_call : mg "colour_after_call" = some (.ref a_colour_after_call)
  b_colour_after_call : Binds K fd_colour_after_call ["call", "ahead", "colour"] []
  a_count_colours : Addr
  fd_count_colours : FuncData
  F_count_colours : Fun K "count_colours" "count_colours" s_count_colours a_count_colours fd_count_colours
  m_count_colours : mg "count_colours" = some (.ref a_count_colours)
  b_count_colours : Binds K fd_count_colours ["row"] []
  a_run_on_counts : Addr
  fd_run_on_counts : FuncData
  F_run_on_counts : Fun K "run_on_counts" "run_on_counts" s_run_on_counts a_run_on_counts fd_run_on_counts
  m_run_on_counts : mg "run_on_counts" = some (.ref a_run_on_counts)
  b_run_on_counts : Binds K fd_run_on_counts ["drill", "counts"] []
  a_colour_after : Addr
  fd_colour_after : FuncData
  F_colour_after : Fun K "colour_after" "colour_after" s_colour_after a_colour_after fd_colour_after
  m_colour_after : mg "colour_after" = some (.ref a_colour_after)
  b_colour_after : Binds K fd_colour_after ["drill", "ahead", "colour"] []
  a__law_rng : Addr
  fd__law_rng : FuncData
  F__law_rng : Fun K "_law_rng" "_law_rng" s__law_rng a__law_rng fd__law_rng
  m__law_rng : mg "_law_rng" = some (.ref a__law_rng)
  b__law_rng : Binds K fd__law_rng ["script"] []
  a__law_draw : Addr
  fd__law_draw : FuncData
  F__law_draw : Fun K "_law_draw" "_law_draw" s__law_draw a__law_draw fd__law_draw
  m__law_draw : mg "_law_draw" = some (.ref a__law_draw)
  b__law_draw : Binds K fd__law_draw ["rng", "limit"] []
  a__law_letters : Addr
  fd__law_letters : FuncData
  F__law_letters : Fun K "_law_letters" "_law_letters" s__law_letters a__law_letters fd__law_letters
  m__law_letters : mg "_law_letters" = some (.ref a__law_letters)
  b__law_letters : Binds K fd__law_letters ["rng"] []
  a__law_line : Addr
  fd__law_line : FuncData
  F__law_line : Fun K "_law_line" "_law_line" s__law_line a__law_line fd__law_line
  m__law_line : mg "_law_line" = some (.ref a__law_line)
  b__law_line : Binds K fd__law_line ["rng", "letters", "longest"] []
  a__law_order : Addr
  fd__law_order : FuncData
  F__law_order : Fun K "_law_order" "_law_order" s__law_order a__law_order fd__law_order
  m__law_order : mg "_law_order" = some (.ref a__law_order)
  b__law_order : Binds K fd__law_order ["rng", "letters", "highest"] []
  a__law_orders : Addr
  fd__law_orders : FuncData
  F__law_orders : Fun K "_law_orders" "_law_orders" s__law_orders a__law_orders fd__law_orders
  m__law_orders : mg "_law_orders" = some (.ref a__law_orders)
  b__law_orders : Binds K fd__law_orders ["rng", "letters", "longest", "highest"] []
  a__law_tally : Addr
  fd__law_tally : FuncData
  F__law_tally : Fun K "_law_tally" "_law_tally" s__law_tally a__law_tally fd__law_tally
  m__law_tally : mg "_law_tally" = some (.ref a__law_tally)
  b__law_tally : Binds K fd__law_tally ["line"] []
  a__law_spoiled_orders : Addr
  fd__law_spoiled_orders : FuncData
  F__law_spoiled_orders : Fun K "_law_spoiled_orders" "_law_spoiled_orders" s__law_spoiled_orders a__law_spoiled_orders fd__law_spoiled_orders
  m__law_spoiled_orders : mg "_law_spoiled_orders" = some (.ref a__law_spoiled_orders)
  b__law_spoiled_orders : Binds K fd__law_spoiled_orders ["rng", "orders"] []
  a__law_bad_order : Addr
  fd__law_bad_order : FuncData
  F__law_bad_order : Fun K "_law_bad_order" "_law_bad_order" s__law_bad_order a__law_bad_order fd__law_bad_order
  m__law_bad_order : mg "_law_bad_order" = some (.ref a__law_bad_order)
  b__law_bad_order : Binds K fd__law_bad_order ["orders"] []
  a__law_spoiled_numbers : Addr
  fd__law_spoiled_numbers : FuncData
  F__law_spoiled_numbers : Fun K "_law_spoiled_numbers" "_law_spoiled_numbers" s__law_spoiled_numbers a__law_spoiled_numbers fd__law_spoiled_numbers
  m__law_spoiled_numbers : mg "_law_spoiled_numbers" = some (.ref a__law_spoiled_numbers)
  b__law_spoiled_numbers : Binds K fd__law_spoiled_numbers ["rng", "numbers"] []
  a__law_error : Addr
  fd__law_error : FuncData
  F__law_error : Fun K "_law_error" "_law_error" s__law_error a__law_error fd__law_error
  m__law_error : mg "_law_error" = some (.ref a__law_error)
  b__law_error : Binds K fd__law_error ["door", "orders", "numbers", "text"] []
  a__law_classes_right : Addr
  fd__law_classes_right : FuncData
  F__law_classes_right : Fun K "_law_classes_right" "_law_classes_right" s__law_classes_right a__law_classes_right fd__law_classes_right
  m__law_classes_right : mg "_law_classes_right" = some (.ref a__law_classes_right)
  b__law_classes_right : Binds K fd__law_classes_right [] []
  a_law : Addr
  fd_law : FuncData
  F_law : Fun K "law" "law" s_law a_law fd_law
  m_law : mg "law" = some (.ref a_law)
  b_law : Binds K fd_law ["script"] []
  a_COLOURS : Addr
  m_COLOURS : mg "COLOURS" = some (.ref a_COLOURS)
  c_COLOURS : ∀ H, SqT K H a_COLOURS colV
  t_COLOURS : ∃ o, K.lookup a_COLOURS = some o ∧ o.cls = .type "tuple" ∧ o.dict = none
  C_BadRow : Addr
  I_BadRow : Addr
  D_BadRow : FuncData
  O_BadRow : Own K mg "BadRow" "BadRow.__init__" (meth (top 2) 0) C_BadRow I_BadRow D_BadRow
  C_BadCall : Addr
  I_BadCall : Addr
  D_BadCall : FuncData
  O_BadCall : Own K mg "BadCall" "BadCall.__init__" (meth (top 3) 0) C_BadCall I_BadCall D_BadCall
  C_BadCounts : Addr
  I_BadCounts : Addr
  D_BadCounts : FuncData
  O_BadCounts : Own K mg "BadCounts" "BadCounts.__init__" (meth (top 4) 0) C_BadCounts I_BadCounts D_BadCounts
  C_BadColour : Addr
  I_BadColour : Addr
  D_BadColour : FuncData
  O_BadColour : Own K mg "BadColour" "BadColour.__init__" (meth (top 5) 0) C_BadColour I_BadColour D_BadColour
  C_BadTimes : Addr
  I_BadTimes : Addr
  D_BadTimes : FuncData
  O_BadTimes : Own K mg "BadTimes" "BadTimes.__init__" (meth (top 6) 0) C_BadTimes I_BadTimes D_BadTimes
  C_BadText : Addr
  I_BadText : Addr
  D_BadText : FuncData
  O_BadText : Own K mg "BadText" "BadText.__init__" (meth (top 9) 0) C_BadText I_BadText D_BadText
  C_BadIndex : Addr
  I_BadIndex : Addr
  D_BadIndex : FuncData
  O_BadIndex : Own K mg "BadIndex" "BadIndex.__init__" (meth (top 8) 0) C_BadIndex I_BadIndex D_BadIndex
  C_BadGoal : Addr
  I_BadGoal : Addr
  D_BadGoal : FuncData
  O_BadGoal : Own K mg "BadGoal" "BadGoal.__init__" (meth (top 7) 0) C_BadGoal I_BadGoal D_BadGoal
  C_DrillError : Addr
  g_DrillError : mg "DrillError" = some (.ref C_DrillError)
  kb_BadRow : KwOne D_BadRow "value"
  kb_BadCall : KwOne D_BadCall "value"
  kb_BadCounts : KwOne D_BadCounts "value"
  kb_BadColour : KwOne D_BadColour "value"
  kb_BadTimes : KwOne D_BadTimes "value"
  kb_BadText : KwOne D_BadText "value"
  kb_BadIndex : KwOne D_BadIndex "value"
  kb_BadGoal : KwOne D_BadGoal "value"
  x_DrillError : PySem.W.excIn K C_DrillError [.type "ValueError", .type "Exception", .type "BaseException", .type "object"] "ValueError.__new__" = true
  kp_DrillError : PySem.W.keepIn K (.ref C_DrillError) = true
  sb_DrillError : PySem.W.subIn K (.ref C_DrillError) (.type "BaseException") = some true
  ty_DrillError : PySem.W.typeIn K (.ref C_DrillError) = some (.type "type")
  Z_DrillError : ErrC K C_DrillError
  k_DrillError_ValueError : PySem.W.kitOne K (.ref C_DrillError) (.type "ValueError") = some true
  k_DrillError_DrillError : PySem.W.kitOne K (.ref C_DrillError) (.ref C_DrillError) = some true
  k_BadRow_DrillError : PySem.W.kitOne K (.ref C_BadRow) (.ref C_DrillError) = some true
  k_BadCall_DrillError : PySem.W.kitOne K (.ref C_BadCall) (.ref C_DrillError) = some true
  k_BadCounts_DrillError : PySem.W.kitOne K (.ref C_BadCounts) (.ref C_DrillError) = some true
  k_BadColour_DrillError : PySem.W.kitOne K (.ref C_BadColour) (.ref C_DrillError) = some true
  k_BadTimes_DrillError : PySem.W.kitOne K (.ref C_BadTimes) (.ref C_DrillError) = some true
  k_BadText_DrillError : PySem.W.kitOne K (.ref C_BadText) (.ref C_DrillError) = some true
  k_BadIndex_DrillError : PySem.W.kitOne K (.ref C_BadIndex) (.ref C_DrillError) = some true
  k_BadGoal_DrillError : PySem.W.kitOne K (.ref C_BadGoal) (.ref C_DrillError) = some true
  n_isinstance : mg "isinstance" = none
  n_str : mg "str" = none
  n_enumerate : mg "enumerate" = none
  n_len : mg "len" = none
  n_list : mg "list" = none
  n_abs : mg "abs" = none
  n_range : mg "range" = none
  n_int : mg "int" = none
  n_ValueError : mg "ValueError" = none
  n_min : mg "min" = none
  Z_BadRow : ErrC K C_BadRow
  t_BadRow_DrillError : PySem.W.exmOne K (.ref C_BadRow) (.ref C_DrillError) = some true
  k_BadRow_BadRow : PySem.W.kitOne K (.ref C_BadRow) (.ref C_BadRow) = some true
  k_BadRow_BadCall : PySem.W.kitOne K (.ref C_BadRow) (.ref C_BadCall) = some false
  k_BadRow_BadCounts : PySem.W.kitOne K (.ref C_BadRow) (.ref C_BadCounts) = some false
  k_BadRow_BadColour : PySem.W.kitOne K (.ref C_BadRow) (.ref C_BadColour) = some false
  k_BadRow_BadTimes : PySem.W.kitOne K (.ref C_BadRow) (.ref C_BadTimes) = some false
  k_BadRow_BadText : PySem.W.kitOne K (.ref C_BadRow) (.ref C_BadText) = some false
  k_BadRow_BadIndex : PySem.W.kitOne K (.ref C_BadRow) (.ref C_BadIndex) = some false
  k_BadRow_BadGoal : PySem.W.kitOne K (.ref C_BadRow) (.ref C_BadGoal) = some false
  k_BadRow_ValueError : PySem.W.kitOne K (.ref C_BadRow) (.type "ValueError") = some true
  Z_BadCall : ErrC K C_BadCall
  t_BadCall_DrillError : PySem.W.exmOne K (.ref C_BadCall) (.ref C_DrillError) = some true
  k_BadCall_BadRow : PySem.W.kitOne K (.ref C_BadCall) (.ref C_BadRow) = some false
  k_BadCall_BadCall : PySem.W.kitOne K (.ref C_BadCall) (.ref C_BadCall) = some true
  k_BadCall_BadCounts : PySem.W.kitOne K (.ref C_BadCall) (.ref C_BadCounts) = some false
  k_BadCall_BadColour : PySem.W.kitOne K (.ref C_BadCall) (.ref C_BadColour) = some false
  k_BadCall_BadTimes : PySem.W.kitOne K (.ref C_BadCall) (.ref C_BadTimes) = some false
  k_BadCall_BadText : PySem.W.kitOne K (.ref C_BadCall) (.ref C_BadText) = some false
  k_BadCall_BadIndex : PySem.W.kitOne K (.ref C_BadCall) (.ref C_BadIndex) = some false
  k_BadCall_BadGoal : PySem.W.kitOne K (.ref C_BadCall) (.ref C_BadGoal) = some false
  k_BadCall_ValueError : PySem.W.kitOne K (.ref C_BadCall) (.type "ValueError") = some true
  Z_BadCounts : ErrC K C_BadCounts
  t_BadCounts_DrillError : PySem.W.exmOne K (.ref C_BadCounts) (.ref C_DrillError) = some true
  k_BadCounts_BadRow : PySem.W.kitOne K (.ref C_BadCounts) (.ref C_BadRow) = some false
  k_BadCounts_BadCall : PySem.W.kitOne K (.ref C_BadCounts) (.ref C_BadCall) = some false
  k_BadCounts_BadCounts : PySem.W.kitOne K (.ref C_BadCounts) (.ref C_BadCounts) = some true
  k_BadCounts_BadColour : PySem.W.kitOne K (.ref C_BadCounts) (.ref C_BadColour) = some false
  k_BadCounts_BadTimes : PySem.W.kitOne K (.ref C_BadCounts) (.ref C_BadTimes) = some false
  k_BadCounts_BadText : PySem.W.kitOne K (.ref C_BadCounts) (.ref C_BadText) = some false
  k_BadCounts_BadIndex : PySem.W.kitOne K (.ref C_BadCounts) (.ref C_BadIndex) = some false
  k_BadCounts_BadGoal : PySem.W.kitOne K (.ref C_BadCounts) (.ref C_BadGoal) = some false
  k_BadCounts_ValueError : PySem.W.kitOne K (.ref C_BadCounts) (.type "ValueError") = some true
  Z_BadColour : ErrC K C_BadColour
  t_BadColour_DrillError : PySem.W.exmOne K (.ref C_BadColour) (.ref C_DrillError) = some true
  k_BadColour_BadRow : PySem.W.kitOne K (.ref C_BadColour) (.ref C_BadRow) = some false
  k_BadColour_BadCall : PySem.W.kitOne K (.ref C_BadColour) (.ref C_BadCall) = some false
  k_BadColour_BadCounts : PySem.W.kitOne K (.ref C_BadColour) (.ref C_BadCounts) = some false
  k_BadColour_BadColour : PySem.W.kitOne K (.ref C_BadColour) (.ref C_BadColour) = some true
  k_BadColour_BadTimes : PySem.W.kitOne K (.ref C_BadColour) (.ref C_BadTimes) = some false
  k_BadColour_BadText : PySem.W.kitOne K (.ref C_BadColour) (.ref C_BadText) = some false
  k_BadColour_BadIndex : PySem.W.kitOne K (.ref C_BadColour) (.ref C_BadIndex) = some false
  k_BadColour_BadGoal : PySem.W.kitOne K (.ref C_BadColour) (.ref C_BadGoal) = some false
  k_BadColour_ValueError : PySem.W.kitOne K (.ref C_BadColour) (.type "ValueError") = some true
  Z_BadTimes : ErrC K C_BadTimes
  t_BadTimes_DrillError : PySem.W.exmOne K (.ref C_BadTimes) (.ref C_DrillError) = some true
  k_BadTimes_BadRow : PySem.W.kitOne K (.ref C_BadTimes) (.ref C_BadRow) = some false
  k_BadTimes_BadCall : PySem.W.kitOne K (.ref C_BadTimes) (.ref C_BadCall) = some false
  k_BadTimes_BadCounts : PySem.W.kitOne K (.ref C_BadTimes) (.ref C_BadCounts) = some false
  k_BadTimes_BadColour : PySem.W.kitOne K (.ref C_BadTimes) (.ref C_BadColour) = some false
  k_BadTimes_BadTimes : PySem.W.kitOne K (.ref C_BadTimes) (.ref C_BadTimes) = some true
  k_BadTimes_BadText : PySem.W.kitOne K (.ref C_BadTimes) (.ref C_BadText) = some false
  k_BadTimes_BadIndex : PySem.W.kitOne K (.ref C_BadTimes) (.ref C_BadIndex) = some false
  k_BadTimes_BadGoal : PySem.W.kitOne K (.ref C_BadTimes) (.ref C_BadGoal) = some false
  k_BadTimes_ValueError : PySem.W.kitOne K (.ref C_BadTimes) (.type "ValueError") = some true
  Z_BadText : ErrC K C_BadText
  t_BadText_DrillError : PySem.W.exmOne K (.ref C_BadText) (.ref C_DrillError) = some true
  k_BadText_BadRow : PySem.W.kitOne K (.ref C_BadText) (.ref C_BadRow) = some false
  k_BadText_BadCall : PySem.W.kitOne K (.ref C_BadText) (.ref C_BadCall) = some false
  k_BadText_BadCounts : PySem.W.kitOne K (.ref C_BadText) (.ref C_BadCounts) = some false
  k_BadText_BadColour : PySem.W.kitOne K (.ref C_BadText) (.ref C_BadColour) = some false
  k_BadText_BadTimes : PySem.W.kitOne K (.ref C_BadText) (.ref C_BadTimes) = some false
  k_BadText_BadText : PySem.W.kitOne K (.ref C_BadText) (.ref C_BadText) = some true
  k_BadText_BadIndex : PySem.W.kitOne K (.ref C_BadText) (.ref C_BadIndex) = some false
  k_BadText_BadGoal : PySem.W.kitOne K (.ref C_BadText) (.ref C_BadGoal) = some false
  k_BadText_ValueError : PySem.W.kitOne K (.ref C_BadText) (.type "ValueError") = some true
  Z_BadIndex : ErrC K C_BadIndex
  t_BadIndex_DrillError : PySem.W.exmOne K (.ref C_BadIndex) (.ref C_DrillError) = some true
  k_BadIndex_BadRow : PySem.W.kitOne K (.ref C_BadIndex) (.ref C_BadRow) = some false
  k_BadIndex_BadCall : PySem.W.kitOne K (.ref C_BadIndex) (.ref C_BadCall) = some false
  k_BadIndex_BadCounts : PySem.W.kitOne K (.ref C_BadIndex) (.ref C_BadCounts) = some false
  k_BadIndex_BadColour : PySem.W.kitOne K (.ref C_BadIndex) (.ref C_BadColour) = some false
  k_BadIndex_BadTimes : PySem.W.kitOne K (.ref C_BadIndex) (.ref C_BadTimes) = some false
  k_BadIndex_BadText : PySem.W.kitOne K (.ref C_BadIndex) (.ref C_BadText) = some false
  k_BadIndex_BadIndex : PySem.W.kitOne K (.ref C_BadIndex) (.ref C_BadIndex) = some true
  k_BadIndex_BadGoal : PySem.W.kitOne K (.ref C_BadIndex) (.ref C_BadGoal) = some false
  k_BadIndex_ValueError : PySem.W.kitOne K (.ref C_BadIndex) (.type "ValueError") = some true
  Z_BadGoal : ErrC K C_BadGoal
  t_BadGoal_DrillError : PySem.W.exmOne K (.ref C_BadGoal) (.ref C_DrillError) = some true
  k_BadGoal_BadRow : PySem.W.kitOne K (.ref C_BadGoal) (.ref C_BadRow) = some false
  k_BadGoal_BadCall : PySem.W.kitOne K (.ref C_BadGoal) (.ref C_BadCall) = some false
  k_BadGoal_BadCounts : PySem.W.kitOne K (.ref C_BadGoal) (.ref C_BadCounts) = some false
  k_BadGoal_BadColour : PySem.W.kitOne K (.ref C_BadGoal) (.ref C_BadColour) = some false
  k_BadGoal_BadTimes : PySem.W.kitOne K (.ref C_BadGoal) (.ref C_BadTimes) = some false
  k_BadGoal_BadText : PySem.W.kitOne K (.ref C_BadGoal) (.ref C_BadText) = some false
  k_BadGoal_BadIndex : PySem.W.kitOne K (.ref C_BadGoal) (.ref C_BadIndex) = some false
  k_BadGoal_BadGoal : PySem.W.kitOne K (.ref C_BadGoal) (.ref C_BadGoal) = some true
  k_BadGoal_ValueError : PySem.W.kitOne K (.ref C_BadGoal) (.type "ValueError") = some true
theorem init_BadRow {P : Program} {w : World} {K : PySem.W.Frag} {mg : Str → Option Value} {base : Heap} (T : Txt K mg) : FnOk P w K mg base CX0 1 T.I_BadRow T.D_BadRow ["self", "value"] (sp_init T.C_BadRow) :=
  ok_init T.O_BadRow ⟨rfl, rfl, rfl, by decide +kernel, rfl, by decide +kernel, by decide +kernel⟩ rfl (by decide +kernel) (by decide +kernel) (fun _ => rfl)
theorem init_BadCall {P : Program} {w : World} {K : PySem.W.Frag} {mg : Str → Option Value} {base : Heap} (T : Txt K mg) : FnOk P w K mg base CX0 1 T.I_BadCall T.D_BadCall ["self", "value"] (sp_init T.C_BadCall) :=
  ok_init T.O_BadCall ⟨rfl, rfl, rfl, by decide +kernel, rfl, by decide +kernel, by decide +kernel⟩ rfl (by decide +kernel) (by decide +kernel) (fun _ => rfl)
theorem init_BadCounts {P : Program} {w : World} {K : PySem.W.Frag} {mg : Str → Option Value} {base : Heap} (T : Txt K mg) : FnOk P w K mg base CX0 1 T.I_BadCounts T.D_BadCounts ["self", "value"] (sp_init T.C_BadCounts) :=
  ok_init T.O_BadCounts ⟨rfl, rfl, rfl, by decide +kernel, rfl, by decide +kernel, by decide +kernel⟩ rfl (by decide +kernel) (by decide +kernel) (fun _ => rfl)
theorem init_BadColour {P : Program} {w : World} {K : PySem.W.Frag} {mg : Str → Option Value} {base : Heap} (T : Txt K mg) : FnOk P w K mg base CX0 1 T.I_BadColour T.D_BadColour ["self", "value"] (sp_init T.C_BadColour) :=
  ok_init T.O_BadColour ⟨rfl, rfl, rfl, by decide +kernel, rfl, by decide +kernel, by decide +kernel⟩ rfl (by decide +kernel) (by decide +kernel) (fun _ => rfl)
theorem init_BadTimes {P : Program} {w : World} {K : PySem.W.Frag} {mg : Str → Option Value} {base : Heap} (T : Txt K mg) : FnOk P w K mg base CX0 1 T.I_BadTimes T.D_BadTimes ["self", "value"] (sp_init T.C_BadTimes) :=
  ok_init T.O_BadTimes ⟨rfl, rfl, rfl, by decide +kernel, rfl, by decide +kernel, by decide +kernel⟩ rfl (by decide +kernel) (by decide +kernel) (fun _ => rfl)
theorem init_BadText {P : Program} {w : World} {K : PySem.W.Frag} {mg : Str → Option Value} {base : Heap} (T : Txt K mg) : FnOk P w K mg base CX0 1 T.I_BadText T.D_BadText ["self", "value"] (sp_init T.C_BadText) :=
  ok_init T.O_BadText ⟨rfl, rfl, rfl, by decide +kernel, rfl, by decide +kernel, by decide +kernel⟩ rfl (by decide +kernel) (by decide +kernel) (fun _ => rfl)
theorem init_BadIndex {P : Program} {w : World} {K : PySem.W.Frag} {mg : Str → Option Value} {base : Heap} (T : Txt K mg) : FnOk P w K mg base CX0 1 T.I_BadIndex T.D_BadIndex ["self", "value"] (sp_init T.C_BadIndex) :=
  ok_init T.O_BadIndex ⟨rfl, rfl, rfl, by decide +kernel, rfl, by decide +kernel, by decide +kernel⟩ rfl (by decide +kernel) (by decide +kernel) (fun _ => rfl)
theorem init_BadGoal {P : Program} {w : World} {K : PySem.W.Frag} {mg : Str → Option Value} {base : Heap} (T : Txt K mg) : FnOk P w K mg base CX0 1 T.I_BadGoal T.D_BadGoal ["self", "value"] (sp_init T.C_BadGoal) :=
  ok_init T.O_BadGoal ⟨rfl, rfl, rfl, by decide +kernel, rfl, by decide +kernel, by decide +kernel⟩ rfl (by decide +kernel) (by decide +kernel) (fun _ => rfl)
end Dr
namespace Dr
open PySem L2
theorem SC_is_colour : FnScope ["text"] ["text"] (defScope s_is_colour) := ⟨rfl, rfl, rfl, by decide +kernel, rfl, by decide +kernel, by decide +kernel⟩

theorem ok_is_colour {P : Program} {w : World} {K : PySem.W.Frag} {mg : Str → Option Value} {base : Heap} (T : Txt K mg)  : FnOk P w K mg base CX0 1 T.a_is_colour T.fd_is_colour ["text"] (sp_is_colour K) := by
  have SC := SC_is_colour
  refine T.F_is_colour.ok SC (fun vs H Q E h => ?_) (fun cdv A outer s H vs Q E hr h => ?_)
  · obtain ⟨z, rfl, k⟩ := h
    rfl
  · obtain ⟨z, rfl, k⟩ := h
    refine ⟨_, (pss_one (ps_ret (pe_cmpR (op_in_seqK (K := K) rfl) (pv 0) (pe_glob (v := .ref T.a_COLOURS) rfl T.m_COLOURS rfl) (by with_unfolding_all rfl)))), ?_⟩
    repeat (first | refine ⟨_, rfl, ?_⟩ | refine ⟨_, _, rfl, rfl, ?_⟩)
    refine ⟨_, colV, rfl, .inr (T.c_COLOURS _), rfl, flat_strs _, ?_⟩
    show Q (.bl (inV (.str z) (colS.map V.str))) H
    rw [inV_str]
    exact k
end Dr
namespace Dr
open PySem L2
theorem SC_is_kind : FnScope ["kind"] ["kind"] (defScope s_is_kind) := ⟨rfl, rfl, rfl, by decide +kernel, rfl, by decide +kernel, by decide +kernel⟩

theorem ok_is_kind {P : Program} {w : World} {K : PySem.W.Frag} {mg : Str → Option Value} {base : Heap} (T : Txt K mg)  : FnOk P w K mg base CX0 1 T.a_is_kind T.fd_is_kind ["kind"] (sp_is_kind K) := by
  have SC := SC_is_kind
  refine T.F_is_kind.ok SC (fun vs H Q E h => ?_) (fun cdv A outer s H vs Q E hr h => ?_)
  · obtain ⟨k, rfl, q⟩ := h
    rfl
  · obtain ⟨k, rfl, q⟩ := h
    refine ⟨_, (pss_cons (ps_if (pt_val (pe_callB (call_isiK' (K := K) rfl) (by rfl) T.n_isinstance (by decide +kernel) (pa_cons (pv 0) (pa_cons (pe_bltn (v := .ty "str") (by rfl) T.n_str (by decide +kernel) rfl) pa_nil)))) (pss_one (ps_ret (pe_cmpR (op_in_seqK (K := K) rfl) (pv 0) (pe_tup (pa_cons pe_str (pa_cons pe_str pa_nil))) (by with_unfolding_all rfl))))
       pss_nil)
       (pss_one (ps_ret (pe_cmpR op_ge (pv 0) pe_int (nomark _))))), ?_⟩
    cases k with
    | s z =>
      repeat (first | refine ⟨_, rfl, ?_⟩ | refine ⟨_, _, rfl, rfl, ?_⟩)
      refine ⟨_, _, .type "str", .type "str", true, rfl, .ty _, .base (.str z), kit_ty (by decide +kernel), _, rfl, ?_⟩
      refine iteT ?_
      repeat (first | refine ⟨_, rfl, ?_⟩ | refine ⟨_, _, rfl, rfl, ?_⟩)
      refine ⟨by show 2 ≤ sizeLine; decide, fun p hp => ?_⟩
      refine ⟨p, (["all", "swap"] : List Str).map V.str, rfl, .inr (SqT.of upd_same), rfl, flat_strs _, ?_⟩
      show Q (.bl (inV (.str z) ((["all", "swap"] : List Str).map V.str))) _
      rw [inV_str]
      exact q _ (Same.new hp)
    | m n =>
      repeat (first | refine ⟨_, rfl, ?_⟩ | refine ⟨_, _, rfl, rfl, ?_⟩)
      refine ⟨_, _, .type "int", .type "str", false, rfl, .ty _, .base (.int n), kit_ty (by decide +kernel), _, rfl, ?_⟩
      refine iteF ?_
      repeat (first | refine ⟨_, rfl, ?_⟩ | refine ⟨_, _, rfl, rfl, ?_⟩)
      exact q _ (Same.refl _)
end Dr
namespace Dr
open PySem L2
theorem SC_is_call : FnScope ["call", "kind", "source", "target"] ["call"] (defScope s_is_call) := ⟨rfl, rfl, rfl, by decide +kernel, rfl, by decide +kernel, by decide +kernel⟩

theorem ok_is_call {P : Program} {w : World} {K : PySem.W.Frag} {mg : Str → Option Value} {base : Heap} (T : Txt K mg) (G_is_colour : FnOk P w K mg base CX0 1 T.a_is_colour T.fd_is_colour ["text"] (sp_is_colour K)) (G_is_kind : FnOk P w K mg base CX0 1 T.a_is_kind T.fd_is_kind ["kind"] (sp_is_kind K)) : FnOk P w K mg base CX0 2 T.a_is_call T.fd_is_call ["call"] (sp_is_call K) := by
  have SC := SC_is_call
  refine T.F_is_call.ok SC (fun vs H Q E h => ?_) (fun cdv A outer s H vs Q E hr h => ?_)
  · obtain ⟨t, c, rfl, hT, q⟩ := h
    rfl
  · obtain ⟨t, c, rfl, hT, q⟩ := h
    refine ⟨_, (pss_cons (ps_asg (pv 0) (pg_tup rfl (pgs_cons (pg_name (i := 1) SC.nd rfl (by first | exact Or.inl rfl | exact Or.inr rfl)) (pgs_cons (pg_name (i := 2) SC.nd rfl (by first | exact Or.inl rfl | exact Or.inr rfl)) (pgs_cons (pg_name (i := 3) SC.nd rfl (by first | exact Or.inl rfl | exact Or.inr rfl)) pgs_nil)))))
       (pss_one (ps_ret (pe_and (pe_call G_is_kind (hr.mono (by decide)) (by rfl) T.m_is_kind T.F_is_kind.kp T.b_is_kind .nil pass0 (pa_cons (pv 1) pa_nil)) (pe_and (pe_call G_is_colour (hr.mono (by decide)) (by rfl) T.m_is_colour T.F_is_colour.kp T.b_is_colour .nil pass0 (pa_cons (pv 2) pa_nil)) (pe_and (pe_call G_is_colour (hr.mono (by decide)) (by rfl) T.m_is_colour T.F_is_colour.kp T.b_is_colour .nil pass0 (pa_cons (pv 3) pa_nil)) (pe_one (pe_cmpR op_ne (pv 2) (pv 3) (nomark _))))))))), ?_⟩
    have ends : ∀ b : Bool, c.ok = b → ∀ H1, Same H H1 → Q (.bl b) H1 := fun b e H1 S1 => by
      have z := q H1 S1
      rw [e] at z
      exact z
    repeat (first | refine ⟨_, rfl, ?_⟩ | refine ⟨_, _, rfl, rfl, ?_⟩)
    refine ⟨_, _, rfl, hT, rfl, _, _, rfl, _, _, rfl, _, _, rfl, rfl, ?_⟩
    repeat (first | refine ⟨_, rfl, ?_⟩ | refine ⟨_, _, rfl, rfl, ?_⟩)
    intro H1 S1
    repeat (first | refine ⟨_, rfl, ?_⟩ | refine ⟨_, _, rfl, rfl, ?_⟩)
    cases e1 : c.k.ok with
    | false => exact iteF (ends _ (by unfold Cl.ok; rw [e1]; rfl) _ S1)
    | true =>
      refine iteT ?_
      repeat (first | refine ⟨_, rfl, ?_⟩ | refine ⟨_, _, rfl, rfl, ?_⟩)
      cases e2 : isC c.a with
      | false => exact iteF (ends _ (by unfold Cl.ok; rw [e1, e2]; rfl) _ S1)
      | true =>
        refine iteT ?_
        repeat (first | refine ⟨_, rfl, ?_⟩ | refine ⟨_, _, rfl, rfl, ?_⟩)
        cases e3 : isC c.b with
        | false => exact iteF (ends _ (by unfold Cl.ok; rw [e1, e2, e3]; rfl) _ S1)
        | true =>
          refine iteT ?_
          repeat (first | refine ⟨_, rfl, ?_⟩ | refine ⟨_, _, rfl, rfl, ?_⟩)
          refine ⟨rfl, ?_⟩
          exact ends _ (by unfold Cl.ok; rw [e1, e2, e3]; simp) _ S1
end Dr
namespace Dr
open PySem L2
theorem SC_check_row : FnScope ["row", "index", "person"] ["row"] (defScope s_check_row) := ⟨rfl, rfl, rfl, by decide +kernel, rfl, by decide +kernel, by decide +kernel⟩

theorem ok_check_row {P : Program} {w : World} {K : PySem.W.Frag} {mg : Str → Option Value} {base : Heap} (T : Txt K mg) (G_is_colour : FnOk P w K mg base CX0 1 T.a_is_colour T.fd_is_colour ["text"] (sp_is_colour K)) : FnOk P w K mg base (L2.CX P w) 3 T.a_check_row T.fd_check_row ["row"] (sx_check_row K T.C_BadRow) := by
  have SC := SC_check_row
  refine T.F_check_row.okX SC (fun vs H Q E h => ?_) (fun cdv A outer s H vs Q E hr h => ?_)
  · obtain ⟨z, rfl, qb, qg⟩ := h
    rfl
  · obtain ⟨z, rfl, qb, qg⟩ := h
    refine ⟨_, (pss_one (ps_for (passes_of rfl) rfl (pi_enumS (by rfl) T.n_enumerate (pa_cons (pv 0) pa_nil)) (pg_tup rfl (pgs_cons (pg_name (i := 1) SC.nd rfl (by first | exact Or.inl rfl | exact Or.inr rfl)) (pgs_cons (pg_name (i := 2) SC.nd rfl (by first | exact Or.inl rfl | exact Or.inr rfl)) pgs_nil)))
       (pss_one (ps_if (pt_not (pt_val (pe_call G_is_colour (hr.mono (by decide)) (by rfl) T.m_is_colour T.F_is_colour.kp T.b_is_colour .nil pass0 (pa_cons (pv 2) pa_nil)))) (pss_one (ps_raiseOwn rfl T.O_BadRow (init_BadRow T) (hr.mono (by decide)) (takes_of rfl rfl rfl rfl) (pa_cons (pv 1) pa_nil) (by rfl)))
       pss_nil)))), ?_⟩
    repeat (first | refine ⟨_, rfl, ?_⟩ | refine ⟨_, _, rfl, rfl, ?_⟩)
    refine for_it walk_enumS (fun i σ H' => (Same H H' ∧ ∀ j c, j < i → z.cps.toList[j]? = some c → isC (sg c) = true) ∧ ∃ u v, σ = [some (.str z), u, v]) ⟨⟨Same.refl _, fun j c h => absurd h (Nat.not_lt_zero _)⟩, none, none, rfl⟩ (fun _ _ _ _ _ => trivial) ?_ ?_
    · rintro i y σ H1 H2 hi ⟨⟨S, old⟩, u, v, rfl⟩ ⟨Tt, c, rfl, hn, rfl, hc⟩
      have hc' : z.cps.toList[i]? = some c := by simpa using hc
      refine ⟨_, _, rfl, SqT.of upd_same, rfl, _, _, rfl, _, _, rfl, rfl, ?_⟩
      repeat (first | refine ⟨_, rfl, ?_⟩ | refine ⟨_, _, rfl, rfl, ?_⟩)
      show if (!isC (sg c)) = true then _ else _
      cases e : isC (sg c) with
      | true =>
        refine iteF (A := True) ?_
        refine ⟨⟨S.trans (Same.new hn), fun j c' hj h => ?_⟩, _, _, rfl⟩
        by_cases q : j < i
        · exact old j c' q h
        · have q' : j = i := by omega
          rw [q', hc'] at h
          rw [← Option.some.inj h]; exact e
      | false =>
        refine iteT (B := True) ?_
        repeat (first | refine ⟨_, rfl, ?_⟩ | refine ⟨_, _, rfl, rfl, ?_⟩)
        have hb : badZ z = some i := first_some hc' (by rw [e]; rfl) fun j y hj hy => by rw [old j y hj hy]; rfl
        exact mk_out ((qb (.int (i : Nat)) (by rw [hb]; rfl)).from (S.trans (Same.new hn)))
    · rintro σ H' ⟨⟨S, old⟩, u, v, rfl⟩
      have hb : badZ z = none := first_none fun j y hy => by
        rw [old j y (by have := lt_of_get hy; simpa using this) hy]; rfl
      exact qg (by rw [hb]; rfl) _ S
end Dr
namespace Dr
open PySem L2
theorem SC_check_drill : FnScope ["drill", "index", "call"] ["drill"] (defScope s_check_drill) := ⟨rfl, rfl, rfl, by decide +kernel, rfl, by decide +kernel, by decide +kernel⟩

theorem ok_check_drill {P : Program} {w : World} {K : PySem.W.Frag} {mg : Str → Option Value} {base : Heap} (T : Txt K mg) (G_is_call : FnOk P w K mg base CX0 2 T.a_is_call T.fd_is_call ["call"] (sp_is_call K)) : FnOk P w K mg base (L2.CX P w) 3 T.a_check_drill T.fd_check_drill ["drill"] (sx_check_drill K T.C_BadCall) := by
  have SC := SC_check_drill
  refine T.F_check_drill.okX SC (fun vs H Q E h => ?_) (fun cdv A outer s H vs Q E hr h => ?_)
  · obtain ⟨a, D, rfl, ⟨ts, hL, hlen, hT⟩, qb, qg⟩ := h
    rfl
  · obtain ⟨a, D, rfl, ⟨ts, hL, hlen, hT⟩, qb, qg⟩ := h
    refine ⟨_, (pss_one (ps_for (passes_of rfl) rfl (pi_enum (by rfl) T.n_enumerate (pa_cons (pv 0) pa_nil)) (pg_tup rfl (pgs_cons (pg_name (i := 1) SC.nd rfl (by first | exact Or.inl rfl | exact Or.inr rfl)) (pgs_cons (pg_name (i := 2) SC.nd rfl (by first | exact Or.inl rfl | exact Or.inr rfl)) pgs_nil)))
       (pss_one (ps_if (pt_not (pt_val (pe_call G_is_call (hr.mono (by decide)) (by rfl) T.m_is_call T.F_is_call.kp T.b_is_call .nil pass0 (pa_cons (pv 2) pa_nil)))) (pss_one (ps_raiseOwn rfl T.O_BadCall (init_BadCall T) (hr.mono (by decide)) (takes_of rfl rfl rfl rfl) (pa_cons (pv 1) pa_nil) (by rfl)))
       pss_nil)))), ?_⟩
    repeat (first | refine ⟨_, rfl, ?_⟩ | refine ⟨_, _, rfl, rfl, ?_⟩)
    refine ⟨_, _, rfl, hL, ?_⟩
    refine for_it walk_enum (fun i σ H' => (Same H H' ∧ ∀ j c, j < i → D[j]? = some c → c.ok = true) ∧ ∃ u v, σ = [some (.ref a), u, v]) ⟨⟨Same.refl _, fun j c h => absurd h (Nat.not_lt_zero _)⟩, none, none, rfl⟩ (fun i σ H' _ p => p.1.1.seq hL) ?_ ?_
    · rintro i y σ H1 H2 hi ⟨⟨S, old⟩, u, v, rfl⟩ ⟨Tt, x, c, rfl, hn, rfl, hx, hc⟩
      cases hx
      obtain ⟨t, ht, rfl⟩ := map_get hc
      obtain ⟨cl, hcl⟩ := get_of_lt (l := D) (by rw [← hlen]; exact lt_of_get ht)
      refine ⟨_, _, rfl, SqT.of upd_same, rfl, _, _, rfl, _, _, rfl, rfl, ?_⟩
      repeat (first | refine ⟨_, rfl, ?_⟩ | refine ⟨_, _, rfl, rfl, ?_⟩)
      refine ⟨t, cl, rfl, Same.sqT (S.trans (Same.new hn)) (hT i t cl ht hcl), fun H3 S3 => ⟨_, rfl, ?_⟩⟩
      have SS := S.trans ((Same.new hn).trans S3)
      cases e : cl.ok with
      | true =>
        refine iteF (A := True) ?_
        refine ⟨⟨SS, fun j c' hj h => ?_⟩, _, _, rfl⟩
        by_cases q : j < i
        · exact old j c' q h
        · have q' : j = i := by omega
          rw [q', hcl] at h
          rw [← Option.some.inj h]; exact e
      | false =>
        refine iteT (B := True) ?_
        repeat (first | refine ⟨_, rfl, ?_⟩ | refine ⟨_, _, rfl, rfl, ?_⟩)
        have hb : badD D = some i := first_some hcl (by rw [e]; rfl) fun j y hj hy => by rw [old j y hj hy]; rfl
        exact mk_out ((qb (.int (i : Nat)) (by rw [hb]; rfl)).from SS)
    · rintro σ H' ⟨⟨S, old⟩, u, v, rfl⟩
      have hb : badD D = none := first_none fun j y hy => by
        rw [old j y (by have := lt_of_get hy; simpa [hlen] using this) hy]; rfl
      exact qg (by rw [hb]; rfl) _ S
end Dr
namespace Dr
open PySem L2
theorem SC_check_counts : FnScope ["counts", "index", "count"] ["counts"] (defScope s_check_counts) := ⟨rfl, rfl, rfl, by decide +kernel, rfl, by decide +kernel, by decide +kernel⟩

theorem ok_check_counts {P : Program} {w : World} {K : PySem.W.Frag} {mg : Str → Option Value} {base : Heap} (T : Txt K mg)  : FnOk P w K mg base (L2.CX P w) 3 T.a_check_counts T.fd_check_counts ["counts"] (sx_check_counts K T.C_BadCounts) := by
  have SC := SC_check_counts
  refine T.F_check_counts.okX SC (fun vs H Q E h => ?_) (fun cdv A outer s H vs Q E hr h => ?_)
  · obtain ⟨a, ns, rfl, hL, qb, qg⟩ := h
    rfl
  · obtain ⟨a, ns, rfl, hL, qb, qg⟩ := h
    refine ⟨_, (pss_cons (ps_if (pt_cmpR op_ne (pe_callB (call_len_seqK (K := K) rfl) (by rfl) T.n_len (by decide +kernel) (pa_cons (pv 0) pa_nil)) (pe_callB (call_len_seqK (K := K) rfl) (by rfl) T.n_len (by decide +kernel) (pa_cons (pe_glob (v := .ref T.a_COLOURS) rfl T.m_COLOURS rfl) pa_nil)) (nomark _)) (pss_one (ps_raiseOwn rfl T.O_BadCounts (init_BadCounts T) (hr.mono (by decide)) (takes_of rfl rfl rfl rfl) (pa_cons pe_non pa_nil) (by rfl)))
       pss_nil)
       (pss_one (ps_for (passes_of rfl) rfl (pi_enum (by rfl) T.n_enumerate (pa_cons (pv 0) pa_nil)) (pg_tup rfl (pgs_cons (pg_name (i := 1) SC.nd rfl (by first | exact Or.inl rfl | exact Or.inr rfl)) (pgs_cons (pg_name (i := 2) SC.nd rfl (by first | exact Or.inl rfl | exact Or.inr rfl)) pgs_nil)))
       (pss_one (ps_if (pt_cmpR op_lt (pv 2) pe_int (nomark _)) (pss_one (ps_raiseOwn rfl T.O_BadCounts (init_BadCounts T) (hr.mono (by decide)) (takes_of rfl rfl rfl rfl) (pa_cons (pv 1) pa_nil) (by rfl)))
       pss_nil))))), ?_⟩
    repeat (first | refine ⟨_, rfl, ?_⟩ | refine ⟨_, _, rfl, rfl, ?_⟩)
    refine ⟨_, _, rfl, .inl hL, ?_⟩
    refine ⟨_, colV, rfl, .inr (T.c_COLOURS _), ?_⟩
    refine ⟨rfl, _, rfl, ?_⟩
    rw [List.length_map]
    by_cases h6 : ns.length = 6
    · refine if_two_not (fun h => absurd (by rw [h6]; rfl) h) (fun _ => ?_)
      repeat (first | refine ⟨_, rfl, ?_⟩ | refine ⟨_, _, rfl, rfl, ?_⟩)
      refine ⟨_, _, rfl, hL, ?_⟩
      refine for_it walk_enum (fun i σ H' => (Same H H' ∧ ∀ j n, j < i → ns[j]? = some n → 0 ≤ n) ∧ ∃ u v, σ = [some (.ref a), u, v]) ⟨⟨Same.refl _, fun j c h => absurd h (Nat.not_lt_zero _)⟩, none, none, rfl⟩ (fun i σ H' _ p => p.1.1.seq hL) ?_ ?_
      · rintro i y σ H1 H2 hi ⟨⟨S, old⟩, u, v, rfl⟩ ⟨Tt, x, c, rfl, hn, rfl, hx, hc⟩
        cases hx
        obtain ⟨n, ht, rfl⟩ := map_get hc
        refine ⟨_, _, rfl, SqT.of upd_same, rfl, _, _, rfl, _, _, rfl, rfl, ?_⟩
        repeat (first | refine ⟨_, rfl, ?_⟩ | refine ⟨_, _, rfl, rfl, ?_⟩)
        refine if_two (fun hneg => ?_) (fun hpos => ?_)
        · repeat (first | refine ⟨_, rfl, ?_⟩ | refine ⟨_, _, rfl, rfl, ?_⟩)
          have hb : badN ns = some (.int (i : Nat)) := by
            unfold badN
            rw [if_pos h6, first_some (p := fun n => decide (n < 0)) ht (decide_eq_true hneg) fun j y hj hy => decide_eq_false (by have := old j y hj hy; omega)]
            rfl
          exact mk_out ((qb _ hb).from (S.trans (Same.new hn)))
        · refine ⟨⟨S.trans (Same.new hn), fun j n' hj h => ?_⟩, _, _, rfl⟩
          by_cases q : j < i
          · exact old j n' q h
          · have q' : j = i := by omega
            rw [q', ht] at h
            rw [← Option.some.inj h]; omega
      · rintro σ H' ⟨⟨S, old⟩, u, v, rfl⟩
        have hb : badN ns = none := by
          unfold badN
          rw [if_pos h6, first_none (p := fun n => decide (n < 0)) fun j y hy => decide_eq_false (by have := old j y (by have := lt_of_get hy; simpa using this) hy; omega)]
          rfl
        exact qg hb _ S
    · refine if_two_not (fun _ => ?_) (fun h => absurd (by have := V.int.inj h; exact (by have e : (colV.length : Int) = 6 := rfl; omega)) h6)
      repeat (first | refine ⟨_, rfl, ?_⟩ | refine ⟨_, _, rfl, rfl, ?_⟩)
      exact mk_out (qb _ (by unfold badN; rw [if_neg h6]))
end Dr
namespace Dr
open PySem L2
theorem SC_check_colour : FnScope ["colour"] ["colour"] (defScope s_check_colour) := ⟨rfl, rfl, rfl, by decide +kernel, rfl, by decide +kernel, by decide +kernel⟩

theorem ok_check_colour {P : Program} {w : World} {K : PySem.W.Frag} {mg : Str → Option Value} {base : Heap} (T : Txt K mg) (G_is_colour : FnOk P w K mg base CX0 1 T.a_is_colour T.fd_is_colour ["text"] (sp_is_colour K)) : FnOk P w K mg base (L2.CX P w) 3 T.a_check_colour T.fd_check_colour ["colour"] (sx_check_colour K T.C_BadColour) := by
  have SC := SC_check_colour
  refine T.F_check_colour.okX SC (fun vs H Q E h => ?_) (fun cdv A outer s H vs Q E hr h => ?_)
  · obtain ⟨z, rfl, q1, q2⟩ := h
    rfl
  · obtain ⟨z, rfl, q1, q2⟩ := h
    refine ⟨_, (pss_one (ps_if (pt_not (pt_val (pe_call G_is_colour (hr.mono (by decide)) (by rfl) T.m_is_colour T.F_is_colour.kp T.b_is_colour .nil pass0 (pa_cons (pv 0) pa_nil)))) (pss_one (ps_raiseOwn rfl T.O_BadColour (init_BadColour T) (hr.mono (by decide)) (takes_of rfl rfl rfl rfl) (pa_cons (pv 0) pa_nil) (by rfl)))
       pss_nil)), ?_⟩
    repeat (first | refine ⟨_, rfl, ?_⟩ | refine ⟨_, _, rfl, rfl, ?_⟩)
    cases hz : isC z with
    | true =>
      refine iteF (A := True) ?_
      exact q1 hz
    | false =>
      refine iteT (B := True) ?_
      repeat (first | refine ⟨_, rfl, ?_⟩ | refine ⟨_, _, rfl, rfl, ?_⟩)
      exact mk_out (q2 hz)
end Dr
namespace Dr
open PySem L2
theorem SC_count_of : FnScope ["counts", "colour"] ["counts", "colour"] (defScope s_count_of) := ⟨rfl, rfl, rfl, by decide +kernel, rfl, by decide +kernel, by decide +kernel⟩

theorem ok_count_of {P : Program} {w : World} {K : PySem.W.Frag} {mg : Str → Option Value} {base : Heap} (T : Txt K mg)  : FnOk P w K mg base CX0 1 T.a_count_of T.fd_count_of ["counts", "colour"] (sp_count_of K) := by
  have SC := SC_count_of
  refine T.F_count_of.ok SC (fun vs H Q E h => ?_) (fun cdv A outer s H vs Q E hr h => ?_)
  · obtain ⟨a, ns, z, rfl, hL, h6, hz, k⟩ := h
    rfl
  · obtain ⟨a, ns, z, rfl, hL, h6, hz, k⟩ := h
    refine ⟨_, (pss_one (ps_ret (pe_ix (ix_listK (K := K) rfl) (pv 0) (pe_bmK (K := K) rfl PySem.F.plainAttrs_tuple PySem.F.slot_tuple_index PySem.F.type_tuple_index mt_tup_index (pe_glob (v := .ref T.a_COLOURS) rfl T.m_COLOURS rfl) (pa_cons (pv 1) pa_nil)) (fun _ _ => rfl)))), ?_⟩
    repeat (first | refine ⟨_, rfl, ?_⟩ | refine ⟨_, _, rfl, rfl, ?_⟩)
    refine ⟨.inr (.inl ⟨rfl, T.t_COLOURS⟩), _, rfl, _, colS, _, _, rfl, rfl, T.c_COLOURS _, ci_get hz, ci_first, ?_⟩
    refine ⟨_, _, _, _, rfl, rfl, hL, at_of rfl (by rw [List.getElem?_map, cn_get h6 hz]; rfl), k⟩
end Dr
namespace Dr
open PySem L2
theorem SC_count_movers : FnScope ["kind", "wearers"] ["kind", "wearers"] (defScope s_count_movers) := ⟨rfl, rfl, rfl, by decide +kernel, rfl, by decide +kernel, by decide +kernel⟩

theorem ok_count_movers {P : Program} {w : World} {K : PySem.W.Frag} {mg : Str → Option Value} {base : Heap} (T : Txt K mg)  : FnOk P w K mg base CX0 1 T.a_count_movers T.fd_count_movers ["kind", "wearers"] (sp_count_movers K) := by
  have SC := SC_count_movers
  refine T.F_count_movers.ok SC (fun vs H Q E h => ?_) (fun cdv A outer s H vs Q E hr h => ?_)
  · obtain ⟨k, n, rfl, hk, q⟩ := h
    rfl
  · obtain ⟨k, n, rfl, hk, q⟩ := h
    refine ⟨_, (pss_cons (ps_if (PW.pt (pw_or (pt_cmpR op_eq (pv 0) pe_str (nomark _)) (pw_or1 (pt_cmpR op_eq (pv 0) pe_str (nomark _))))) (pss_one (ps_ret (pv 1)))
       pss_nil)
       (pss_one (ps_ret (pe_ifExp (pt_cmpR op_ge (pv 1) (pv 0) (nomark _)) pe_int pe_int)))), ?_⟩
    cases k with
    | m m =>
      repeat (first | refine ⟨_, rfl, ?_⟩ | refine ⟨_, _, rfl, rfl, ?_⟩)
      refine ⟨rfl, _, rfl, if_neg_dec (by intro z; cases z) ?_⟩
      repeat (first | refine ⟨_, rfl, ?_⟩ | refine ⟨_, _, rfl, rfl, ?_⟩)
      refine ⟨rfl, _, rfl, if_neg_dec (by intro z; cases z) ?_⟩
      repeat (first | refine ⟨_, rfl, ?_⟩ | refine ⟨_, _, rfl, rfl, ?_⟩)
      refine if_two (fun hc => ?_) (fun hc => ?_)
      · have z : Q (.int (if m ≤ n then 1 else 0)) H := q
        rw [if_pos hc] at z
        exact z
      · have z : Q (.int (if m ≤ n then 1 else 0)) H := q
        rw [if_neg hc] at z
        exact z
    | s z =>
      repeat (first | refine ⟨_, rfl, ?_⟩ | refine ⟨_, _, rfl, rfl, ?_⟩)
      refine ⟨rfl, _, rfl, if_two (fun hc => ?_) (fun hc => ?_)⟩
      · repeat (first | refine ⟨_, rfl, ?_⟩ | refine ⟨_, _, rfl, rfl, ?_⟩)
        exact q
      · repeat (first | refine ⟨_, rfl, ?_⟩ | refine ⟨_, _, rfl, rfl, ?_⟩)
        refine ⟨rfl, _, rfl, ?_⟩
        rcases Kd.ok_s hk with e | e
        · exact absurd (by rw [e]; rfl) hc
        · refine if_pos_dec (by rw [e]; rfl) ?_
          repeat (first | refine ⟨_, rfl, ?_⟩ | refine ⟨_, _, rfl, rfl, ?_⟩)
          exact q
end Dr
namespace Dr
open PySem L2
theorem SC_move_counts : FnScope ["call", "counts", "kind", "source", "target", "gone", "back", "after"] ["call", "counts"] (defScope s_move_counts) := ⟨rfl, rfl, rfl, by decide +kernel, rfl, by decide +kernel, by decide +kernel⟩

theorem ok_move_counts {P : Program} {w : World} {K : PySem.W.Frag} {mg : Str → Option Value} {base : Heap} (T : Txt K mg) (G_count_movers : FnOk P w K mg base CX0 1 T.a_count_movers T.fd_count_movers ["kind", "wearers"] (sp_count_movers K)) (G_count_of : FnOk P w K mg base CX0 1 T.a_count_of T.fd_count_of ["counts", "colour"] (sp_count_of K)) : FnOk P w K mg base CX0 2 T.a_move_counts T.fd_move_counts ["call", "counts"] (sp_move_counts K) := by
  have SC := SC_move_counts
  refine T.F_move_counts.ok SC (fun vs H Q E h => ?_) (fun cdv A outer s H vs Q E hr h => ?_)
  · obtain ⟨t, c, a, ns, rfl, hT, hv, hL, h6, q⟩ := h
    rfl
  · obtain ⟨t, c, a, ns, rfl, hT, hv, hL, h6, q⟩ := h
    refine ⟨_, (pss_cons (ps_asg (pv 0) (pg_tup rfl (pgs_cons (pg_name (i := 2) SC.nd rfl (by first | exact Or.inl rfl | exact Or.inr rfl)) (pgs_cons (pg_name (i := 3) SC.nd rfl (by first | exact Or.inl rfl | exact Or.inr rfl)) (pgs_cons (pg_name (i := 4) SC.nd rfl (by first | exact Or.inl rfl | exact Or.inr rfl)) pgs_nil)))))
       (pss_cons (ps_set (i := 5) SC.nd rfl (by first | exact Or.inl rfl | exact Or.inr rfl) (pe_call G_count_movers (hr.mono (by decide)) (by rfl) T.m_count_movers T.F_count_movers.kp T.b_count_movers .nil pass0 (pa_cons (pv 2) (pa_cons (pe_call G_count_of (hr.mono (by decide)) (by rfl) T.m_count_of T.F_count_of.kp T.b_count_of .nil pass0 (pa_cons (pv 1) (pa_cons (pv 3) pa_nil))) pa_nil))))
       (pss_cons (ps_set (i := 6) SC.nd rfl (by first | exact Or.inl rfl | exact Or.inr rfl) (pe_ifExp (pt_cmpR op_eq (pv 2) pe_str (nomark _)) (pe_call G_count_of (hr.mono (by decide)) (by rfl) T.m_count_of T.F_count_of.kp T.b_count_of .nil pass0 (pa_cons (pv 1) (pa_cons (pv 4) pa_nil))) pe_int))
       (pss_cons (ps_set (i := 7) SC.nd rfl (by first | exact Or.inl rfl | exact Or.inr rfl) (pe_callTy (call_list_ofK (K := K) rfl) (by rfl) T.n_list (by decide +kernel) (pa_cons (pv 1) pa_nil)))
       (pss_cons (ps_augS (pv 7) (pe_bmK (K := K) rfl PySem.F.plainAttrs_tuple PySem.F.slot_tuple_index PySem.F.type_tuple_index mt_tup_index (pe_glob (v := .ref T.a_COLOURS) rfl T.m_COLOURS rfl) (pa_cons (pv 3) pa_nil)) get_list (pe_op op_sub (pv 6) (pv 5)) ip_add set_list)
       (pss_cons (ps_augS (pv 7) (pe_bmK (K := K) rfl PySem.F.plainAttrs_tuple PySem.F.slot_tuple_index PySem.F.type_tuple_index mt_tup_index (pe_glob (v := .ref T.a_COLOURS) rfl T.m_COLOURS rfl) (pa_cons (pv 4) pa_nil)) get_list (pe_op op_sub (pv 5) (pv 6)) ip_add set_list)
       (pss_one (ps_ret (pv 7))))))))), ?_⟩
    have va := Cl.ok_a hv
    have vb := Cl.ok_b hv
    have vk := Cl.ok_k hv
    have la := ci_lt va
    have lb := ci_lt vb
    repeat (first | refine ⟨_, rfl, ?_⟩ | refine ⟨_, _, rfl, rfl, ?_⟩)
    refine ⟨_, _, rfl, hT, rfl, _, _, rfl, _, _, rfl, _, _, rfl, rfl, ?_⟩
    repeat (first | refine ⟨_, rfl, ?_⟩ | refine ⟨_, _, rfl, rfl, ?_⟩)
    refine ⟨a, ns, c.a, rfl, hL, h6, va, ?_⟩
    refine ⟨c.k, _, rfl, vk, ?_⟩
    by_cases hsw : c.k.v = V.str "swap"
    · have es : c.k.swap = true := by
        cases e : c.k with
        | m m => rw [e] at hsw; cases hsw
        | s y => rw [e] at hsw; exact decide_eq_true (V.str.inj hsw)
      repeat (first | refine ⟨_, rfl, ?_⟩ | refine ⟨_, _, rfl, rfl, ?_⟩)
      refine ⟨scal_k _ _, _, rfl, if_pos_dec hsw ?_⟩
      repeat (first | refine ⟨_, rfl, ?_⟩ | refine ⟨_, _, rfl, rfl, ?_⟩)
      refine ⟨a, ns, c.b, rfl, hL, h6, vb, ?_⟩
      repeat (first | refine ⟨_, rfl, ?_⟩ | refine ⟨_, _, rfl, rfl, ?_⟩)
      refine ⟨_, _, rfl, .inl hL, fun p hp => ?_⟩
      repeat (first | refine ⟨_, rfl, ?_⟩ | refine ⟨_, _, rfl, rfl, ?_⟩)
      refine ⟨.inr (.inl ⟨rfl, T.t_COLOURS⟩), _, rfl, _, colS, _, _, rfl, rfl, T.c_COLOURS _, ci_get va, ci_first, ?_⟩
      refine ⟨p, _, ci c.a, _, rfl, rfl, SqL.of upd_same, by rw [List.getElem?_map, cn_get h6 va]; rfl, ?_⟩
      repeat (first | refine ⟨_, rfl, ?_⟩ | refine ⟨_, _, rfl, rfl, ?_⟩)
      refine ⟨p, _, _, ci c.a, rfl, rfl, upd_same, ixN_nat (by rw [List.length_map, h6]; exact la), ?_⟩
      rw [map_int_set, upd_upd]
      repeat (first | refine ⟨_, rfl, ?_⟩ | refine ⟨_, _, rfl, rfl, ?_⟩)
      refine ⟨.inr (.inl ⟨rfl, T.t_COLOURS⟩), _, rfl, _, colS, _, _, rfl, rfl, T.c_COLOURS _, ci_get vb, ci_first, ?_⟩
      refine ⟨p, _, ci c.b, _, rfl, rfl, SqL.of upd_same, by rw [List.getElem?_map, cn_get (by rw [List.length_set, h6]) vb]; rfl, ?_⟩
      repeat (first | refine ⟨_, rfl, ?_⟩ | refine ⟨_, _, rfl, rfl, ?_⟩)
      refine ⟨p, _, _, ci c.b, rfl, rfl, upd_same, ixN_nat (by rw [List.length_map, List.length_set, h6]; exact lb), ?_⟩
      rw [map_int_set, upd_upd]
      repeat (first | refine ⟨_, rfl, ?_⟩ | refine ⟨_, _, rfl, rfl, ?_⟩)
      refine q _ _ (Same.new hp) hp ?_
      rw [upd_same]
      unfold mv
      rw [es]
      rfl
    · have es : ¬ c.k.swap = true := by
        cases e : c.k with
        | m m => intro z; cases z
        | s y => rw [e] at hsw; exact fun z => hsw (by rw [of_decide_eq_true z]; rfl)
      repeat (first | refine ⟨_, rfl, ?_⟩ | refine ⟨_, _, rfl, rfl, ?_⟩)
      refine ⟨scal_k _ _, _, rfl, if_neg_dec hsw ?_⟩
      repeat (first | refine ⟨_, rfl, ?_⟩ | refine ⟨_, _, rfl, rfl, ?_⟩)
      refine ⟨_, _, rfl, .inl hL, fun p hp => ?_⟩
      repeat (first | refine ⟨_, rfl, ?_⟩ | refine ⟨_, _, rfl, rfl, ?_⟩)
      refine ⟨.inr (.inl ⟨rfl, T.t_COLOURS⟩), _, rfl, _, colS, _, _, rfl, rfl, T.c_COLOURS _, ci_get va, ci_first, ?_⟩
      refine ⟨p, _, ci c.a, _, rfl, rfl, SqL.of upd_same, by rw [List.getElem?_map, cn_get h6 va]; rfl, ?_⟩
      repeat (first | refine ⟨_, rfl, ?_⟩ | refine ⟨_, _, rfl, rfl, ?_⟩)
      refine ⟨p, _, _, ci c.a, rfl, rfl, upd_same, ixN_nat (by rw [List.length_map, h6]; exact la), ?_⟩
      rw [map_int_set, upd_upd]
      repeat (first | refine ⟨_, rfl, ?_⟩ | refine ⟨_, _, rfl, rfl, ?_⟩)
      refine ⟨.inr (.inl ⟨rfl, T.t_COLOURS⟩), _, rfl, _, colS, _, _, rfl, rfl, T.c_COLOURS _, ci_get vb, ci_first, ?_⟩
      refine ⟨p, _, ci c.b, _, rfl, rfl, SqL.of upd_same, by rw [List.getElem?_map, cn_get (by rw [List.length_set, h6]) vb]; rfl, ?_⟩
      repeat (first | refine ⟨_, rfl, ?_⟩ | refine ⟨_, _, rfl, rfl, ?_⟩)
      refine ⟨p, _, _, ci c.b, rfl, rfl, upd_same, ixN_nat (by rw [List.length_map, List.length_set, h6]; exact lb), ?_⟩
      rw [map_int_set, upd_upd]
      repeat (first | refine ⟨_, rfl, ?_⟩ | refine ⟨_, _, rfl, rfl, ?_⟩)
      refine q _ _ (Same.new hp) hp ?_
      rw [upd_same]
      unfold mv
      rw [if_neg es]
end Dr
namespace Dr
open PySem L2
theorem SC_colour_after_call : FnScope ["call", "ahead", "colour", "kind", "source", "target"] ["call", "ahead", "colour"] (defScope s_colour_after_call) := ⟨rfl, rfl, rfl, by decide +kernel, rfl, by decide +kernel, by decide +kernel⟩

theorem ok_colour_after_call {P : Program} {w : World} {K : PySem.W.Frag} {mg : Str → Option Value} {base : Heap} (T : Txt K mg) (G_count_of : FnOk P w K mg base CX0 1 T.a_count_of T.fd_count_of ["counts", "colour"] (sp_count_of K)) : FnOk P w K mg base CX0 2 T.a_colour_after_call T.fd_colour_after_call ["call", "ahead", "colour"] (sp_colour_after_call K) := by
  have SC := SC_colour_after_call
  refine T.F_colour_after_call.ok SC (fun vs H Q E h => ?_) (fun cdv A outer s H vs Q E hr h => ?_)
  · obtain ⟨t, c, a, ns, w, rfl, hT, hv, hL, h6, hw, q⟩ := h
    rfl
  · obtain ⟨t, c, a, ns, w, rfl, hT, hv, hL, h6, hw, q⟩ := h
    refine ⟨_, (pss_cons (ps_asg (pv 0) (pg_tup rfl (pgs_cons (pg_name (i := 3) SC.nd rfl (by first | exact Or.inl rfl | exact Or.inr rfl)) (pgs_cons (pg_name (i := 4) SC.nd rfl (by first | exact Or.inl rfl | exact Or.inr rfl)) (pgs_cons (pg_name (i := 5) SC.nd rfl (by first | exact Or.inl rfl | exact Or.inr rfl)) pgs_nil)))))
       (pss_cons (ps_if (PW.pt (pw_and (pt_cmpR op_eq (pv 3) pe_str (nomark _)) (pw_and1 (pt_cmpR op_eq (pv 2) (pv 5) (nomark _))))) (pss_one (ps_ret (pv 4)))
       pss_nil)
       (pss_cons (ps_if (pt_cmpR op_ne (pv 2) (pv 4) (nomark _)) (pss_one (ps_ret (pv 2)))
       pss_nil)
       (pss_cons (ps_if (PW.pt (pw_or (pt_cmpR op_eq (pv 3) pe_str (nomark _)) (pw_or1 (pt_cmpR op_eq (pv 3) pe_str (nomark _))))) (pss_one (ps_ret (pv 5)))
       pss_nil)
       (pss_one (ps_ret (pe_ifExp (pt_cmpR op_eq (pe_call G_count_of (hr.mono (by decide)) (by rfl) T.m_count_of T.F_count_of.kp T.b_count_of .nil pass0 (pa_cons (pv 1) (pa_cons (pv 4) pa_nil))) (pe_op op_sub (pv 3) pe_int) (nomark _)) (pv 5) (pv 2)))))))), ?_⟩
    have va := Cl.ok_a hv
    have ret : ∀ z, one c ns w = z → Q (.str z) H := fun z e => by rw [← e]; exact q
    repeat (first | refine ⟨_, rfl, ?_⟩ | refine ⟨_, _, rfl, rfl, ?_⟩)
    refine ⟨_, _, rfl, hT, rfl, _, _, rfl, _, _, rfl, _, _, rfl, rfl, ?_⟩
    rcases Cl.kinds hv with ek | ek | ⟨m, ek, hm⟩
    · have eo := one_all (ns := ns) (w := w) ek
      rw [ek]
      repeat (first | refine ⟨_, rfl, ?_⟩ | refine ⟨_, _, rfl, rfl, ?_⟩)
      refine ⟨rfl, _, rfl, if_neg_dec all_ne_swap ?_⟩
      refine iteF (A := True) ?_
      repeat (first | refine ⟨_, rfl, ?_⟩ | refine ⟨_, _, rfl, rfl, ?_⟩)
      refine ⟨rfl, _, rfl, if_two_not (fun h => ?_) (fun h => ?_)⟩
      · repeat (first | refine ⟨_, rfl, ?_⟩ | refine ⟨_, _, rfl, rfl, ?_⟩)
        exact ret _ (by rw [eo, if_neg (fun z => h (by rw [z]))])
      · repeat (first | refine ⟨_, rfl, ?_⟩ | refine ⟨_, _, rfl, rfl, ?_⟩)
        refine ⟨rfl, _, rfl, if_pos_dec rfl ?_⟩
        repeat (first | refine ⟨_, rfl, ?_⟩ | refine ⟨_, _, rfl, rfl, ?_⟩)
        exact ret _ (by rw [eo, if_pos (V.str.inj h)])
    · have eo := one_swap (ns := ns) (w := w) ek
      rw [ek]
      repeat (first | refine ⟨_, rfl, ?_⟩ | refine ⟨_, _, rfl, rfl, ?_⟩)
      refine ⟨rfl, _, rfl, if_pos_dec rfl ?_⟩
      repeat (first | refine ⟨_, rfl, ?_⟩ | refine ⟨_, _, rfl, rfl, ?_⟩)
      refine ⟨rfl, _, rfl, if_two (fun h => ?_) (fun h => ?_)⟩
      · repeat (first | refine ⟨_, rfl, ?_⟩ | refine ⟨_, _, rfl, rfl, ?_⟩)
        exact ret _ (by rw [eo, if_pos (V.str.inj h)])
      · have hb : ¬ w = c.b := fun z => h (by rw [z])
        repeat (first | refine ⟨_, rfl, ?_⟩ | refine ⟨_, _, rfl, rfl, ?_⟩)
        refine ⟨rfl, _, rfl, if_two_not (fun h => ?_) (fun h => ?_)⟩
        · repeat (first | refine ⟨_, rfl, ?_⟩ | refine ⟨_, _, rfl, rfl, ?_⟩)
          exact ret _ (by rw [eo, if_neg hb, if_neg (fun z => h (by rw [z]))])
        · repeat (first | refine ⟨_, rfl, ?_⟩ | refine ⟨_, _, rfl, rfl, ?_⟩)
          refine ⟨rfl, _, rfl, if_neg_dec swap_ne_all ?_⟩
          repeat (first | refine ⟨_, rfl, ?_⟩ | refine ⟨_, _, rfl, rfl, ?_⟩)
          refine ⟨rfl, _, rfl, if_pos_dec rfl ?_⟩
          repeat (first | refine ⟨_, rfl, ?_⟩ | refine ⟨_, _, rfl, rfl, ?_⟩)
          exact ret _ (by rw [eo, if_neg hb, if_pos (V.str.inj h)])
    · have eo := one_num (ns := ns) (w := w) ek
      rw [ek]
      repeat (first | refine ⟨_, rfl, ?_⟩ | refine ⟨_, _, rfl, rfl, ?_⟩)
      refine ⟨rfl, _, rfl, if_neg_dec (fun z => by cases z) ?_⟩
      refine iteF (A := True) ?_
      repeat (first | refine ⟨_, rfl, ?_⟩ | refine ⟨_, _, rfl, rfl, ?_⟩)
      refine ⟨rfl, _, rfl, if_two_not (fun h => ?_) (fun h => ?_)⟩
      · repeat (first | refine ⟨_, rfl, ?_⟩ | refine ⟨_, _, rfl, rfl, ?_⟩)
        exact ret _ (by rw [eo, if_neg (fun z => h (by rw [z]))])
      · have hwa := V.str.inj h
        repeat (first | refine ⟨_, rfl, ?_⟩ | refine ⟨_, _, rfl, rfl, ?_⟩)
        refine ⟨rfl, _, rfl, if_neg_dec (fun z => by cases z) ?_⟩
        repeat (first | refine ⟨_, rfl, ?_⟩ | refine ⟨_, _, rfl, rfl, ?_⟩)
        refine ⟨rfl, _, rfl, if_neg_dec (fun z => by cases z) ?_⟩
        repeat (first | refine ⟨_, rfl, ?_⟩ | refine ⟨_, _, rfl, rfl, ?_⟩)
        refine ⟨a, ns, c.a, rfl, hL, h6, va, ?_⟩
        repeat (first | refine ⟨_, rfl, ?_⟩ | refine ⟨_, _, rfl, rfl, ?_⟩)
        refine ⟨rfl, _, rfl, if_two (fun g => ?_) (fun g => ?_)⟩
        · repeat (first | refine ⟨_, rfl, ?_⟩ | refine ⟨_, _, rfl, rfl, ?_⟩)
          exact ret _ (by rw [eo, if_pos hwa, if_pos (V.int.inj g)])
        · repeat (first | refine ⟨_, rfl, ?_⟩ | refine ⟨_, _, rfl, rfl, ?_⟩)
          exact ret _ (by rw [eo, if_pos hwa, if_neg (fun z => g (by rw [z]))])
end Dr
namespace Dr
open PySem L2
theorem SC_count_colours : FnScope ["row", "colour"] ["row"] (defScope s_count_colours) := ⟨rfl, rfl, rfl, by decide +kernel, rfl, by decide +kernel, by decide +kernel⟩

theorem ok_count_colours {P : Program} {w : World} {K : PySem.W.Frag} {mg : Str → Option Value} {base : Heap} (T : Txt K mg) (G_check_row : FnOk P w K mg base (L2.CX P w) 3 T.a_check_row T.fd_check_row ["row"] (sx_check_row K T.C_BadRow)) : FnOk P w K mg base (L2.CX P w) 4 T.a_count_colours T.fd_count_colours ["row"] (sx_count_colours K T.C_BadRow) := by
  have SC := SC_count_colours
  refine T.F_count_colours.okX SC (fun vs H Q E h => ?_) (fun cdv A outer s H vs Q E hr h => ?_)
  · obtain ⟨z, rfl, qb, qg⟩ := h
    rfl
  · obtain ⟨z, rfl, qb, qg⟩ := h
    refine ⟨_, (pss_cons (ps_expr (pe_call G_check_row (hr.mono (by decide)) (by rfl) T.m_check_row T.F_check_row.kp T.b_check_row .nil (passes_call (takes_of rfl rfl rfl rfl) (fun _ _ _ _ h => h)) (pa_cons (pv 0) pa_nil)))
       (pss_one (ps_ret (pe_lc (own := [("colour", 1)]) rfl SC.nd (pi_tup (pe_glob (v := .ref T.a_COLOURS) rfl T.m_COLOURS rfl)) (blkOk_by (N := ["row", "colour"]) (sc := defScope s_count_colours) (by decide +kernel)) (fun _ _ _ _ _ => by exact pg_name (i := 1) SC.nd rfl (by first | exact Or.inl rfl | exact Or.inr rfl)) (fun _ _ _ _ _ => by exact pts_nil) (fun _ _ _ _ _ => by exact (pe_bmK (K := K) rfl PySem.F.plainAttrs_str PySem.F.slot_str_count PySem.F.type_str_count mt_count (pv 0) (pa_cons (pv 1) pa_nil))))))), ?_⟩
    repeat (first | refine ⟨_, rfl, ?_⟩ | refine ⟨_, _, rfl, rfl, ?_⟩)
    refine ⟨fun v hv => ?_, fun hg H1 S1 => ?_⟩
    · cases e : badZ z with
      | none => rw [e] at hv; cases hv
      | some i =>
        rw [e] at hv
        rw [← Option.some.inj hv]
        exact qb i e
    have hb : badZ z = none := by
      cases e : badZ z with
      | none => rfl
      | some i => rw [e] at hg; cases hg
    have q := qg hb
    repeat (first | refine ⟨_, rfl, ?_⟩ | refine ⟨_, _, rfl, rfl, ?_⟩)
    refine ⟨⟨_, T.c_COLOURS _⟩, fun D hD => ?_⟩
    refine lc_it walk_tup (fun i H' => Same H H' ∧ H' D = some (.lst (((tally z.cps.toList).take i).map V.int))) ⟨S1.trans (Same.new hD), upd_same⟩ (fun i H' _ p => T.c_COLOURS _) ?_ ?_
    · rintro i y H2 H3 hi ⟨S, hl⟩ ⟨rfl, hy⟩
      refine ⟨rfl, ?_⟩
      obtain ⟨zc, hzc, rfl⟩ := map_get hy
      rw [colS_sg] at hzc
      obtain ⟨c, hc, rfl⟩ := map_get hzc
      repeat (first | refine ⟨_, rfl, ?_⟩ | refine ⟨_, _, rfl, rfl, ?_⟩)
      refine ⟨rfl, ?_⟩
      repeat (first | refine ⟨_, rfl, ?_⟩ | refine ⟨_, _, rfl, rfl, ?_⟩)
      refine ⟨_, hl, ?_, ?_, ?_⟩
      · rw [List.length_map]
        exact Nat.lt_of_le_of_lt (List.length_take_le _ _) (by show i < sizeLine; exact Nat.lt_trans hi (by show colV.length < sizeLine; decide))
      · exact fun b o e => by
          rw [upd_ne (ne_of_none e (S1.free hD))]
          exact S b o e
      · rw [upd_same, txt_count, take_one (l := tally z.cps.toList) (x := (z.cps.toList.count c : Int)) (by unfold tally; rw [List.getElem?_map, hc]; rfl), List.map_append]
        rfl
    · rintro H' ⟨S, hl⟩
      refine q _ _ S (S1.free hD) ?_
      rw [hl]
      rfl
end Dr
namespace Dr
open PySem L2
theorem SC_run_on_counts : FnScope ["drill", "counts", "after", "call"] ["drill", "counts"] (defScope s_run_on_counts) := ⟨rfl, rfl, rfl, by decide +kernel, rfl, by decide +kernel, by decide +kernel⟩

theorem ok_run_on_counts {P : Program} {w : World} {K : PySem.W.Frag} {mg : Str → Option Value} {base : Heap} (T : Txt K mg) (G_check_drill : FnOk P w K mg base (L2.CX P w) 3 T.a_check_drill T.fd_check_drill ["drill"] (sx_check_drill K T.C_BadCall)) (G_check_counts : FnOk P w K mg base (L2.CX P w) 3 T.a_check_counts T.fd_check_counts ["counts"] (sx_check_counts K T.C_BadCounts)) (G_move_counts : FnOk P w K mg base CX0 2 T.a_move_counts T.fd_move_counts ["call", "counts"] (sp_move_counts K)) : FnOk P w K mg base (L2.CX P w) 4 T.a_run_on_counts T.fd_run_on_counts ["drill", "counts"] (sx_run_on_counts K T.C_BadCall T.C_BadCounts) := by
  have SC := SC_run_on_counts
  refine T.F_run_on_counts.okX SC (fun vs H Q E h => ?_) (fun cdv A outer s H vs Q E hr h => ?_)
  · obtain ⟨d, a, D, ns, rfl, hD, hL, q1, q2, q3⟩ := h
    rfl
  · obtain ⟨d, a, D, ns, rfl, hD, hL, q1, q2, q3⟩ := h
    refine ⟨_, (pss_cons (ps_expr (pe_call G_check_drill (hr.mono (by decide)) (by rfl) T.m_check_drill T.F_check_drill.kp T.b_check_drill .nil (passes_call (takes_of rfl rfl rfl rfl) (fun _ _ _ _ h => h)) (pa_cons (pv 0) pa_nil)))
       (pss_cons (ps_expr (pe_call G_check_counts (hr.mono (by decide)) (by rfl) T.m_check_counts T.F_check_counts.kp T.b_check_counts .nil (passes_call (takes_of rfl rfl rfl rfl) (fun _ _ _ _ h => h)) (pa_cons (pv 1) pa_nil)))
       (pss_cons (ps_set (i := 2) SC.nd rfl (by first | exact Or.inl rfl | exact Or.inr rfl) (pe_callTy (call_list_ofK (K := K) rfl) (by rfl) T.n_list (by decide +kernel) (pa_cons (pv 1) pa_nil)))
       (pss_cons (ps_for (passes_of rfl) rfl (pi_list (pv 0)) (pg_name (i := 3) SC.nd rfl (by first | exact Or.inl rfl | exact Or.inr rfl))
       (pss_one (ps_set (i := 2) SC.nd rfl (by first | exact Or.inl rfl | exact Or.inr rfl) (pe_call G_move_counts (hr.mono (by decide)) (by rfl) T.m_move_counts T.F_move_counts.kp T.b_move_counts .nil pass0 (pa_cons (pv 3) (pa_cons (pv 2) pa_nil))))))
       (pss_one (ps_ret (pv 2))))))), ?_⟩
    repeat (first | refine ⟨_, rfl, ?_⟩ | refine ⟨_, _, rfl, rfl, ?_⟩)
    refine ⟨d, D, rfl, hD, fun v hv => ?_, fun hg H1 S1 => ?_⟩
    · obtain ⟨i, e, rfl⟩ := iV_some hv
      exact q1 i e
    have hbD := iV_none hg
    have hvD := badD_none hbD
    repeat (first | refine ⟨_, rfl, ?_⟩ | refine ⟨_, _, rfl, rfl, ?_⟩)
    refine ⟨a, ns, rfl, S1.seq hL, fun v hv => (q2 hbD v hv).from S1, fun hgN H2 S2 => ?_⟩
    obtain ⟨h6, h0⟩ := badN_none hgN
    have q := q3 hbD hgN
    have S12 := S1.trans S2
    repeat (first | refine ⟨_, rfl, ?_⟩ | refine ⟨_, _, rfl, rfl, ?_⟩)
    refine ⟨_, _, rfl, .inl (S12.seq hL), fun p hp => ?_⟩
    obtain ⟨ts, hts, hlen, hT⟩ := hD
    have S3 : Same H (upd H2 p (.lst (ns.map V.int))) := S12.trans (Same.new hp)
    repeat (first | refine ⟨_, rfl, ?_⟩ | refine ⟨_, _, rfl, rfl, ?_⟩)
    refine ⟨⟨_, S3.seq hts⟩, ?_⟩
    refine for_it walk_list (fun i σ H' => Same H H' ∧ ∃ (b : Addr) (v : Option V), σ = [some (.ref d), some (.ref a), some (.ref b), v] ∧ H b = none ∧ H' b = some (.lst ((mvs (D.take i) ns).map V.int)))
      ⟨S3, p, none, rfl, S12.free hp, upd_same⟩ (fun i σ H' _ z => z.1.seq hts) ?_ ?_
    · rintro i y σ H1 H2 hi ⟨S, b, v, rfl, hb, hbl⟩ ⟨rfl, hy⟩
      obtain ⟨t, ht, rfl⟩ := map_get hy
      obtain ⟨cl, hcl⟩ := get_of_lt (l := D) (by rw [← hlen]; exact lt_of_get ht)
      repeat (first | refine ⟨_, rfl, ?_⟩ | refine ⟨_, _, rfl, rfl, ?_⟩)
      refine ⟨t, cl, b, _, rfl, Same.sqT S (hT i t cl ht hcl), hvD cl (List.mem_of_getElem? hcl), SqL.of hbl, by rw [mvs_len, h6], fun H4 p4 S4 n4 e4 => ?_⟩
      refine ⟨S.trans S4, p4, _, rfl, S.free n4, ?_⟩
      rw [mvs_more hcl]
      exact e4
    · rintro σ H' ⟨S, b, v, rfl, hb, hbl⟩
      repeat (first | refine ⟨_, rfl, ?_⟩ | refine ⟨_, _, rfl, rfl, ?_⟩)
      refine q _ _ S hb ?_
      rw [hbl]
      rw [show (ts.map V.ref).length = D.length by simpa using hlen, List.take_length]
end Dr
namespace Dr
open PySem L2
theorem SC_colour_after : FnScope ["drill", "ahead", "colour", "call"] ["drill", "ahead", "colour"] (defScope s_colour_after) := ⟨rfl, rfl, rfl, by decide +kernel, rfl, by decide +kernel, by decide +kernel⟩

theorem ok_colour_after {P : Program} {w : World} {K : PySem.W.Frag} {mg : Str → Option Value} {base : Heap} (T : Txt K mg) (G_check_drill : FnOk P w K mg base (L2.CX P w) 3 T.a_check_drill T.fd_check_drill ["drill"] (sx_check_drill K T.C_BadCall)) (G_check_counts : FnOk P w K mg base (L2.CX P w) 3 T.a_check_counts T.fd_check_counts ["counts"] (sx_check_counts K T.C_BadCounts)) (G_check_colour : FnOk P w K mg base (L2.CX P w) 3 T.a_check_colour T.fd_check_colour ["colour"] (sx_check_colour K T.C_BadColour)) (G_colour_after_call : FnOk P w K mg base CX0 2 T.a_colour_after_call T.fd_colour_after_call ["call", "ahead", "colour"] (sp_colour_after_call K)) (G_move_counts : FnOk P w K mg base CX0 2 T.a_move_counts T.fd_move_counts ["call", "counts"] (sp_move_counts K)) : FnOk P w K mg base (L2.CX P w) 4 T.a_colour_after T.fd_colour_after ["drill", "ahead", "colour"] (sx_colour_after K T.C_BadCall T.C_BadCounts T.C_BadColour) := by
  have SC := SC_colour_after
  refine T.F_colour_after.okX SC (fun vs H Q E h => ?_) (fun cdv A outer s H vs Q E hr h => ?_)
  · obtain ⟨d, a, D, ns, w, rfl, hD, hL, q1, q2, q3, q⟩ := h
    rfl
  · obtain ⟨d, a, D, ns, w, rfl, hD, hL, q1, q2, q3, q⟩ := h
    refine ⟨_, (pss_cons (ps_expr (pe_call G_check_drill (hr.mono (by decide)) (by rfl) T.m_check_drill T.F_check_drill.kp T.b_check_drill .nil (passes_call (takes_of rfl rfl rfl rfl) (fun _ _ _ _ h => h)) (pa_cons (pv 0) pa_nil)))
       (pss_cons (ps_expr (pe_call G_check_counts (hr.mono (by decide)) (by rfl) T.m_check_counts T.F_check_counts.kp T.b_check_counts .nil (passes_call (takes_of rfl rfl rfl rfl) (fun _ _ _ _ h => h)) (pa_cons (pv 1) pa_nil)))
       (pss_cons (ps_expr (pe_call G_check_colour (hr.mono (by decide)) (by rfl) T.m_check_colour T.F_check_colour.kp T.b_check_colour .nil (passes_call (takes_of rfl rfl rfl rfl) (fun _ _ _ _ h => h)) (pa_cons (pv 2) pa_nil)))
       (pss_cons (ps_for (passes_of rfl) rfl (pi_list (pv 0)) (pg_name (i := 3) SC.nd rfl (by first | exact Or.inl rfl | exact Or.inr rfl))
       (pss_cons (ps_set (i := 2) SC.nd rfl (by first | exact Or.inl rfl | exact Or.inr rfl) (pe_call G_colour_after_call (hr.mono (by decide)) (by rfl) T.m_colour_after_call T.F_colour_after_call.kp T.b_colour_after_call .nil pass0 (pa_cons (pv 3) (pa_cons (pv 1) (pa_cons (pv 2) pa_nil)))))
       (pss_one (ps_set (i := 1) SC.nd rfl (by first | exact Or.inl rfl | exact Or.inr rfl) (pe_call G_move_counts (hr.mono (by decide)) (by rfl) T.m_move_counts T.F_move_counts.kp T.b_move_counts .nil pass0 (pa_cons (pv 3) (pa_cons (pv 1) pa_nil)))))))
       (pss_one (ps_ret (pv 2))))))), ?_⟩
    repeat (first | refine ⟨_, rfl, ?_⟩ | refine ⟨_, _, rfl, rfl, ?_⟩)
    refine ⟨d, D, rfl, hD, fun v hv => ?_, fun hg H1 S1 => ?_⟩
    · obtain ⟨i, e, rfl⟩ := iV_some hv
      exact q1 i e
    have hbD := iV_none hg
    have hv := badD_none hbD
    repeat (first | refine ⟨_, rfl, ?_⟩ | refine ⟨_, _, rfl, rfl, ?_⟩)
    refine ⟨a, ns, rfl, S1.seq hL, fun v hv => (q2 hbD v hv).from S1, fun hgN H2 S2 => ?_⟩
    obtain ⟨h6, h0⟩ := badN_none hgN
    have S12 := S1.trans S2
    repeat (first | refine ⟨_, rfl, ?_⟩ | refine ⟨_, _, rfl, rfl, ?_⟩)
    refine ⟨fun hw => ?_, fun hw => (q3 hbD hgN hw).from S12⟩
    have q := q hbD hgN hw
    obtain ⟨ts, hts, hlen, hT⟩ := hD
    repeat (first | refine ⟨_, rfl, ?_⟩ | refine ⟨_, _, rfl, rfl, ?_⟩)
    refine ⟨⟨_, S12.seq hts⟩, ?_⟩
    refine for_it walk_list (fun i σ H' => Same H H' ∧ ∃ (b : Addr) (v : Option V), σ = [some (.ref d), some (.ref b), some (.str (ones (D.take i) (ns, w)).2), v] ∧ SqL K H' b ((ones (D.take i) (ns, w)).1.map V.int))
      ⟨S12, a, none, rfl, S12.seq hL⟩ (fun i σ H' _ z => z.1.seq hts) ?_ ?_
    · rintro i y σ H3 H4 hi ⟨S, b, v, rfl, hbl⟩ ⟨rfl, hy⟩
      obtain ⟨t, ht, rfl⟩ := map_get hy
      obtain ⟨cl, hcl⟩ := get_of_lt (l := D) (by rw [← hlen]; exact lt_of_get ht)
      have hok := hv cl (List.mem_of_getElem? hcl)
      have l6 : (ones (D.take i) (ns, w)).1.length = 6 := by rw [ones_fst, mvs_len]; exact h6
      have lw : isC (ones (D.take i) (ns, w)).2 = true := ones_isC (fun c hc => hv c (List.mem_of_mem_take hc)) hw
      rw [ones_more hcl]
      generalize ones (D.take i) (ns, w) = pr at *
      have hTT := Same.sqT S (hT i t cl ht hcl)
      repeat (first | refine ⟨_, rfl, ?_⟩ | refine ⟨_, _, rfl, rfl, ?_⟩)
      refine ⟨t, cl, b, _, _, rfl, hTT, hok, hbl, l6, lw, ?_⟩
      repeat (first | refine ⟨_, rfl, ?_⟩ | refine ⟨_, _, rfl, rfl, ?_⟩)
      refine ⟨t, cl, b, _, rfl, hTT, hok, hbl, l6, fun H5 p5 S5 n5 e5 => ?_⟩
      exact ⟨S.trans S5, p5, _, rfl, SqL.of e5⟩
    · rintro σ H' ⟨S, b, v, rfl, hbl⟩
      repeat (first | refine ⟨_, rfl, ?_⟩ | refine ⟨_, _, rfl, rfl, ?_⟩)
      rw [show (ts.map V.ref).length = D.length by simpa using hlen, List.take_length]
      exact q _ S
end Dr
namespace Dr
open PySem L2
theorem SC__law_rng : FnScope ["script", "digits", "seed", "cell", "size"] ["script"] (defScope s__law_rng) := ⟨rfl, rfl, rfl, by decide +kernel, rfl, by decide +kernel, by decide +kernel⟩

theorem ok__law_rng {P : Program} {w : World} {K : PySem.W.Frag} {mg : Str → Option Value} {base : Heap} (T : Txt K mg)  : FnOk P w K mg base CX0 1 T.a__law_rng T.fd__law_rng ["script"] (sp_law_rng K) := by
  have SC := SC__law_rng
  refine T.F__law_rng.ok SC (fun vs H Q E h => ?_) (fun cdv A outer s H vs Q E hr h => ?_)
  · obtain ⟨a, ns, rfl, hL, hlen, q⟩ := h
    rfl
  · obtain ⟨a, ns, rfl, hL, hlen, q⟩ := h
    refine ⟨_, (pss_cons (ps_asg (pe_tup (pa_cons pe_int (pa_cons pe_int pa_nil))) (pg_tup rfl (pgs_cons (pg_name (i := 1) SC.nd rfl (by first | exact Or.inl rfl | exact Or.inr rfl)) (pgs_cons (pg_name (i := 2) SC.nd rfl (by first | exact Or.inl rfl | exact Or.inr rfl)) pgs_nil))))
       (pss_cons (ps_for PassesOwn.never rfl (pi_list (pe_slice (sl_listK (K := K) rfl) (pv 0) po_none (po_some pe_int))) (pg_name (i := 3) SC.nd rfl (by first | exact Or.inl rfl | exact Or.inr rfl))
       (pss_cons (ps_set (i := 4) SC.nd rfl (by first | exact Or.inl rfl | exact Or.inr rfl) (pe_callB call_abs (by rfl) T.n_abs (by decide +kernel) (pa_cons (pv 3) pa_nil)))
       (pss_cons (ps_if (pt_cmpR op_ge (pv 4) (pe_op op_pow pe_int pe_int) (nomark _)) (pss_one (ps_set (i := 1) SC.nd rfl (by first | exact Or.inl rfl | exact Or.inr rfl) (pe_op op_add (pe_op op_mulW (pv 1) (pe_op op_pow pe_int pe_int)) (pe_op op_mod (pv 4) (pe_op op_pow pe_int pe_int)))))
       pss_nil)
       (pss_one (ps_set (i := 2) SC.nd rfl (by first | exact Or.inl rfl | exact Or.inr rfl) (pe_op op_mod (pe_op op_add (pe_op op_add (pe_op op_mul (pv 2) pe_int) (pe_op op_mod (pv 3) pe_int)) pe_int) pe_int))))))
       (pss_one (ps_ret (pe_lst (pa_cons (pv 1) (pa_cons (pv 2) (pa_cons pe_int pa_nil)))))))), ?_⟩
    repeat (first | refine ⟨_, rfl, ?_⟩ | refine ⟨_, _, rfl, rfl, ?_⟩)
    refine ⟨by show 2 ≤ sizeLine; decide, fun t0 ht0 => ?_⟩
    refine ⟨_, _, rfl, SqT.of upd_same, rfl, _, _, rfl, _, _, rfl, rfl, ?_⟩
    have S0 : Same H (upd H t0 (.tup [.int 0, .int 88675123])) := Same.new ht0
    repeat (first | refine ⟨_, rfl, ?_⟩ | refine ⟨_, _, rfl, rfl, ?_⟩)
    refine ⟨_, _, rfl, S0.seq hL, fun p hp => ?_⟩
    obtain ⟨ms, hms, hml⟩ := cut_ints ns none (some 63)
    have h63 := cut_63 ns
    rw [hms] at h63
    rw [hms]
    repeat (first | refine ⟨_, rfl, ?_⟩ | refine ⟨_, _, rfl, rfl, ?_⟩)
    refine ⟨⟨_, SqL.of upd_same⟩, ?_⟩
    rw [List.length_map] at h63
    have S1 := S0.trans (Same.new (o := .lst (ms.map V.int)) hp)
    generalize hH1 : upd (upd H t0 (.tup [.int 0, .int 88675123])) p (.lst (ms.map V.int)) = H1
    rw [hH1] at S1
    have hpl : H1 p = some (.lst (ms.map V.int)) := by rw [← hH1]; exact upd_same
    refine for_it (walk_list (xs := ms.map V.int)) (fun i σ H' => H' = H1 ∧ ∃ (d z : Int) (u v : Option V), σ = [some (.ref a), some (.int d), some (.int z), u, v] ∧ 0 ≤ d ∧ d < 2 ^ (200 * i) ∧ 0 ≤ z ∧ z < 2305843009213693951)
      ⟨rfl, 0, 88675123, none, none, rfl, by decide, by decide, by decide, by decide⟩ (fun i σ H' _ h => by rw [h.1]; exact SqL.of hpl) ?_ ?_
    · rintro i y σ H2 H3 hi ⟨rfl, d, z, u, v, rfl, d0, d1, z0, z1⟩ ⟨rfl, hy⟩
      obtain ⟨m, hm, rfl⟩ := map_get hy
      rw [List.length_map] at hi
      have hp2 : (2 : Int) ^ (200 * (i + 1)) = 2 ^ (200 * i) * 2 ^ 200 := by rw [show 200 * (i + 1) = 200 * i + 200 by omega, Int.pow_add]
      have hpos : (1 : Int) ≤ 2 ^ (200 * i) := by have := Int.pow_pos (n := 2) (m := 200 * i) (by decide); omega
      have e60 : (10 : Int) ^ (60 : Int).toNat < 2 ^ 200 := by decide
      -- the end of a turn, whatever digits are
      have turn : ∀ e : Int, 0 ≤ e → e < 2 ^ (200 * (i + 1)) → ∃ (d z' : Int) (u v : Option V), [some (V.ref a), some (.int e), some (.int ((z * 1000003 + m % 2305843009213693921 + 7) % 2305843009213693951)), some (.int m), some (.int (if m < 0 then -m else m))] = [some (V.ref a), some (.int d), some (.int z'), u, v] ∧
          0 ≤ d ∧ d < 2 ^ (200 * (i + 1)) ∧ 0 ≤ z' ∧ z' < 2305843009213693951 := fun e e0 e1 =>
        ⟨e, _, _, _, rfl, e0, e1, Int.emod_nonneg _ (by decide), Int.emod_lt_of_pos _ (by decide)⟩
      repeat (first | refine ⟨_, rfl, ?_⟩ | refine ⟨_, _, rfl, rfl, ?_⟩)
      refine ⟨⟨by decide, by decide, by decide⟩, ?_⟩
      repeat (first | refine ⟨_, rfl, ?_⟩ | refine ⟨_, _, rfl, rfl, ?_⟩)
      refine if_two (fun hd => ?_) (fun hd => ?_)
      · repeat (first | refine ⟨_, rfl, ?_⟩ | refine ⟨_, _, rfl, rfl, ?_⟩)
        refine ⟨⟨by decide, by decide, by decide⟩, ?_⟩
        repeat (first | refine ⟨_, rfl, ?_⟩ | refine ⟨_, _, rfl, rfl, ?_⟩)
        refine ⟨wide_mul (a := 200 * 63) (b := 200) ?_ (by decide) (by decide) (by decide) (by decide), ?_⟩
        · have h2 := two_pow_mono (a := 200 * i) (b := 200 * 63) (by omega)
          have h3 : ((2 : Int) ^ (200 * 63)) = ((2 ^ (200 * 63) : Nat) : Int) := by rw [Int.natCast_pow]; rfl
          omega
        repeat (first | refine ⟨_, rfl, ?_⟩ | refine ⟨_, _, rfl, rfl, ?_⟩)
        refine ⟨⟨by decide, by decide, by decide⟩, ?_⟩
        repeat (first | refine ⟨_, rfl, ?_⟩ | refine ⟨_, _, rfl, rfl, ?_⟩)
        refine ⟨(by decide : (0 : Int) < 10 ^ (60 : Int).toNat), ?_⟩
        repeat (first | refine ⟨_, rfl, ?_⟩ | refine ⟨_, _, rfl, rfl, ?_⟩)
        refine ⟨.inl (by omega), ?_⟩
        repeat (first | refine ⟨_, rfl, ?_⟩ | refine ⟨_, _, rfl, rfl, ?_⟩)
        refine ⟨(by decide : (0 : Int) < 2305843009213693921), ?_⟩
        repeat (first | refine ⟨_, rfl, ?_⟩ | refine ⟨_, _, rfl, rfl, ?_⟩)
        refine ⟨(by decide : (0 : Int) < 2305843009213693951), ?_⟩
        refine ⟨rfl, ?_⟩
        refine turn _ ?_ ?_
        · have h1 := Int.mul_nonneg d0 (show (0 : Int) ≤ 10 ^ (60 : Int).toNat by decide)
          have h2 := Int.emod_nonneg (if m < 0 then -m else m) (show (10 : Int) ^ (60 : Int).toNat ≠ 0 by decide)
          omega
        · have h2 := Int.emod_lt_of_pos (if m < 0 then -m else m) (show (0 : Int) < 10 ^ (60 : Int).toNat by decide)
          have h3 : (d + 1) * 10 ^ (60 : Int).toNat ≤ 2 ^ (200 * i) * 10 ^ (60 : Int).toNat := Int.mul_le_mul_of_nonneg_right (by omega) (by decide)
          have h4 : (2 : Int) ^ (200 * i) * 10 ^ (60 : Int).toNat ≤ 2 ^ (200 * i) * 2 ^ 200 := Int.mul_le_mul_of_nonneg_left (by omega) (by omega)
          rw [Int.add_mul, Int.one_mul] at h3
          omega
      · repeat (first | refine ⟨_, rfl, ?_⟩ | refine ⟨_, _, rfl, rfl, ?_⟩)
        refine ⟨.inl (by omega), ?_⟩
        repeat (first | refine ⟨_, rfl, ?_⟩ | refine ⟨_, _, rfl, rfl, ?_⟩)
        refine ⟨(by decide : (0 : Int) < 2305843009213693921), ?_⟩
        repeat (first | refine ⟨_, rfl, ?_⟩ | refine ⟨_, _, rfl, rfl, ?_⟩)
        refine ⟨(by decide : (0 : Int) < 2305843009213693951), ?_⟩
        refine ⟨rfl, ?_⟩
        refine turn _ d0 ?_
        have h4 : (2 : Int) ^ (200 * i) * 1 ≤ 2 ^ (200 * i) * 2 ^ 200 := Int.mul_le_mul_of_nonneg_left (by decide) (by omega)
        omega
    · rintro σ H' ⟨rfl, d, z, u, v, rfl, d0, d1, z0, z1⟩
      repeat (first | refine ⟨_, rfl, ?_⟩ | refine ⟨_, _, rfl, rfl, ?_⟩)
      refine ⟨by show 3 ≤ sizeLine; decide, fun r hr => ?_⟩
      refine q _ _ (S1.trans (Same.new hr)) (S1.free hr) ⟨d, z, 0, upd_same, d0, z0, z1, by decide, by decide⟩
end Dr
namespace Dr
open PySem L2
theorem SC__law_draw : FnScope ["rng", "limit", "found", "mixed"] ["rng", "limit"] (defScope s__law_draw) := ⟨rfl, rfl, rfl, by decide +kernel, rfl, by decide +kernel, by decide +kernel⟩

theorem ok__law_draw {P : Program} {w : World} {K : PySem.W.Frag} {mg : Str → Option Value} {base : Heap} (T : Txt K mg)  : FnOk P w K mg base CX0 1 T.a__law_draw T.fd__law_draw ["rng", "limit"] (sp_law_draw K) := by
  have SC := SC__law_draw
  refine T.F__law_draw.ok SC (fun vs H Q E h => ?_) (fun cdv A outer s H vs Q E hr h => ?_)
  · obtain ⟨r, lim, c, rfl, ⟨d, z, n, hr0, d0, z0, z1, n0, n1⟩, hc, l0, l1, q⟩ := h
    rfl
  · obtain ⟨r, lim, c, rfl, ⟨d, z, n, hr0, d0, z0, z1, n0, n1⟩, hc, l0, l1, q⟩ := h
    refine ⟨_, (pss_cons (ps_if (pt_cmpR op_gt (pe_ix (ix_listK (K := K) rfl) (pv 0) pe_int (fun _ _ => rfl)) pe_int (nomark _)) (pss_cons (ps_set (i := 2) SC.nd rfl (by first | exact Or.inl rfl | exact Or.inr rfl) (pe_op op_mod (pe_ix (ix_listK (K := K) rfl) (pv 0) pe_int (fun _ _ => rfl)) (pv 1)))
       (pss_cons (ps_asg (pe_op op_fdivW (pe_ix (ix_listK (K := K) rfl) (pv 0) pe_int (fun _ _ => rfl)) (pv 1)) (pg_sub (pv 0) pe_int set_list))
       (pss_one (ps_ret (pv 2)))))
       pss_nil)
       (pss_cons (ps_asg (pe_op op_add (pe_ix (ix_listK (K := K) rfl) (pv 0) pe_int (fun _ _ => rfl)) pe_int) (pg_sub (pv 0) pe_int set_list))
       (pss_cons (ps_set (i := 3) SC.nd rfl (by first | exact Or.inl rfl | exact Or.inr rfl) (pe_op op_mod (pe_op op_pow (pe_op op_add (pe_ix (ix_listK (K := K) rfl) (pv 0) pe_int (fun _ _ => rfl)) (pe_op op_mul pe_int (pe_ix (ix_listK (K := K) rfl) (pv 0) pe_int (fun _ _ => rfl)))) pe_int) pe_int))
       (pss_cons (ps_set (i := 3) SC.nd rfl (by first | exact Or.inl rfl | exact Or.inr rfl) (pe_op op_mod (pe_op op_powW (pe_op op_add (pv 3) (pe_op op_mul pe_int (pe_ix (ix_listK (K := K) rfl) (pv 0) pe_int (fun _ _ => rfl)))) pe_int) pe_int))
       (pss_one (ps_ret (pe_op op_mod (pe_op op_fdiv (pv 3) pe_int) (pv 1)))))))), ?_⟩
    repeat (first | refine ⟨_, rfl, ?_⟩ | refine ⟨_, _, rfl, rfl, ?_⟩)
    refine ⟨_, _, _, _, rfl, rfl, SqL.of hr0, rfl, ?_⟩
    repeat (first | refine ⟨_, rfl, ?_⟩ | refine ⟨_, _, rfl, rfl, ?_⟩)
    refine if_two (fun hd => ?_) (fun hd => ?_)
    · repeat (first | refine ⟨_, rfl, ?_⟩ | refine ⟨_, _, rfl, rfl, ?_⟩)
      refine ⟨_, _, _, _, rfl, rfl, SqL.of hr0, rfl, ?_⟩
      repeat (first | refine ⟨_, rfl, ?_⟩ | refine ⟨_, _, rfl, rfl, ?_⟩)
      refine ⟨l0, ?_⟩
      repeat (first | refine ⟨_, rfl, ?_⟩ | refine ⟨_, _, rfl, rfl, ?_⟩)
      refine ⟨_, _, _, _, rfl, rfl, SqL.of hr0, rfl, ?_⟩
      repeat (first | refine ⟨_, rfl, ?_⟩ | refine ⟨_, _, rfl, rfl, ?_⟩)
      refine ⟨wide_div (b := 200) l0 (by omega) (by decide) (by decide), ?_⟩
      repeat (first | refine ⟨_, rfl, ?_⟩ | refine ⟨_, _, rfl, rfl, ?_⟩)
      refine ⟨_, _, _, 0, rfl, rfl, hr0, rfl, ?_⟩
      repeat (first | refine ⟨_, rfl, ?_⟩ | refine ⟨_, _, rfl, rfl, ?_⟩)
      refine q _ _ hid_upd ⟨d / lim, z, n, upd_same, Int.ediv_nonneg d0 (by omega), z0, z1, n0, by omega⟩ (Int.emod_nonneg _ (by omega)) (Int.emod_lt_of_pos _ l0)
    · repeat (first | refine ⟨_, rfl, ?_⟩ | refine ⟨_, _, rfl, rfl, ?_⟩)
      refine ⟨_, _, _, _, rfl, rfl, SqL.of hr0, rfl, ?_⟩
      repeat (first | refine ⟨_, rfl, ?_⟩ | refine ⟨_, _, rfl, rfl, ?_⟩)
      refine ⟨_, _, _, 2, rfl, rfl, hr0, rfl, ?_⟩
      have hr1 : upd H r (.lst ([V.int d, V.int z, V.int n].set 2 (V.int (n + 1)))) r = some (.lst [.int d, .int z, .int (n + 1)]) := upd_same
      repeat (first | refine ⟨_, rfl, ?_⟩ | refine ⟨_, _, rfl, rfl, ?_⟩)
      refine ⟨_, _, _, _, rfl, rfl, SqL.of hr1, rfl, ?_⟩
      repeat (first | refine ⟨_, rfl, ?_⟩ | refine ⟨_, _, rfl, rfl, ?_⟩)
      refine ⟨_, _, _, _, rfl, rfl, SqL.of hr1, rfl, ?_⟩
      repeat (first | refine ⟨_, rfl, ?_⟩ | refine ⟨_, _, rfl, rfl, ?_⟩)
      refine ⟨.inl (by constructor <;> decide), ?_⟩
      repeat (first | refine ⟨_, rfl, ?_⟩ | refine ⟨_, _, rfl, rfl, ?_⟩)
      refine ⟨⟨by decide, by decide, by omega⟩, ?_⟩
      repeat (first | refine ⟨_, rfl, ?_⟩ | refine ⟨_, _, rfl, rfl, ?_⟩)
      refine ⟨(by decide : (0 : Int) < 162259276829213363391578010288127), ?_⟩
      generalize hm : (z + 998244353 * (n + 1)) ^ (3 : Int).toNat % 162259276829213363391578010288127 = m
      have m0 : 0 ≤ m := by rw [← hm]; exact Int.emod_nonneg _ (by decide)
      have m1 : m < 162259276829213363391578010288127 := by rw [← hm]; exact Int.emod_lt_of_pos _ (by decide)
      repeat (first | refine ⟨_, rfl, ?_⟩ | refine ⟨_, _, rfl, rfl, ?_⟩)
      refine ⟨_, _, _, _, rfl, rfl, SqL.of hr1, rfl, ?_⟩
      repeat (first | refine ⟨_, rfl, ?_⟩ | refine ⟨_, _, rfl, rfl, ?_⟩)
      refine ⟨.inl (by constructor <;> decide), ?_⟩
      repeat (first | refine ⟨_, rfl, ?_⟩ | refine ⟨_, _, rfl, rfl, ?_⟩)
      refine ⟨pow3_ok (by omega), ?_⟩
      repeat (first | refine ⟨_, rfl, ?_⟩ | refine ⟨_, _, rfl, rfl, ?_⟩)
      refine ⟨(by decide : (0 : Int) < 170141183460469231731687303715884105727), ?_⟩
      repeat (first | refine ⟨_, rfl, ?_⟩ | refine ⟨_, _, rfl, rfl, ?_⟩)
      refine ⟨⟨by decide, by decide⟩, ?_⟩
      repeat (first | refine ⟨_, rfl, ?_⟩ | refine ⟨_, _, rfl, rfl, ?_⟩)
      refine ⟨l0, ?_⟩
      exact q _ _ hid_upd ⟨d, z, n + 1, hr1, d0, z0, z1, by omega, by omega⟩ (Int.emod_nonneg _ (by omega)) (Int.emod_lt_of_pos _ l0)
end Dr
namespace Dr
open PySem L2
theorem SC__law_letters : FnScope ["rng", "left", "turn"] ["rng"] (defScope s__law_letters) := ⟨rfl, rfl, rfl, by decide +kernel, rfl, by decide +kernel, by decide +kernel⟩

theorem ok__law_letters {P : Program} {w : World} {K : PySem.W.Frag} {mg : Str → Option Value} {base : Heap} (T : Txt K mg) (G__law_draw : FnOk P w K mg base CX0 1 T.a__law_draw T.fd__law_draw ["rng", "limit"] (sp_law_draw K)) : FnOk P w K mg base CX0 2 T.a__law_letters T.fd__law_letters ["rng"] (sp_law_letters K) := by
  have SC := SC__law_letters
  refine T.F__law_letters.ok SC (fun vs H Q E h => ?_) (fun cdv A outer s H vs Q E hr h => ?_)
  · obtain ⟨r, c, rfl, hR, hc, q⟩ := h
    rfl
  · obtain ⟨r, c, rfl, hR, hc, q⟩ := h
    refine ⟨_, (pss_cons (ps_set (i := 1) SC.nd rfl (by first | exact Or.inl rfl | exact Or.inr rfl) (pe_callTy (call_list_text rfl) (by rfl) T.n_list (by decide +kernel) (pa_cons pe_str pa_nil)))
       (pss_one (ps_ret (pe_lc (own := [("turn", 2)]) rfl SC.nd (pi_range1 (by rfl) T.n_range (pa_cons (pe_ix (ix_listK (K := K) rfl) (pe_lst (pa_cons pe_int (pa_cons pe_int (pa_cons pe_int (pa_cons pe_int (pa_cons pe_int pa_nil)))))) (pe_call G__law_draw (hr.mono (by decide)) (by rfl) T.m__law_draw T.F__law_draw.kp T.b__law_draw .nil pass0 (pa_cons (pv 0) (pa_cons pe_int pa_nil))) (fun _ _ => rfl)) pa_nil)) (blkOk_by (N := ["rng", "left", "turn"]) (sc := defScope s__law_letters) (by decide +kernel)) (fun _ _ _ _ _ => by exact pg_name (i := 2) SC.nd rfl (by first | exact Or.inl rfl | exact Or.inr rfl)) (fun _ _ _ _ _ => by exact pts_nil) (fun _ _ _ _ _ => by exact (pe_bmK (K := K) rfl PySem.F.plainAttrs_list PySem.F.slot_list_pop PySem.F.type_list_pop mt_popAt (pv 1) (pa_cons (pe_call G__law_draw (hr.mono (by decide)) (by rfl) T.m__law_draw T.F__law_draw.kp T.b__law_draw .nil pass0 (pa_cons (pv 0) (pa_cons (pe_callB (call_len_seqK (K := K) rfl) (by rfl) T.n_len (by decide +kernel) (pa_cons (pv 1) pa_nil)) pa_nil))) pa_nil))))))), ?_⟩
    repeat (first | refine ⟨_, rfl, ?_⟩ | refine ⟨_, _, rfl, rfl, ?_⟩)
    refine ⟨by decide +kernel, fun l hl => ?_⟩
    rw [abc_signs]
    have nlr := hR.ne hl
    repeat (first | refine ⟨_, rfl, ?_⟩ | refine ⟨_, _, rfl, rfl, ?_⟩)
    refine ⟨by show 5 ≤ sizeLine; decide, fun m hm => ?_⟩
    have hR1 : Rg (upd (upd H l (.lst colV)) m (.lst [.int 1, .int 2, .int 2, .int 3, .int 6])) r c := (hR.new hl).new hm
    have nmr := (hR.new hl).ne hm
    have nlm : l ≠ m := ne_of_none upd_same hm
    repeat (first | refine ⟨_, rfl, ?_⟩ | refine ⟨_, _, rfl, rfl, ?_⟩)
    refine ⟨r, 5, c, rfl, hR1, by omega, by decide, by decide, fun H1 n S1 R1 n0 n1 => ?_⟩
    obtain ⟨k, hk, hk2⟩ := pick_ints (ns := [1, 2, 2, 3, 6]) n0 (by simpa using n1)
    refine ⟨m, _, n, _, rfl, rfl, SqL.of (ext_get S1 nmr upd_same), hk2, ?_⟩
    have k16 : 1 ≤ k ∧ k ≤ 6 := by simp at hk; omega
    repeat (first | refine ⟨_, rfl, ?_⟩ | refine ⟨_, _, rfl, rfl, ?_⟩)
    refine ⟨by omega, by omega, fun D hD => ?_⟩
    have hl1 : H1 l = some (.lst colV) := ext_get S1 nlr (by rw [upd_ne nlm]; exact upd_same)
    have nDl : l ≠ D := ne_of_none hl1 hD
    have nDr := R1.ne hD
    have SH : Same (hid r H) (hid r H1) := ((hid_new hl).trans (hid_new hm)).trans S1
    have hDH : H D = none := ext_free SH nDr hD
    refine lc_it walk_range (fun i H' => Same (hid r H) (hid r H') ∧ Rg H' r (c + 1 + i) ∧ ∃ got rest : List Str, H' l = some (.lst (rest.map V.str)) ∧ H' D = some (.lst (got.map V.str)) ∧ (got ++ rest).Perm colS ∧ got.length = i)
      ⟨ext_upd SH nDr hDH, R1.new hD, [], colS, by rw [upd_ne nDl]; exact hl1, upd_same, List.Perm.refl _, rfl⟩ (fun _ _ _ _ => trivial) ?_ ?_
    · rintro i y H2 H3 hi ⟨S, R, got, rest, hl2, hD2, hp, hg⟩ ⟨rfl, rfl⟩
      refine ⟨rfl, ?_⟩
      have hlen : got.length + rest.length = 6 := by have := hp.length_eq; rw [List.length_append] at this; exact this
      repeat (first | refine ⟨_, rfl, ?_⟩ | refine ⟨_, _, rfl, rfl, ?_⟩)
      refine ⟨.inl ⟨rfl, _, SqL.of hl2⟩, ?_⟩
      repeat (first | refine ⟨_, rfl, ?_⟩ | refine ⟨_, _, rfl, rfl, ?_⟩)
      refine ⟨_, _, rfl, .inl (SqL.of hl2), ?_⟩
      rw [List.length_map]
      refine ⟨r, _, c + 1 + i, rfl, R, by omega, by omega, by omega, fun H4 n4 S4 R4 m0 m1 => ?_⟩
      obtain ⟨j, x, rfl, hj, hx, _, _⟩ := pick (xs := rest) m0 m1
      refine ⟨l, _, _, j, .str x, rfl, rfl, ext_get S4 nlr hl2, by omega, by omega, (ixN_seq (by rw [List.length_map]; exact ixN_nat hj)).1, by rw [List.getElem?_map, hx]; rfl, ?_⟩
      have hDl : H4 D = some (.lst (got.map V.str)) := ext_get S4 nDr hD2
      refine ⟨_, by rw [upd_ne nDl.symm]; exact hDl, by rw [List.length_map, hg]; exact small1000 (by omega), ?_⟩
      refine ⟨ext_upd (ext_upd (S.trans S4) nlr hl) nDr hDH, ((R4.upd nlr).upd nDr).mono (by omega), got ++ [x], rest.eraseIdx j, ?_, ?_, perm_pop hp hx, by simp [hg]⟩
      · rw [upd_ne nDl, upd_same, erase_map]
      · rw [upd_same, List.map_append]; rfl
    · rintro H' ⟨S, R, got, rest, hl2, hD2, hp, hg⟩
      exact q _ _ _ S (R.mono (by omega)) hDH nDr hD2 (Lett.of hp (by omega) (by omega))
end Dr
namespace Dr
open PySem L2
theorem SC__law_line : FnScope ["rng", "letters", "longest", "way", "line", "turn", "letter"] ["rng", "letters", "longest"] (defScope s__law_line) := ⟨rfl, rfl, rfl, by decide +kernel, rfl, by decide +kernel, by decide +kernel⟩

theorem ok__law_line {P : Program} {w : World} {K : PySem.W.Frag} {mg : Str → Option Value} {base : Heap} (T : Txt K mg) (G__law_draw : FnOk P w K mg base CX0 1 T.a__law_draw T.fd__law_draw ["rng", "limit"] (sp_law_draw K)) : FnOk P w K mg base CX0 2 T.a__law_line T.fd__law_line ["rng", "letters", "longest"] (sp_law_line K) := by
  have SC := SC__law_line
  refine T.F__law_line.ok SC (fun vs H Q E h => ?_) (fun cdv A outer s H vs Q E hr h => ?_)
  · obtain ⟨r, l, longest, ls, c, rfl, hR, hc, hL, hls, l0, l1, q⟩ := h
    rfl
  · obtain ⟨r, l, longest, ls, c, rfl, hR, hc, hL, hls, l0, l1, q⟩ := h
    refine ⟨_, (pss_cons (ps_set (i := 3) SC.nd rfl (by first | exact Or.inl rfl | exact Or.inr rfl) (pe_call G__law_draw (hr.mono (by decide)) (by rfl) T.m__law_draw T.F__law_draw.kp T.b__law_draw .nil pass0 (pa_cons (pv 0) (pa_cons pe_int pa_nil))))
       (pss_cons (ps_set (i := 4) SC.nd rfl (by first | exact Or.inl rfl | exact Or.inr rfl) pe_str)
       (pss_cons (ps_for PassesOwn.never rfl (pi_range1 (by rfl) T.n_range (pa_cons (pe_call G__law_draw (hr.mono (by decide)) (by rfl) T.m__law_draw T.F__law_draw.kp T.b__law_draw .nil pass0 (pa_cons (pv 0) (pa_cons (pe_op op_add (pv 2) pe_int) pa_nil))) pa_nil)) (pg_name (i := 5) SC.nd rfl (by first | exact Or.inl rfl | exact Or.inr rfl))
       (pss_cons (ps_set (i := 6) SC.nd rfl (by first | exact Or.inl rfl | exact Or.inr rfl) (pe_ix (ix_listK (K := K) rfl) (pv 1) (pe_call G__law_draw (hr.mono (by decide)) (by rfl) T.m__law_draw T.F__law_draw.kp T.b__law_draw .nil pass0 (pa_cons (pv 0) (pa_cons (pe_callB (call_len_seqK (K := K) rfl) (by rfl) T.n_len (by decide +kernel) (pa_cons (pv 1) pa_nil)) pa_nil))) (fun _ _ => rfl)))
       (C8.pss_cut (ps_if (PW.pt (pw_and (pt_cmpR op_ne (pv 4) pe_str (nomark _)) (pw_and (pt_cmpR op_eq (pv 3) pe_int (nomark _)) (pw_and1 (pt_cmpR op_gt (pe_call G__law_draw (hr.mono (by decide)) (by rfl) T.m__law_draw T.F__law_draw.kp T.b__law_draw .nil pass0 (pa_cons (pv 0) (pa_cons pe_int pa_nil))) pe_int (nomark _)))))) (pss_one (ps_set (i := 6) SC.nd rfl (by first | exact Or.inl rfl | exact Or.inr rfl) (pe_ix ix_str (pv 4) (pe_un un_neg pe_int) (fun _ _ => rfl))))
       pss_nil)
       (pss_one (ps_set (i := 4) SC.nd rfl (by first | exact Or.inl rfl | exact Or.inr rfl) (pe_op op_add_str (pv 4) (pe_ix (ix_listK (K := K) rfl) (pe_lst (pa_cons (pv 6) (pa_cons (pv 6) (pa_cons (pe_ix (ix_listK (K := K) rfl) (pv 1) pe_int (fun _ _ => rfl)) pa_nil)))) (pe_ifExp (pt_cmpR op_gt (pe_call G__law_draw (hr.mono (by decide)) (by rfl) T.m__law_draw T.F__law_draw.kp T.b__law_draw .nil pass0 (pa_cons (pv 0) (pa_cons pe_int pa_nil))) pe_int (nomark _)) (pv 3) pe_int) (fun _ _ => rfl))))))))
       (pss_one (ps_ret (pv 4)))))), ?_⟩
    have hp1 := hls.pos
    have hp6 := hls.six
    repeat (first | refine ⟨_, rfl, ?_⟩ | refine ⟨_, _, rfl, rfl, ?_⟩)
    refine ⟨r, 3, c, rfl, hR, by omega, by decide, by decide, fun H1 way S1 R1 w0 w1 => ?_⟩
    repeat (first | refine ⟨_, rfl, ?_⟩ | refine ⟨_, _, rfl, rfl, ?_⟩)
    refine ⟨r, _, c + 1, rfl, R1, by omega, by omega, by omega, fun H2 n S2 R2 n0 n1 => ?_⟩
    repeat (first | refine ⟨_, rfl, ?_⟩ | refine ⟨_, _, rfl, rfl, ?_⟩)
    refine ⟨by omega, by omega, ?_⟩
    refine for_it walk_range (fun i σ H' => Same (hid r H) (hid r H') ∧ Rg H' r (c + 2 + 3 * i) ∧ ∃ (z : Str) (u v : Option V), σ = [some (.ref r), some (.ref l), some (.int longest), some (.int way), some (.str z), u, v] ∧ z.cps.size ≤ i ∧ ∀ x ∈ z.cps.toList, x ∈ colN)
      ⟨S1.trans S2, R2, "", none, none, rfl, Nat.le_refl _, fun x hx => by rw [show ("" : Str).cps.toList = [] by decide +kernel] at hx; cases hx⟩ (fun _ _ _ _ _ => trivial) ?_ ?_
    · rintro i y0 σ H3 H3' hi ⟨S, R, z, u, v, rfl, zl, hz⟩ ⟨rfl, rfl⟩
      repeat (first | refine ⟨_, rfl, ?_⟩ | refine ⟨_, _, rfl, rfl, ?_⟩)
      refine ⟨_, _, rfl, .inl ((S.trans hid_same).seq hL), ?_⟩
      rw [List.length_map]
      refine ⟨r, _, c + 2 + 3 * i, rfl, R, by omega, by omega, by omega, fun H4 n4 S4' R4 m0 m1 => ?_⟩
      have S4 := S.trans S4'
      obtain ⟨y1, hy1, e1⟩ := pick_strs (ls := ls) m0 m1
      refine ⟨_, _, _, _, rfl, rfl, (S4.trans hid_same).seq hL, e1, ?_⟩
      refine ⟨fun σ' H' => Same (hid r H) (hid r H') ∧ Rg H' r (c + 2 + 3 * i + 2) ∧ ∃ y : Str, isC y = true ∧ σ' = [some (.ref r), some (.ref l), some (.int longest), some (.int way), some (.str z), some (.int (0 + (i : Nat))), some (.str y)], ?_, ?_⟩
      · repeat (first | refine ⟨_, rfl, ?_⟩ | refine ⟨_, _, rfl, rfl, ?_⟩)
        refine ⟨rfl, _, rfl, if_two_not (fun hne => ?_) (fun he => ?_)⟩
        · repeat (first | refine ⟨_, rfl, ?_⟩ | refine ⟨_, _, rfl, rfl, ?_⟩)
          refine ⟨rfl, _, rfl, if_two (fun hw => ?_) (fun hw => ?_)⟩
          · repeat (first | refine ⟨_, rfl, ?_⟩ | refine ⟨_, _, rfl, rfl, ?_⟩)
            refine ⟨r, 4, _, rfl, R4, by omega, by decide, by decide, fun H5 n5 S5 R5 k0 k1 => ?_⟩
            repeat (first | refine ⟨_, rfl, ?_⟩ | refine ⟨_, _, rfl, rfl, ?_⟩)
            refine if_two (fun hk => ?_) (fun hk => ?_)
            · repeat (first | refine ⟨_, rfl, ?_⟩ | refine ⟨_, _, rfl, rfl, ?_⟩)
              obtain ⟨x, hx, ex⟩ := str_last (z := z) (fun e => hne (by rw [e]))
              refine ⟨z, _, x, rfl, rfl, Nat.le_trans (by show z.cps.size ≤ 1000; omega) (by decide), ex, ?_⟩
              exact ⟨S4.trans S5, R5.mono (by omega), sg x, isC_iff.mpr ⟨x, hz x hx, rfl⟩, rfl⟩
            · exact ⟨S4.trans S5, R5.mono (by omega), y1, hls.col _ hy1, rfl⟩
          · exact ⟨S4, R4.mono (by omega), y1, hls.col _ hy1, rfl⟩
        · exact ⟨S4, R4.mono (by omega), y1, hls.col _ hy1, rfl⟩
      · clear R4 R S S4 S4'
        rintro σ' H4 ⟨S4, R4, y, hy, rfl⟩
        repeat (first | refine ⟨_, rfl, ?_⟩ | refine ⟨_, _, rfl, rfl, ?_⟩)
        obtain ⟨z0, hz0⟩ := get_of_lt (l := ls) (i := 0) (by omega)
        refine ⟨_, _, _, _, rfl, rfl, (S4.trans hid_same).seq hL, at_of (j := 0) rfl (by rw [List.getElem?_map, hz0]; rfl), ?_⟩
        have cz0 := hls.col _ (List.mem_of_getElem? hz0)
        repeat (first | refine ⟨_, rfl, ?_⟩ | refine ⟨_, _, rfl, rfl, ?_⟩)
        refine ⟨by show 3 ≤ sizeLine; decide, fun p hp => ?_⟩
        have npr := R4.ne hp
        repeat (first | refine ⟨_, rfl, ?_⟩ | refine ⟨_, _, rfl, rfl, ?_⟩)
        refine ⟨r, 5, _, rfl, R4.new hp, by omega, by decide, by decide, fun H5 n5 S5 R5 k0 k1 => ?_⟩
        repeat (first | refine ⟨_, rfl, ?_⟩ | refine ⟨_, _, rfl, rfl, ?_⟩)
        refine if_two (fun hk => ?_) (fun hk => ?_)
        · repeat (first | refine ⟨_, rfl, ?_⟩ | refine ⟨_, _, rfl, rfl, ?_⟩)
          obtain ⟨y2, hy2, e2⟩ : ∃ y2 : Str, isC y2 = true ∧ atI [V.str y, V.str y, V.str z0] way = some (.str y2) := by
            obtain ⟨j, x, rfl, hj, hx, ea, hm⟩ := pick (xs := [V.str y, V.str y, V.str z0]) w0 (by simpa using w1)
            rcases List.mem_cons.mp hm with e | hm
            · exact ⟨y, hy, by rw [ea, e]⟩
            rcases List.mem_cons.mp hm with e | hm
            · exact ⟨y, hy, by rw [ea, e]⟩
            · exact ⟨z0, cz0, by rw [ea, List.mem_singleton.mp hm]⟩
          refine ⟨p, _, _, _, rfl, rfl, SqL.of (ext_get S5 npr upd_same), e2, ?_⟩
          obtain ⟨x, hx, rfl⟩ := isC_iff.mp hy2
          refine ⟨z, sg x, rfl, rfl, by show z.cps.size + 1 ≤ sizeLine; exact Nat.le_trans (by omega : z.cps.size + 1 ≤ 1001) (by decide), ?_⟩
          refine ⟨(S4.trans (hid_new hp)).trans S5, R5.mono (by omega), z ++ sg x, _, _, rfl, by rw [str_size]; show z.cps.size + 1 ≤ i + 1; omega, fun w hw => ?_⟩
          rw [str_app] at hw
          rcases List.mem_append.mp hw with hw | hw
          · exact hz w hw
          · rw [List.mem_singleton.mp (show w ∈ [x] from hw)]; exact hx
        · repeat (first | refine ⟨_, rfl, ?_⟩ | refine ⟨_, _, rfl, rfl, ?_⟩)
          obtain ⟨y2, hy2, e2⟩ : ∃ y2 : Str, isC y2 = true ∧ atI [V.str y, V.str y, V.str z0] 0 = some (.str y2) := by
            exact ⟨y, hy, rfl⟩
          refine ⟨p, _, _, _, rfl, rfl, SqL.of (ext_get S5 npr upd_same), e2, ?_⟩
          obtain ⟨x, hx, rfl⟩ := isC_iff.mp hy2
          refine ⟨z, sg x, rfl, rfl, by show z.cps.size + 1 ≤ sizeLine; exact Nat.le_trans (by omega : z.cps.size + 1 ≤ 1001) (by decide), ?_⟩
          refine ⟨(S4.trans (hid_new hp)).trans S5, R5.mono (by omega), z ++ sg x, _, _, rfl, by rw [str_size]; show z.cps.size + 1 ≤ i + 1; omega, fun w hw => ?_⟩
          rw [str_app] at hw
          rcases List.mem_append.mp hw with hw | hw
          · exact hz w hw
          · rw [List.mem_singleton.mp (show w ∈ [x] from hw)]; exact hx
    · rintro σ H' ⟨S, R, z, u, v, rfl, zl, hz⟩
      repeat (first | refine ⟨_, rfl, ?_⟩ | refine ⟨_, _, rfl, rfl, ?_⟩)
      exact q _ _ S (R.mono (by omega)) hz (by omega)
end Dr
namespace Dr
open PySem L2
theorem SC__law_order : FnScope ["rng", "letters", "highest", "first", "others", "second", "some", "letter"] ["rng", "letters", "highest"] (defScope s__law_order) := ⟨rfl, rfl, rfl, by decide +kernel, rfl, by decide +kernel, by decide +kernel⟩

theorem ok__law_order {P : Program} {w : World} {K : PySem.W.Frag} {mg : Str → Option Value} {base : Heap} (T : Txt K mg) (G__law_draw : FnOk P w K mg base CX0 1 T.a__law_draw T.fd__law_draw ["rng", "limit"] (sp_law_draw K)) : FnOk P w K mg base CX0 2 T.a__law_order T.fd__law_order ["rng", "letters", "highest"] (sp_law_order K) := by
  have SC := SC__law_order
  refine T.F__law_order.ok SC (fun vs H Q E h => ?_) (fun cdv A outer s H vs Q E hr h => ?_)
  · obtain ⟨r, l, highest, ls, c, rfl, hR, hc, hL, hls, l0, l1, q⟩ := h
    rfl
  · obtain ⟨r, l, highest, ls, c, rfl, hR, hc, hL, hls, l0, l1, q⟩ := h
    refine ⟨_, (pss_cons (ps_set (i := 3) SC.nd rfl (by first | exact Or.inl rfl | exact Or.inr rfl) (pe_ix (ix_listK (K := K) rfl) (pv 1) (pe_call G__law_draw (hr.mono (by decide)) (by rfl) T.m__law_draw T.F__law_draw.kp T.b__law_draw .nil pass0 (pa_cons (pv 0) (pa_cons (pe_callB (call_len_seqK (K := K) rfl) (by rfl) T.n_len (by decide +kernel) (pa_cons (pv 1) pa_nil)) pa_nil))) (fun _ _ => rfl)))
       (pss_cons (ps_setLc (i := 4) (own := [("letter", 7)]) rfl SC.nd rfl rfl (sw_true rfl rfl rfl (by decide +kernel)) (pi_str pe_str) (blkOk_by (N := ["rng", "letters", "highest", "first", "others", "second", "some", "letter"]) (sc := defScope s__law_order) (by decide +kernel)) (fun _ _ _ _ _ => by exact pg_name (i := 7) SC.nd rfl (by first | exact Or.inl rfl | exact Or.inr rfl)) (fun _ _ _ _ _ => by exact (pts_one (pt_cmpR op_ne (pv 7) (pv 3) (nomark _)))) (fun _ _ _ _ _ => by exact (pv 7)))
       (pss_cons (ps_set (i := 5) SC.nd rfl (by first | exact Or.inl rfl | exact Or.inr rfl) (pe_ix (ix_listK (K := K) rfl) (pv 4) (pe_call G__law_draw (hr.mono (by decide)) (by rfl) T.m__law_draw T.F__law_draw.kp T.b__law_draw .nil pass0 (pa_cons (pv 0) (pa_cons pe_int pa_nil))) (fun _ _ => rfl)))
       (C8.pss_cut (ps_if (PW.pt (pw_and (pt_cmpR op_gt (pe_callB (call_len_seqK (K := K) rfl) (by rfl) T.n_len (by decide +kernel) (pa_cons (pv 1) pa_nil)) pe_int (nomark _)) (pw_and1 (pt_cmpR op_gt (pe_call G__law_draw (hr.mono (by decide)) (by rfl) T.m__law_draw T.F__law_draw.kp T.b__law_draw .nil pass0 (pa_cons (pv 0) (pa_cons pe_int pa_nil))) pe_int (nomark _))))) (pss_one (ps_set (i := 5) SC.nd rfl (by first | exact Or.inl rfl | exact Or.inr rfl) (pe_ix (ix_listK (K := K) rfl) (pe_lc (own := [("letter", 7)]) rfl SC.nd (pi_list (pv 1)) (blkOk_by (N := ["rng", "letters", "highest", "first", "others", "second", "some", "letter"]) (sc := defScope s__law_order) (by decide +kernel)) (fun _ _ _ _ _ => by exact pg_name (i := 7) SC.nd rfl (by first | exact Or.inl rfl | exact Or.inr rfl)) (fun _ _ _ _ _ => by exact (pts_one (pt_cmpR op_ne (pv 7) (pv 3) (nomark _)))) (fun _ _ _ _ _ => by exact (pv 7))) (pe_call G__law_draw (hr.mono (by decide)) (by rfl) T.m__law_draw T.F__law_draw.kp T.b__law_draw .nil pass0 (pa_cons (pv 0) (pa_cons (pe_op op_sub (pe_callB (call_len_seqK (K := K) rfl) (by rfl) T.n_len (by decide +kernel) (pa_cons (pv 1) pa_nil)) pe_int) pa_nil))) (fun _ _ => rfl))))
       pss_nil)
       (pss_cons (ps_set (i := 6) SC.nd rfl (by first | exact Or.inl rfl | exact Or.inr rfl) (pe_lst (pa_cons pe_int (pa_cons pe_int (pa_cons pe_int (pa_cons (pe_op op_add pe_int (pe_call G__law_draw (hr.mono (by decide)) (by rfl) T.m__law_draw T.F__law_draw.kp T.b__law_draw .nil pass0 (pa_cons (pv 0) (pa_cons (pv 2) pa_nil)))) (pa_cons pe_str (pa_cons pe_str pa_nil))))))))
       (pss_one (ps_ret (pe_tup (pa_cons (pe_ix (ix_listK (K := K) rfl) (pv 6) (pe_ix (ix_listK (K := K) rfl) (pe_lst (pa_cons pe_int (pa_cons pe_int (pa_cons pe_int (pa_cons pe_int (pa_cons pe_int (pa_cons pe_int (pa_cons pe_int (pa_cons pe_int pa_nil))))))))) (pe_call G__law_draw (hr.mono (by decide)) (by rfl) T.m__law_draw T.F__law_draw.kp T.b__law_draw .nil pass0 (pa_cons (pv 0) (pa_cons pe_int pa_nil))) (fun _ _ => rfl)) (fun _ _ => rfl)) (pa_cons (pv 3) (pa_cons (pv 5) pa_nil))))))))))), ?_⟩
    have hp1 := hls.pos
    have hp6 := hls.six
    repeat (first | refine ⟨_, rfl, ?_⟩ | refine ⟨_, _, rfl, rfl, ?_⟩)
    refine ⟨_, _, rfl, .inl (hid_same.seq hL), ?_⟩
    rw [List.length_map]
    refine ⟨r, _, c, rfl, hR, by omega, by omega, by omega, fun H1 n1 S1 R1 m0 m1 => ?_⟩
    obtain ⟨y1, hy1, e1⟩ := pick_strs (ls := ls) m0 m1
    have cy1 := hls.col _ hy1
    refine ⟨_, _, _, _, rfl, rfl, (S1.trans hid_same).seq hL, e1, ?_⟩
    repeat (first | refine ⟨_, rfl, ?_⟩ | refine ⟨_, _, rfl, rfl, ?_⟩)
    intro D hD
    have nDr := R1.ne hD
    refine lc_it walk_str (fun i H' => Same (hid r H1) (hid r H') ∧ Rg H' r (c + 1) ∧ H' D = some (.lst ((without y1 (colS.take i)).map V.str))) ⟨ext_upd (fun _ _ e => e) nDr hD, R1.new hD, upd_same⟩ (fun _ _ _ _ => trivial) ?_ ?_
    · rintro i y H' H'' hi ⟨S, R, hl⟩ ⟨rfl, x, hx, rfl⟩
      have hyS := abc_at hx
      have h6 : colS.length = 6 := rfl
      refine ⟨rfl, ?_⟩
      repeat (first | refine ⟨_, rfl, ?_⟩ | refine ⟨_, _, rfl, rfl, ?_⟩)
      refine ⟨rfl, _, rfl, ?_⟩
      have ft := filter_take (fun y => !decide (V.str y = V.str y1)) hyS
      refine if_two_not (fun hne => ?_) (fun he => ?_)
      · repeat (first | refine ⟨_, rfl, ?_⟩ | refine ⟨_, _, rfl, rfl, ?_⟩)
        refine ⟨_, hl, by rw [List.length_map]; exact small1000 (Nat.le_trans (List.length_filter_le _ _) (Nat.le_trans (List.length_take_le' _ _) (by omega))), ?_⟩
        refine ⟨ext_upd S nDr hD, R.upd nDr, ?_⟩
        rw [upd_same]
        unfold without
        rw [ft, if_pos (by simpa using hne), List.map_append]
        rfl
      · refine ⟨S, R, ?_⟩
        rw [hl]
        unfold without
        rw [ft, if_neg (by simpa using he), List.append_nil]
    · rintro HN ⟨SN, RN, hlN⟩
      have S2 := S1.trans SN
      have h5 : (without y1 colS).length = 5 := by have := without_len colS_nd (of_decide_eq_true cy1); have h6 : colS.length = 6 := rfl; omega
      have hlN' : HN D = some (.lst ((without y1 colS).map V.str)) := by rw [hlN]; rfl
      repeat (first | refine ⟨_, rfl, ?_⟩ | refine ⟨_, _, rfl, rfl, ?_⟩)
      refine ⟨r, 5, _, rfl, RN, by omega, by decide, by decide, fun H3 n3 S3 R3 k0 k1 => ?_⟩
      obtain ⟨y2, hy2, e2⟩ := pick_strs (ls := without y1 colS) k0 (by omega)
      refine ⟨_, _, _, _, rfl, rfl, SqL.of (ext_get S3 nDr hlN'), e2, ?_⟩
      have S23 := S2.trans S3
      refine ⟨fun σ' H' => Same (hid r H) (hid r H') ∧ Rg H' r (c + 4) ∧ ∃ (y : Str) (v7 : Option V), isC y = true ∧ y ≠ y1 ∧ σ' = [some (.ref r), some (.ref l), some (.int highest), some (.str y1), some (.ref D), some (.str y), none, v7], ?_, ?_⟩
      · have other : ∃ (y : Str) (v7 : Option V), isC y = true ∧ y ≠ y1 ∧ [some (V.ref r), some (.ref l), some (.int highest), some (.str y1), some (.ref D), some (.str y2), none, none] = [some (V.ref r), some (.ref l), some (.int highest), some (.str y1), some (.ref D), some (.str y), none, v7] :=
          ⟨y2, none, col_isC (without_mem hy2).1, (without_mem hy2).2, rfl⟩
        repeat (first | refine ⟨_, rfl, ?_⟩ | refine ⟨_, _, rfl, rfl, ?_⟩)
        refine ⟨_, _, rfl, .inl ((S23.trans hid_same).seq hL), ?_⟩
        repeat (first | refine ⟨_, rfl, ?_⟩ | refine ⟨_, _, rfl, rfl, ?_⟩)
        refine if_two (fun hgt => ?_) (fun hgt => ?_)
        · repeat (first | refine ⟨_, rfl, ?_⟩ | refine ⟨_, _, rfl, rfl, ?_⟩)
          refine ⟨r, 6, _, rfl, R3, by omega, by decide, by decide, fun H4 n4 S4 R4 j0 j1 => ?_⟩
          have S24 := S23.trans S4
          repeat (first | refine ⟨_, rfl, ?_⟩ | refine ⟨_, _, rfl, rfl, ?_⟩)
          refine if_two (fun hk => ?_) (fun hk => ?_)
          · repeat (first | refine ⟨_, rfl, ?_⟩ | refine ⟨_, _, rfl, rfl, ?_⟩)
            refine ⟨⟨_, (S24.trans hid_same).seq hL⟩, fun D2 hD2 => ?_⟩
            have nD2r := R4.ne hD2
            have hL4 := (S24.trans hid_same).seq hL
            refine lc_it (walk_list (xs := ls.map V.str)) (fun i H' => Same (hid r H4) (hid r H') ∧ Rg H' r (c + 3) ∧ H' D2 = some (.lst ((without y1 (ls.take i)).map V.str))) ⟨ext_upd (fun _ _ e => e) nD2r hD2, (R4.mono (by omega) : Rg H4 r (c + 3)).new hD2, upd_same⟩ (fun i H' _ h => (h.1.trans hid_same).seq ((S24).seq hL)) ?_ ?_
            · rintro i y H' H'' hi ⟨S, R, hl⟩ ⟨rfl, hy0⟩
              obtain ⟨x, hyS, rfl⟩ := map_get hy0
              refine ⟨rfl, ?_⟩
              repeat (first | refine ⟨_, rfl, ?_⟩ | refine ⟨_, _, rfl, rfl, ?_⟩)
              refine ⟨rfl, _, rfl, ?_⟩
              have ft := filter_take (fun y => !decide (V.str y = V.str y1)) hyS
              refine if_two_not (fun hne => ?_) (fun he => ?_)
              · repeat (first | refine ⟨_, rfl, ?_⟩ | refine ⟨_, _, rfl, rfl, ?_⟩)
                refine ⟨_, hl, by rw [List.length_map]; exact small1000 (Nat.le_trans (List.length_filter_le _ _) (Nat.le_trans (List.length_take_le' _ _) (by omega))), ?_⟩
                refine ⟨ext_upd S nD2r hD2, R.upd nD2r, ?_⟩
                rw [upd_same]
                unfold without
                rw [ft, if_pos (by simpa using hne), List.map_append]
                rfl
              · refine ⟨S, R, ?_⟩
                rw [hl]
                unfold without
                rw [ft, if_neg (by simpa using he), List.append_nil]
            · rintro HM ⟨SM, RM, hlM⟩
              rw [show (ls.map V.str).length = ls.length by simp, List.take_length] at hlM
              have hw := without_len hls.nd hy1
              repeat (first | refine ⟨_, rfl, ?_⟩ | refine ⟨_, _, rfl, rfl, ?_⟩)
              refine ⟨_, _, rfl, .inl (((S24.trans SM).trans hid_same).seq hL), ?_⟩
              rw [List.length_map] at hgt ⊢
              repeat (first | refine ⟨_, rfl, ?_⟩ | refine ⟨_, _, rfl, rfl, ?_⟩)
              refine ⟨r, _, c + 3, rfl, RM, by omega, by omega, by omega, fun H8 n8 S8 R8 g0 g1 => ?_⟩
              obtain ⟨y3, hy3, e3⟩ := pick_strs (ls := without y1 ls) g0 (by omega)
              refine ⟨_, _, _, _, rfl, rfl, SqL.of (ext_get S8 nD2r hlM), e3, ?_⟩
              exact ⟨(S24.trans SM).trans S8, R8, y3, none, hls.col _ (without_mem hy3).1, (without_mem hy3).2, rfl⟩
          · exact ⟨S24, R4.mono (by omega), other⟩
        · exact ⟨S23, R3.mono (by omega), other⟩
      · rintro σ' H4 ⟨S4, R4, y, v7, hy, hyn, rfl⟩
        repeat (first | refine ⟨_, rfl, ?_⟩ | refine ⟨_, _, rfl, rfl, ?_⟩)
        refine ⟨r, _, c + 4, rfl, R4, by omega, by omega, by omega, fun H5 n5 S5 R5 j0 j1 => ?_⟩
        repeat (first | refine ⟨_, rfl, ?_⟩ | refine ⟨_, _, rfl, rfl, ?_⟩)
        refine ⟨by show 6 ≤ sizeLine; decide, fun m hm => ?_⟩
        have nmr := R5.ne hm
        have R6 := R5.new (o := .lst [.int 1, .int 1, .int 2, .int (1 + n5), .str "all", .str "swap"]) hm
        repeat (first | refine ⟨_, rfl, ?_⟩ | refine ⟨_, _, rfl, rfl, ?_⟩)
        refine ⟨by show 8 ≤ sizeLine; decide, fun m2 hm2 => ?_⟩
        have nm2r := R6.ne hm2
        have nmm : m ≠ m2 := ne_of_none upd_same hm2
        repeat (first | refine ⟨_, rfl, ?_⟩ | refine ⟨_, _, rfl, rfl, ?_⟩)
        refine ⟨r, 8, _, rfl, R6.new hm2, by omega, by decide, by decide, fun H7 n7 S7 R7 i0 i1 => ?_⟩
        obtain ⟨ix, hix, eix⟩ := pick_ints (ns := [0, 1, 2, 3, 3, 3, 4, 5]) i0 (by simpa using i1)
        refine ⟨m2, _, _, _, rfl, rfl, SqL.of (ext_get S7 nm2r upd_same), eix, ?_⟩
        have hixb : 0 ≤ ix ∧ ix < 6 := by simp at hix; omega
        obtain ⟨j, v, rfl, hj, hv, ev, hmem⟩ := pick (xs := [V.int 1, .int 1, .int 2, .int (1 + n5), .str "all", .str "swap"]) hixb.1 (by simpa using hixb.2)
        refine ⟨m, _, _, _, rfl, rfl, SqL.of (ext_get S7 nmr (by rw [upd_ne nmm]; exact upd_same)), ev, ?_⟩
        obtain ⟨k, rfl, hk, hkl⟩ := kind_menu (t := highest) (by omega) (by omega) (by omega) hmem
        repeat (first | refine ⟨_, rfl, ?_⟩ | refine ⟨_, _, rfl, rfl, ?_⟩)
        refine ⟨by show 3 ≤ sizeLine; decide, fun t ht => ?_⟩
        exact q _ t ⟨k, y1, y⟩ (((((S4.trans S5).trans (hid_new hm)).trans (hid_new hm2)).trans S7).trans (hid_new ht)) ((R7.new ht).mono (by omega)) (R7.ne ht) upd_same (Cl.mk_ok hk cy1 hy (Ne.symm hyn)) hkl
end Dr
namespace Dr
open PySem L2
theorem SC__law_orders : FnScope ["rng", "letters", "longest", "highest", "turn"] ["rng", "letters", "longest", "highest"] (defScope s__law_orders) := ⟨rfl, rfl, rfl, by decide +kernel, rfl, by decide +kernel, by decide +kernel⟩

theorem ok__law_orders {P : Program} {w : World} {K : PySem.W.Frag} {mg : Str → Option Value} {base : Heap} (T : Txt K mg) (G__law_draw : FnOk P w K mg base CX0 1 T.a__law_draw T.fd__law_draw ["rng", "limit"] (sp_law_draw K)) (G__law_order : FnOk P w K mg base CX0 2 T.a__law_order T.fd__law_order ["rng", "letters", "highest"] (sp_law_order K)) : FnOk P w K mg base CX0 3 T.a__law_orders T.fd__law_orders ["rng", "letters", "longest", "highest"] (sp_law_orders K) := by
  have SC := SC__law_orders
  refine T.F__law_orders.ok SC (fun vs H Q E h => ?_) (fun cdv A outer s H vs Q E hr h => ?_)
  · obtain ⟨r, l, longest, highest, ls, c, rfl, hR, hc, hL, hls, l0, l1, t0, t1, q⟩ := h
    rfl
  · obtain ⟨r, l, longest, highest, ls, c, rfl, hR, hc, hL, hls, l0, l1, t0, t1, q⟩ := h
    refine ⟨_, (pss_one (ps_ret (pe_lc (own := [("turn", 4)]) rfl SC.nd (pi_range1 (by rfl) T.n_range (pa_cons (pe_call G__law_draw (hr.mono (by decide)) (by rfl) T.m__law_draw T.F__law_draw.kp T.b__law_draw .nil pass0 (pa_cons (pv 0) (pa_cons (pe_op op_add (pv 2) pe_int) pa_nil))) pa_nil)) (blkOk_by (N := ["rng", "letters", "longest", "highest", "turn"]) (sc := defScope s__law_orders) (by decide +kernel)) (fun _ _ _ _ _ => by exact pg_name (i := 4) SC.nd rfl (by first | exact Or.inl rfl | exact Or.inr rfl)) (fun _ _ _ _ _ => by exact pts_nil) (fun _ _ _ _ _ => by exact (pe_call G__law_order (hr.mono (by decide)) (by rfl) T.m__law_order T.F__law_order.kp T.b__law_order .nil pass0 (pa_cons (pv 0) (pa_cons (pv 1) (pa_cons (pv 3) pa_nil)))))))), ?_⟩
    repeat (first | refine ⟨_, rfl, ?_⟩ | refine ⟨_, _, rfl, rfl, ?_⟩)
    refine ⟨r, _, c, rfl, hR, by omega, by omega, by omega, fun H1 n S1 R1 n0 n1 => ?_⟩
    repeat (first | refine ⟨_, rfl, ?_⟩ | refine ⟨_, _, rfl, rfl, ?_⟩)
    refine ⟨by omega, by omega, fun D hD => ?_⟩
    have nDr := R1.ne hD
    refine lc_it walk_range (fun i H' => Same (hid r H) (hid r H') ∧ Rg H' r (c + 1 + 6 * i) ∧ ∃ (ts : List Addr) (cs : List Cl), H' D = some (.lst (ts.map V.ref)) ∧ ts.length = i ∧ ts.length = cs.length ∧ (∀ cl ∈ cs, cl.ok = true ∧ Cl.le highest cl) ∧ ∀ (j : Nat) (t : Addr) (cl : Cl), ts[j]? = some t → cs[j]? = some cl → t ≠ r ∧ t ≠ D ∧ H' t = some (.tup cl.vs))
      ⟨ext_upd S1 nDr (ext_free S1 nDr hD), R1.new hD, [], [], upd_same, rfl, rfl, fun _ h => absurd h (by simp), fun j t cl h => by simp at h⟩ (fun _ _ _ _ => trivial) ?_ ?_
    · rintro i y H2 H3 hi ⟨S, R, ts, cs, hl, hi2, hlen, hok, hall⟩ ⟨rfl, rfl⟩
      refine ⟨rfl, ?_⟩
      repeat (first | refine ⟨_, rfl, ?_⟩ | refine ⟨_, _, rfl, rfl, ?_⟩)
      refine ⟨r, l, _, ls, _, rfl, R, by omega, S.seq hL, hls, t0, t1, fun H4 t cl S4 R4 ntr ht hcl hle => ?_⟩
      have hl4 : H4 D = some (.lst (ts.map V.ref)) := ext_get S4 nDr hl
      have ntD : t ≠ D := ne_of ht hl4 (by intro z; cases z)
      refine ⟨_, hl4, by rw [List.length_map]; exact small1000 (by omega), ?_⟩
      refine ⟨ext_upd (S.trans S4) nDr (ext_free S1 nDr hD), (R4.upd nDr).mono (by omega), ts ++ [t], cs ++ [cl], by rw [upd_same, List.map_append]; rfl, by simp [hi2], by simp [hlen], ?_, ?_⟩
      · intro x hx
        rcases List.mem_append.mp hx with hx | hx
        · exact hok x hx
        · rw [List.mem_singleton.mp hx]; exact ⟨hcl, hle⟩
      · intro j t' cl' h1 h2
        by_cases hj : j < ts.length
        · rw [List.getElem?_append_left hj] at h1
          rw [List.getElem?_append_left (by omega)] at h2
          obtain ⟨a1, a2, a3⟩ := hall j t' cl' h1 h2
          exact ⟨a1, a2, by rw [upd_ne a2]; exact ext_get S4 a1 a3⟩
        · have hj2 := lt_of_get h1
          rw [List.length_append, List.length_singleton] at hj2
          have ej : j = ts.length := by omega
          subst ej
          rw [List.getElem?_append_right (Nat.le_refl _)] at h1
          rw [List.getElem?_append_right (by omega)] at h2
          simp only [Nat.sub_self, List.getElem?_cons_zero, Option.some.injEq, hlen] at h1 h2
          subst h1
          have h2' : cl = cl' := by simpa using h2
          subst h2'
          exact ⟨ntr, ntD, by rw [upd_ne ntD]; exact ht⟩
    · rintro H' ⟨S, R, ts, cs, hl, hi2, hlen, hok, hall⟩
      refine q _ _ cs S (R.mono (by omega)) ⟨ts, SqL.of (hid_get nDr hl), hlen, fun j t cl h1 h2 => ?_⟩ (fun x hx => (hok x hx).1) (fun x hx => (hok x hx).2) (by omega)
      obtain ⟨a1, a2, a3⟩ := hall j t cl h1 h2
      exact SqT.of (hid_get a1 a3)
end Dr
namespace Dr
open PySem L2
theorem SC__law_tally : FnScope ["line", "letter"] ["line"] (defScope s__law_tally) := ⟨rfl, rfl, rfl, by decide +kernel, rfl, by decide +kernel, by decide +kernel⟩

theorem ok__law_tally {P : Program} {w : World} {K : PySem.W.Frag} {mg : Str → Option Value} {base : Heap} (T : Txt K mg)  : FnOk P w K mg base CX0 1 T.a__law_tally T.fd__law_tally ["line"] (sp_law_tally K) := by
  have SC := SC__law_tally
  refine T.F__law_tally.ok SC (fun vs H Q E h => ?_) (fun cdv A outer s H vs Q E hr h => ?_)
  · obtain ⟨z, rfl, q⟩ := h
    rfl
  · obtain ⟨z, rfl, q⟩ := h
    refine ⟨_, (pss_one (ps_ret (pe_lc (own := [("letter", 1)]) rfl SC.nd (pi_str pe_str) (blkOk_by (N := ["line", "letter"]) (sc := defScope s__law_tally) (by decide +kernel)) (fun _ _ _ _ _ => by exact pg_name (i := 1) SC.nd rfl (by first | exact Or.inl rfl | exact Or.inr rfl)) (fun _ _ _ _ _ => by exact pts_nil) (fun _ _ _ _ _ => by exact (pe_bmK (K := K) rfl PySem.F.plainAttrs_str PySem.F.slot_str_count PySem.F.type_str_count mt_count (pv 0) (pa_cons (pv 1) pa_nil)))))), ?_⟩
    repeat (first | refine ⟨_, rfl, ?_⟩ | refine ⟨_, _, rfl, rfl, ?_⟩)
    intro D hD
    refine lc_it walk_str (fun i H' => Same H H' ∧ H' D = some (.lst (((tally z.cps.toList).take i).map V.int))) ⟨Same.new hD, upd_same⟩ (fun _ _ _ _ => trivial) ?_ ?_
    · rintro i y H2 H3 hi ⟨S, hl⟩ ⟨rfl, x, hx, rfl⟩
      refine ⟨rfl, ?_⟩
      repeat (first | refine ⟨_, rfl, ?_⟩ | refine ⟨_, _, rfl, rfl, ?_⟩)
      refine ⟨rfl, ?_⟩
      repeat (first | refine ⟨_, rfl, ?_⟩ | refine ⟨_, _, rfl, rfl, ?_⟩)
      have hx' : colN[i]? = some x := by rw [← abc_list]; simpa using hx
      refine ⟨_, hl, ?_, ?_, ?_⟩
      · rw [List.length_map]
        exact Nat.lt_of_le_of_lt (List.length_take_le _ _) (by exact Nat.lt_trans hi (by decide +kernel))
      · exact fun b o e => by
          rw [upd_ne (ne_of_none e hD)]
          exact S b o e
      · rw [upd_same, txt_count, take_one (l := tally z.cps.toList) (x := (z.cps.toList.count x : Int)) (by unfold tally; rw [List.getElem?_map, hx']; rfl), List.map_append]
        rfl
    · rintro H' ⟨S, hl⟩
      refine q _ _ S hD ?_
      rw [hl]
      rfl
end Dr
namespace Dr
open PySem L2
theorem SC__law_spoiled_orders : FnScope ["rng", "orders", "found", "place", "way", "first", "second", "some"] ["rng", "orders"] (defScope s__law_spoiled_orders) := ⟨rfl, rfl, rfl, by decide +kernel, rfl, by decide +kernel, by decide +kernel⟩

theorem ok__law_spoiled_orders {P : Program} {w : World} {K : PySem.W.Frag} {mg : Str → Option Value} {base : Heap} (T : Txt K mg) (G__law_draw : FnOk P w K mg base CX0 1 T.a__law_draw T.fd__law_draw ["rng", "limit"] (sp_law_draw K)) : FnOk P w K mg base CX0 2 T.a__law_spoiled_orders T.fd__law_spoiled_orders ["rng", "orders"] (sp_law_spoiled_orders K) := by
  have SC := SC__law_spoiled_orders
  refine T.F__law_spoiled_orders.ok SC (fun vs H Q E h => ?_) (fun cdv A outer s H vs Q E hr h => ?_)
  · obtain ⟨r, d, c, D, rfl, hR, hc, hD, hlD, q⟩ := h
    rfl
  · obtain ⟨r, d, c, D, rfl, hR, hc, hD, hlD, q⟩ := h
    refine ⟨_, (pss_cons (ps_set (i := 2) SC.nd rfl (by first | exact Or.inl rfl | exact Or.inr rfl) (pe_callTy (call_list_ofK (K := K) rfl) (by rfl) T.n_list (by decide +kernel) (pa_cons (pv 1) pa_nil)))
       (pss_cons (ps_for PassesOwn.never rfl (pi_enum (by rfl) T.n_enumerate (pa_cons (pv 1) pa_nil)) (pg_tup rfl (pgs_cons (pg_name (i := 3) SC.nd rfl (by first | exact Or.inl rfl | exact Or.inr rfl)) (pgs_cons (pg_tup rfl (pgs_cons (pg_name (i := 4) SC.nd rfl (by first | exact Or.inl rfl | exact Or.inr rfl)) (pgs_cons (pg_name (i := 5) SC.nd rfl (by first | exact Or.inl rfl | exact Or.inr rfl)) (pgs_cons (pg_name (i := 6) SC.nd rfl (by first | exact Or.inl rfl | exact Or.inr rfl)) pgs_nil)))) pgs_nil)))
       (pss_cons (ps_set (i := 7) SC.nd rfl (by first | exact Or.inl rfl | exact Or.inr rfl) (pe_lst (pa_cons (pe_tup (pa_cons pe_int (pa_cons (pv 5) (pa_cons (pv 6) pa_nil)))) (pa_cons (pe_tup (pa_cons (pe_un un_neg pe_int) (pa_cons (pv 5) (pa_cons (pv 6) pa_nil)))) (pa_cons (pe_tup (pa_cons pe_str (pa_cons (pv 5) (pa_cons (pv 6) pa_nil)))) (pa_cons (pe_tup (pa_cons pe_str (pa_cons (pv 5) (pa_cons (pv 6) pa_nil)))) pa_nil))))))
       (pss_cons (ps_set (i := 7) SC.nd rfl (by first | exact Or.inl rfl | exact Or.inr rfl) (pe_op op_cat (pv 7) (pe_lst (pa_cons (pe_tup (pa_cons (pv 4) (pa_cons (pv 5) (pa_cons (pv 5) pa_nil)))) (pa_cons (pe_tup (pa_cons (pv 4) (pa_cons pe_str (pa_cons (pv 6) pa_nil)))) (pa_cons (pe_tup (pa_cons (pv 4) (pa_cons (pv 5) (pa_cons pe_str pa_nil)))) (pa_cons (pe_tup (pa_cons (pv 4) (pa_cons pe_str (pa_cons (pv 6) pa_nil)))) pa_nil)))))))
       (pss_cons (ps_set (i := 7) SC.nd rfl (by first | exact Or.inl rfl | exact Or.inr rfl) (pe_op op_cat (pv 7) (pe_lst (pa_cons (pe_tup (pa_cons (pv 4) (pa_cons (pv 5) (pa_cons pe_str pa_nil)))) (pa_cons (pe_tup (pa_cons pe_str (pa_cons (pv 5) (pa_cons (pv 6) pa_nil)))) (pa_cons (pe_tup (pa_cons pe_str (pa_cons (pv 5) (pa_cons (pv 6) pa_nil)))) pa_nil))))))
       (pss_one (ps_if (pt_cmpR op_eq (pe_call G__law_draw (hr.mono (by decide)) (by rfl) T.m__law_draw T.F__law_draw.kp T.b__law_draw .nil pass0 (pa_cons (pv 0) (pa_cons pe_int pa_nil))) pe_int (nomark _)) (pss_one (ps_asg (pe_ix (ix_listK (K := K) rfl) (pv 7) (pe_call G__law_draw (hr.mono (by decide)) (by rfl) T.m__law_draw T.F__law_draw.kp T.b__law_draw .nil pass0 (pa_cons (pv 0) (pa_cons (pe_callB (call_len_seqK (K := K) rfl) (by rfl) T.n_len (by decide +kernel) (pa_cons (pv 7) pa_nil)) pa_nil))) (fun _ _ => rfl)) (pg_sub (pv 2) (pv 3) set_list)))
       pss_nil))))))
       (pss_one (ps_ret (pv 2))))), ?_⟩
    obtain ⟨ts, hts, htl, hT⟩ := hD
    have hts0 : SqL K H d (ts.map V.ref) := hid_same.seq hts
    repeat (first | refine ⟨_, rfl, ?_⟩ | refine ⟨_, _, rfl, rfl, ?_⟩)
    refine ⟨_, _, rfl, .inl hts0, fun p hp => ?_⟩
    have npr := hR.ne hp
    have hp0 := hp
    have S0 : Same (hid r H) (hid r (upd H p (.lst (ts.map V.ref)))) := hid_new hp
    repeat (first | refine ⟨_, rfl, ?_⟩ | refine ⟨_, _, rfl, rfl, ?_⟩)
    refine ⟨_, _, rfl, (Same.new hp).seq hts0, ?_⟩
    refine for_it walk_enum (fun i σ H' => (Same (hid r H) (hid r H') ∧ Rg H' r (c + 2 * i) ∧ ∃ (us : List Addr) (E : List Cl), H' p = some (.lst (us.map V.ref)) ∧ us.length = D.length ∧ us.length = E.length ∧ ∀ (j : Nat) (t : Addr) (e : Cl), us[j]? = some t → E[j]? = some e → SqT K (hid p (hid r H')) t e.vs) ∧ ∃ u3 u4 u5 u6 u7, σ = [some (.ref r), some (.ref d), some (.ref p), u3, u4, u5, u6, u7])
      ⟨⟨S0, hR.new hp, ts, D, upd_same, htl, htl, fun j t e h1 h2 => Same.sqT (hid2_new hp0) (hT j t e h1 h2)⟩, none, none, none, none, none, rfl⟩ (fun i σ H' _ h => (h.1.1.trans hid_same).seq hts) ?_ ?_
    · rintro i y σ H1 H2 hi ⟨⟨S, R, us, E, hp, hul, hue, hU⟩, u3, u4, u5, u6, u7, rfl⟩ ⟨Tt, x, v, rfl, hn, rfl, hx, hv⟩
      cases hx
      obtain ⟨t, ht, rfl⟩ := map_get hv
      obtain ⟨cl, hcl⟩ := get_of_lt (l := D) (by rw [← htl]; exact lt_of_get ht)
      have hi1 : i < 1000 := by have := lt_of_get hcl; omega
      have SS := S
      have hpr1 := hp
      have S := hid_new (r := r) (o := .tup [.int (i : Nat), .ref t]) hn
      have R := R.new (o := .tup [.int (i : Nat), .ref t]) hn
      have hp := (Same.new (o := .tup [.int (i : Nat), .ref t]) hn) _ _ hp
      have M : Menu r (upd H1 Tt (.tup [.int (i : Nat), .ref t])) [] := Menu.nil
      have hTT := Same.sqT ((SS.trans S).trans hid_same) (hT i t cl ht hcl)
      refine ⟨_, _, rfl, SqT.of upd_same, rfl, _, _, rfl, ?_⟩
      refine ⟨_, _, rfl, _, _, rfl, hTT, rfl, _, _, rfl, _, _, rfl, _, _, rfl, rfl, rfl, ?_⟩
      repeat (first | refine ⟨_, rfl, ?_⟩ | refine ⟨_, _, rfl, rfl, ?_⟩)
      refine ⟨by show 3 ≤ sizeLine; decide, fun t1 n1 => ?_⟩
      have M := M.tup (c := ⟨.m 0, cl.a, cl.b⟩) n1 (R.ne n1)
      have S := S.trans (hid_new (o := .tup (Cl.mk (.m 0) cl.a cl.b).vs) n1)
      have hp := (Same.new (o := .tup (Cl.mk (.m 0) cl.a cl.b).vs) n1) _ _ hp
      have R := R.new (o := .tup (Cl.mk (.m 0) cl.a cl.b).vs) n1
      repeat (first | refine ⟨_, rfl, ?_⟩ | refine ⟨_, _, rfl, rfl, ?_⟩)
      refine ⟨by show 3 ≤ sizeLine; decide, fun t2 n2 => ?_⟩
      have M := M.tup (c := ⟨.m (-7), cl.a, cl.b⟩) n2 (R.ne n2)
      have S := S.trans (hid_new (o := .tup (Cl.mk (.m (-7)) cl.a cl.b).vs) n2)
      have hp := (Same.new (o := .tup (Cl.mk (.m (-7)) cl.a cl.b).vs) n2) _ _ hp
      have R := R.new (o := .tup (Cl.mk (.m (-7)) cl.a cl.b).vs) n2
      repeat (first | refine ⟨_, rfl, ?_⟩ | refine ⟨_, _, rfl, rfl, ?_⟩)
      refine ⟨by show 3 ≤ sizeLine; decide, fun t3 n3 => ?_⟩
      have M := M.tup (c := ⟨.s "each", cl.a, cl.b⟩) n3 (R.ne n3)
      have S := S.trans (hid_new (o := .tup (Cl.mk (.s "each") cl.a cl.b).vs) n3)
      have hp := (Same.new (o := .tup (Cl.mk (.s "each") cl.a cl.b).vs) n3) _ _ hp
      have R := R.new (o := .tup (Cl.mk (.s "each") cl.a cl.b).vs) n3
      repeat (first | refine ⟨_, rfl, ?_⟩ | refine ⟨_, _, rfl, rfl, ?_⟩)
      refine ⟨by show 3 ≤ sizeLine; decide, fun t4 n4 => ?_⟩
      have M := M.tup (c := ⟨.s "", cl.a, cl.b⟩) n4 (R.ne n4)
      have S := S.trans (hid_new (o := .tup (Cl.mk (.s "") cl.a cl.b).vs) n4)
      have hp := (Same.new (o := .tup (Cl.mk (.s "") cl.a cl.b).vs) n4) _ _ hp
      have R := R.new (o := .tup (Cl.mk (.s "") cl.a cl.b).vs) n4
      repeat (first | refine ⟨_, rfl, ?_⟩ | refine ⟨_, _, rfl, rfl, ?_⟩)
      refine ⟨by show 4 ≤ sizeLine; decide, fun l1 m1 => ?_⟩
      have M := M.new (o := .lst [.ref t1, .ref t2, .ref t3, .ref t4]) m1
      have S := S.trans (hid_new (o := .lst [.ref t1, .ref t2, .ref t3, .ref t4]) m1)
      have hp := (Same.new (o := .lst [.ref t1, .ref t2, .ref t3, .ref t4]) m1) _ _ hp
      have R := R.new (o := .lst [.ref t1, .ref t2, .ref t3, .ref t4]) m1
      have hl := upd_at (o := .lst [.ref t1, .ref t2, .ref t3, .ref t4]) m1
      repeat (first | refine ⟨_, rfl, ?_⟩ | refine ⟨_, _, rfl, rfl, ?_⟩)
      refine ⟨by show 3 ≤ sizeLine; decide, fun t5 n5 => ?_⟩
      have M := M.tup (c := ⟨cl.k, cl.a, cl.a⟩) n5 (R.ne n5)
      have hl := (Same.new (o := .tup (Cl.mk cl.k cl.a cl.a).vs) n5) _ _ hl
      have S := S.trans (hid_new (o := .tup (Cl.mk cl.k cl.a cl.a).vs) n5)
      have hp := (Same.new (o := .tup (Cl.mk cl.k cl.a cl.a).vs) n5) _ _ hp
      have R := R.new (o := .tup (Cl.mk cl.k cl.a cl.a).vs) n5
      repeat (first | refine ⟨_, rfl, ?_⟩ | refine ⟨_, _, rfl, rfl, ?_⟩)
      refine ⟨by show 3 ≤ sizeLine; decide, fun t6 n6 => ?_⟩
      have M := M.tup (c := ⟨cl.k, "g", cl.b⟩) n6 (R.ne n6)
      have hl := (Same.new (o := .tup (Cl.mk cl.k "g" cl.b).vs) n6) _ _ hl
      have S := S.trans (hid_new (o := .tup (Cl.mk cl.k "g" cl.b).vs) n6)
      have hp := (Same.new (o := .tup (Cl.mk cl.k "g" cl.b).vs) n6) _ _ hp
      have R := R.new (o := .tup (Cl.mk cl.k "g" cl.b).vs) n6
      repeat (first | refine ⟨_, rfl, ?_⟩ | refine ⟨_, _, rfl, rfl, ?_⟩)
      refine ⟨by show 3 ≤ sizeLine; decide, fun t7 n7 => ?_⟩
      have M := M.tup (c := ⟨cl.k, cl.a, "A"⟩) n7 (R.ne n7)
      have hl := (Same.new (o := .tup (Cl.mk cl.k cl.a "A").vs) n7) _ _ hl
      have S := S.trans (hid_new (o := .tup (Cl.mk cl.k cl.a "A").vs) n7)
      have hp := (Same.new (o := .tup (Cl.mk cl.k cl.a "A").vs) n7) _ _ hp
      have R := R.new (o := .tup (Cl.mk cl.k cl.a "A").vs) n7
      repeat (first | refine ⟨_, rfl, ?_⟩ | refine ⟨_, _, rfl, rfl, ?_⟩)
      refine ⟨by show 3 ≤ sizeLine; decide, fun t8 n8 => ?_⟩
      have M := M.tup (c := ⟨cl.k, "", cl.b⟩) n8 (R.ne n8)
      have hl := (Same.new (o := .tup (Cl.mk cl.k "" cl.b).vs) n8) _ _ hl
      have S := S.trans (hid_new (o := .tup (Cl.mk cl.k "" cl.b).vs) n8)
      have hp := (Same.new (o := .tup (Cl.mk cl.k "" cl.b).vs) n8) _ _ hp
      have R := R.new (o := .tup (Cl.mk cl.k "" cl.b).vs) n8
      repeat (first | refine ⟨_, rfl, ?_⟩ | refine ⟨_, _, rfl, rfl, ?_⟩)
      refine ⟨by show 4 ≤ sizeLine; decide, fun l2 m2 => ?_⟩
      have M := M.new (o := .lst [.ref t5, .ref t6, .ref t7, .ref t8]) m2
      have hl := (Same.new (o := .lst [.ref t5, .ref t6, .ref t7, .ref t8]) m2) _ _ hl
      have S := S.trans (hid_new (o := .lst [.ref t5, .ref t6, .ref t7, .ref t8]) m2)
      have hp := (Same.new (o := .lst [.ref t5, .ref t6, .ref t7, .ref t8]) m2) _ _ hp
      have R := R.new (o := .lst [.ref t5, .ref t6, .ref t7, .ref t8]) m2
      refine ⟨l1, l2, _, _, rfl, rfl, hl, upd_same, by show 8 ≤ sizeLine; decide, fun l3 m3 => ?_⟩
      have M := M.new (o := .lst ([.ref t1, .ref t2, .ref t3, .ref t4] ++ [.ref t5, .ref t6, .ref t7, .ref t8])) m3
      have S := S.trans (hid_new (o := .lst ([.ref t1, .ref t2, .ref t3, .ref t4] ++ [.ref t5, .ref t6, .ref t7, .ref t8])) m3)
      have hp := (Same.new (o := .lst ([.ref t1, .ref t2, .ref t3, .ref t4] ++ [.ref t5, .ref t6, .ref t7, .ref t8])) m3) _ _ hp
      have R := R.new (o := .lst ([.ref t1, .ref t2, .ref t3, .ref t4] ++ [.ref t5, .ref t6, .ref t7, .ref t8])) m3
      have hl := upd_at (o := .lst ([.ref t1, .ref t2, .ref t3, .ref t4] ++ [.ref t5, .ref t6, .ref t7, .ref t8])) m3
      repeat (first | refine ⟨_, rfl, ?_⟩ | refine ⟨_, _, rfl, rfl, ?_⟩)
      refine ⟨by show 3 ≤ sizeLine; decide, fun t9 n9 => ?_⟩
      have M := M.tup (c := ⟨cl.k, cl.a, "ab"⟩) n9 (R.ne n9)
      have hl := (Same.new (o := .tup (Cl.mk cl.k cl.a "ab").vs) n9) _ _ hl
      have S := S.trans (hid_new (o := .tup (Cl.mk cl.k cl.a "ab").vs) n9)
      have hp := (Same.new (o := .tup (Cl.mk cl.k cl.a "ab").vs) n9) _ _ hp
      have R := R.new (o := .tup (Cl.mk cl.k cl.a "ab").vs) n9
      repeat (first | refine ⟨_, rfl, ?_⟩ | refine ⟨_, _, rfl, rfl, ?_⟩)
      refine ⟨by show 3 ≤ sizeLine; decide, fun t10 n10 => ?_⟩
      have M := M.tup (c := ⟨.s "ALL", cl.a, cl.b⟩) n10 (R.ne n10)
      have hl := (Same.new (o := .tup (Cl.mk (.s "ALL") cl.a cl.b).vs) n10) _ _ hl
      have S := S.trans (hid_new (o := .tup (Cl.mk (.s "ALL") cl.a cl.b).vs) n10)
      have hp := (Same.new (o := .tup (Cl.mk (.s "ALL") cl.a cl.b).vs) n10) _ _ hp
      have R := R.new (o := .tup (Cl.mk (.s "ALL") cl.a cl.b).vs) n10
      repeat (first | refine ⟨_, rfl, ?_⟩ | refine ⟨_, _, rfl, rfl, ?_⟩)
      refine ⟨by show 3 ≤ sizeLine; decide, fun t11 n11 => ?_⟩
      have M := M.tup (c := ⟨.s "1", cl.a, cl.b⟩) n11 (R.ne n11)
      have hl := (Same.new (o := .tup (Cl.mk (.s "1") cl.a cl.b).vs) n11) _ _ hl
      have S := S.trans (hid_new (o := .tup (Cl.mk (.s "1") cl.a cl.b).vs) n11)
      have hp := (Same.new (o := .tup (Cl.mk (.s "1") cl.a cl.b).vs) n11) _ _ hp
      have R := R.new (o := .tup (Cl.mk (.s "1") cl.a cl.b).vs) n11
      repeat (first | refine ⟨_, rfl, ?_⟩ | refine ⟨_, _, rfl, rfl, ?_⟩)
      refine ⟨by show 3 ≤ sizeLine; decide, fun l4 m4 => ?_⟩
      have M := M.new (o := .lst [.ref t9, .ref t10, .ref t11]) m4
      have hl := (Same.new (o := .lst [.ref t9, .ref t10, .ref t11]) m4) _ _ hl
      have S := S.trans (hid_new (o := .lst [.ref t9, .ref t10, .ref t11]) m4)
      have hp := (Same.new (o := .lst [.ref t9, .ref t10, .ref t11]) m4) _ _ hp
      have R := R.new (o := .lst [.ref t9, .ref t10, .ref t11]) m4
      refine ⟨l3, l4, _, _, rfl, rfl, hl, upd_same, by show 11 ≤ sizeLine; decide, fun l5 m5 => ?_⟩
      have nl5 := R.ne m5
      have M := M.new (o := .lst (([.ref t1, .ref t2, .ref t3, .ref t4] ++ [.ref t5, .ref t6, .ref t7, .ref t8]) ++ [.ref t9, .ref t10, .ref t11])) m5
      have S := S.trans (hid_new (o := .lst (([.ref t1, .ref t2, .ref t3, .ref t4] ++ [.ref t5, .ref t6, .ref t7, .ref t8]) ++ [.ref t9, .ref t10, .ref t11])) m5)
      have hp := (Same.new (o := .lst (([.ref t1, .ref t2, .ref t3, .ref t4] ++ [.ref t5, .ref t6, .ref t7, .ref t8]) ++ [.ref t9, .ref t10, .ref t11])) m5) _ _ hp
      have R := R.new (o := .lst (([.ref t1, .ref t2, .ref t3, .ref t4] ++ [.ref t5, .ref t6, .ref t7, .ref t8]) ++ [.ref t9, .ref t10, .ref t11])) m5
      have hl := upd_at (o := .lst (([.ref t1, .ref t2, .ref t3, .ref t4] ++ [.ref t5, .ref t6, .ref t7, .ref t8]) ++ [.ref t9, .ref t10, .ref t11])) m5
      obtain ⟨vs, evs, hvl⟩ : ∃ vs : List V, vs = ([.ref t1, .ref t2, .ref t3, .ref t4] ++ [.ref t5, .ref t6, .ref t7, .ref t8]) ++ [.ref t9, .ref t10, .ref t11] ∧ vs.length = 11 := ⟨_, rfl, rfl⟩
      have M : Menu r _ (([.ref t1, .ref t2, .ref t3, .ref t4] ++ [.ref t5, .ref t6, .ref t7, .ref t8]) ++ [.ref t9, .ref t10, .ref t11]) := M
      rw [← evs] at hl M S hp R ⊢
      repeat (first | refine ⟨_, rfl, ?_⟩ | refine ⟨_, _, rfl, rfl, ?_⟩)
      refine ⟨r, 5, _, rfl, R, by omega, by decide, by decide, fun G1 n1 S1 R1 a0 a1 => ?_⟩
      have hl1 := ext_get S1 nl5 hl
      have hp1 := ext_get S1 npr hp
      have M1 := M.ext S1
      have S1 := S.trans S1
      repeat (first | refine ⟨_, rfl, ?_⟩ | refine ⟨_, _, rfl, rfl, ?_⟩)
      refine ⟨rfl, _, rfl, if_two (fun e => ?_) (fun e => ?_)⟩
      · repeat (first | refine ⟨_, rfl, ?_⟩ | refine ⟨_, _, rfl, rfl, ?_⟩)
        refine ⟨_, _, rfl, .inl (SqL.of hl1), ?_⟩
        refine ⟨r, _, _, rfl, R1, by omega, by omega, by omega, fun G2 n2 S2 R2 b0 b1 => ?_⟩
        obtain ⟨j, v, rfl, hj, hv, ev, hvm⟩ := pick (xs := vs) b0 b1
        obtain ⟨u, c', rfl, nu, hu⟩ := M1 v hvm
        refine ⟨l5, _, _, _, rfl, rfl, SqL.of (ext_get S2 nl5 hl1), ev, ?_⟩
        have hp2 := ext_get S2 npr hp1
        have hi2 : i < us.length := by rw [hul, ← htl]; exact lt_of_get ht
        repeat (first | refine ⟨_, rfl, ?_⟩ | refine ⟨_, _, rfl, rfl, ?_⟩)
        refine ⟨p, _, _, i, rfl, rfl, hp2, by rw [List.length_map]; exact ixN_nat hi2, ?_⟩
        have S3 : Same (hid r H) (hid r (upd G2 p (.lst ((us.set i u).map V.ref)))) := ext_upd (SS.trans (S1.trans S2)) npr hp0
        have e3 : (us.map V.ref).set i (.ref u) = (us.set i u).map V.ref := by rw [List.map_set]
        rw [e3]
        refine ⟨⟨S3, (R2.upd npr).mono (by omega), us.set i u, E.set i c', upd_same, by rw [List.length_set, hul], by rw [List.length_set, List.length_set, hue], fun j' t' e' h1 h2 => ?_⟩, _, _, _, _, _, rfl⟩
        by_cases ej : j' = i
        · have hE : i < E.length := by omega
          rw [ej, List.getElem?_set_self hi2] at h1
          rw [ej, List.getElem?_set_self hE] at h2
          rw [← Option.some.inj h1, ← Option.some.inj h2]
          have nup : u ≠ p := ne_of (ext_get S2 nu hu) hp2 (by intro z; cases z)
          exact SqT.of (hid_get nup (hid_get nu (by rw [upd_ne nup]; exact ext_get S2 nu hu)))
        · rw [List.getElem?_set_ne (Ne.symm ej)] at h1 h2
          exact Same.sqT ((hid_mono (S1.trans S2)).trans hid2_upd) (hU j' t' e' h1 h2)
      · exact ⟨⟨SS.trans S1, R1.mono (by omega), us, E, hp1, hul, hue, fun j' t' e' h1 h2 => Same.sqT (hid_mono S1) (hU j' t' e' h1 h2)⟩, _, _, _, _, _, rfl⟩
    · rintro σ H' ⟨⟨S, R, us, E, hl, hul, hue, hU⟩, u3, u4, u5, u6, u7, rfl⟩
      repeat (first | refine ⟨_, rfl, ?_⟩ | refine ⟨_, _, rfl, rfl, ?_⟩)
      exact q _ p E S (R.mono (by rw [List.length_map, htl]; omega)) ⟨us, SqL.of (hid_get npr hl), hue, fun j t e h1 h2 => Same.sqT hid_same (hU j t e h1 h2)⟩
end Dr
namespace Dr
open PySem L2
theorem SC__law_bad_order : FnScope ["orders", "place", "way", "first", "second"] ["orders"] (defScope s__law_bad_order) := ⟨rfl, rfl, rfl, by decide +kernel, rfl, by decide +kernel, by decide +kernel⟩

theorem ok__law_bad_order {P : Program} {w : World} {K : PySem.W.Frag} {mg : Str → Option Value} {base : Heap} (T : Txt K mg)  : FnOk P w K mg base CX0 1 T.a__law_bad_order T.fd__law_bad_order ["orders"] (sp_law_bad_order K) := by
  have SC := SC__law_bad_order
  refine T.F__law_bad_order.ok SC (fun vs H Q E h => ?_) (fun cdv A outer s H vs Q E hr h => ?_)
  · obtain ⟨d, D, rfl, ⟨ts, hL, hlen, hT⟩, qb, qg⟩ := h
    rfl
  · obtain ⟨d, D, rfl, ⟨ts, hL, hlen, hT⟩, qb, qg⟩ := h
    refine ⟨_, (pss_cons (ps_for PassesOwn.never rfl (pi_enum (by rfl) T.n_enumerate (pa_cons (pv 0) pa_nil)) (pg_tup rfl (pgs_cons (pg_name (i := 1) SC.nd rfl (by first | exact Or.inl rfl | exact Or.inr rfl)) (pgs_cons (pg_tup rfl (pgs_cons (pg_name (i := 2) SC.nd rfl (by first | exact Or.inl rfl | exact Or.inr rfl)) (pgs_cons (pg_name (i := 3) SC.nd rfl (by first | exact Or.inl rfl | exact Or.inr rfl)) (pgs_cons (pg_name (i := 4) SC.nd rfl (by first | exact Or.inl rfl | exact Or.inr rfl)) pgs_nil)))) pgs_nil)))
       (C8.pss_cut (ps_if (PW.pt (pw_or (PW.pt (pw_and (pt_val (pe_callB (call_isiK' (K := K) rfl) (by rfl) T.n_isinstance (by decide +kernel) (pa_cons (pv 2) (pa_cons (pe_bltn (v := .ty "str") (by rfl) T.n_str (by decide +kernel) rfl) pa_nil)))) (pw_and1 (pt_cmpR (op_notIn_seqK (K := K) rfl) (pv 2) (pe_tup (pa_cons pe_str (pa_cons pe_str pa_nil))) (by with_unfolding_all rfl))))) (pw_or1 (PW.pt (pw_and (pt_not (pt_val (pe_callB (call_isiK' (K := K) rfl) (by rfl) T.n_isinstance (by decide +kernel) (pa_cons (pv 2) (pa_cons (pe_bltn (v := .ty "str") (by rfl) T.n_str (by decide +kernel) rfl) pa_nil))))) (pw_and1 (pt_cmpR op_lt (pv 2) pe_int (nomark _)))))))) (pss_one (ps_ret (pv 1)))
       pss_nil)
       (pss_one (ps_if (PW.pt (pw_or (pt_cmpR (op_notIn_seqK (K := K) rfl) (pv 3) (pe_callTy (call_list_text rfl) (by rfl) T.n_list (by decide +kernel) (pa_cons pe_str pa_nil)) (by with_unfolding_all rfl)) (pw_or (pt_cmpR (op_notIn_seqK (K := K) rfl) (pv 4) (pe_callTy (call_list_text rfl) (by rfl) T.n_list (by decide +kernel) (pa_cons pe_str pa_nil)) (by with_unfolding_all rfl)) (pw_or1 (pt_cmpR op_eq (pv 3) (pv 4) (nomark _)))))) (pss_one (ps_ret (pv 1)))
       pss_nil))))
       (pss_one (ps_ret pe_non))), ?_⟩
    repeat (first | refine ⟨_, rfl, ?_⟩ | refine ⟨_, _, rfl, rfl, ?_⟩)
    refine ⟨_, _, rfl, hL, ?_⟩
    refine for_it walk_enum (fun i σ H' => (Same H H' ∧ ∀ j c, j < i → D[j]? = some c → c.ok = true) ∧ ∃ u1 u2 u3 u4, σ = [some (.ref d), u1, u2, u3, u4]) ⟨⟨Same.refl _, fun j c h => absurd h (Nat.not_lt_zero _)⟩, none, none, none, none, rfl⟩ (fun i σ H' _ p => p.1.1.seq hL) ?_ ?_
    · rintro i y σ H1 H2 hi ⟨⟨S, old⟩, u1, u2, u3, u4, rfl⟩ ⟨Tt, x, c, rfl, hn, rfl, hx, hc⟩
      cases hx
      obtain ⟨t, ht, rfl⟩ := map_get hc
      obtain ⟨cl, hcl⟩ := get_of_lt (l := D) (by rw [← hlen]; exact lt_of_get ht)
      have S1 := S.trans (Same.new (o := .tup [.int (i : Nat), .ref t]) hn)
      have hTT := Same.sqT S1 (hT i t cl ht hcl)
      have bad : cl.ok = false → ∀ H', Same H H' → Q (.int (i : Nat)) H' := fun e => qb i (first_some hcl (by rw [e]; rfl) fun j y hj hy => by rw [old j y hj hy]; rfl)
      have good : cl.ok = true → ∀ j c', j < i + 1 → D[j]? = some c' → c'.ok = true := fun e j c' hj h => by
        by_cases q : j < i
        · exact old j c' q h
        · have q' : j = i := by omega
          rw [q', hcl] at h
          rw [← Option.some.inj h]; exact e
      have okk : cl.k.ok = false → cl.ok = false := fun e => by unfold Cl.ok; rw [e]; rfl
      refine ⟨_, _, rfl, SqT.of upd_same, rfl, _, _, rfl, ?_⟩
      refine ⟨_, _, rfl, _, _, rfl, hTT, rfl, _, _, rfl, _, _, rfl, _, _, rfl, rfl, rfl, ?_⟩
      refine ⟨fun σ' H' => Same H H' ∧ cl.k.ok = true ∧ σ' = [some (.ref d), some (.int (i : Nat)), some cl.k.v, some (.str cl.a), some (.str cl.b)], ?_, ?_⟩
      · cases ek : cl.k with
        | m m =>
          rw [ek] at okk
          repeat (first | refine ⟨_, rfl, ?_⟩ | refine ⟨_, _, rfl, rfl, ?_⟩)
          refine ⟨_, _, .type "int", .type "str", false, rfl, .ty _, .base (.int m), kit_ty (by decide +kernel), _, rfl, ?_⟩
          refine iteF (A := True) ?_
          refine iteF (A := True) ?_
          repeat (first | refine ⟨_, rfl, ?_⟩ | refine ⟨_, _, rfl, rfl, ?_⟩)
          refine ⟨_, _, .type "int", .type "str", false, rfl, .ty _, .base (.int m), kit_ty (by decide +kernel), _, rfl, ?_⟩
          refine iteT (B := True) ?_
          repeat (first | refine ⟨_, rfl, ?_⟩ | refine ⟨_, _, rfl, rfl, ?_⟩)
          refine if_two (fun h => ?_) (fun h => ?_)
          · repeat (first | refine ⟨_, rfl, ?_⟩ | refine ⟨_, _, rfl, rfl, ?_⟩)
            exact bad (okk (decide_eq_false (by omega))) _ S1
          · exact ⟨S1, decide_eq_true (by omega), rfl⟩
        | s z =>
          rw [ek] at okk
          repeat (first | refine ⟨_, rfl, ?_⟩ | refine ⟨_, _, rfl, rfl, ?_⟩)
          refine ⟨_, _, .type "str", .type "str", true, rfl, .ty _, .base (.str z), kit_ty (by decide +kernel), _, rfl, ?_⟩
          refine iteT (B := True) ?_
          repeat (first | refine ⟨_, rfl, ?_⟩ | refine ⟨_, _, rfl, rfl, ?_⟩)
          refine ⟨by show 2 ≤ sizeLine; decide, fun p hp => ?_⟩
          refine ⟨p, [.str "all", .str "swap"], rfl, .inr (SqT.of upd_same), rfl, rfl, ?_⟩
          have e3 : (if (true : Bool) = true then !inV (Kd.s z).v [.str "all", .str "swap"] else inV (Kd.s z).v [.str "all", .str "swap"]) = !decide (z = "all" ∨ z = "swap") := notin_two
          rw [e3]
          repeat (first | refine ⟨_, rfl, ?_⟩ | refine ⟨_, _, rfl, rfl, ?_⟩)
          have S2 := S1.trans (Same.new (o := .tup [.str "all", .str "swap"]) hp)
          refine if_two_not (fun h => ?_) (fun h => ?_)
          · refine iteT (B := True) ?_
            repeat (first | refine ⟨_, rfl, ?_⟩ | refine ⟨_, _, rfl, rfl, ?_⟩)
            refine bad (okk (decide_eq_false (fun hz => h ?_))) _ S2
            simpa using hz
          · refine iteF (A := True) ?_
            repeat (first | refine ⟨_, rfl, ?_⟩ | refine ⟨_, _, rfl, rfl, ?_⟩)
            refine ⟨_, _, .type "str", .type "str", true, rfl, .ty _, .base (.str z), kit_ty (by decide +kernel), _, rfl, ?_⟩
            refine iteF (A := True) ?_
            refine iteF (A := True) ?_
            exact ⟨S2, decide_eq_true (by simpa using h), rfl⟩
      · rintro σ' H3 ⟨S3, hk, rfl⟩
        repeat (first | refine ⟨_, rfl, ?_⟩ | refine ⟨_, _, rfl, rfl, ?_⟩)
        refine ⟨by decide +kernel, fun l1 n1 => ?_⟩
        rw [abc_signs]
        refine ⟨l1, colV, rfl, .inl (SqL.of upd_same), rfl, flat_strs _, ?_⟩
        rw [notin_abc]
        have S4 := S3.trans (Same.new (o := .lst colV) n1)
        cases ea : isC cl.a with
        | false =>
          repeat (first | refine ⟨_, rfl, ?_⟩ | refine ⟨_, _, rfl, rfl, ?_⟩)
          refine iteT (B := True) ?_
          refine iteT (B := True) ?_
          repeat (first | refine ⟨_, rfl, ?_⟩ | refine ⟨_, _, rfl, rfl, ?_⟩)
          exact bad (by unfold Cl.ok; rw [ea]; simp) _ S4
        | true =>
          repeat (first | refine ⟨_, rfl, ?_⟩ | refine ⟨_, _, rfl, rfl, ?_⟩)
          refine iteF (A := True) ?_
          repeat (first | refine ⟨_, rfl, ?_⟩ | refine ⟨_, _, rfl, rfl, ?_⟩)
          refine ⟨by decide +kernel, fun l2 n2 => ?_⟩
          rw [abc_signs]
          refine ⟨l2, colV, rfl, .inl (SqL.of upd_same), rfl, flat_strs _, ?_⟩
          rw [notin_abc]
          have S5 := S4.trans (Same.new (o := .lst colV) n2)
          cases eb : isC cl.b with
          | false =>
            repeat (first | refine ⟨_, rfl, ?_⟩ | refine ⟨_, _, rfl, rfl, ?_⟩)
            refine iteT (B := True) ?_
            refine iteT (B := True) ?_
            repeat (first | refine ⟨_, rfl, ?_⟩ | refine ⟨_, _, rfl, rfl, ?_⟩)
            exact bad (by unfold Cl.ok; rw [eb]; simp) _ S5
          | true =>
            repeat (first | refine ⟨_, rfl, ?_⟩ | refine ⟨_, _, rfl, rfl, ?_⟩)
            refine iteF (A := True) ?_
            repeat (first | refine ⟨_, rfl, ?_⟩ | refine ⟨_, _, rfl, rfl, ?_⟩)
            refine ⟨rfl, _, rfl, if_two (fun h => ?_) (fun h => ?_)⟩
            · repeat (first | refine ⟨_, rfl, ?_⟩ | refine ⟨_, _, rfl, rfl, ?_⟩)
              exact bad (by unfold Cl.ok; rw [V.str.inj h]; simp) _ S5
            · exact ⟨⟨S5, good (Cl.mk_ok (k := cl.k) (a := cl.a) (b := cl.b) hk ea eb (fun z => h (by rw [z])))⟩, _, _, _, _, rfl⟩
    · rintro σ H' ⟨⟨S, old⟩, u1, u2, u3, u4, rfl⟩
      repeat (first | refine ⟨_, rfl, ?_⟩ | refine ⟨_, _, rfl, rfl, ?_⟩)
      exact qg (first_none fun j y hy => by
        rw [old j y (by have := lt_of_get hy; simpa [hlen] using this) hy]; rfl) _ S
end Dr
namespace Dr
open PySem L2
theorem SC__law_spoiled_numbers : FnScope ["rng", "numbers", "way", "place", "below", "later", "number"] ["rng", "numbers"] (defScope s__law_spoiled_numbers) := ⟨rfl, rfl, rfl, by decide +kernel, rfl, by decide +kernel, by decide +kernel⟩

theorem ok__law_spoiled_numbers {P : Program} {w : World} {K : PySem.W.Frag} {mg : Str → Option Value} {base : Heap} (T : Txt K mg) (G__law_draw : FnOk P w K mg base CX0 1 T.a__law_draw T.fd__law_draw ["rng", "limit"] (sp_law_draw K)) : FnOk P w K mg base CX0 2 T.a__law_spoiled_numbers T.fd__law_spoiled_numbers ["rng", "numbers"] (sp_law_spoiled_numbers K) := by
  have SC := SC__law_spoiled_numbers
  refine T.F__law_spoiled_numbers.ok SC (fun vs H Q E h => ?_) (fun cdv A outer s H vs Q E hr h => ?_)
  · obtain ⟨r, a, c, ns, rfl, hR, hc, nar, ha, h6, h0, q⟩ := h
    rfl
  · obtain ⟨r, a, c, ns, rfl, hR, hc, nar, ha, h6, h0, q⟩ := h
    refine ⟨_, (pss_cons (ps_par (i := 2) (j := 3) rfl SC.nd rfl rfl (by decide) rfl rfl (pa_cons (pe_call G__law_draw (hr.mono (by decide)) (by rfl) T.m__law_draw T.F__law_draw.kp T.b__law_draw .nil pass0 (pa_cons (pv 0) (pa_cons pe_int pa_nil))) (pa_cons (pe_call G__law_draw (hr.mono (by decide)) (by rfl) T.m__law_draw T.F__law_draw.kp T.b__law_draw .nil pass0 (pa_cons (pv 0) (pa_cons pe_int pa_nil))) pa_nil)) rfl)
       (pss_cons (ps_if (pt_cmpR op_eq (pv 2) pe_int (nomark _)) (pss_one (ps_ret (pe_tup (pa_cons (pe_slice (sl_listK (K := K) rfl) (pv 1) po_none (po_some (pv 3))) (pa_cons (pe_lst (pa_cons pe_non pa_nil)) pa_nil)))))
       pss_nil)
       (pss_cons (ps_if (pt_cmpR op_eq (pv 2) pe_int (nomark _)) (pss_one (ps_ret (pe_tup (pa_cons (pe_op op_cat (pv 1) (pe_op op_rep (pe_lst (pa_cons pe_int pa_nil)) (pe_op op_add pe_int (pv 3)))) (pa_cons (pe_lst (pa_cons pe_non pa_nil)) pa_nil)))))
       pss_nil)
       (pss_cons (ps_if (pt_cmpR op_eq (pv 2) pe_int (nomark _)) (pss_one (ps_ret (pe_tup (pa_cons (pe_slice (sl_listK (K := K) rfl) (pe_op op_cat (pe_lst (pa_cons (pe_un un_neg pe_int) pa_nil)) (pv 1)) po_none (po_some (pe_ix (ix_listK (K := K) rfl) (pe_lst (pa_cons pe_int (pa_cons pe_int (pa_cons pe_int pa_nil)))) (pe_op op_mod (pv 3) pe_int) (fun _ _ => rfl)))) (pa_cons (pe_lst (pa_cons pe_non pa_nil)) pa_nil)))))
       pss_nil)
       (pss_cons (ps_if (pt_cmpR op_eq (pv 2) pe_int (nomark _)) (pss_cons (ps_set (i := 4) SC.nd rfl (by first | exact Or.inl rfl | exact Or.inr rfl) (pe_op op_sub (pe_un un_neg pe_int) (pe_call G__law_draw (hr.mono (by decide)) (by rfl) T.m__law_draw T.F__law_draw.kp T.b__law_draw .nil pass0 (pa_cons (pv 0) (pa_cons (pe_ix (ix_listK (K := K) rfl) (pe_lst (pa_cons pe_int (pa_cons (pe_op op_pow pe_int pe_int) pa_nil))) (pe_call G__law_draw (hr.mono (by decide)) (by rfl) T.m__law_draw T.F__law_draw.kp T.b__law_draw .nil pass0 (pa_cons (pv 0) (pa_cons pe_int pa_nil))) (fun _ _ => rfl)) pa_nil)))))
       (pss_cons (ps_setLc (i := 5) (own := [("number", 6)]) rfl SC.nd rfl rfl (sw_true rfl rfl rfl (by decide +kernel)) (pi_list (pe_slice (sl_listK (K := K) rfl) (pv 1) (po_some (pe_op op_add (pv 3) pe_int)) po_none)) (blkOk_by (N := ["rng", "numbers", "way", "place", "below", "later", "number"]) (sc := defScope s__law_spoiled_numbers) (by decide +kernel)) (fun _ _ _ _ _ => by exact pg_name (i := 6) SC.nd rfl (by first | exact Or.inl rfl | exact Or.inr rfl)) (fun _ _ _ _ _ => by exact pts_nil) (fun _ _ _ _ _ => by exact (pe_ix (ix_listK (K := K) rfl) (pe_lst (pa_cons (pv 6) (pa_cons (pe_un un_neg pe_int) pa_nil))) (pe_callTy call_int1 (by rfl) T.n_int (by decide +kernel) (pa_cons (pe_cmpR op_eq (pe_call G__law_draw (hr.mono (by decide)) (by rfl) T.m__law_draw T.F__law_draw.kp T.b__law_draw .nil pass0 (pa_cons (pv 0) (pa_cons pe_int pa_nil))) pe_int (nomark _)) pa_nil)) (fun _ _ => rfl))))
       (pss_one (ps_ret (pe_tup (pa_cons (pe_op op_cat (pe_op op_cat (pe_slice (sl_listK (K := K) rfl) (pv 1) po_none (po_some (pv 3))) (pe_lst (pa_cons (pv 4) pa_nil))) (pv 5)) (pa_cons (pe_lst (pa_cons (pv 3) pa_nil)) pa_nil)))))))
       pss_nil)
       (pss_one (ps_ret (pe_tup (pa_cons (pv 1) (pa_cons (pe_lst pa_nil) pa_nil)))))))))), ?_⟩
    repeat (first | refine ⟨_, rfl, ?_⟩ | refine ⟨_, _, rfl, rfl, ?_⟩)
    refine ⟨r, 6, c, rfl, hR, by omega, by decide, by decide, fun H1 way S1 R1 w0 w1 => ?_⟩
    repeat (first | refine ⟨_, rfl, ?_⟩ | refine ⟨_, _, rfl, rfl, ?_⟩)
    refine ⟨r, 6, _, rfl, R1, by omega, by decide, by decide, fun H2 place S2 R2 p0 p1 => ?_⟩
    refine ⟨_, _, rfl, ?_⟩
    obtain ⟨k, rfl⟩ : ∃ k : Nat, place = (k : Int) := ⟨place.toNat, by omega⟩
    have hk : k < 6 := by omega
    have S12 := S1.trans S2
    have ha2 : H2 a = some (.lst (ns.map V.int)) := ext_get S12 nar ha
    -- the end: two new lists in a new tuple
    have fin : ∀ (G : Hp) (p : Addr) (ms : List Int) (c' : Nat), Same (hid r H) (hid r G) → Rg G r c' → c' ≤ c + 30 → p ≠ r → G p = some (.lst (ms.map V.int)) → ∀ l, G l = none → ∀ t, upd G l (.lst (wrongs (badN ms))) t = none → Q (.ref t) (upd (upd G l (.lst (wrongs (badN ms)))) t (.tup [.ref p, .ref l])) := fun G p ms c' S R hc' np hp l hl t ht => by
      have Rl := R.new (o := .lst (wrongs (badN ms))) hl
      have hpl := (Same.new (o := .lst (wrongs (badN ms))) hl) _ _ hp
      exact q _ t p l ms ((S.trans (hid_new hl)).trans (hid_new ht)) ((Rl.new ht).mono hc') (Rl.ne ht) np (R.ne hl) upd_same ((Same.new ht) _ _ hpl) ((Same.new ht) _ _ upd_same)
    repeat (first | refine ⟨_, rfl, ?_⟩ | refine ⟨_, _, rfl, rfl, ?_⟩)
    refine ⟨rfl, _, rfl, if_two (fun e0 => ?_) (fun e0 => ?_)⟩
    · repeat (first | refine ⟨_, rfl, ?_⟩ | refine ⟨_, _, rfl, rfl, ?_⟩)
      refine ⟨_, _, rfl, SqL.of ha2, fun p hp => ?_⟩
      rw [cut_upto, ← List.map_take]
      repeat (first | refine ⟨_, rfl, ?_⟩ | refine ⟨_, _, rfl, rfl, ?_⟩)
      refine ⟨by show 1 ≤ sizeLine; decide, fun l hl => ?_⟩
      refine ⟨by show 2 ≤ sizeLine; decide, fun t ht => ?_⟩
      have hb : badN (ns.take k) = some .non := badN_len (by rw [List.length_take, h6]; omega)
      have z := fin _ p (ns.take k) _ (S12.trans (hid_new hp)) (R2.new hp) (by omega) (R2.ne hp) upd_same l hl t (by rw [hb]; exact ht)
      rw [hb] at z
      exact z
    · repeat (first | refine ⟨_, rfl, ?_⟩ | refine ⟨_, _, rfl, rfl, ?_⟩)
      refine ⟨rfl, _, rfl, if_two (fun e1 => ?_) (fun e1 => ?_)⟩
      · repeat (first | refine ⟨_, rfl, ?_⟩ | refine ⟨_, _, rfl, rfl, ?_⟩)
        refine ⟨by show 1 ≤ sizeLine; decide, fun l1 n1 => ?_⟩
        repeat (first | refine ⟨_, rfl, ?_⟩ | refine ⟨_, _, rfl, rfl, ?_⟩)
        refine ⟨l1, _, [.int 0], rfl, rfl, upd_same, by omega, by omega, by show 1 * (1 + (k : Int)).toNat ≤ sizeLine; exact Nat.le_trans (by omega : _ ≤ 1000) (by decide), fun l2 n2 => ?_⟩
        rw [List.flatten_replicate_singleton]
        have ha3 := (Same.new (o := .lst (List.replicate (1 + (k : Int)).toNat (.int 0))) n2) _ _ ((Same.new (o := .lst [.int 0]) n1) _ _ ha2)
        refine ⟨a, l2, _, _, rfl, rfl, ha3, upd_same, by rw [List.length_map, List.length_replicate, h6]; exact Nat.le_trans (by omega : _ ≤ 1000) (by decide), fun p hp => ?_⟩
        rw [show ns.map V.int ++ List.replicate (1 + (k : Int)).toNat (V.int 0) = (ns ++ List.replicate (1 + (k : Int)).toNat 0).map V.int from by rw [List.map_append, map_rep]]
        repeat (first | refine ⟨_, rfl, ?_⟩ | refine ⟨_, _, rfl, rfl, ?_⟩)
        refine ⟨by show 1 ≤ sizeLine; decide, fun l hl => ?_⟩
        refine ⟨by show 2 ≤ sizeLine; decide, fun t ht => ?_⟩
        have hb : badN (ns ++ List.replicate (1 + (k : Int)).toNat 0) = some .non := badN_len (by rw [List.length_append, List.length_replicate, h6]; omega)
        have R3 := (R2.new (o := .lst [.int 0]) n1).new (o := .lst (List.replicate (1 + (k : Int)).toNat (V.int 0))) n2
        have n2' : upd H2 l1 (.lst [.int 0]) l2 = none := n2
        have z := fin _ p (ns ++ List.replicate (1 + (k : Int)).toNat 0) _ (((S12.trans (hid_new n1)).trans (hid_new n2')).trans (hid_new hp)) (R3.new hp) (by omega) (R3.ne hp) upd_same l hl t (by rw [hb]; exact ht)
        rw [hb] at z
        exact z
      · repeat (first | refine ⟨_, rfl, ?_⟩ | refine ⟨_, _, rfl, rfl, ?_⟩)
        refine ⟨rfl, _, rfl, if_two (fun e3 => ?_) (fun e3 => ?_)⟩
        · repeat (first | refine ⟨_, rfl, ?_⟩ | refine ⟨_, _, rfl, rfl, ?_⟩)
          refine ⟨by show 1 ≤ sizeLine; decide, fun l1 n1 => ?_⟩
          repeat (first | refine ⟨_, rfl, ?_⟩ | refine ⟨_, _, rfl, rfl, ?_⟩)
          refine ⟨l1, a, [.int (-2)], _, rfl, rfl, upd_same, (Same.new (o := .lst [.int (-2)]) n1) _ _ ha2, by rw [List.length_map, h6]; decide, fun l2 n2 => ?_⟩
          have e72 : upd (upd H2 l1 (.lst [.int (-2)])) l2 (.lst ([V.int (-2)] ++ ns.map V.int)) l2 = some (.lst ((-2 :: ns).map V.int)) := upd_same
          have R3 := (R2.new (o := .lst [.int (-2)]) n1).new (o := .lst ([V.int (-2)] ++ ns.map V.int)) n2
          have S3 := (S12.trans (hid_new (o := .lst [.int (-2)]) n1)).trans (hid_new (o := .lst ([V.int (-2)] ++ ns.map V.int)) n2)
          repeat (first | refine ⟨_, rfl, ?_⟩ | refine ⟨_, _, rfl, rfl, ?_⟩)
          refine ⟨by show 3 ≤ sizeLine; decide, fun l3 n3 => ?_⟩
          repeat (first | refine ⟨_, rfl, ?_⟩ | refine ⟨_, _, rfl, rfl, ?_⟩)
          refine ⟨(by decide : (0 : Int) < 3), ?_⟩
          obtain ⟨kk, hkk, ek⟩ := pick_ints (ns := [1, 3, 7]) (n := (k : Int) % 3) (Int.emod_nonneg _ (by decide)) (by have := Int.emod_lt_of_pos (k : Int) (show (0 : Int) < 3 by decide); simpa using this)
          refine ⟨l3, _, _, _, rfl, rfl, SqL.of upd_same, ek, ?_⟩
          repeat (first | refine ⟨_, rfl, ?_⟩ | refine ⟨_, _, rfl, rfl, ?_⟩)
          refine ⟨l2, _, rfl, SqL.of ((Same.new n3) _ _ e72), fun p hp => ?_⟩
          obtain ⟨j, rfl, hj⟩ : ∃ j : Nat, kk = (j : Int) ∧ (j = 1 ∨ j = 3 ∨ j = 7) := by
            simp only [List.mem_cons, List.not_mem_nil, or_false] at hkk
            rcases hkk with e | e | e
            · exact ⟨1, e, .inl rfl⟩
            · exact ⟨3, e, .inr (.inl rfl)⟩
            · exact ⟨7, e, .inr (.inr rfl)⟩
          rw [cut_upto, ← List.map_take]
          repeat (first | refine ⟨_, rfl, ?_⟩ | refine ⟨_, _, rfl, rfl, ?_⟩)
          refine ⟨by show 1 ≤ sizeLine; decide, fun l hl => ?_⟩
          refine ⟨by show 2 ≤ sizeLine; decide, fun t ht => ?_⟩
          have hb : badN ((-2 :: ns).take j) = some .non := badN_len (by rw [List.length_take, List.length_cons, h6]; rcases hj with e | e | e <;> rw [e] <;> decide)
          have R4 := R3.new (o := .lst [.int 1, .int 3, .int 7]) n3
          have z := fin _ p ((-2 :: ns).take j) _ ((S3.trans (hid_new n3)).trans (hid_new hp)) (R4.new hp) (by omega) (R4.ne hp) upd_same l hl t (by rw [hb]; exact ht)
          rw [hb] at z
          exact z
        · repeat (first | refine ⟨_, rfl, ?_⟩ | refine ⟨_, _, rfl, rfl, ?_⟩)
          refine ⟨rfl, _, rfl, if_two (fun e2 => ?_) (fun e2 => ?_)⟩
          · repeat (first | refine ⟨_, rfl, ?_⟩ | refine ⟨_, _, rfl, rfl, ?_⟩)
            refine ⟨⟨by decide, by decide, by decide⟩, ?_⟩
            repeat (first | refine ⟨_, rfl, ?_⟩ | refine ⟨_, _, rfl, rfl, ?_⟩)
            refine ⟨by show 2 ≤ sizeLine; decide, fun m hm => ?_⟩
            have nmr := R2.ne hm
            repeat (first | refine ⟨_, rfl, ?_⟩ | refine ⟨_, _, rfl, rfl, ?_⟩)
            refine ⟨r, 2, _, rfl, R2.new hm, by omega, by decide, by decide, fun H3 n3 S3 R3 a0 a1 => ?_⟩
            obtain ⟨x, hx, ex⟩ := pick_ints (ns := [1, 10 ^ 28]) a0 (by simpa using a1)
            have hxb : 0 < x ∧ x < 2 ^ 200 := by
              simp only [List.mem_cons, List.not_mem_nil, or_false] at hx
              rcases hx with e | e <;> rw [e] <;> decide
            refine ⟨m, _, _, _, rfl, rfl, SqL.of (ext_get S3 nmr upd_same), ex, ?_⟩
            refine ⟨r, x, _, rfl, R3, by omega, hxb.1, hxb.2, fun H4 n4 S4 R4 b0 b1 => ?_⟩
            have S14 := ((S12.trans (hid_new hm)).trans S3).trans S4
            have ha4 : H4 a = some (.lst (ns.map V.int)) := ext_get S14 nar ha
            repeat (first | refine ⟨_, rfl, ?_⟩ | refine ⟨_, _, rfl, rfl, ?_⟩)
            refine ⟨_, _, rfl, SqL.of ha4, fun p0 hp0 => ?_⟩
            rw [show ((k : Int) + 1) = ((k + 1 : Nat) : Int) by omega, cut_from, ← List.map_drop]
            have np0 := R4.ne hp0
            repeat (first | refine ⟨_, rfl, ?_⟩ | refine ⟨_, _, rfl, rfl, ?_⟩)
            refine ⟨⟨_, SqL.of upd_same⟩, fun E hE => ?_⟩
            have R5 := R4.new (o := .lst ((ns.drop (k + 1)).map V.int)) hp0
            have S15 := S14.trans (hid_new (o := .lst ((ns.drop (k + 1)).map V.int)) hp0)
            have nE := R5.ne hE
            have np0E : p0 ≠ E := ne_of_none upd_same hE
            refine lc_it (walk_list (xs := (ns.drop (k + 1)).map V.int)) (fun j G => Same (hid r H) (hid r G) ∧ Rg G r (c + 4 + j) ∧ G p0 = some (.lst ((ns.drop (k + 1)).map V.int)) ∧ ∃ ls : List Int, G E = some (.lst (ls.map V.int)) ∧ ls.length = j)
              ⟨S15.trans (hid_new hE), R5.new hE, (Same.new hE) _ _ upd_same, [], upd_same, rfl⟩ (fun j G _ h => SqL.of h.2.2.1) ?_ ?_
            · rintro j y G G' hj ⟨S, R, hp, ls, hl, hlen⟩ ⟨rfl, hy⟩
              obtain ⟨v, hv, rfl⟩ := map_get hy
              have hj6 : j < 6 := by rw [List.length_map, List.length_drop] at hj; omega
              refine ⟨rfl, ?_⟩
              repeat (first | refine ⟨_, rfl, ?_⟩ | refine ⟨_, _, rfl, rfl, ?_⟩)
              refine ⟨by show 2 ≤ sizeLine; decide, fun l5 n5 => ?_⟩
              have n5r := R.ne n5
              repeat (first | refine ⟨_, rfl, ?_⟩ | refine ⟨_, _, rfl, rfl, ?_⟩)
              refine ⟨r, 3, _, rfl, R.new n5, by omega, by decide, by decide, fun G2 w2 T2 Q2 d0 d1 => ?_⟩
              repeat (first | refine ⟨_, rfl, ?_⟩ | refine ⟨_, _, rfl, rfl, ?_⟩)
              refine ⟨rfl, .inr ⟨_, rfl, ?_⟩⟩
              obtain ⟨u, hu, eu⟩ := pick_ints (ns := [v, -2]) (n := if decide (V.int w2 = V.int 0) = true then 1 else 0) (by split <;> decide) (by split <;> simp)
              refine ⟨l5, _, _, _, rfl, rfl, SqL.of (ext_get T2 n5r upd_same), eu, ?_⟩
              have nE5 : E ≠ l5 := ne_of_none hl n5
              have np5 : p0 ≠ l5 := ne_of_none hp n5
              have hl2 : G2 E = some (.lst (ls.map V.int)) := ext_get T2 nE (by rw [upd_ne nE5]; exact hl)
              have hp2 : G2 p0 = some (.lst ((ns.drop (k + 1)).map V.int)) := ext_get T2 np0 (by rw [upd_ne np5]; exact hp)
              refine ⟨_, hl2, by rw [List.length_map]; exact small1000 (by omega), ?_⟩
              refine ⟨ext_upd (S.trans ((hid_new n5).trans T2)) nE (ext_free S15 nE hE), (Q2.upd nE).mono (by omega), by rw [upd_ne np0E]; exact hp2, ls ++ [u], by rw [upd_same, List.map_append]; rfl, by rw [List.length_append, List.length_singleton, hlen]⟩
            rintro G ⟨S, R, hp, ls, hl, hlen⟩
            rw [List.length_map, List.length_drop, h6] at hlen R
            repeat (first | refine ⟨_, rfl, ?_⟩ | refine ⟨_, _, rfl, rfl, ?_⟩)
            have haG : G a = some (.lst (ns.map V.int)) := ext_get S nar ha
            refine ⟨_, _, rfl, SqL.of haG, fun p1 hp1 => ?_⟩
            rw [cut_upto, ← List.map_take]
            repeat (first | refine ⟨_, rfl, ?_⟩ | refine ⟨_, _, rfl, rfl, ?_⟩)
            refine ⟨by show 1 ≤ sizeLine; decide, fun p2 hp2 => ?_⟩
            refine ⟨p1, p2, _, _, rfl, rfl, (Same.new hp2) _ _ upd_same, upd_same, by rw [List.length_map, List.length_take, h6]; exact Nat.le_trans (by show _ + 1 ≤ 1000; omega) (by decide), fun p3 hp3 => ?_⟩
            repeat (first | refine ⟨_, rfl, ?_⟩ | refine ⟨_, _, rfl, rfl, ?_⟩)
            have hlG := (Same.new (o := .lst ((ns.take k).map V.int ++ [.int (-1 - n4)])) hp3) _ _ ((Same.new (o := .lst [.int (-1 - n4)]) hp2) _ _ ((Same.new (o := .lst ((ns.take k).map V.int)) hp1) _ _ hl))
            refine ⟨p3, E, _, _, rfl, rfl, upd_same, hlG, by rw [List.length_append, List.length_map, List.length_take, h6, List.length_map, hlen]; exact Nat.le_trans (by show _ + 1 + _ ≤ 1000; omega) (by decide), fun p hp4 => ?_⟩
            repeat (first | refine ⟨_, rfl, ?_⟩ | refine ⟨_, _, rfl, rfl, ?_⟩)
            refine ⟨by show 1 ≤ sizeLine; decide, fun l hl5 => ?_⟩
            refine ⟨by show 2 ≤ sizeLine; decide, fun t ht => ?_⟩
            have hb : badN (ns.take k ++ [-1 - n4] ++ ls) = some (.int (k : Nat)) := by
              have lt : (ns.take k).length = k := by rw [List.length_take, h6]; omega
              refine badN_at (x := -1 - n4) (by rw [List.length_append, List.length_append, lt, hlen]; show k + 1 + _ = 6; omega) ?_ (by omega) ?_
              · rw [List.append_assoc, List.getElem?_append_right (by omega), lt, Nat.sub_self]; rfl
              · intro j y hj hy
                rw [List.append_assoc, List.getElem?_append_left (by omega)] at hy
                exact h0 y (List.mem_of_mem_take (List.mem_of_getElem? hy))
            have R6 := ((R.new (o := .lst ((ns.take k).map V.int)) hp1).new (o := .lst [.int (-1 - n4)]) hp2).new (o := .lst ((ns.take k).map V.int ++ [.int (-1 - n4)])) hp3
            have z := fin _ p (ns.take k ++ [-1 - n4] ++ ls) _ ((((S.trans (hid_new hp1)).trans (hid_new hp2)).trans (hid_new hp3)).trans (hid_new hp4)) (R6.new hp4) (by omega) (R6.ne hp4) (by rw [upd_same, List.map_append, List.map_append]; rfl) l hl5 t (by rw [hb]; exact ht)
            rw [hb] at z
            exact z
          · repeat (first | refine ⟨_, rfl, ?_⟩ | refine ⟨_, _, rfl, rfl, ?_⟩)
            refine ⟨by show 0 ≤ sizeLine; decide, fun l hl => ?_⟩
            refine ⟨by show 2 ≤ sizeLine; decide, fun t ht => ?_⟩
            have hb : badN ns = none := badN_ok h6 h0
            have z := fin _ a ns _ S12 R2 (by omega) nar ha2 l hl t (by rw [hb]; exact ht)
            rw [hb] at z
            exact z
end Dr
namespace Dr
open PySem L2
theorem SC__law_error : FnScope ["door", "orders", "numbers", "text", "e", "some"] ["door", "orders", "numbers", "text"] (defScope s__law_error) := ⟨rfl, rfl, rfl, by decide +kernel, rfl, by decide +kernel, by decide +kernel⟩

theorem ok__law_error {P : Program} {w : World} {K : PySem.W.Frag} {mg : Str → Option Value} {base : Heap} (T : Txt K mg) (G_count_colours : FnOk P w K mg base (L2.CX P w) 4 T.a_count_colours T.fd_count_colours ["row"] (sx_count_colours K T.C_BadRow)) (G_run_on_counts : FnOk P w K mg base (L2.CX P w) 4 T.a_run_on_counts T.fd_run_on_counts ["drill", "counts"] (sx_run_on_counts K T.C_BadCall T.C_BadCounts)) (G_colour_after : FnOk P w K mg base (L2.CX P w) 4 T.a_colour_after T.fd_colour_after ["drill", "ahead", "colour"] (sx_colour_after K T.C_BadCall T.C_BadCounts T.C_BadColour)) : FnOk P w K mg base CX0 5 T.a__law_error T.fd__law_error ["door", "orders", "numbers", "text"] (sx_law_error K T.C_BadRow T.C_BadCall T.C_BadCounts T.C_BadColour) := by
  have SC := SC__law_error
  refine T.F__law_error.ok SC (fun vs H Q E h => ?_) (fun cdv A outer s H vs Q E hr h => ?_)
  · obtain ⟨door, d, a, D, ns, w, rfl, hD, hL, q⟩ := h
    rfl
  · obtain ⟨door, d, a, D, ns, w, rfl, hD, hL, q⟩ := h
    refine ⟨_, (pss_cons (ps_try_as (i := 4) rfl rfl SC.nd rfl rfl ⟨rfl, by decide, .inl T.g_DrillError⟩ takes0 (fun W pn xe tk _ => by exact (pss_one (ps_if (pt_cmpR op_eq (pv 0) pe_int (nomark _)) (pss_one (ps_expr (pe_callS G_count_colours (hr.mono (by decide)) (by rfl) T.m_count_colours T.F_count_colours.kp T.b_count_colours (fun σ => passAt tk σ) (pa_cons (pv 3) pa_nil))))
       (pss_one (ps_if (pt_cmpR op_eq (pv 0) pe_int (nomark _)) (pss_one (ps_expr (pe_callS G_run_on_counts (hr.mono (by decide)) (by rfl) T.m_run_on_counts T.F_run_on_counts.kp T.b_run_on_counts (fun σ => passAt tk σ) (pa_cons (pv 1) (pa_cons (pv 2) pa_nil)))))
       (pss_one (ps_expr (pe_callS G_colour_after (hr.mono (by decide)) (by rfl) T.m_colour_after T.F_colour_after.kp T.b_colour_after (fun σ => passAt tk σ) (pa_cons (pv 1) (pa_cons (pv 2) (pa_cons (pv 3) pa_nil))))))))))) (fun a oe cls d pn hz hf => by exact (pss_cons (ps_set (i := 5) SC.nd rfl (by first | exact Or.inl rfl | exact Or.inr rfl) (pe_lst (pa_cons (pe_callB (call_isX (K := K) rfl hz hf) (by rfl) T.n_isinstance (by decide +kernel) (pa_cons (pv 4) (pa_cons (pe_glob (v := .ref T.C_BadRow) rfl T.O_BadRow.g rfl) pa_nil))) (pa_cons (pe_callB (call_isX (K := K) rfl hz hf) (by rfl) T.n_isinstance (by decide +kernel) (pa_cons (pv 4) (pa_cons (pe_glob (v := .ref T.C_BadCall) rfl T.O_BadCall.g rfl) pa_nil))) (pa_cons (pe_callB (call_isX (K := K) rfl hz hf) (by rfl) T.n_isinstance (by decide +kernel) (pa_cons (pv 4) (pa_cons (pe_glob (v := .ref T.C_BadCounts) rfl T.O_BadCounts.g rfl) pa_nil))) (pa_cons (pe_callB (call_isX (K := K) rfl hz hf) (by rfl) T.n_isinstance (by decide +kernel) (pa_cons (pv 4) (pa_cons (pe_glob (v := .ref T.C_BadColour) rfl T.O_BadColour.g rfl) pa_nil))) pa_nil))))))
       (pss_cons (ps_if (PW.pt (pw_or (pt_val (pe_callB (call_isXT (K := K) rfl hz hf) (by rfl) T.n_isinstance (by decide +kernel) (pa_cons (pv 4) (pa_cons (pe_tup (pa_cons (pe_glob (v := .ref T.C_BadGoal) rfl T.O_BadGoal.g rfl) (pa_cons (pe_glob (v := .ref T.C_BadIndex) rfl T.O_BadIndex.g rfl) (pa_cons (pe_glob (v := .ref T.C_BadText) rfl T.O_BadText.g rfl) (pa_cons (pe_glob (v := .ref T.C_BadTimes) rfl T.O_BadTimes.g rfl) pa_nil))))) pa_nil)))) (pw_or1 (pt_cmpR op_ne (pe_bmK (K := K) rfl PySem.F.plainAttrs_list PySem.F.slot_list_count PySem.F.type_list_count (mt_lcountBK (K := K) rfl) (pv 5) (pa_cons pe_bl pa_nil)) pe_int (nomark _))))) (pss_one (ps_ret (pe_tup (pa_cons pe_str (pa_cons pe_non pa_nil)))))
       pss_nil)
       (pss_one (ps_ret (pe_ifExp (pt_val (pe_callB (call_isX (K := K) rfl hz hf) (by rfl) T.n_isinstance (by decide +kernel) (pa_cons (pv 4) (pa_cons (pe_bltn (v := .ty "ValueError") (by rfl) T.n_ValueError (by decide +kernel) rfl) pa_nil)))) (pe_tup (pa_cons (pe_ix (ix_listK (K := K) rfl) (pe_lst (pa_cons pe_str (pa_cons pe_str (pa_cons pe_str (pa_cons pe_str pa_nil))))) (pe_bmK (K := K) rfl PySem.F.plainAttrs_list PySem.F.slot_list_index PySem.F.type_list_index (mt_indexK (K := K) rfl) (pv 5) (pa_cons pe_bl pa_nil)) (fun _ _ => rfl)) (pa_cons (pe_xv (K := K) rfl hz hf (pv 4)) pa_nil))) pe_non)))))))
       (pss_one (ps_ret pe_non))), ?_⟩
    repeat (first | refine ⟨_, rfl, ?_⟩ | refine ⟨_, _, rfl, rfl, ?_⟩)
    refine ⟨rfl, _, rfl, if_two (fun h0 => ?_) (fun h0 => ?_)⟩
    · have e0 : door = 0 := V.int.inj h0
      have q' : Told H Q (due0 w) := by unfold due at q; rw [if_pos e0] at q; exact q
      repeat (first | refine ⟨_, rfl, ?_⟩ | refine ⟨_, _, rfl, rfl, ?_⟩)
      refine ⟨fun i hi => ?_, fun hg H1 p S1 f1 e1 => ?_⟩
      · intro d1 G S f e
        have q2 : Told H Q (some (("row" : Str), V.int (i : Nat))) := by have z : due0 w = some (("row" : Str), V.int (i : Nat)) := (by unfold due0; rw [hi]; rfl); rw [z] at q'; exact q'
        refine ⟨true, T.t_BadRow_DrillError, fun _ a0 ha0 => ?_, fun q => Bool.noConfusion q⟩
        repeat (first | refine ⟨_, rfl, ?_⟩ | refine ⟨_, _, rfl, rfl, ?_⟩)
        refine ⟨T.C_BadRow, d1, _, .ref T.C_BadRow, .ref T.C_BadRow, true, rfl, rfl, T.Z_BadRow, rfl, e, .own _, T.k_BadRow_BadRow, ?_⟩
        repeat (first | refine ⟨_, rfl, ?_⟩ | refine ⟨_, _, rfl, rfl, ?_⟩)
        refine ⟨T.C_BadRow, d1, _, .ref T.C_BadCall, .ref T.C_BadCall, false, rfl, rfl, T.Z_BadRow, rfl, e, .own _, T.k_BadRow_BadCall, ?_⟩
        repeat (first | refine ⟨_, rfl, ?_⟩ | refine ⟨_, _, rfl, rfl, ?_⟩)
        refine ⟨T.C_BadRow, d1, _, .ref T.C_BadCounts, .ref T.C_BadCounts, false, rfl, rfl, T.Z_BadRow, rfl, e, .own _, T.k_BadRow_BadCounts, ?_⟩
        repeat (first | refine ⟨_, rfl, ?_⟩ | refine ⟨_, _, rfl, rfl, ?_⟩)
        refine ⟨T.C_BadRow, d1, _, .ref T.C_BadColour, .ref T.C_BadColour, false, rfl, rfl, T.Z_BadRow, rfl, e, .own _, T.k_BadRow_BadColour, ?_⟩
        repeat (first | refine ⟨_, rfl, ?_⟩ | refine ⟨_, _, rfl, rfl, ?_⟩)
        refine ⟨by show 4 ≤ sizeLine; decide, fun l1 n1 => ?_⟩
        have e1 := (Same.new (o := .lst [.bl true, .bl false, .bl false, .bl false]) n1) _ _ e
        repeat (first | refine ⟨_, rfl, ?_⟩ | refine ⟨_, _, rfl, rfl, ?_⟩)
        refine ⟨by show 4 ≤ sizeLine; decide, fun l2 n2 => ?_⟩
        have S2 : Same _ _ := Same.new (o := .tup [.ref T.C_BadGoal, .ref T.C_BadIndex, .ref T.C_BadText, .ref T.C_BadTimes]) n2
        refine ⟨T.C_BadRow, d1, l2, _, _, _, false, rfl, rfl, T.Z_BadRow, rfl, S2 _ _ e1, upd_same, .cons (.own _) (.cons (.own _) (.cons (.own _) (.cons (.own _) .nil))), kit_four T.k_BadRow_BadGoal T.k_BadRow_BadIndex T.k_BadRow_BadText T.k_BadRow_BadTimes, ?_⟩
        repeat (first | refine ⟨_, rfl, ?_⟩ | refine ⟨_, _, rfl, rfl, ?_⟩)
        refine iteF (A := True) ?_
        repeat (first | refine ⟨_, rfl, ?_⟩ | refine ⟨_, _, rfl, rfl, ?_⟩)
        refine ⟨.inl ⟨rfl, _, SqL.of (S2 _ _ upd_same)⟩, ?_⟩
        repeat (first | refine ⟨_, rfl, ?_⟩ | refine ⟨_, _, rfl, rfl, ?_⟩)
        refine ⟨l1, [true, false, false, false], true, rfl, rfl, SqL.of (S2 _ _ upd_same), ?_⟩
        refine ⟨rfl, _, rfl, if_two_not (fun h => absurd rfl h) (fun _ => ?_)⟩
        repeat (first | refine ⟨_, rfl, ?_⟩ | refine ⟨_, _, rfl, rfl, ?_⟩)
        refine ⟨T.C_BadRow, d1, _, .ty "ValueError", .type "ValueError", true, rfl, rfl, T.Z_BadRow, rfl, S2 _ _ e1, .ty _, T.k_BadRow_ValueError, ?_⟩
        repeat (first | refine ⟨_, rfl, ?_⟩ | refine ⟨_, _, rfl, rfl, ?_⟩)
        refine iteT (B := True) ?_
        repeat (first | refine ⟨_, rfl, ?_⟩ | refine ⟨_, _, rfl, rfl, ?_⟩)
        refine ⟨by show 4 ≤ sizeLine; decide, fun l3 n3 => ?_⟩
        have S3 : Same _ _ := Same.new (o := .lst [.str "row", .str "call", .str "counts", .str "colour"]) n3
        repeat (first | refine ⟨_, rfl, ?_⟩ | refine ⟨_, _, rfl, rfl, ?_⟩)
        refine ⟨.inl ⟨rfl, _, SqL.of (S3 _ _ (S2 _ _ upd_same))⟩, ?_⟩
        repeat (first | refine ⟨_, rfl, ?_⟩ | refine ⟨_, _, rfl, rfl, ?_⟩)
        refine ⟨l1, _, .bl true, 0, .bl true, rfl, rfl, SqL.of (S3 _ _ (S2 _ _ upd_same)), rfl, rfl, rfl, rfl, fun m z hm hz => by rcases m with _ | _ | _ | m <;> first | omega | (cases hz; rfl), ?_⟩
        refine ⟨l3, _, _, _, rfl, rfl, SqL.of upd_same, at_of (j := 0) rfl rfl, ?_⟩
        repeat (first | refine ⟨_, rfl, ?_⟩ | refine ⟨_, _, rfl, rfl, ?_⟩)
        refine ⟨rfl, T.C_BadRow, d1, _, _, rfl, T.Z_BadRow, rfl, S3 _ _ (S2 _ _ e1), rfl, ?_⟩
        refine ⟨by show 2 ≤ sizeLine; decide, fun tt ntt => ?_⟩
        have S4 := S.trans ((Same.new n1).trans (S2.trans S3))
        exact q2 _ tt (S4.trans (Same.new ntt)) (S4.free ntt) upd_same
      · repeat (first | refine ⟨_, rfl, ?_⟩ | refine ⟨_, _, rfl, rfl, ?_⟩)
        have z : due0 w = none := by unfold due0; rw [hg]; rfl
        rw [z] at q'
        exact q' _ S1
    · have e0 : ¬ door = 0 := fun z => h0 (by rw [z])
      repeat (first | refine ⟨_, rfl, ?_⟩ | refine ⟨_, _, rfl, rfl, ?_⟩)
      refine ⟨rfl, _, rfl, if_two (fun h1 => ?_) (fun h1 => ?_)⟩
      · have e1 : door = 1 := V.int.inj h1
        have q' : Told H Q (due1 D ns) := by unfold due at q; rw [if_neg e0, if_pos e1] at q; exact q
        clear e1
        repeat (first | refine ⟨_, rfl, ?_⟩ | refine ⟨_, _, rfl, rfl, ?_⟩)
        refine ⟨d, a, D, ns, rfl, hD, hL, fun i hi => ?_, fun hg v hv => ?_, fun hg hgn H1 p S1 f1 e1 => ?_⟩
        · intro d1 G S f e
          have q2 : Told H Q (some (("call" : Str), V.int (i : Nat))) := by have z : due1 D ns = some (("call" : Str), V.int (i : Nat)) := (by unfold due1; rw [hi]); rw [z] at q'; exact q'
          refine ⟨true, T.t_BadCall_DrillError, fun _ a0 ha0 => ?_, fun q => Bool.noConfusion q⟩
          repeat (first | refine ⟨_, rfl, ?_⟩ | refine ⟨_, _, rfl, rfl, ?_⟩)
          refine ⟨T.C_BadCall, d1, _, .ref T.C_BadRow, .ref T.C_BadRow, false, rfl, rfl, T.Z_BadCall, rfl, e, .own _, T.k_BadCall_BadRow, ?_⟩
          repeat (first | refine ⟨_, rfl, ?_⟩ | refine ⟨_, _, rfl, rfl, ?_⟩)
          refine ⟨T.C_BadCall, d1, _, .ref T.C_BadCall, .ref T.C_BadCall, true, rfl, rfl, T.Z_BadCall, rfl, e, .own _, T.k_BadCall_BadCall, ?_⟩
          repeat (first | refine ⟨_, rfl, ?_⟩ | refine ⟨_, _, rfl, rfl, ?_⟩)
          refine ⟨T.C_BadCall, d1, _, .ref T.C_BadCounts, .ref T.C_BadCounts, false, rfl, rfl, T.Z_BadCall, rfl, e, .own _, T.k_BadCall_BadCounts, ?_⟩
          repeat (first | refine ⟨_, rfl, ?_⟩ | refine ⟨_, _, rfl, rfl, ?_⟩)
          refine ⟨T.C_BadCall, d1, _, .ref T.C_BadColour, .ref T.C_BadColour, false, rfl, rfl, T.Z_BadCall, rfl, e, .own _, T.k_BadCall_BadColour, ?_⟩
          repeat (first | refine ⟨_, rfl, ?_⟩ | refine ⟨_, _, rfl, rfl, ?_⟩)
          refine ⟨by show 4 ≤ sizeLine; decide, fun l1 n1 => ?_⟩
          have e1 := (Same.new (o := .lst [.bl false, .bl true, .bl false, .bl false]) n1) _ _ e
          repeat (first | refine ⟨_, rfl, ?_⟩ | refine ⟨_, _, rfl, rfl, ?_⟩)
          refine ⟨by show 4 ≤ sizeLine; decide, fun l2 n2 => ?_⟩
          have S2 : Same _ _ := Same.new (o := .tup [.ref T.C_BadGoal, .ref T.C_BadIndex, .ref T.C_BadText, .ref T.C_BadTimes]) n2
          refine ⟨T.C_BadCall, d1, l2, _, _, _, false, rfl, rfl, T.Z_BadCall, rfl, S2 _ _ e1, upd_same, .cons (.own _) (.cons (.own _) (.cons (.own _) (.cons (.own _) .nil))), kit_four T.k_BadCall_BadGoal T.k_BadCall_BadIndex T.k_BadCall_BadText T.k_BadCall_BadTimes, ?_⟩
          repeat (first | refine ⟨_, rfl, ?_⟩ | refine ⟨_, _, rfl, rfl, ?_⟩)
          refine iteF (A := True) ?_
          repeat (first | refine ⟨_, rfl, ?_⟩ | refine ⟨_, _, rfl, rfl, ?_⟩)
          refine ⟨.inl ⟨rfl, _, SqL.of (S2 _ _ upd_same)⟩, ?_⟩
          repeat (first | refine ⟨_, rfl, ?_⟩ | refine ⟨_, _, rfl, rfl, ?_⟩)
          refine ⟨l1, [false, true, false, false], true, rfl, rfl, SqL.of (S2 _ _ upd_same), ?_⟩
          refine ⟨rfl, _, rfl, if_two_not (fun h => absurd rfl h) (fun _ => ?_)⟩
          repeat (first | refine ⟨_, rfl, ?_⟩ | refine ⟨_, _, rfl, rfl, ?_⟩)
          refine ⟨T.C_BadCall, d1, _, .ty "ValueError", .type "ValueError", true, rfl, rfl, T.Z_BadCall, rfl, S2 _ _ e1, .ty _, T.k_BadCall_ValueError, ?_⟩
          repeat (first | refine ⟨_, rfl, ?_⟩ | refine ⟨_, _, rfl, rfl, ?_⟩)
          refine iteT (B := True) ?_
          repeat (first | refine ⟨_, rfl, ?_⟩ | refine ⟨_, _, rfl, rfl, ?_⟩)
          refine ⟨by show 4 ≤ sizeLine; decide, fun l3 n3 => ?_⟩
          have S3 : Same _ _ := Same.new (o := .lst [.str "row", .str "call", .str "counts", .str "colour"]) n3
          repeat (first | refine ⟨_, rfl, ?_⟩ | refine ⟨_, _, rfl, rfl, ?_⟩)
          refine ⟨.inl ⟨rfl, _, SqL.of (S3 _ _ (S2 _ _ upd_same))⟩, ?_⟩
          repeat (first | refine ⟨_, rfl, ?_⟩ | refine ⟨_, _, rfl, rfl, ?_⟩)
          refine ⟨l1, _, .bl true, 1, .bl true, rfl, rfl, SqL.of (S3 _ _ (S2 _ _ upd_same)), rfl, rfl, rfl, rfl, fun m z hm hz => by rcases m with _ | _ | _ | m <;> first | omega | (cases hz; rfl), ?_⟩
          refine ⟨l3, _, _, _, rfl, rfl, SqL.of upd_same, at_of (j := 1) rfl rfl, ?_⟩
          repeat (first | refine ⟨_, rfl, ?_⟩ | refine ⟨_, _, rfl, rfl, ?_⟩)
          refine ⟨rfl, T.C_BadCall, d1, _, _, rfl, T.Z_BadCall, rfl, S3 _ _ (S2 _ _ e1), rfl, ?_⟩
          refine ⟨by show 2 ≤ sizeLine; decide, fun tt ntt => ?_⟩
          have S4 := S.trans ((Same.new n1).trans (S2.trans S3))
          exact q2 _ tt (S4.trans (Same.new ntt)) (S4.free ntt) upd_same
        · intro d1 G S f e
          have q2 : Told H Q (some (("counts" : Str), v)) := by have z : due1 D ns = some (("counts" : Str), v) := (by unfold due1; rw [hg, hv]; rfl); rw [z] at q'; exact q'
          refine ⟨true, T.t_BadCounts_DrillError, fun _ a0 ha0 => ?_, fun q => Bool.noConfusion q⟩
          repeat (first | refine ⟨_, rfl, ?_⟩ | refine ⟨_, _, rfl, rfl, ?_⟩)
          refine ⟨T.C_BadCounts, d1, _, .ref T.C_BadRow, .ref T.C_BadRow, false, rfl, rfl, T.Z_BadCounts, rfl, e, .own _, T.k_BadCounts_BadRow, ?_⟩
          repeat (first | refine ⟨_, rfl, ?_⟩ | refine ⟨_, _, rfl, rfl, ?_⟩)
          refine ⟨T.C_BadCounts, d1, _, .ref T.C_BadCall, .ref T.C_BadCall, false, rfl, rfl, T.Z_BadCounts, rfl, e, .own _, T.k_BadCounts_BadCall, ?_⟩
          repeat (first | refine ⟨_, rfl, ?_⟩ | refine ⟨_, _, rfl, rfl, ?_⟩)
          refine ⟨T.C_BadCounts, d1, _, .ref T.C_BadCounts, .ref T.C_BadCounts, true, rfl, rfl, T.Z_BadCounts, rfl, e, .own _, T.k_BadCounts_BadCounts, ?_⟩
          repeat (first | refine ⟨_, rfl, ?_⟩ | refine ⟨_, _, rfl, rfl, ?_⟩)
          refine ⟨T.C_BadCounts, d1, _, .ref T.C_BadColour, .ref T.C_BadColour, false, rfl, rfl, T.Z_BadCounts, rfl, e, .own _, T.k_BadCounts_BadColour, ?_⟩
          repeat (first | refine ⟨_, rfl, ?_⟩ | refine ⟨_, _, rfl, rfl, ?_⟩)
          refine ⟨by show 4 ≤ sizeLine; decide, fun l1 n1 => ?_⟩
          have e1 := (Same.new (o := .lst [.bl false, .bl false, .bl true, .bl false]) n1) _ _ e
          repeat (first | refine ⟨_, rfl, ?_⟩ | refine ⟨_, _, rfl, rfl, ?_⟩)
          refine ⟨by show 4 ≤ sizeLine; decide, fun l2 n2 => ?_⟩
          have S2 : Same _ _ := Same.new (o := .tup [.ref T.C_BadGoal, .ref T.C_BadIndex, .ref T.C_BadText, .ref T.C_BadTimes]) n2
          refine ⟨T.C_BadCounts, d1, l2, _, _, _, false, rfl, rfl, T.Z_BadCounts, rfl, S2 _ _ e1, upd_same, .cons (.own _) (.cons (.own _) (.cons (.own _) (.cons (.own _) .nil))), kit_four T.k_BadCounts_BadGoal T.k_BadCounts_BadIndex T.k_BadCounts_BadText T.k_BadCounts_BadTimes, ?_⟩
          repeat (first | refine ⟨_, rfl, ?_⟩ | refine ⟨_, _, rfl, rfl, ?_⟩)
          refine iteF (A := True) ?_
          repeat (first | refine ⟨_, rfl, ?_⟩ | refine ⟨_, _, rfl, rfl, ?_⟩)
          refine ⟨.inl ⟨rfl, _, SqL.of (S2 _ _ upd_same)⟩, ?_⟩
          repeat (first | refine ⟨_, rfl, ?_⟩ | refine ⟨_, _, rfl, rfl, ?_⟩)
          refine ⟨l1, [false, false, true, false], true, rfl, rfl, SqL.of (S2 _ _ upd_same), ?_⟩
          refine ⟨rfl, _, rfl, if_two_not (fun h => absurd rfl h) (fun _ => ?_)⟩
          repeat (first | refine ⟨_, rfl, ?_⟩ | refine ⟨_, _, rfl, rfl, ?_⟩)
          refine ⟨T.C_BadCounts, d1, _, .ty "ValueError", .type "ValueError", true, rfl, rfl, T.Z_BadCounts, rfl, S2 _ _ e1, .ty _, T.k_BadCounts_ValueError, ?_⟩
          repeat (first | refine ⟨_, rfl, ?_⟩ | refine ⟨_, _, rfl, rfl, ?_⟩)
          refine iteT (B := True) ?_
          repeat (first | refine ⟨_, rfl, ?_⟩ | refine ⟨_, _, rfl, rfl, ?_⟩)
          refine ⟨by show 4 ≤ sizeLine; decide, fun l3 n3 => ?_⟩
          have S3 : Same _ _ := Same.new (o := .lst [.str "row", .str "call", .str "counts", .str "colour"]) n3
          repeat (first | refine ⟨_, rfl, ?_⟩ | refine ⟨_, _, rfl, rfl, ?_⟩)
          refine ⟨.inl ⟨rfl, _, SqL.of (S3 _ _ (S2 _ _ upd_same))⟩, ?_⟩
          repeat (first | refine ⟨_, rfl, ?_⟩ | refine ⟨_, _, rfl, rfl, ?_⟩)
          refine ⟨l1, _, .bl true, 2, .bl true, rfl, rfl, SqL.of (S3 _ _ (S2 _ _ upd_same)), rfl, rfl, rfl, rfl, fun m z hm hz => by rcases m with _ | _ | _ | m <;> first | omega | (cases hz; rfl), ?_⟩
          refine ⟨l3, _, _, _, rfl, rfl, SqL.of upd_same, at_of (j := 2) rfl rfl, ?_⟩
          repeat (first | refine ⟨_, rfl, ?_⟩ | refine ⟨_, _, rfl, rfl, ?_⟩)
          refine ⟨rfl, T.C_BadCounts, d1, _, _, rfl, T.Z_BadCounts, rfl, S3 _ _ (S2 _ _ e1), rfl, ?_⟩
          refine ⟨by show 2 ≤ sizeLine; decide, fun tt ntt => ?_⟩
          have S4 := S.trans ((Same.new n1).trans (S2.trans S3))
          exact q2 _ tt (S4.trans (Same.new ntt)) (S4.free ntt) upd_same
        · repeat (first | refine ⟨_, rfl, ?_⟩ | refine ⟨_, _, rfl, rfl, ?_⟩)
          have z : due1 D ns = none := by unfold due1; rw [hg, hgn]; rfl
          rw [z] at q'
          exact q' _ S1
      · have e1 : ¬ door = 1 := fun z => h1 (by rw [z])
        have q' : Told H Q (due2 D ns w) := by unfold due at q; rw [if_neg e0, if_neg e1] at q; exact q
        clear e1
        repeat (first | refine ⟨_, rfl, ?_⟩ | refine ⟨_, _, rfl, rfl, ?_⟩)
        refine ⟨d, a, D, ns, w, rfl, hD, hL, fun i hi => ?_, fun hg v hv => ?_, fun hg hgn hw => ?_, fun hg hgn hw H1 S1 => ?_⟩
        · intro d1 G S f e
          have q2 : Told H Q (some (("call" : Str), V.int (i : Nat))) := by have z : due2 D ns w = some (("call" : Str), V.int (i : Nat)) := (by unfold due2 due1; rw [hi]); rw [z] at q'; exact q'
          refine ⟨true, T.t_BadCall_DrillError, fun _ a0 ha0 => ?_, fun q => Bool.noConfusion q⟩
          repeat (first | refine ⟨_, rfl, ?_⟩ | refine ⟨_, _, rfl, rfl, ?_⟩)
          refine ⟨T.C_BadCall, d1, _, .ref T.C_BadRow, .ref T.C_BadRow, false, rfl, rfl, T.Z_BadCall, rfl, e, .own _, T.k_BadCall_BadRow, ?_⟩
          repeat (first | refine ⟨_, rfl, ?_⟩ | refine ⟨_, _, rfl, rfl, ?_⟩)
          refine ⟨T.C_BadCall, d1, _, .ref T.C_BadCall, .ref T.C_BadCall, true, rfl, rfl, T.Z_BadCall, rfl, e, .own _, T.k_BadCall_BadCall, ?_⟩
          repeat (first | refine ⟨_, rfl, ?_⟩ | refine ⟨_, _, rfl, rfl, ?_⟩)
          refine ⟨T.C_BadCall, d1, _, .ref T.C_BadCounts, .ref T.C_BadCounts, false, rfl, rfl, T.Z_BadCall, rfl, e, .own _, T.k_BadCall_BadCounts, ?_⟩
          repeat (first | refine ⟨_, rfl, ?_⟩ | refine ⟨_, _, rfl, rfl, ?_⟩)
          refine ⟨T.C_BadCall, d1, _, .ref T.C_BadColour, .ref T.C_BadColour, false, rfl, rfl, T.Z_BadCall, rfl, e, .own _, T.k_BadCall_BadColour, ?_⟩
          repeat (first | refine ⟨_, rfl, ?_⟩ | refine ⟨_, _, rfl, rfl, ?_⟩)
          refine ⟨by show 4 ≤ sizeLine; decide, fun l1 n1 => ?_⟩
          have e1 := (Same.new (o := .lst [.bl false, .bl true, .bl false, .bl false]) n1) _ _ e
          repeat (first | refine ⟨_, rfl, ?_⟩ | refine ⟨_, _, rfl, rfl, ?_⟩)
          refine ⟨by show 4 ≤ sizeLine; decide, fun l2 n2 => ?_⟩
          have S2 : Same _ _ := Same.new (o := .tup [.ref T.C_BadGoal, .ref T.C_BadIndex, .ref T.C_BadText, .ref T.C_BadTimes]) n2
          refine ⟨T.C_BadCall, d1, l2, _, _, _, false, rfl, rfl, T.Z_BadCall, rfl, S2 _ _ e1, upd_same, .cons (.own _) (.cons (.own _) (.cons (.own _) (.cons (.own _) .nil))), kit_four T.k_BadCall_BadGoal T.k_BadCall_BadIndex T.k_BadCall_BadText T.k_BadCall_BadTimes, ?_⟩
          repeat (first | refine ⟨_, rfl, ?_⟩ | refine ⟨_, _, rfl, rfl, ?_⟩)
          refine iteF (A := True) ?_
          repeat (first | refine ⟨_, rfl, ?_⟩ | refine ⟨_, _, rfl, rfl, ?_⟩)
          refine ⟨.inl ⟨rfl, _, SqL.of (S2 _ _ upd_same)⟩, ?_⟩
          repeat (first | refine ⟨_, rfl, ?_⟩ | refine ⟨_, _, rfl, rfl, ?_⟩)
          refine ⟨l1, [false, true, false, false], true, rfl, rfl, SqL.of (S2 _ _ upd_same), ?_⟩
          refine ⟨rfl, _, rfl, if_two_not (fun h => absurd rfl h) (fun _ => ?_)⟩
          repeat (first | refine ⟨_, rfl, ?_⟩ | refine ⟨_, _, rfl, rfl, ?_⟩)
          refine ⟨T.C_BadCall, d1, _, .ty "ValueError", .type "ValueError", true, rfl, rfl, T.Z_BadCall, rfl, S2 _ _ e1, .ty _, T.k_BadCall_ValueError, ?_⟩
          repeat (first | refine ⟨_, rfl, ?_⟩ | refine ⟨_, _, rfl, rfl, ?_⟩)
          refine iteT (B := True) ?_
          repeat (first | refine ⟨_, rfl, ?_⟩ | refine ⟨_, _, rfl, rfl, ?_⟩)
          refine ⟨by show 4 ≤ sizeLine; decide, fun l3 n3 => ?_⟩
          have S3 : Same _ _ := Same.new (o := .lst [.str "row", .str "call", .str "counts", .str "colour"]) n3
          repeat (first | refine ⟨_, rfl, ?_⟩ | refine ⟨_, _, rfl, rfl, ?_⟩)
          refine ⟨.inl ⟨rfl, _, SqL.of (S3 _ _ (S2 _ _ upd_same))⟩, ?_⟩
          repeat (first | refine ⟨_, rfl, ?_⟩ | refine ⟨_, _, rfl, rfl, ?_⟩)
          refine ⟨l1, _, .bl true, 1, .bl true, rfl, rfl, SqL.of (S3 _ _ (S2 _ _ upd_same)), rfl, rfl, rfl, rfl, fun m z hm hz => by rcases m with _ | _ | _ | m <;> first | omega | (cases hz; rfl), ?_⟩
          refine ⟨l3, _, _, _, rfl, rfl, SqL.of upd_same, at_of (j := 1) rfl rfl, ?_⟩
          repeat (first | refine ⟨_, rfl, ?_⟩ | refine ⟨_, _, rfl, rfl, ?_⟩)
          refine ⟨rfl, T.C_BadCall, d1, _, _, rfl, T.Z_BadCall, rfl, S3 _ _ (S2 _ _ e1), rfl, ?_⟩
          refine ⟨by show 2 ≤ sizeLine; decide, fun tt ntt => ?_⟩
          have S4 := S.trans ((Same.new n1).trans (S2.trans S3))
          exact q2 _ tt (S4.trans (Same.new ntt)) (S4.free ntt) upd_same
        · intro d1 G S f e
          have q2 : Told H Q (some (("counts" : Str), v)) := by have z : due2 D ns w = some (("counts" : Str), v) := (by unfold due2 due1; rw [hg, hv]; rfl); rw [z] at q'; exact q'
          refine ⟨true, T.t_BadCounts_DrillError, fun _ a0 ha0 => ?_, fun q => Bool.noConfusion q⟩
          repeat (first | refine ⟨_, rfl, ?_⟩ | refine ⟨_, _, rfl, rfl, ?_⟩)
          refine ⟨T.C_BadCounts, d1, _, .ref T.C_BadRow, .ref T.C_BadRow, false, rfl, rfl, T.Z_BadCounts, rfl, e, .own _, T.k_BadCounts_BadRow, ?_⟩
          repeat (first | refine ⟨_, rfl, ?_⟩ | refine ⟨_, _, rfl, rfl, ?_⟩)
          refine ⟨T.C_BadCounts, d1, _, .ref T.C_BadCall, .ref T.C_BadCall, false, rfl, rfl, T.Z_BadCounts, rfl, e, .own _, T.k_BadCounts_BadCall, ?_⟩
          repeat (first | refine ⟨_, rfl, ?_⟩ | refine ⟨_, _, rfl, rfl, ?_⟩)
          refine ⟨T.C_BadCounts, d1, _, .ref T.C_BadCounts, .ref T.C_BadCounts, true, rfl, rfl, T.Z_BadCounts, rfl, e, .own _, T.k_BadCounts_BadCounts, ?_⟩
          repeat (first | refine ⟨_, rfl, ?_⟩ | refine ⟨_, _, rfl, rfl, ?_⟩)
          refine ⟨T.C_BadCounts, d1, _, .ref T.C_BadColour, .ref T.C_BadColour, false, rfl, rfl, T.Z_BadCounts, rfl, e, .own _, T.k_BadCounts_BadColour, ?_⟩
          repeat (first | refine ⟨_, rfl, ?_⟩ | refine ⟨_, _, rfl, rfl, ?_⟩)
          refine ⟨by show 4 ≤ sizeLine; decide, fun l1 n1 => ?_⟩
          have e1 := (Same.new (o := .lst [.bl false, .bl false, .bl true, .bl false]) n1) _ _ e
          repeat (first | refine ⟨_, rfl, ?_⟩ | refine ⟨_, _, rfl, rfl, ?_⟩)
          refine ⟨by show 4 ≤ sizeLine; decide, fun l2 n2 => ?_⟩
          have S2 : Same _ _ := Same.new (o := .tup [.ref T.C_BadGoal, .ref T.C_BadIndex, .ref T.C_BadText, .ref T.C_BadTimes]) n2
          refine ⟨T.C_BadCounts, d1, l2, _, _, _, false, rfl, rfl, T.Z_BadCounts, rfl, S2 _ _ e1, upd_same, .cons (.own _) (.cons (.own _) (.cons (.own _) (.cons (.own _) .nil))), kit_four T.k_BadCounts_BadGoal T.k_BadCounts_BadIndex T.k_BadCounts_BadText T.k_BadCounts_BadTimes, ?_⟩
          repeat (first | refine ⟨_, rfl, ?_⟩ | refine ⟨_, _, rfl, rfl, ?_⟩)
          refine iteF (A := True) ?_
          repeat (first | refine ⟨_, rfl, ?_⟩ | refine ⟨_, _, rfl, rfl, ?_⟩)
          refine ⟨.inl ⟨rfl, _, SqL.of (S2 _ _ upd_same)⟩, ?_⟩
          repeat (first | refine ⟨_, rfl, ?_⟩ | refine ⟨_, _, rfl, rfl, ?_⟩)
          refine ⟨l1, [false, false, true, false], true, rfl, rfl, SqL.of (S2 _ _ upd_same), ?_⟩
          refine ⟨rfl, _, rfl, if_two_not (fun h => absurd rfl h) (fun _ => ?_)⟩
          repeat (first | refine ⟨_, rfl, ?_⟩ | refine ⟨_, _, rfl, rfl, ?_⟩)
          refine ⟨T.C_BadCounts, d1, _, .ty "ValueError", .type "ValueError", true, rfl, rfl, T.Z_BadCounts, rfl, S2 _ _ e1, .ty _, T.k_BadCounts_ValueError, ?_⟩
          repeat (first | refine ⟨_, rfl, ?_⟩ | refine ⟨_, _, rfl, rfl, ?_⟩)
          refine iteT (B := True) ?_
          repeat (first | refine ⟨_, rfl, ?_⟩ | refine ⟨_, _, rfl, rfl, ?_⟩)
          refine ⟨by show 4 ≤ sizeLine; decide, fun l3 n3 => ?_⟩
          have S3 : Same _ _ := Same.new (o := .lst [.str "row", .str "call", .str "counts", .str "colour"]) n3
          repeat (first | refine ⟨_, rfl, ?_⟩ | refine ⟨_, _, rfl, rfl, ?_⟩)
          refine ⟨.inl ⟨rfl, _, SqL.of (S3 _ _ (S2 _ _ upd_same))⟩, ?_⟩
          repeat (first | refine ⟨_, rfl, ?_⟩ | refine ⟨_, _, rfl, rfl, ?_⟩)
          refine ⟨l1, _, .bl true, 2, .bl true, rfl, rfl, SqL.of (S3 _ _ (S2 _ _ upd_same)), rfl, rfl, rfl, rfl, fun m z hm hz => by rcases m with _ | _ | _ | m <;> first | omega | (cases hz; rfl), ?_⟩
          refine ⟨l3, _, _, _, rfl, rfl, SqL.of upd_same, at_of (j := 2) rfl rfl, ?_⟩
          repeat (first | refine ⟨_, rfl, ?_⟩ | refine ⟨_, _, rfl, rfl, ?_⟩)
          refine ⟨rfl, T.C_BadCounts, d1, _, _, rfl, T.Z_BadCounts, rfl, S3 _ _ (S2 _ _ e1), rfl, ?_⟩
          refine ⟨by show 2 ≤ sizeLine; decide, fun tt ntt => ?_⟩
          have S4 := S.trans ((Same.new n1).trans (S2.trans S3))
          exact q2 _ tt (S4.trans (Same.new ntt)) (S4.free ntt) upd_same
        · intro d1 G S f e
          have q2 : Told H Q (some (("colour" : Str), V.str w)) := by have z : due2 D ns w = some (("colour" : Str), V.str w) := (by unfold due2 due1; rw [hg, hgn]; simp [hw]); rw [z] at q'; exact q'
          refine ⟨true, T.t_BadColour_DrillError, fun _ a0 ha0 => ?_, fun q => Bool.noConfusion q⟩
          repeat (first | refine ⟨_, rfl, ?_⟩ | refine ⟨_, _, rfl, rfl, ?_⟩)
          refine ⟨T.C_BadColour, d1, _, .ref T.C_BadRow, .ref T.C_BadRow, false, rfl, rfl, T.Z_BadColour, rfl, e, .own _, T.k_BadColour_BadRow, ?_⟩
          repeat (first | refine ⟨_, rfl, ?_⟩ | refine ⟨_, _, rfl, rfl, ?_⟩)
          refine ⟨T.C_BadColour, d1, _, .ref T.C_BadCall, .ref T.C_BadCall, false, rfl, rfl, T.Z_BadColour, rfl, e, .own _, T.k_BadColour_BadCall, ?_⟩
          repeat (first | refine ⟨_, rfl, ?_⟩ | refine ⟨_, _, rfl, rfl, ?_⟩)
          refine ⟨T.C_BadColour, d1, _, .ref T.C_BadCounts, .ref T.C_BadCounts, false, rfl, rfl, T.Z_BadColour, rfl, e, .own _, T.k_BadColour_BadCounts, ?_⟩
          repeat (first | refine ⟨_, rfl, ?_⟩ | refine ⟨_, _, rfl, rfl, ?_⟩)
          refine ⟨T.C_BadColour, d1, _, .ref T.C_BadColour, .ref T.C_BadColour, true, rfl, rfl, T.Z_BadColour, rfl, e, .own _, T.k_BadColour_BadColour, ?_⟩
          repeat (first | refine ⟨_, rfl, ?_⟩ | refine ⟨_, _, rfl, rfl, ?_⟩)
          refine ⟨by show 4 ≤ sizeLine; decide, fun l1 n1 => ?_⟩
          have e1 := (Same.new (o := .lst [.bl false, .bl false, .bl false, .bl true]) n1) _ _ e
          repeat (first | refine ⟨_, rfl, ?_⟩ | refine ⟨_, _, rfl, rfl, ?_⟩)
          refine ⟨by show 4 ≤ sizeLine; decide, fun l2 n2 => ?_⟩
          have S2 : Same _ _ := Same.new (o := .tup [.ref T.C_BadGoal, .ref T.C_BadIndex, .ref T.C_BadText, .ref T.C_BadTimes]) n2
          refine ⟨T.C_BadColour, d1, l2, _, _, _, false, rfl, rfl, T.Z_BadColour, rfl, S2 _ _ e1, upd_same, .cons (.own _) (.cons (.own _) (.cons (.own _) (.cons (.own _) .nil))), kit_four T.k_BadColour_BadGoal T.k_BadColour_BadIndex T.k_BadColour_BadText T.k_BadColour_BadTimes, ?_⟩
          repeat (first | refine ⟨_, rfl, ?_⟩ | refine ⟨_, _, rfl, rfl, ?_⟩)
          refine iteF (A := True) ?_
          repeat (first | refine ⟨_, rfl, ?_⟩ | refine ⟨_, _, rfl, rfl, ?_⟩)
          refine ⟨.inl ⟨rfl, _, SqL.of (S2 _ _ upd_same)⟩, ?_⟩
          repeat (first | refine ⟨_, rfl, ?_⟩ | refine ⟨_, _, rfl, rfl, ?_⟩)
          refine ⟨l1, [false, false, false, true], true, rfl, rfl, SqL.of (S2 _ _ upd_same), ?_⟩
          refine ⟨rfl, _, rfl, if_two_not (fun h => absurd rfl h) (fun _ => ?_)⟩
          repeat (first | refine ⟨_, rfl, ?_⟩ | refine ⟨_, _, rfl, rfl, ?_⟩)
          refine ⟨T.C_BadColour, d1, _, .ty "ValueError", .type "ValueError", true, rfl, rfl, T.Z_BadColour, rfl, S2 _ _ e1, .ty _, T.k_BadColour_ValueError, ?_⟩
          repeat (first | refine ⟨_, rfl, ?_⟩ | refine ⟨_, _, rfl, rfl, ?_⟩)
          refine iteT (B := True) ?_
          repeat (first | refine ⟨_, rfl, ?_⟩ | refine ⟨_, _, rfl, rfl, ?_⟩)
          refine ⟨by show 4 ≤ sizeLine; decide, fun l3 n3 => ?_⟩
          have S3 : Same _ _ := Same.new (o := .lst [.str "row", .str "call", .str "counts", .str "colour"]) n3
          repeat (first | refine ⟨_, rfl, ?_⟩ | refine ⟨_, _, rfl, rfl, ?_⟩)
          refine ⟨.inl ⟨rfl, _, SqL.of (S3 _ _ (S2 _ _ upd_same))⟩, ?_⟩
          repeat (first | refine ⟨_, rfl, ?_⟩ | refine ⟨_, _, rfl, rfl, ?_⟩)
          refine ⟨l1, _, .bl true, 3, .bl true, rfl, rfl, SqL.of (S3 _ _ (S2 _ _ upd_same)), rfl, rfl, rfl, rfl, fun m z hm hz => by rcases m with _ | _ | _ | m <;> first | omega | (cases hz; rfl), ?_⟩
          refine ⟨l3, _, _, _, rfl, rfl, SqL.of upd_same, at_of (j := 3) rfl rfl, ?_⟩
          repeat (first | refine ⟨_, rfl, ?_⟩ | refine ⟨_, _, rfl, rfl, ?_⟩)
          refine ⟨rfl, T.C_BadColour, d1, _, _, rfl, T.Z_BadColour, rfl, S3 _ _ (S2 _ _ e1), rfl, ?_⟩
          refine ⟨by show 2 ≤ sizeLine; decide, fun tt ntt => ?_⟩
          have S4 := S.trans ((Same.new n1).trans (S2.trans S3))
          exact q2 _ tt (S4.trans (Same.new ntt)) (S4.free ntt) upd_same
        · repeat (first | refine ⟨_, rfl, ?_⟩ | refine ⟨_, _, rfl, rfl, ?_⟩)
          have z : due2 D ns w = none := by unfold due2 due1; rw [hg, hgn]; simp [hw]
          rw [z] at q'
          exact q' _ S1
end Dr
namespace Dr
open PySem L2
theorem SC__law_classes_right : FnScope ["some", "bare", "one"] [] (defScope s__law_classes_right) := ⟨rfl, rfl, rfl, by decide +kernel, rfl, by decide +kernel, by decide +kernel⟩

theorem ok__law_classes_right {P : Program} {w : World} {K : PySem.W.Frag} {mg : Str → Option Value} {base : Heap} (T : Txt K mg)  : FnOk P w K mg base CX0 3 T.a__law_classes_right T.fd__law_classes_right [] (sp_law_classes_right K) := by
  have SC := SC__law_classes_right
  refine T.F__law_classes_right.ok SC (fun vs H Q E h => ?_) (fun cdv A outer s H vs Q E hr h => ?_)
  · obtain ⟨rfl, q⟩ := h
    rfl
  · obtain ⟨rfl, q⟩ := h
    refine ⟨_, (pss_cons (ps_set (i := 0) SC.nd rfl (by first | exact Or.inl rfl | exact Or.inr rfl) (pe_lst (pa_cons (pe_made (pmk_oex T.O_BadRow.T T.O_BadRow.iC T.O_BadRow.tI (init_BadRow T) (hr.mono (by decide)) T.O_BadRow.b .nil pass0 (by rfl) T.O_BadRow.g (pa_cons pe_int pa_nil))) (pa_cons (pe_made (pmk_oexK T.O_BadCall.T T.O_BadCall.iC T.O_BadCall.tI (init_BadCall T) (hr.mono (by decide)) T.kb_BadCall (by rfl) T.O_BadCall.g pe_int)) (pa_cons (pe_made (pmk_oex T.O_BadCounts.T T.O_BadCounts.iC T.O_BadCounts.tI (init_BadCounts T) (hr.mono (by decide)) T.O_BadCounts.b .nil pass0 (by rfl) T.O_BadCounts.g (pa_cons pe_non pa_nil))) (pa_cons (pe_made (pmk_oexK T.O_BadColour.T T.O_BadColour.iC T.O_BadColour.tI (init_BadColour T) (hr.mono (by decide)) T.kb_BadColour (by rfl) T.O_BadColour.g pe_str)) (pa_cons (pe_made (pmk_oex T.O_BadGoal.T T.O_BadGoal.iC T.O_BadGoal.tI (init_BadGoal T) (hr.mono (by decide)) T.O_BadGoal.b .nil pass0 (by rfl) T.O_BadGoal.g (pa_cons pe_non pa_nil))) (pa_cons (pe_made (pmk_oexK T.O_BadIndex.T T.O_BadIndex.iC T.O_BadIndex.tI (init_BadIndex T) (hr.mono (by decide)) T.kb_BadIndex (by rfl) T.O_BadIndex.g (pe_un un_neg pe_int))) pa_nil))))))))
       (pss_cons (ps_set (i := 0) SC.nd rfl (by first | exact Or.inl rfl | exact Or.inr rfl) (pe_op op_cat (pv 0) (pe_lst (pa_cons (pe_made (pmk_oex T.O_BadText.T T.O_BadText.iC T.O_BadText.tI (init_BadText T) (hr.mono (by decide)) T.O_BadText.b .nil pass0 (by rfl) T.O_BadText.g (pa_cons pe_str pa_nil))) (pa_cons (pe_made (pmk_oexK T.O_BadTimes.T T.O_BadTimes.iC T.O_BadTimes.tI (init_BadTimes T) (hr.mono (by decide)) T.kb_BadTimes (by rfl) T.O_BadTimes.g (pe_un un_neg pe_int))) pa_nil)))))
       (pss_cons (ps_if (pt_cmpR (op_neDK (K := K) rfl hr.units) (pe_lc (own := [("one", 2)]) rfl SC.nd (pi_list (pv 0)) (blkOk_by (N := ["some", "bare", "one"]) (sc := defScope s__law_classes_right) (by decide +kernel)) (fun _ _ _ _ _ => by exact pg_name (i := 2) SC.nd rfl (by first | exact Or.inl rfl | exact Or.inr rfl)) (fun _ _ _ _ _ => by exact pts_nil) (fun _ _ _ _ _ => by exact (pe_hv (K := K) rfl (pv 2)))) (pe_lst (pa_cons pe_int (pa_cons pe_int (pa_cons pe_non (pa_cons pe_str (pa_cons pe_non (pa_cons (pe_un un_neg pe_int) (pa_cons pe_str (pa_cons (pe_un un_neg pe_int) pa_nil))))))))) (nomark _)) (pss_one (ps_ret pe_bl))
       pss_nil)
       (pss_cons (ps_set (i := 1) SC.nd rfl (by first | exact Or.inl rfl | exact Or.inr rfl) (pe_made (pmk_own PySem.F.excBase_ValueError T.x_DrillError T.g_DrillError T.kp_DrillError (raises_own T.sb_DrillError T.ty_DrillError) (by rfl))))
       (pss_one (ps_ret (pe_cmpR (op_eqDK (K := K) rfl hr.units) (pe_lc (own := [("one", 2)]) rfl SC.nd (pi_list (pe_op op_cat (pv 0) (pe_lst (pa_cons (pv 1) pa_nil)))) (blkOk_by (N := ["some", "bare", "one"]) (sc := defScope s__law_classes_right) (by decide +kernel)) (fun _ _ _ _ _ => by exact pg_name (i := 2) SC.nd rfl (by first | exact Or.inl rfl | exact Or.inr rfl)) (fun _ _ _ _ _ => by exact (pts_one (PW.pt (pw_or (pt_not (pt_val (pe_callB (call_isH (K := K) rfl) (by rfl) T.n_isinstance (by decide +kernel) (pa_cons (pv 2) (pa_cons (pe_glob (v := .ref T.C_DrillError) rfl T.g_DrillError rfl) pa_nil))))) (pw_or1 (pt_not (pt_val (pe_callB (call_isH (K := K) rfl) (by rfl) T.n_isinstance (by decide +kernel) (pa_cons (pv 2) (pa_cons (pe_bltn (v := .ty "ValueError") (by rfl) T.n_ValueError (by decide +kernel) rfl) pa_nil)))))))))) (fun _ _ _ _ _ => by exact pe_int)) (pe_lst pa_nil) (nomark _)))))))), ?_⟩
    have E0 : HEs K T.C_DrillError H [] [] := HEs.nil
    have W0 : Same H H := Same.refl _
    repeat (first | refine ⟨_, rfl, ?_⟩ | refine ⟨_, _, rfl, rfl, ?_⟩)
    refine ⟨by show 1 ≤ 1000; decide, fun b0 hb0 => ⟨b0, .int 3, rfl, upd_same, fun d0 hd0 hn0 => ⟨rfl, d0, _, upd_same, made_dict hd0 hn0, made_free hd0 hn0, ?_⟩⟩⟩
    have z0 := made_both (v := .int 3) hb0 hd0 hn0
    generalize upd (del _ b0) d0 _ = G0 at z0 ⊢
    obtain ⟨S0, e0⟩ := z0
    intro a0 n0
    have N0 := S0.trans (Same.new (o := Err (.ref T.C_BadRow) (some d0) a0) n0)
    have E1 := (E0.same N0).more (he_new T.Z_BadRow T.k_BadRow_DrillError T.k_BadRow_ValueError e0 n0)
    have W1 := W0.trans N0
    refine fun b1 hb1 => ⟨b1, .int 0, rfl, upd_same, fun d1 hd1 hn1 => ⟨rfl, d1, _, upd_same, made_dict hd1 hn1, made_free hd1 hn1, ?_⟩⟩
    have z1 := made_both (v := .int 0) hb1 hd1 hn1
    generalize upd (del _ b1) d1 _ = G1 at z1 ⊢
    obtain ⟨S1, e1⟩ := z1
    intro a1 n1
    have N1 := S1.trans (Same.new (o := Err (.ref T.C_BadCall) (some d1) a1) n1)
    have E2 := (E1.same N1).more (he_new T.Z_BadCall T.k_BadCall_DrillError T.k_BadCall_ValueError e1 n1)
    have W2 := W1.trans N1
    refine ⟨by show 1 ≤ 1000; decide, fun b2 hb2 => ⟨b2, .non, rfl, upd_same, fun d2 hd2 hn2 => ⟨rfl, d2, _, upd_same, made_dict hd2 hn2, made_free hd2 hn2, ?_⟩⟩⟩
    have z2 := made_both (v := .non) hb2 hd2 hn2
    generalize upd (del _ b2) d2 _ = G2 at z2 ⊢
    obtain ⟨S2, e2⟩ := z2
    intro a2 n2
    have N2 := S2.trans (Same.new (o := Err (.ref T.C_BadCounts) (some d2) a2) n2)
    have E3 := (E2.same N2).more (he_new T.Z_BadCounts T.k_BadCounts_DrillError T.k_BadCounts_ValueError e2 n2)
    have W3 := W2.trans N2
    refine fun b3 hb3 => ⟨b3, .str "g", rfl, upd_same, fun d3 hd3 hn3 => ⟨rfl, d3, _, upd_same, made_dict hd3 hn3, made_free hd3 hn3, ?_⟩⟩
    have z3 := made_both (v := .str "g") hb3 hd3 hn3
    generalize upd (del _ b3) d3 _ = G3 at z3 ⊢
    obtain ⟨S3, e3⟩ := z3
    intro a3 n3
    have N3 := S3.trans (Same.new (o := Err (.ref T.C_BadColour) (some d3) a3) n3)
    have E4 := (E3.same N3).more (he_new T.Z_BadColour T.k_BadColour_DrillError T.k_BadColour_ValueError e3 n3)
    have W4 := W3.trans N3
    refine ⟨by show 1 ≤ 1000; decide, fun b4 hb4 => ⟨b4, .non, rfl, upd_same, fun d4 hd4 hn4 => ⟨rfl, d4, _, upd_same, made_dict hd4 hn4, made_free hd4 hn4, ?_⟩⟩⟩
    have z4 := made_both (v := .non) hb4 hd4 hn4
    generalize upd (del _ b4) d4 _ = G4 at z4 ⊢
    obtain ⟨S4, e4⟩ := z4
    intro a4 n4
    have N4 := S4.trans (Same.new (o := Err (.ref T.C_BadGoal) (some d4) a4) n4)
    have E5 := (E4.same N4).more (he_new T.Z_BadGoal T.k_BadGoal_DrillError T.k_BadGoal_ValueError e4 n4)
    have W5 := W4.trans N4
    repeat (first | refine ⟨_, rfl, ?_⟩ | refine ⟨_, _, rfl, rfl, ?_⟩)
    refine fun b5 hb5 => ⟨b5, .int (-1), rfl, upd_same, fun d5 hd5 hn5 => ⟨rfl, d5, _, upd_same, made_dict hd5 hn5, made_free hd5 hn5, ?_⟩⟩
    have z5 := made_both (v := .int (-1)) hb5 hd5 hn5
    generalize upd (del _ b5) d5 _ = G5 at z5 ⊢
    obtain ⟨S5, e5⟩ := z5
    intro a5 n5
    have N5 := S5.trans (Same.new (o := Err (.ref T.C_BadIndex) (some d5) a5) n5)
    have E6 := (E5.same N5).more (he_new T.Z_BadIndex T.k_BadIndex_DrillError T.k_BadIndex_ValueError e5 n5)
    have W6 := W5.trans N5
    refine ⟨by show 6 ≤ sizeLine; decide, fun l1 m1 => ?_⟩
    have M1 := Same.new (o := .lst [.ref a0, .ref a1, .ref a2, .ref a3, .ref a4, .ref a5]) m1
    have E6 := E6.same M1
    have W6 := W6.trans M1
    have L1 := upd_at (o := .lst [.ref a0, .ref a1, .ref a2, .ref a3, .ref a4, .ref a5]) m1
    repeat (first | refine ⟨_, rfl, ?_⟩ | refine ⟨_, _, rfl, rfl, ?_⟩)
    refine ⟨by show 1 ≤ 1000; decide, fun b6 hb6 => ⟨b6, .str "x", rfl, upd_same, fun d6 hd6 hn6 => ⟨rfl, d6, _, upd_same, made_dict hd6 hn6, made_free hd6 hn6, ?_⟩⟩⟩
    have z6 := made_both (v := .str "x") hb6 hd6 hn6
    generalize upd (del _ b6) d6 _ = G6 at z6 ⊢
    obtain ⟨S6, e6⟩ := z6
    intro a6 n6
    have N6 := S6.trans (Same.new (o := Err (.ref T.C_BadText) (some d6) a6) n6)
    have E7 := (E6.same N6).more (he_new T.Z_BadText T.k_BadText_DrillError T.k_BadText_ValueError e6 n6)
    have W7 := W6.trans N6
    have L1 := N6 _ _ L1
    repeat (first | refine ⟨_, rfl, ?_⟩ | refine ⟨_, _, rfl, rfl, ?_⟩)
    refine fun b7 hb7 => ⟨b7, .int (-2), rfl, upd_same, fun d7 hd7 hn7 => ⟨rfl, d7, _, upd_same, made_dict hd7 hn7, made_free hd7 hn7, ?_⟩⟩
    have z7 := made_both (v := .int (-2)) hb7 hd7 hn7
    generalize upd (del _ b7) d7 _ = G7 at z7 ⊢
    obtain ⟨S7, e7⟩ := z7
    intro a7 n7
    have N7 := S7.trans (Same.new (o := Err (.ref T.C_BadTimes) (some d7) a7) n7)
    have E8 := (E7.same N7).more (he_new T.Z_BadTimes T.k_BadTimes_DrillError T.k_BadTimes_ValueError e7 n7)
    have W8 := W7.trans N7
    have L1 := N7 _ _ L1
    refine ⟨by show 2 ≤ sizeLine; decide, fun l2 m2 => ?_⟩
    have M2 := Same.new (o := .lst [.ref a6, .ref a7]) m2
    have E8 := E8.same M2
    have W8 := W8.trans M2
    have L1 := M2 _ _ L1
    refine ⟨l1, l2, _, _, rfl, rfl, L1, upd_same, by show 8 ≤ sizeLine; decide, fun l3 m3 => ?_⟩
    have M3 := Same.new (o := .lst ([.ref a0, .ref a1, .ref a2, .ref a3, .ref a4, .ref a5] ++ [.ref a6, .ref a7])) m3
    have E8 : HEs K T.C_DrillError _ ([.ref a0, .ref a1, .ref a2, .ref a3, .ref a4, .ref a5] ++ [.ref a6, .ref a7]) [.int 3, .int 0, .non, .str "g", .non, .int (-1), .str "x", .int (-2)] := E8.same M3
    have W8 := W8.trans M3
    have L3 := upd_at (o := .lst ([.ref a0, .ref a1, .ref a2, .ref a3, .ref a4, .ref a5] ++ [.ref a6, .ref a7])) m3
    obtain ⟨es, ees⟩ : ∃ es : List V, es = [.ref a0, .ref a1, .ref a2, .ref a3, .ref a4, .ref a5] ++ [.ref a6, .ref a7] := ⟨_, rfl⟩
    rw [← ees] at L3 E8 W8 ⊢
    have hel : es.length = 8 := by rw [ees]; rfl
    have E9 := And.intro L3 (And.intro E8 W8)
    clear L3 E8 W8
    generalize upd (upd (upd _ _ _) l2 _) l3 _ = HH at E9 ⊢
    obtain ⟨L3, E8, W8⟩ := E9
    repeat (first | refine ⟨_, rfl, ?_⟩ | refine ⟨_, _, rfl, rfl, ?_⟩)
    refine ⟨⟨_, SqL.of L3⟩, fun D hD => ?_⟩
    refine lc_it (walk_list (xs := es)) (fun i H' => Same HH H' ∧ H' D = some (.lst (([.int 3, .int 0, .non, .str "g", .non, .int (-1), .str "x", .int (-2)] : List V).take i))) ⟨Same.new hD, upd_same⟩ (fun i H' _ p => SqL.of (p.1 _ _ L3)) ?_ ?_
    · rintro i y H2 H3 hi ⟨S, hl⟩ ⟨rfl, hy⟩
      refine ⟨rfl, ?_⟩
      obtain ⟨v, hv⟩ := get_of_lt (l := ([.int 3, .int 0, .non, .str "g", .non, .int (-1), .str "x", .int (-2)] : List V)) (i := i) (by rw [← E8.1]; exact lt_of_get hy)
      obtain ⟨a, C, dd, rfl, TT, h1, h2, h3, h4⟩ := E8.2 i y v hy hv
      repeat (first | refine ⟨_, rfl, ?_⟩ | refine ⟨_, _, rfl, rfl, ?_⟩)
      refine ⟨a, C, dd, _, v, rfl, S _ _ h1, S _ _ h2, TT, rfl, ?_⟩
      refine ⟨_, hl, ?_, ?_, ?_⟩
      · exact Nat.lt_of_le_of_lt (List.length_take_le _ _) (Nat.lt_of_lt_of_le hi (by rw [hel]; decide))
      · exact ext_same S hD (Same.refl _)
      · rw [upd_same, take_one hv]
    rintro G ⟨S, hl⟩
    rw [hel] at hl
    repeat (first | refine ⟨_, rfl, ?_⟩ | refine ⟨_, _, rfl, rfl, ?_⟩)
    refine ⟨by show 8 ≤ sizeLine; decide, fun l4 m4 => ?_⟩
    refine ⟨.list [.int 3, .int 0, .none, .str "g", .none, .int (-1), .str "x", .int (-2)], .list [.int 3, .int 0, .none, .str "g", .none, .int (-1), .str "x", .int (-2)],
      .lst (SqL.of ((Same.new m4) _ _ hl)) (.cons (.int _) (.cons (.int _) (.cons .non (.cons (.str _) (.cons .non (.cons (.int _) (.cons (.str _) (.cons (.int _) .nil)))))))), .lst (SqL.of upd_same) (.cons (.int _) (.cons (.int _) (.cons .non (.cons (.str _) (.cons .non (.cons (.int _) (.cons (.str _) (.cons (.int _) .nil)))))))), by decide +kernel, by decide +kernel, ?_⟩
    rw [show PyData.eqv (.list [.int 3, .int 0, .none, .str "g", .none, .int (-1), .str "x", .int (-2)]) (.list [.int 3, .int 0, .none, .str "g", .none, .int (-1), .str "x", .int (-2)]) = true by decide +kernel, Bool.not_true]
    repeat (first | refine ⟨_, rfl, ?_⟩ | refine ⟨_, _, rfl, rfl, ?_⟩)
    refine iteF (A := True) ?_
    intro a8 n8
    have W9 := S.trans ((Same.new m4).trans (Same.new (o := Err (.ref T.C_DrillError) none a8) n8))
    have B8 := upd_at (o := Err (.ref T.C_DrillError) none a8) n8
    repeat (first | refine ⟨_, rfl, ?_⟩ | refine ⟨_, _, rfl, rfl, ?_⟩)
    refine ⟨by show 1 ≤ sizeLine; decide, fun l5 m5 => ?_⟩
    have W10 := W9.trans (Same.new (o := .lst [.ref a8]) m5)
    have B9 := (Same.new (o := .lst [.ref a8]) m5) _ _ B8
    refine ⟨l3, l5, _, _, rfl, rfl, W10 _ _ L3, upd_same, by rw [hel]; show 8 + 1 ≤ sizeLine; decide, fun l6 m6 => ?_⟩
    have W11 := W10.trans (Same.new (o := .lst (es ++ [.ref a8])) m6)
    have B10 := (Same.new (o := .lst (es ++ [.ref a8])) m6) _ _ B9
    have L6 := upd_at (o := .lst (es ++ [.ref a8])) m6
    have E9 := E8.same W11
    generalize upd (upd _ l5 _) l6 _ = HI at W11 B10 L6 E9 ⊢
    repeat (first | refine ⟨_, rfl, ?_⟩ | refine ⟨_, _, rfl, rfl, ?_⟩)
    refine ⟨⟨_, SqL.of L6⟩, fun D2 hD2 => ?_⟩
    refine lc_it (walk_list (xs := es ++ [.ref a8])) (fun i H' => Same HI H' ∧ H' D2 = some (.lst [])) ⟨Same.new hD2, upd_same⟩ (fun i H' _ p => SqL.of (p.1 _ _ L6)) ?_ ?_
    · rintro i y H2 H3 hi ⟨S2, hl2⟩ ⟨eH, hy⟩
      subst eH
      refine ⟨rfl, ?_⟩
      have hB : HB K T.C_DrillError H3 y := by
        by_cases q : i < es.length
        · rw [List.getElem?_append_left q] at hy
          obtain ⟨v, hv⟩ := get_of_lt (l := ([.int 3, .int 0, .non, .str "g", .non, .int (-1), .str "x", .int (-2)] : List V)) (i := i) (by rw [← E8.1]; exact q)
          exact ((E9.2 i y v hy hv).same S2).toB
        · rw [List.getElem?_append_right (by omega)] at hy
          have z : i - es.length = 0 := by have := lt_of_get hy; simp at this; omega
          rw [z] at hy
          exact ⟨a8, T.C_DrillError, none, (Option.some.inj hy).symm, S2 _ _ B10, .inl rfl, T.Z_DrillError, T.k_DrillError_DrillError, T.k_DrillError_ValueError⟩
      obtain ⟨a, C, d, rfl, h1, h2, TT, k1, k2⟩ := hB
      repeat (first | refine ⟨_, rfl, ?_⟩ | refine ⟨_, _, rfl, rfl, ?_⟩)
      refine ⟨a, C, d, _, _, true, rfl, h1, h2, TT, .own _, k1, ?_⟩
      repeat (first | refine ⟨_, rfl, ?_⟩ | refine ⟨_, _, rfl, rfl, ?_⟩)
      refine iteF (A := True) ?_
      repeat (first | refine ⟨_, rfl, ?_⟩ | refine ⟨_, _, rfl, rfl, ?_⟩)
      refine ⟨a, C, d, _, _, true, rfl, h1, h2, TT, .ty _, k2, ?_⟩
      repeat (first | refine ⟨_, rfl, ?_⟩ | refine ⟨_, _, rfl, rfl, ?_⟩)
      trace_state
      exact ⟨S2, hl2⟩
    rintro G2 ⟨S2, hl2⟩
    repeat (first | refine ⟨_, rfl, ?_⟩ | refine ⟨_, _, rfl, rfl, ?_⟩)
    refine ⟨by show 0 ≤ sizeLine; decide, fun l7 m7 => ?_⟩
    refine ⟨.list [], .list [], .lst (SqL.of ((Same.new m7) _ _ hl2)) .nil, .lst (SqL.of upd_same) .nil, by decide +kernel, by decide +kernel, ?_⟩
    rw [show PyData.eqv (.list []) (.list []) = true by decide +kernel]
    exact q _ (W8.trans (W11.trans (S2.trans (Same.new m7))))
end Dr
namespace Dr
open PySem L2
theorem SC_law : FnScope ["script", "rng", "lap", "letters", "orders", "numbers", "wrong", "text", "line", "place", "bad", "due", "spot"] ["script"] (defScope s_law) := ⟨rfl, rfl, rfl, by decide +kernel, rfl, by decide +kernel, by decide +kernel⟩

theorem ok_law {P : Program} {w : World} {K : PySem.W.Frag} {mg : Str → Option Value} {base : Heap} (T : Txt K mg) (G__law_rng : FnOk P w K mg base CX0 1 T.a__law_rng T.fd__law_rng ["script"] (sp_law_rng K)) (G__law_classes_right : FnOk P w K mg base CX0 3 T.a__law_classes_right T.fd__law_classes_right [] (sp_law_classes_right K)) (G__law_letters : FnOk P w K mg base CX0 2 T.a__law_letters T.fd__law_letters ["rng"] (sp_law_letters K)) (G__law_spoiled_orders : FnOk P w K mg base CX0 2 T.a__law_spoiled_orders T.fd__law_spoiled_orders ["rng", "orders"] (sp_law_spoiled_orders K)) (G__law_orders : FnOk P w K mg base CX0 3 T.a__law_orders T.fd__law_orders ["rng", "letters", "longest", "highest"] (sp_law_orders K)) (G__law_spoiled_numbers : FnOk P w K mg base CX0 2 T.a__law_spoiled_numbers T.fd__law_spoiled_numbers ["rng", "numbers"] (sp_law_spoiled_numbers K)) (G__law_tally : FnOk P w K mg base CX0 1 T.a__law_tally T.fd__law_tally ["line"] (sp_law_tally K)) (G__law_line : FnOk P w K mg base CX0 2 T.a__law_line T.fd__law_line ["rng", "letters", "longest"] (sp_law_line K)) (G__law_draw : FnOk P w K mg base CX0 1 T.a__law_draw T.fd__law_draw ["rng", "limit"] (sp_law_draw K)) (G__law_error : FnOk P w K mg base CX0 5 T.a__law_error T.fd__law_error ["door", "orders", "numbers", "text"] (sx_law_error K T.C_BadRow T.C_BadCall T.C_BadCounts T.C_BadColour)) (G__law_bad_order : FnOk P w K mg base CX0 1 T.a__law_bad_order T.fd__law_bad_order ["orders"] (sp_law_bad_order K)) : FnG P w K mg base CX0 6 T.a_law T.fd_law ["script"] (sp_law K) := by
  have SC := SC_law
  refine okG T.F_law SC (fun vs H Q E h => ?_) (fun cdv A outer s H vs Q E hr gd h => ?_)
  · obtain ⟨a, ns, rfl, hS, h63, q0⟩ := h
    rfl
  · obtain ⟨a, ns, rfl, hS, h63, q0⟩ := h
    refine ⟨_, (pss_cons (ps_set (i := 1) SC.nd rfl (by first | exact Or.inl rfl | exact Or.inr rfl) (pe_call G__law_rng (hr.mono (by decide)) (by rfl) T.m__law_rng T.F__law_rng.kp T.b__law_rng .nil pass0 (pa_cons (pv 0) pa_nil)))
       (pss_cons (ps_if (pt_not (pt_val (pe_call0 G__law_classes_right (hr.mono (by decide)) (by rfl) T.m__law_classes_right T.F__law_classes_right.kp T.b__law_classes_right .nil pass0))) (pss_one (ps_ret pe_bl))
       pss_nil)
       (pss_cons (ps_for PassesOwn.never rfl (pi_range1 (by rfl) T.n_range (pa_cons (pe_op op_add pe_int (pe_callB (call_min2 rfl) (by rfl) T.n_min (by decide +kernel) (pa_cons pe_int (pa_cons (pe_callB (call_len_seqK (K := K) rfl) (by rfl) T.n_len (by decide +kernel) (pa_cons (pv 0) pa_nil)) pa_nil)))) pa_nil)) (pg_name (i := 2) SC.nd rfl (by first | exact Or.inl rfl | exact Or.inr rfl))
       (pss_cons (ps_set (i := 3) SC.nd rfl (by first | exact Or.inl rfl | exact Or.inr rfl) (pe_call G__law_letters (hr.mono (by decide)) (by rfl) T.m__law_letters T.F__law_letters.kp T.b__law_letters .nil pass0 (pa_cons (pv 1) pa_nil)))
       (pss_cons (ps_set (i := 4) SC.nd rfl (by first | exact Or.inl rfl | exact Or.inr rfl) (pe_call G__law_spoiled_orders (hr.mono (by decide)) (by rfl) T.m__law_spoiled_orders T.F__law_spoiled_orders.kp T.b__law_spoiled_orders .nil pass0 (pa_cons (pv 1) (pa_cons (pe_call G__law_orders (hr.mono (by decide)) (by rfl) T.m__law_orders T.F__law_orders.kp T.b__law_orders .nil pass0 (pa_cons (pv 1) (pa_cons (pv 3) (pa_cons pe_int (pa_cons pe_int pa_nil))))) pa_nil))))
       (pss_cons (ps_asg (pe_call G__law_spoiled_numbers (hr.mono (by decide)) (by rfl) T.m__law_spoiled_numbers T.F__law_spoiled_numbers.kp T.b__law_spoiled_numbers .nil pass0 (pa_cons (pv 1) (pa_cons (pe_call G__law_tally (hr.mono (by decide)) (by rfl) T.m__law_tally T.F__law_tally.kp T.b__law_tally .nil pass0 (pa_cons (pe_call G__law_line (hr.mono (by decide)) (by rfl) T.m__law_line T.F__law_line.kp T.b__law_line .nil pass0 (pa_cons (pv 1) (pa_cons (pv 3) (pa_cons pe_int pa_nil)))) pa_nil)) pa_nil))) (pg_tup rfl (pgs_cons (pg_name (i := 5) SC.nd rfl (by first | exact Or.inl rfl | exact Or.inr rfl)) (pgs_cons (pg_name (i := 6) SC.nd rfl (by first | exact Or.inl rfl | exact Or.inr rfl)) pgs_nil))))
       (pss_cons (ps_set (i := 7) SC.nd rfl (by first | exact Or.inl rfl | exact Or.inr rfl) (pe_ix (ix_listK (K := K) rfl) (pe_lst (pa_cons pe_str (pa_cons pe_str (pa_cons pe_str (pa_cons pe_str (pa_cons pe_str (pa_cons pe_str (pa_cons pe_str (pa_cons pe_str pa_nil))))))))) (pe_call G__law_draw (hr.mono (by decide)) (by rfl) T.m__law_draw T.F__law_draw.kp T.b__law_draw .nil pass0 (pa_cons (pv 1) (pa_cons pe_int pa_nil))) (fun _ _ => rfl)))
       (pss_cons (ps_set (i := 8) SC.nd rfl (by first | exact Or.inl rfl | exact Or.inr rfl) (pe_call G__law_line (hr.mono (by decide)) (by rfl) T.m__law_line T.F__law_line.kp T.b__law_line .nil pass0 (pa_cons (pv 1) (pa_cons (pv 3) (pa_cons pe_int pa_nil)))))
       (pss_cons (ps_set (i := 9) SC.nd rfl (by first | exact Or.inl rfl | exact Or.inr rfl) (pe_call G__law_draw (hr.mono (by decide)) (by rfl) T.m__law_draw T.F__law_draw.kp T.b__law_draw .nil pass0 (pa_cons (pv 1) (pa_cons (pe_op op_add (pe_callB call_len_str (by rfl) T.n_len (by decide +kernel) (pa_cons (pv 8) pa_nil)) pe_int) pa_nil))))
       (pss_cons (ps_set (i := 8) SC.nd rfl (by first | exact Or.inl rfl | exact Or.inr rfl) (pe_op op_add_str (pe_op op_add_str (pe_slice sl_str (pv 8) po_none (po_some (pv 9))) (pe_ix (ix_listK (K := K) rfl) (pe_lst (pa_cons pe_str (pa_cons pe_str (pa_cons pe_str (pa_cons pe_str (pa_cons pe_str (pa_cons pe_str pa_nil))))))) (pe_call G__law_draw (hr.mono (by decide)) (by rfl) T.m__law_draw T.F__law_draw.kp T.b__law_draw .nil pass0 (pa_cons (pv 1) (pa_cons pe_int pa_nil))) (fun _ _ => rfl))) (pe_slice sl_str (pv 8) (po_some (pv 9)) po_none)))
       (pss_cons (ps_setLc (i := 10) (own := [("spot", 12)]) rfl SC.nd rfl rfl (sw_true rfl rfl rfl (by decide +kernel)) (pi_range1 (by rfl) T.n_range (pa_cons (pe_callB call_len_str (by rfl) T.n_len (by decide +kernel) (pa_cons (pv 8) pa_nil)) pa_nil)) (blkOk_by (N := ["script", "rng", "lap", "letters", "orders", "numbers", "wrong", "text", "line", "place", "bad", "due", "spot"]) (sc := defScope s_law) (by decide +kernel)) (fun _ _ _ _ _ => by exact pg_name (i := 12) SC.nd rfl (by first | exact Or.inl rfl | exact Or.inr rfl)) (fun _ _ _ _ _ => by exact (pts_one (pt_cmpR op_notIn_sign (pe_ix ix_str (pv 8) (pv 12) (fun _ _ => rfl)) pe_str (by with_unfolding_all rfl)))) (fun _ _ _ _ _ => by exact (pv 12)))
       (C8.pss_cut (ps_set (i := 11) SC.nd rfl (by first | exact Or.inl rfl | exact Or.inr rfl) (pe_ifExp (pt_cmpR (op_neDK (K := K) rfl hr.units) (pv 10) (pe_lst pa_nil) (nomark _)) (pe_tup (pa_cons pe_str (pa_cons (pe_ix (ix_listK (K := K) rfl) (pv 10) pe_int (fun _ _ => rfl)) pa_nil))) pe_non))
       (pss_cons (ps_if (pt_cmpR (op_neDK (K := K) rfl hr.units) (pe_call G__law_error (hr.mono (by decide)) (by rfl) T.m__law_error T.F__law_error.kp T.b__law_error .nil pass0 (pa_cons pe_int (pa_cons (pv 4) (pa_cons (pv 5) (pa_cons (pv 8) pa_nil))))) (pv 11) (nomark _)) (pss_one (ps_ret pe_bl))
       pss_nil)
       (C8.pss_cut (ps_set (i := 11) SC.nd rfl (by first | exact Or.inl rfl | exact Or.inr rfl) (pe_ifExp (pt_cmpR (op_neDK (K := K) rfl hr.units) (pv 6) (pe_lst pa_nil) (nomark _)) (pe_tup (pa_cons pe_str (pa_cons (pe_ix (ix_listK (K := K) rfl) (pv 6) pe_int (fun _ _ => rfl)) pa_nil))) pe_non))
       (C8.pss_cut (ps_if (pt_cmpR op_notN (pe_call G__law_bad_order (hr.mono (by decide)) (by rfl) T.m__law_bad_order T.F__law_bad_order.kp T.b__law_bad_order .nil pass0 (pa_cons (pv 4) pa_nil)) pe_non (nomark _)) (pss_one (ps_set (i := 11) SC.nd rfl (by first | exact Or.inl rfl | exact Or.inr rfl) (pe_tup (pa_cons pe_str (pa_cons (pe_call G__law_bad_order (hr.mono (by decide)) (by rfl) T.m__law_bad_order T.F__law_bad_order.kp T.b__law_bad_order .nil pass0 (pa_cons (pv 4) pa_nil)) pa_nil)))))
       pss_nil)
       (pss_cons (ps_if (pt_cmpR (op_neDK (K := K) rfl hr.units) (pe_call G__law_error (hr.mono (by decide)) (by rfl) T.m__law_error T.F__law_error.kp T.b__law_error .nil pass0 (pa_cons pe_int (pa_cons (pv 4) (pa_cons (pv 5) (pa_cons (pv 7) pa_nil))))) (pv 11) (nomark _)) (pss_one (ps_ret pe_bl))
       pss_nil)
       (C8.pss_cut (ps_if (PW.pt (pw_and (pt_cmpR op_isN (pv 11) pe_non (nomark _)) (pw_and1 (pt_cmpR (op_notIn_seqK (K := K) rfl) (pv 7) (pe_callTy (call_list_text rfl) (by rfl) T.n_list (by decide +kernel) (pa_cons pe_str pa_nil)) (by with_unfolding_all rfl))))) (pss_one (ps_set (i := 11) SC.nd rfl (by first | exact Or.inl rfl | exact Or.inr rfl) (pe_tup (pa_cons pe_str (pa_cons (pv 7) pa_nil)))))
       pss_nil)
       (pss_one (ps_if (pt_cmpR (op_neDK (K := K) rfl hr.units) (pe_call G__law_error (hr.mono (by decide)) (by rfl) T.m__law_error T.F__law_error.kp T.b__law_error .nil pass0 (pa_cons pe_int (pa_cons (pv 4) (pa_cons (pv 5) (pa_cons (pv 7) pa_nil))))) (pv 11) (nomark _)) (pss_one (ps_ret pe_bl))
       pss_nil)))))))))))))))))
       (pss_one (ps_ret pe_bl))))), ?_⟩
    repeat (first | refine ⟨_, rfl, ?_⟩ | refine ⟨_, _, rfl, rfl, ?_⟩)
    refine ⟨a, ns, rfl, hS, by omega, fun H1 r S1 nr R1 => ?_⟩
    repeat (first | refine ⟨_, rfl, ?_⟩ | refine ⟨_, _, rfl, rfl, ?_⟩)
    refine ⟨rfl, fun H2 S2 => ?_⟩
    repeat (first | refine ⟨_, rfl, ?_⟩ | refine ⟨_, _, rfl, rfl, ?_⟩)
    refine iteF (A := True) ?_
    have R2 := Rg.same S2 R1
    repeat (first | refine ⟨_, rfl, ?_⟩ | refine ⟨_, _, rfl, rfl, ?_⟩)
    refine ⟨_, _, rfl, .inl ((S1.trans S2).seq hS), ?_⟩
    rw [List.length_map]
    refine ⟨_, _, rfl, ?_⟩
    repeat (first | refine ⟨_, rfl, ?_⟩ | refine ⟨_, _, rfl, rfl, ?_⟩)
    generalize hn : (10 : Int) + (if (ns.length : Int) < 10 then (ns.length : Int) else 10) = n
    have hn20 : 0 ≤ n ∧ n ≤ 20 := by rw [← hn]; split <;> omega
    refine ⟨by omega, by omega, ?_⟩
    refine for_it walk_range (fun i σ H' => Rg H' r (i * 30000) ∧ ∃ u2 u3 u4 u5 u6 u7 u8 u9 u10 u11 u12 : Option V, σ = [some (.ref a), some (.ref r), u2, u3, u4, u5, u6, u7, u8, u9, u10, u11, u12])
      ⟨R2, none, none, none, none, none, none, none, none, none, none, none, rfl⟩ (fun _ _ _ _ _ => trivial) ?_ ?_
    · rintro i y0 σ G0 G0' hi ⟨R2, u2, u3, u4, u5, u6, u7, u8, u9, u10, u11, u12, rfl⟩ ⟨rfl, rfl⟩
      have hc : i * 30000 ≤ 600000 := by omega
      obtain ⟨c, ec⟩ : ∃ c, c = i * 30000 := ⟨_, rfl⟩
      rw [← ec] at R2 hc
      repeat (first | refine ⟨_, rfl, ?_⟩ | refine ⟨_, _, rfl, rfl, ?_⟩)
      refine ⟨r, c, rfl, R2, by omega, fun H3 pl ls S3 R3 fl npl hl hls => ?_⟩
      have hL3 : SqL K (hid r H3) pl (ls.map V.str) := SqL.of (hid_get npl hl)
      repeat (first | refine ⟨_, rfl, ?_⟩ | refine ⟨_, _, rfl, rfl, ?_⟩)
      refine ⟨r, pl, 8, 20, ls, c + 7, rfl, R3, by omega, hL3, hls, by decide, by decide, by decide, by decide, fun H4 d0 D0 S4 R4 hD0 hv hle hlen => ?_⟩
      refine ⟨r, d0, c + 7007, D0, rfl, R4, by omega, hD0, by omega, fun H5 d D S5 R5 hD => ?_⟩
      repeat (first | refine ⟨_, rfl, ?_⟩ | refine ⟨_, _, rfl, rfl, ?_⟩)
      refine ⟨r, pl, 60, ls, c + 9007, rfl, R5, by omega, (S4.trans S5).seq hL3, hls, by decide, by decide, fun H6 z S6 R6 hz hzl => ?_⟩
      refine ⟨_, rfl, ?_⟩
      intro H7 pt S7 ft et
      have R7 : Rg H7 r (c + 13007) := Rg.same S7 R6
      have npt : pt ≠ r := by
        obtain ⟨_, _, _, e, _⟩ := R6
        exact (ne_of_none e ft).symm
      refine ⟨r, pt, c + 13007, tally z.cps.toList, rfl, R7, by omega, npt, et, rfl, tally_nn _, fun H8 t p q ms S8 R8 nt np nq ht hp hq => ?_⟩
      refine ⟨_, _, rfl, SqT.of ht, rfl, _, _, rfl, _, _, rfl, rfl, ?_⟩
      have S38 := S4.trans (S5.trans (S6.trans ((hid_mono S7).trans S8)))
      have hD8 := hD.same (S6.trans ((hid_mono S7).trans S8))
      have hL8 := S38.seq hL3
      clear S4 S5 S6 S7 S8
      repeat (first | refine ⟨_, rfl, ?_⟩ | refine ⟨_, _, rfl, rfl, ?_⟩)
      refine ⟨by show 8 ≤ sizeLine; decide, fun m hm => ?_⟩
      have nmr := R8.ne hm
      repeat (first | refine ⟨_, rfl, ?_⟩ | refine ⟨_, _, rfl, rfl, ?_⟩)
      refine ⟨r, 8, c + 13037, rfl, R8.new hm, by omega, by decide, by decide, fun H9 n9 S9 R9 a0 a1 => ?_⟩
      obtain ⟨w, hw, ew⟩ := pick_strs (ls := ["a", "f", "g", "", "ab", "A", " ", "aa"]) a0 a1
      refine ⟨m, _, _, _, rfl, rfl, SqL.of (ext_get S9 nmr upd_same), ew, ?_⟩
      have hwk : PyData.strOk w = true := by
        simp only [List.mem_cons, List.not_mem_nil, or_false] at hw
        rcases hw with rfl | rfl | rfl | rfl | rfl | rfl | rfl | rfl <;> decide +kernel
      have S89 := (hid_new hm).trans S9
      repeat (first | refine ⟨_, rfl, ?_⟩ | refine ⟨_, _, rfl, rfl, ?_⟩)
      refine ⟨r, pl, 12, ls, c + 13038, rfl, R9, by omega, S89.seq hL8, hls, by decide, by decide, fun H10 x S10 R10 hx hxl => ?_⟩
      have hxs : x.cps.size ≤ 12 := by omega
      have hxz : x.length ≤ sizeLine := Nat.le_trans hxs (by decide)
      repeat (first | refine ⟨_, rfl, ?_⟩ | refine ⟨_, _, rfl, rfl, ?_⟩)
      refine ⟨hxz, ?_⟩
      repeat (first | refine ⟨_, rfl, ?_⟩ | refine ⟨_, _, rfl, rfl, ?_⟩)
      refine ⟨r, _, c + 17038, rfl, R10, by omega, by omega, by have : (x.length : Int) ≤ 12 := by (show (x.cps.size : Int) ≤ 12; omega)
                                                                omega, fun H11 n11 S11 R11 b0 b1 => ?_⟩
      repeat (first | refine ⟨_, rfl, ?_⟩ | refine ⟨_, _, rfl, rfl, ?_⟩)
      refine ⟨hxz, ?_⟩
      repeat (first | refine ⟨_, rfl, ?_⟩ | refine ⟨_, _, rfl, rfl, ?_⟩)
      refine ⟨by show 6 ≤ sizeLine; decide, fun m2 hm2 => ?_⟩
      have nmr2 := R11.ne hm2
      repeat (first | refine ⟨_, rfl, ?_⟩ | refine ⟨_, _, rfl, rfl, ?_⟩)
      refine ⟨r, 6, c + 17039, rfl, R11.new hm2, by omega, by decide, by decide, fun H12 n12 S12 R12 c0 c1 => ?_⟩
      obtain ⟨w2, hw2, ew2⟩ := pick_strs (ls := ["", "", "g", "A", "-b?", " "]) c0 c1
      refine ⟨m2, _, _, _, rfl, rfl, SqL.of (ext_get S12 nmr2 upd_same), ew2, ?_⟩
      have hw3 : w2.cps.size ≤ 3 := by
        simp only [List.mem_cons, List.not_mem_nil, or_false] at hw2
        rcases hw2 with rfl | rfl | rfl | rfl | rfl | rfl <;> decide +kernel
      have hc1 : (cutS x none (some n11)).cps.size ≤ 12 := Nat.le_trans (cutS_length x none (some n11)) hxs
      refine ⟨_, _, rfl, rfl, Nat.le_trans (by show (cutS x none (some n11)).cps.size + w2.cps.size ≤ 15; omega : (cutS x none (some n11)).length + w2.length ≤ 15) (by decide), ?_⟩
      repeat (first | refine ⟨_, rfl, ?_⟩ | refine ⟨_, _, rfl, rfl, ?_⟩)
      refine ⟨hxz, ?_⟩
      have hc2 : (cutS x (some n11) none).cps.size ≤ 12 := Nat.le_trans (cutS_length x (some n11) none) hxs
      refine ⟨_, _, rfl, rfl, Nat.le_trans (by show (cutS x none (some n11) ++ w2).cps.size + (cutS x (some n11) none).cps.size ≤ 27; rw [str_size]; omega : (cutS x none (some n11) ++ w2).length + (cutS x (some n11) none).length ≤ 27) (by decide), ?_⟩
      have hys : ((cutS x none (some n11) ++ w2) ++ cutS x (some n11) none).cps.size ≤ 27 := by rw [str_size, str_size]; omega
      generalize (cutS x none (some n11) ++ w2) ++ cutS x (some n11) none = y at hys ⊢
      have hyz : y.length ≤ sizeLine := Nat.le_trans hys (by decide)
      have S812 := S89.trans (S10.trans (S11.trans ((hid_new hm2).trans S12)))
      have hD12 := (hD8.same S812).same hid_same
      have hp12 := ext_get S812 np hp
      have hq12 := ext_get S812 nq hq
      clear S89 S10 S11 S12 S9
      repeat (first | refine ⟨_, rfl, ?_⟩ | refine ⟨_, _, rfl, rfl, ?_⟩)
      refine ⟨hyz, ?_⟩
      repeat (first | refine ⟨_, rfl, ?_⟩ | refine ⟨_, _, rfl, rfl, ?_⟩)
      have ey : y.length = y.cps.toList.length := by show y.cps.size = _; simp
      refine ⟨by omega, by (have : (y.length : Int) ≤ 27 := by (show (y.cps.size : Int) ≤ 27; omega)); omega, fun E hE => ?_⟩
      refine lc_it walk_range (fun j H' => Same H12 H' ∧ H' E = some (.lst ((nI (bads y j)).map V.int))) ⟨Same.new hE, upd_same⟩ (fun _ _ _ _ => trivial) ?_ ?_
      · rintro j y1 G1 G2 hj ⟨T, hl⟩ ⟨rfl, rfl⟩
        refine ⟨rfl, ?_⟩
        have hj2 : j < y.cps.toList.length := by omega
        obtain ⟨g, hg⟩ := get_of_lt hj2
        repeat (first | refine ⟨_, rfl, ?_⟩ | refine ⟨_, _, rfl, rfl, ?_⟩)
        refine ⟨_, _, g, rfl, rfl, hyz, by rw [Int.zero_add]; exact atI_nat hg, ?_⟩
        repeat (first | refine ⟨_, rfl, ?_⟩ | refine ⟨_, _, rfl, rfl, ?_⟩)
        rw [abc_list]
        have hgd : y.cps.toList.getD j 0 = g := by rw [List.getD_eq_getElem?_getD, hg]; rfl
        repeat (first | refine ⟨_, rfl, ?_⟩ | refine ⟨_, _, rfl, rfl, ?_⟩)
        refine if_two_not (fun e => ?_) (fun e => ?_)
        rotate_left
        · refine ⟨T, ?_⟩
          rw [bads_more, hgd, if_pos e, List.append_nil]
          exact hl
        · repeat (first | refine ⟨_, rfl, ?_⟩ | refine ⟨_, _, rfl, rfl, ?_⟩)
          refine ⟨_, hl, ?_, ?_, ?_⟩
          · rw [List.length_map]
            have ey2 : y.cps.toList.length = y.cps.size := by simp
            refine Nat.lt_of_le_of_lt (m := 27) ?_ (by decide)
            unfold nI bads
            rw [List.length_map]
            refine Nat.le_trans (List.length_filter_le _ _) ?_
            rw [List.length_range]
            omega
          · exact ext_same T hE (Same.refl _)
          · rw [upd_same, bads_more, hgd, if_neg e]
            show some (HO.lst (_ ++ [V.int (0 + (j : Int))])) = _
            unfold nI
            rw [List.map_append, List.map_append, Int.zero_add]
            rfl
      rintro H13 ⟨T13, hl13⟩
      have hl13 : H13 E = some (.lst ((nI (bads y y.length)).map V.int)) := hl13
      have hbh : (bads y y.length).head? = badZ y := bads_head y
      generalize bads y y.length = bd at hl13 hbh
      have R13 := Rg.same T13 R12
      refine ⟨fun σ' H' => Same H12 H' ∧ ∃ v, DueV K H' (due0 y) v ∧ σ' = [some (.ref a), some (.ref r), some (.int (0 + (i : Nat))), some (.ref pl), some (.ref d), some (.ref p), some (.ref q), some (.str w), some (.str y), some (.int n11), some (.ref E), some v, u12], ?_, ?_⟩
      · repeat (first | refine ⟨_, rfl, ?_⟩ | refine ⟨_, _, rfl, rfl, ?_⟩)
        refine ⟨by show 0 ≤ sizeLine; decide, fun l1 n1 => ?_⟩
        have T14 := T13.trans (Same.new (o := .lst []) n1)
        have hl14 := (Same.new (o := .lst []) n1) _ _ hl13
        refine ⟨dIs (nI bd), dIs [], dp_is (SqL.of hl14), dp_is (ns := []) (SqL.of upd_same), shaped_is _, shaped_is _, ?_⟩
        repeat (first | refine ⟨_, rfl, ?_⟩ | refine ⟨_, _, rfl, rfl, ?_⟩)
        cases bd with
        | nil =>
          rw [show PyData.eqv (dIs (nI [])) (dIs []) = true from eqv_nil, Bool.not_true]
          refine iteF (A := True) ?_
          repeat (first | refine ⟨_, rfl, ?_⟩ | refine ⟨_, _, rfl, rfl, ?_⟩)
          refine ⟨T14, _, ?_, rfl⟩
          unfold due0
          rw [← hbh]
          rfl
        | cons b0 bd =>
          rw [show PyData.eqv (dIs (nI (b0 :: bd))) (dIs []) = false from eqv_no _ _, Bool.not_false]
          refine iteT (B := True) ?_
          repeat (first | refine ⟨_, rfl, ?_⟩ | refine ⟨_, _, rfl, rfl, ?_⟩)
          refine ⟨_, _, _, _, rfl, rfl, SqL.of hl14, at_of (j := 0) rfl rfl, ?_⟩
          refine ⟨by show 2 ≤ sizeLine; decide, fun tt ntt => ?_⟩
          repeat (first | refine ⟨_, rfl, ?_⟩ | refine ⟨_, _, rfl, rfl, ?_⟩)
          refine ⟨T14.trans (Same.new ntt), _, ?_, rfl⟩
          unfold due0
          rw [← hbh]
          exact ⟨tt, rfl, SqT.of upd_same⟩
      clear hl13 T13 R13 hbh
      rintro σ' H15 ⟨T15, v15, hv15, rfl⟩
      have R15 := Rg.same T15 R12
      repeat (first | refine ⟨_, rfl, ?_⟩ | refine ⟨_, _, rfl, rfl, ?_⟩)
      refine ⟨0, d, p, D, ms, y, rfl, hD12.same T15, SqL.of (T15 _ _ hp12), told_due (K := K) fun H16 x16 T16 hx16 => ?_⟩
      repeat (first | refine ⟨_, rfl, ?_⟩ | refine ⟨_, _, rfl, rfl, ?_⟩)
      refine ⟨_, _, dp_p due0_sc hx16, dp_p due0_sc (hv15.same T16), shaped_p due0_sc, shaped_p due0_sc, ?_⟩
      rw [eqv_p due0_sc, Bool.not_true]
      repeat (first | refine ⟨_, rfl, ?_⟩ | refine ⟨_, _, rfl, rfl, ?_⟩)
      refine iteF (A := True) ?_
      have T16 := T15.trans T16
      refine ⟨fun σ' H' => Same H12 H' ∧ ∃ v, DueV K H' ((badN ms).map fun v => ("counts", v)) v ∧ σ' = [some (.ref a), some (.ref r), some (.int (0 + (i : Nat))), some (.ref pl), some (.ref d), some (.ref p), some (.ref q), some (.str w), some (.str y), some (.int n11), some (.ref E), some v, u12], ?_, ?_⟩
      · repeat (first | refine ⟨_, rfl, ?_⟩ | refine ⟨_, _, rfl, rfl, ?_⟩)
        refine ⟨by show 0 ≤ sizeLine; decide, fun l1 n1 => ?_⟩
        have T17 := T16.trans (Same.new (o := .lst []) n1)
        have hq17 := T17 _ _ hq12
        cases hb : badN ms with
        | none =>
          rw [hb] at hq17
          refine ⟨.list [], .list [], .lst (SqL.of hq17) .nil, .lst (SqL.of upd_same) .nil, by decide +kernel, by decide +kernel, ?_⟩
          repeat (first | refine ⟨_, rfl, ?_⟩ | refine ⟨_, _, rfl, rfl, ?_⟩)
          rw [eqv_nil, Bool.not_true]
          refine iteF (A := True) ?_
          repeat (first | refine ⟨_, rfl, ?_⟩ | refine ⟨_, _, rfl, rfl, ?_⟩)
          exact ⟨T17, _, rfl, rfl⟩
        | some v =>
          rw [hb] at hq17
          refine ⟨.list [dV v], .list [], .lst (SqL.of hq17) (.cons (dp_v (badN_sc hb)) .nil), .lst (SqL.of upd_same) .nil, shaped_one (badN_sc hb), by decide +kernel, ?_⟩
          repeat (first | refine ⟨_, rfl, ?_⟩ | refine ⟨_, _, rfl, rfl, ?_⟩)
          refine ⟨_, _, _, _, rfl, rfl, SqL.of hq17, at_of (j := 0) rfl rfl, ?_⟩
          refine ⟨by show 2 ≤ sizeLine; decide, fun tt ntt => ?_⟩
          repeat (first | refine ⟨_, rfl, ?_⟩ | refine ⟨_, _, rfl, rfl, ?_⟩)
          exact ⟨T17.trans (Same.new ntt), _, ⟨tt, rfl, SqT.of upd_same⟩, rfl⟩
      clear hx16 T16 T15 hv15 R15
      rintro σ' H17 ⟨T17, v17, hv17, rfl⟩
      refine ⟨fun σ' H' => Same H12 H' ∧ ∃ v, DueV K H' (due1 D ms) v ∧ σ' = [some (.ref a), some (.ref r), some (.int (0 + (i : Nat))), some (.ref pl), some (.ref d), some (.ref p), some (.ref q), some (.str w), some (.str y), some (.int n11), some (.ref E), some v, u12], ?_, ?_⟩
      · repeat (first | refine ⟨_, rfl, ?_⟩ | refine ⟨_, _, rfl, rfl, ?_⟩)
        refine ⟨d, D, rfl, hD12.same T17, fun b hb H18 T18 => ?_, fun hb H18 T18 => ?_⟩
        · refine ⟨rfl, _, rfl, if_two_not (fun _ => ?_) (fun h => by cases h)⟩
          repeat (first | refine ⟨_, rfl, ?_⟩ | refine ⟨_, _, rfl, rfl, ?_⟩)
          refine ⟨d, D, rfl, hD12.same (T17.trans T18), fun b2 hb2 H19 T19 => ?_, fun hb2 => by rw [hb] at hb2; cases hb2⟩
          refine ⟨by show 2 ≤ sizeLine; decide, fun tt ntt => ?_⟩
          repeat (first | refine ⟨_, rfl, ?_⟩ | refine ⟨_, _, rfl, rfl, ?_⟩)
          refine ⟨T17.trans (T18.trans (T19.trans (Same.new ntt))), _, ?_, rfl⟩
          unfold due1
          rw [hb2]
          exact ⟨tt, rfl, SqT.of upd_same⟩
        · refine ⟨rfl, _, rfl, if_two_not (fun h => absurd rfl h) (fun _ => ?_)⟩
          repeat (first | refine ⟨_, rfl, ?_⟩ | refine ⟨_, _, rfl, rfl, ?_⟩)
          refine ⟨T17.trans T18, _, ?_, rfl⟩
          unfold due1
          rw [hb]
          exact hv17.same T18
      clear hv17 T17
      rintro σ' H18 ⟨T18, v18, hv18, rfl⟩
      repeat (first | refine ⟨_, rfl, ?_⟩ | refine ⟨_, _, rfl, rfl, ?_⟩)
      refine ⟨1, d, p, D, ms, w, rfl, hD12.same T18, SqL.of (T18 _ _ hp12), told_due (K := K) fun H19 x19 T19 hx19 => ?_⟩
      repeat (first | refine ⟨_, rfl, ?_⟩ | refine ⟨_, _, rfl, rfl, ?_⟩)
      have hv19 := hv18.same T19
      have hx19 : DueV K H19 (due1 D ms) x19 := hx19
      refine ⟨_, _, dp_p due1_sc hx19, dp_p due1_sc hv19, shaped_p due1_sc, shaped_p due1_sc, ?_⟩
      rw [eqv_p due1_sc, Bool.not_true]
      repeat (first | refine ⟨_, rfl, ?_⟩ | refine ⟨_, _, rfl, rfl, ?_⟩)
      refine iteF (A := True) ?_
      have T19 := T18.trans T19
      refine ⟨fun σ' H' => Same H12 H' ∧ ∃ v, DueV K H' (due2 D ms w) v ∧ σ' = [some (.ref a), some (.ref r), some (.int (0 + (i : Nat))), some (.ref pl), some (.ref d), some (.ref p), some (.ref q), some (.str w), some (.str y), some (.int n11), some (.ref E), some v, u12], ?_, ?_⟩
      · repeat (first | refine ⟨_, rfl, ?_⟩ | refine ⟨_, _, rfl, rfl, ?_⟩)
        cases hdu : due1 D ms with
        | some pr =>
          rw [hdu] at hv19
          have e2 : due2 D ms w = some pr := by unfold due2; rw [hdu]
          obtain ⟨y2, v2⟩ := pr
          obtain ⟨t2, e19, hq2⟩ := hv19
          subst e19
          refine ⟨rfl, _, rfl, if_two (fun h => by cases h) (fun _ => ?_)⟩
          refine ⟨T19, _, ?_, rfl⟩
          rw [e2]
          exact ⟨t2, rfl, hq2⟩
        | none =>
          rw [hdu] at hv19
          have e19 : v18 = .non := hv19
          subst e19
          refine ⟨rfl, _, rfl, if_two (fun _ => ?_) (fun h => absurd rfl h)⟩
          repeat (first | refine ⟨_, rfl, ?_⟩ | refine ⟨_, _, rfl, rfl, ?_⟩)
          refine ⟨by decide +kernel, fun l1 n1 => ?_⟩
          rw [abc_signs]
          refine ⟨l1, colV, rfl, .inl (SqL.of upd_same), rfl, flat_strs _, ?_⟩
          rw [notin_abc]
          have T20 := T19.trans (Same.new (o := .lst colV) n1)
          cases ea : isC w with
          | false =>
            repeat (first | refine ⟨_, rfl, ?_⟩ | refine ⟨_, _, rfl, rfl, ?_⟩)
            refine iteT (B := True) ?_
            repeat (first | refine ⟨_, rfl, ?_⟩ | refine ⟨_, _, rfl, rfl, ?_⟩)
            refine ⟨by show 2 ≤ sizeLine; decide, fun tt ntt => ?_⟩
            repeat (first | refine ⟨_, rfl, ?_⟩ | refine ⟨_, _, rfl, rfl, ?_⟩)
            refine ⟨T20.trans (Same.new ntt), _, ?_, rfl⟩
            unfold due2
            rw [hdu, ea]
            exact ⟨tt, rfl, SqT.of upd_same⟩
          | true =>
            repeat (first | refine ⟨_, rfl, ?_⟩ | refine ⟨_, _, rfl, rfl, ?_⟩)
            refine iteF (A := True) ?_
            refine ⟨T20, _, ?_, rfl⟩
            unfold due2
            rw [hdu, ea]
            exact rfl
      clear hx19 hv19 T19 hv18
      rintro σ' H20 ⟨T20, v20, hv20, rfl⟩
      repeat (first | refine ⟨_, rfl, ?_⟩ | refine ⟨_, _, rfl, rfl, ?_⟩)
      refine ⟨2, d, p, D, ms, w, rfl, hD12.same T20, SqL.of (T20 _ _ hp12), told_due (K := K) fun H21 x21 T21 hx21 => ?_⟩
      repeat (first | refine ⟨_, rfl, ?_⟩ | refine ⟨_, _, rfl, rfl, ?_⟩)
      have hv21 := hv20.same T21
      have hx21 : DueV K H21 (due2 D ms w) x21 := hx21
      refine ⟨_, _, dp_p (due2_sc hwk) hx21, dp_p (due2_sc hwk) hv21, shaped_p (due2_sc hwk), shaped_p (due2_sc hwk), ?_⟩
      rw [eqv_p (due2_sc hwk), Bool.not_true]
      repeat (first | refine ⟨_, rfl, ?_⟩ | refine ⟨_, _, rfl, rfl, ?_⟩)
      refine iteF (A := True) ?_
      exact ⟨(Rg.same (T20.trans T21) R12).mono (by omega), _, _, _, _, _, _, _, _, _, _, _, rfl⟩
    · rintro σ H' ⟨R, u2, u3, u4, u5, u6, u7, u8, u9, u10, u11, u12, rfl⟩
      repeat (first | refine ⟨_, rfl, ?_⟩ | refine ⟨_, _, rfl, rfl, ?_⟩)
      exact q0 _
end Dr
namespace Dr
open PySem L2 PyProof.Rows
theorem all_mk {l : PySem.W.OpenLaw} {w : World} {K : PySem.W.Frag} {h : Heap} {mg : Str → Option Value} {fa : Addr} (X : K.In h) (G : h.Ns mainGlobals mg) (hfa : mg "law" = some (.ref fa))
    {f_is_colour : Addr} {od_is_colour an_is_colour : Option Addr} {sl_is_colour : Array (Option Value)} {oc_is_colour kV_is_colour dc_is_colour pm_is_colour cd_is_colour ct_is_colour : Value}
    {f_is_kind : Addr} {od_is_kind an_is_kind : Option Addr} {sl_is_kind : Array (Option Value)} {oc_is_kind kV_is_kind dc_is_kind pm_is_kind cd_is_kind ct_is_kind : Value}
    {f_is_call : Addr} {od_is_call an_is_call : Option Addr} {sl_is_call : Array (Option Value)} {oc_is_call kV_is_call dc_is_call pm_is_call cd_is_call ct_is_call : Value}
    {f_check_row : Addr} {od_check_row an_check_row : Option Addr} {sl_check_row : Array (Option Value)} {oc_check_row kV_check_row dc_check_row pm_check_row cd_check_row ct_check_row : Value}
    {f_check_drill : Addr} {od_check_drill an_check_drill : Option Addr} {sl_check_drill : Array (Option Value)} {oc_check_drill kV_check_drill dc_check_drill pm_check_drill cd_check_drill ct_check_drill : Value}
    {f_check_counts : Addr} {od_check_counts an_check_counts : Option Addr} {sl_check_counts : Array (Option Value)} {oc_check_counts kV_check_counts dc_check_counts pm_check_counts cd_check_counts ct_check_counts : Value}
    {f_check_colour : Addr} {od_check_colour an_check_colour : Option Addr} {sl_check_colour : Array (Option Value)} {oc_check_colour kV_check_colour dc_check_colour pm_check_colour cd_check_colour ct_check_colour : Value}
    {f_count_of : Addr} {od_count_of an_count_of : Option Addr} {sl_count_of : Array (Option Value)} {oc_count_of kV_count_of dc_count_of pm_count_of cd_count_of ct_count_of : Value}
    {f_count_movers : Addr} {od_count_movers an_count_movers : Option Addr} {sl_count_movers : Array (Option Value)} {oc_count_movers kV_count_movers dc_count_movers pm_count_movers cd_count_movers ct_count_movers : Value}
    {f_move_counts : Addr} {od_move_counts an_move_counts : Option Addr} {sl_move_counts : Array (Option Value)} {oc_move_counts kV_move_counts dc_move_counts pm_move_counts cd_move_counts ct_move_counts : Value}
    {f_colour_after_call : Addr} {od_colour_after_call an_colour_after_call : Option Addr} {sl_colour_after_call : Array (Option Value)} {oc_colour_after_call kV_colour_after_call dc_colour_after_call pm_colour_after_call cd_colour_after_call ct_colour_after_call : Value}
    {f_count_colours : Addr} {od_count_colours an_count_colours : Option Addr} {sl_count_colours : Array (Option Value)} {oc_count_colours kV_count_colours dc_count_colours pm_count_colours cd_count_colours ct_count_colours : Value}
    {f_run_on_counts : Addr} {od_run_on_counts an_run_on_counts : Option Addr} {sl_run_on_counts : Array (Option Value)} {oc_run_on_counts kV_run_on_counts dc_run_on_counts pm_run_on_counts cd_run_on_counts ct_run_on_counts : Value}
    {f_colour_after : Addr} {od_colour_after an_colour_after : Option Addr} {sl_colour_after : Array (Option Value)} {oc_colour_after kV_colour_after dc_colour_after pm_colour_after cd_colour_after ct_colour_after : Value}
    {f__law_rng : Addr} {od__law_rng an__law_rng : Option Addr} {sl__law_rng : Array (Option Value)} {oc__law_rng kV__law_rng dc__law_rng pm__law_rng cd__law_rng ct__law_rng : Value}
    {f__law_draw : Addr} {od__law_draw an__law_draw : Option Addr} {sl__law_draw : Array (Option Value)} {oc__law_draw kV__law_draw dc__law_draw pm__law_draw cd__law_draw ct__law_draw : Value}
    {f__law_letters : Addr} {od__law_letters an__law_letters : Option Addr} {sl__law_letters : Array (Option Value)} {oc__law_letters kV__law_letters dc__law_letters pm__law_letters cd__law_letters ct__law_letters : Value}
    {f__law_line : Addr} {od__law_line an__law_line : Option Addr} {sl__law_line : Array (Option Value)} {oc__law_line kV__law_line dc__law_line pm__law_line cd__law_line ct__law_line : Value}
    {f__law_order : Addr} {od__law_order an__law_order : Option Addr} {sl__law_order : Array (Option Value)} {oc__law_order kV__law_order dc__law_order pm__law_order cd__law_order ct__law_order : Value}
    {f__law_orders : Addr} {od__law_orders an__law_orders : Option Addr} {sl__law_orders : Array (Option Value)} {oc__law_orders kV__law_orders dc__law_orders pm__law_orders cd__law_orders ct__law_orders : Value}
    {f__law_tally : Addr} {od__law_tally an__law_tally : Option Addr} {sl__law_tally : Array (Option Value)} {oc__law_tally kV__law_tally dc__law_tally pm__law_tally cd__law_tally ct__law_tally : Value}
    {f__law_spoiled_orders : Addr} {od__law_spoiled_orders an__law_spoiled_orders : Option Addr} {sl__law_spoiled_orders : Array (Option Value)} {oc__law_spoiled_orders kV__law_spoiled_orders dc__law_spoiled_orders pm__law_spoiled_orders cd__law_spoiled_orders ct__law_spoiled_orders : Value}
    {f__law_bad_order : Addr} {od__law_bad_order an__law_bad_order : Option Addr} {sl__law_bad_order : Array (Option Value)} {oc__law_bad_order kV__law_bad_order dc__law_bad_order pm__law_bad_order cd__law_bad_order ct__law_bad_order : Value}
    {f__law_spoiled_numbers : Addr} {od__law_spoiled_numbers an__law_spoiled_numbers : Option Addr} {sl__law_spoiled_numbers : Array (Option Value)} {oc__law_spoiled_numbers kV__law_spoiled_numbers dc__law_spoiled_numbers pm__law_spoiled_numbers cd__law_spoiled_numbers ct__law_spoiled_numbers : Value}
    {f__law_error : Addr} {od__law_error an__law_error : Option Addr} {sl__law_error : Array (Option Value)} {oc__law_error kV__law_error dc__law_error pm__law_error cd__law_error ct__law_error : Value}
    {f__law_classes_right : Addr} {od__law_classes_right an__law_classes_right : Option Addr} {sl__law_classes_right : Array (Option Value)} {oc__law_classes_right kV__law_classes_right dc__law_classes_right pm__law_classes_right cd__law_classes_right ct__law_classes_right : Value}
    {f_law : Addr} {od_law an_law : Option Addr} {sl_law : Array (Option Value)} {oc_law kV_law dc_law pm_law cd_law ct_law : Value}
    {f_COLOURS : Addr} {t0_COLOURS : Tok} {t1_COLOURS : Tok} {t2_COLOURS : Tok} {t3_COLOURS : Tok} {t4_COLOURS : Tok} {t5_COLOURS : Tok} {n_COLOURS : Nat} {sl_COLOURS : Array (Option Value)}
    {C_DrillError : Addr}
    {C_BadRow I_BadRow N_BadRow : Addr} {nm_BadRow q_BadRow : Str} {bs_BadRow sub_BadRow : List Value} {sn_BadRow : List Str} {ab_BadRow : Bool} {col_BadRow : Option Bool} {dd_BadRow od_BadRow an_BadRow : Option Addr} {k0_BadRow k1_BadRow k2_BadRow k3_BadRow k5_BadRow : Option Value} {sl_BadRow : Array (Option Value)} {oc_BadRow kV_BadRow dc_BadRow pm_BadRow cd_BadRow ct_BadRow : Value}
    {C_BadCall I_BadCall N_BadCall : Addr} {nm_BadCall q_BadCall : Str} {bs_BadCall sub_BadCall : List Value} {sn_BadCall : List Str} {ab_BadCall : Bool} {col_BadCall : Option Bool} {dd_BadCall od_BadCall an_BadCall : Option Addr} {k0_BadCall k1_BadCall k2_BadCall k3_BadCall k5_BadCall : Option Value} {sl_BadCall : Array (Option Value)} {oc_BadCall kV_BadCall dc_BadCall pm_BadCall cd_BadCall ct_BadCall : Value}
    {C_BadCounts I_BadCounts N_BadCounts : Addr} {nm_BadCounts q_BadCounts : Str} {bs_BadCounts sub_BadCounts : List Value} {sn_BadCounts : List Str} {ab_BadCounts : Bool} {col_BadCounts : Option Bool} {dd_BadCounts od_BadCounts an_BadCounts : Option Addr} {k0_BadCounts k1_BadCounts k2_BadCounts k3_BadCounts k5_BadCounts : Option Value} {sl_BadCounts : Array (Option Value)} {oc_BadCounts kV_BadCounts dc_BadCounts pm_BadCounts cd_BadCounts ct_BadCounts : Value}
    {C_BadColour I_BadColour N_BadColour : Addr} {nm_BadColour q_BadColour : Str} {bs_BadColour sub_BadColour : List Value} {sn_BadColour : List Str} {ab_BadColour : Bool} {col_BadColour : Option Bool} {dd_BadColour od_BadColour an_BadColour : Option Addr} {k0_BadColour k1_BadColour k2_BadColour k3_BadColour k5_BadColour : Option Value} {sl_BadColour : Array (Option Value)} {oc_BadColour kV_BadColour dc_BadColour pm_BadColour cd_BadColour ct_BadColour : Value}
    {C_BadTimes I_BadTimes N_BadTimes : Addr} {nm_BadTimes q_BadTimes : Str} {bs_BadTimes sub_BadTimes : List Value} {sn_BadTimes : List Str} {ab_BadTimes : Bool} {col_BadTimes : Option Bool} {dd_BadTimes od_BadTimes an_BadTimes : Option Addr} {k0_BadTimes k1_BadTimes k2_BadTimes k3_BadTimes k5_BadTimes : Option Value} {sl_BadTimes : Array (Option Value)} {oc_BadTimes kV_BadTimes dc_BadTimes pm_BadTimes cd_BadTimes ct_BadTimes : Value}
    {C_BadText I_BadText N_BadText : Addr} {nm_BadText q_BadText : Str} {bs_BadText sub_BadText : List Value} {sn_BadText : List Str} {ab_BadText : Bool} {col_BadText : Option Bool} {dd_BadText od_BadText an_BadText : Option Addr} {k0_BadText k1_BadText k2_BadText k3_BadText k5_BadText : Option Value} {sl_BadText : Array (Option Value)} {oc_BadText kV_BadText dc_BadText pm_BadText cd_BadText ct_BadText : Value}
    {C_BadIndex I_BadIndex N_BadIndex : Addr} {nm_BadIndex q_BadIndex : Str} {bs_BadIndex sub_BadIndex : List Value} {sn_BadIndex : List Str} {ab_BadIndex : Bool} {col_BadIndex : Option Bool} {dd_BadIndex od_BadIndex an_BadIndex : Option Addr} {k0_BadIndex k1_BadIndex k2_BadIndex k3_BadIndex k5_BadIndex : Option Value} {sl_BadIndex : Array (Option Value)} {oc_BadIndex kV_BadIndex dc_BadIndex pm_BadIndex cd_BadIndex ct_BadIndex : Value}
    {C_BadGoal I_BadGoal N_BadGoal : Addr} {nm_BadGoal q_BadGoal : Str} {bs_BadGoal sub_BadGoal : List Value} {sn_BadGoal : List Str} {ab_BadGoal : Bool} {col_BadGoal : Option Bool} {dd_BadGoal od_BadGoal an_BadGoal : Option Addr} {k0_BadGoal k1_BadGoal k2_BadGoal k3_BadGoal k5_BadGoal : Option Value} {sl_BadGoal : Array (Option Value)} {oc_BadGoal kV_BadGoal dc_BadGoal pm_BadGoal cd_BadGoal ct_BadGoal : Value}
    (h1_is_colour : PySem.W.nsIn K mainGlobals "is_colour" = some (some (.ref f_is_colour)))
    (h2_is_colour : K.lookup f_is_colour = some ⟨oc_is_colour, od_is_colour, .func (PySem.W.fnOf "is_colour" "is_colour" (defArgs s_is_colour) (defBody s_is_colour) (defScope s_is_colour) .none kV_is_colour dc_is_colour pm_is_colour an_is_colour cd_is_colour ct_is_colour), sl_is_colour⟩)
    (h3_is_colour : PySem.W.codeIn K cd_is_colour "is_colour" = true) (h4_is_colour : PySem.W.keepIn K (.ref f_is_colour) = true)
    (h1_is_kind : PySem.W.nsIn K mainGlobals "is_kind" = some (some (.ref f_is_kind)))
    (h2_is_kind : K.lookup f_is_kind = some ⟨oc_is_kind, od_is_kind, .func (PySem.W.fnOf "is_kind" "is_kind" (defArgs s_is_kind) (defBody s_is_kind) (defScope s_is_kind) .none kV_is_kind dc_is_kind pm_is_kind an_is_kind cd_is_kind ct_is_kind), sl_is_kind⟩)
    (h3_is_kind : PySem.W.codeIn K cd_is_kind "is_kind" = true) (h4_is_kind : PySem.W.keepIn K (.ref f_is_kind) = true)
    (h1_is_call : PySem.W.nsIn K mainGlobals "is_call" = some (some (.ref f_is_call)))
    (h2_is_call : K.lookup f_is_call = some ⟨oc_is_call, od_is_call, .func (PySem.W.fnOf "is_call" "is_call" (defArgs s_is_call) (defBody s_is_call) (defScope s_is_call) .none kV_is_call dc_is_call pm_is_call an_is_call cd_is_call ct_is_call), sl_is_call⟩)
    (h3_is_call : PySem.W.codeIn K cd_is_call "is_call" = true) (h4_is_call : PySem.W.keepIn K (.ref f_is_call) = true)
    (h1_check_row : PySem.W.nsIn K mainGlobals "check_row" = some (some (.ref f_check_row)))
    (h2_check_row : K.lookup f_check_row = some ⟨oc_check_row, od_check_row, .func (PySem.W.fnOf "check_row" "check_row" (defArgs s_check_row) (defBody s_check_row) (defScope s_check_row) .none kV_check_row dc_check_row pm_check_row an_check_row cd_check_row ct_check_row), sl_check_row⟩)
    (h3_check_row : PySem.W.codeIn K cd_check_row "check_row" = true) (h4_check_row : PySem.W.keepIn K (.ref f_check_row) = true)
    (h1_check_drill : PySem.W.nsIn K mainGlobals "check_drill" = some (some (.ref f_check_drill)))
    (h2_check_drill : K.lookup f_check_drill = some ⟨oc_check_drill, od_check_drill, .func (PySem.W.fnOf "check_drill" "check_drill" (defArgs s_check_drill) (defBody s_check_drill) (defScope s_check_drill) .none kV_check_drill dc_check_drill pm_check_drill an_check_drill cd_check_drill ct_check_drill), sl_check_drill⟩)
    (h3_check_drill : PySem.W.codeIn K cd_check_drill "check_drill" = true) (h4_check_drill : PySem.W.keepIn K (.ref f_check_drill) = true)
    (h1_check_counts : PySem.W.nsIn K mainGlobals "check_counts" = some (some (.ref f_check_counts)))
    (h2_check_counts : K.lookup f_check_counts = some ⟨oc_check_counts, od_check_counts, .func (PySem.W.fnOf "check_counts" "check_counts" (defArgs s_check_counts) (defBody s_check_counts) (defScope s_check_counts) .none kV_check_counts dc_check_counts pm_check_counts an_check_counts cd_check_counts ct_check_counts), sl_check_counts⟩)
    (h3_check_counts : PySem.W.codeIn K cd_check_counts "check_counts" = true) (h4_check_counts : PySem.W.keepIn K (.ref f_check_counts) = true)
    (h1_check_colour : PySem.W.nsIn K mainGlobals "check_colour" = some (some (.ref f_check_colour)))
    (h2_check_colour : K.lookup f_check_colour = some ⟨oc_check_colour, od_check_colour, .func (PySem.W.fnOf "check_colour" "check_colour" (defArgs s_check_colour) (defBody s_check_colour) (defScope s_check_colour) .none kV_check_colour dc_check_colour pm_check_colour an_check_colour cd_check_colour ct_check_colour), sl_check_colour⟩)
    (h3_check_colour : PySem.W.codeIn K cd_check_colour "check_colour" = true) (h4_check_colour : PySem.W.keepIn K (.ref f_check_colour) = true)
    (h1_count_of : PySem.W.nsIn K mainGlobals "count_of" = some (some (.ref f_count_of)))
    (h2_count_of : K.lookup f_count_of = some ⟨oc_count_of, od_count_of, .func (PySem.W.fnOf "count_of" "count_of" (defArgs s_count_of) (defBody s_count_of) (defScope s_count_of) .none kV_count_of dc_count_of pm_count_of an_count_of cd_count_of ct_count_of), sl_count_of⟩)
    (h3_count_of : PySem.W.codeIn K cd_count_of "count_of" = true) (h4_count_of : PySem.W.keepIn K (.ref f_count_of) = true)
    (h1_count_movers : PySem.W.nsIn K mainGlobals "count_movers" = some (some (.ref f_count_movers)))
    (h2_count_movers : K.lookup f_count_movers = some ⟨oc_count_movers, od_count_movers, .func (PySem.W.fnOf "count_movers" "count_movers" (defArgs s_count_movers) (defBody s_count_movers) (defScope s_count_movers) .none kV_count_movers dc_count_movers pm_count_movers an_count_movers cd_count_movers ct_count_movers), sl_count_movers⟩)
    (h3_count_movers : PySem.W.codeIn K cd_count_movers "count_movers" = true) (h4_count_movers : PySem.W.keepIn K (.ref f_count_movers) = true)
    (h1_move_counts : PySem.W.nsIn K mainGlobals "move_counts" = some (some (.ref f_move_counts)))
    (h2_move_counts : K.lookup f_move_counts = some ⟨oc_move_counts, od_move_counts, .func (PySem.W.fnOf "move_counts" "move_counts" (defArgs s_move_counts) (defBody s_move_counts) (defScope s_move_counts) .none kV_move_counts dc_move_counts pm_move_counts an_move_counts cd_move_counts ct_move_counts), sl_move_counts⟩)
    (h3_move_counts : PySem.W.codeIn K cd_move_counts "move_counts" = true) (h4_move_counts : PySem.W.keepIn K (.ref f_move_counts) = true)
    (h1_colour_after_call : PySem.W.nsIn K mainGlobals "colour_after_call" = some (some (.ref f_colour_after_call)))
    (h2_colour_after_call : K.lookup f_colour_after_call = some ⟨oc_colour_after_call, od_colour_after_call, .func (PySem.W.fnOf "colour_after_call" "colour_after_call" (defArgs s_colour_after_call) (defBody s_colour_after_call) (defScope s_colour_after_call) .none kV_colour_after_call dc_colour_after_call pm_colour_after_call an_colour_after_call cd_colour_after_call ct_colour_after_call), sl_colour_after_call⟩)
    (h3_colour_after_call : PySem.W.codeIn K cd_colour_after_call "colour_after_call" = true) (h4_colour_after_call : PySem.W.keepIn K (.ref f_colour_after_call) = true)
    (h1_count_colours : PySem.W.nsIn K mainGlobals "count_colours" = some (some (.ref f_count_colours)))
    (h2_count_colours : K.lookup f_count_colours = some ⟨oc_count_colours, od_count_colours, .func (PySem.W.fnOf "count_colours" "count_colours" (defArgs s_count_colours) (defBody s_count_colours) (defScope s_count_colours) .none kV_count_colours dc_count_colours pm_count_colours an_count_colours cd_count_colours ct_count_colours), sl_count_colours⟩)
    (h3_count_colours : PySem.W.codeIn K cd_count_colours "count_colours" = true) (h4_count_colours : PySem.W.keepIn K (.ref f_count_colours) = true)
    (h1_run_on_counts : PySem.W.nsIn K mainGlobals "run_on_counts" = some (some (.ref f_run_on_counts)))
    (h2_run_on_counts : K.lookup f_run_on_counts = some ⟨oc_run_on_counts, od_run_on_counts, .func (PySem.W.fnOf "run_on_counts" "run_on_counts" (defArgs s_run_on_counts) (defBody s_run_on_counts) (defScope s_run_on_counts) .none kV_run_on_counts dc_run_on_counts pm_run_on_counts an_run_on_counts cd_run_on_counts ct_run_on_counts), sl_run_on_counts⟩)
    (h3_run_on_counts : PySem.W.codeIn K cd_run_on_counts "run_on_counts" = true) (h4_run_on_counts : PySem.W.keepIn K (.ref f_run_on_counts) = true)
    (h1_colour_after : PySem.W.nsIn K mainGlobals "colour_after" = some (some (.ref f_colour_after)))
    (h2_colour_after : K.lookup f_colour_after = some ⟨oc_colour_after, od_colour_after, .func (PySem.W.fnOf "colour_after" "colour_after" (defArgs s_colour_after) (defBody s_colour_after) (defScope s_colour_after) .none kV_colour_after dc_colour_after pm_colour_after an_colour_after cd_colour_after ct_colour_after), sl_colour_after⟩)
    (h3_colour_after : PySem.W.codeIn K cd_colour_after "colour_after" = true) (h4_colour_after : PySem.W.keepIn K (.ref f_colour_after) = true)
    (h1__law_rng : PySem.W.nsIn K mainGlobals "_law_rng" = some (some (.ref f__law_rng)))
    (h2__law_rng : K.lookup f__law_rng = some ⟨oc__law_rng, od__law_rng, .func (PySem.W.fnOf "_law_rng" "_law_rng" (defArgs s__law_rng) (defBody s__law_rng) (defScope s__law_rng) .none kV__law_rng dc__law_rng pm__law_rng an__law_rng cd__law_rng ct__law_rng), sl__law_rng⟩)
    (h3__law_rng : PySem.W.codeIn K cd__law_rng "_law_rng" = true) (h4__law_rng : PySem.W.keepIn K (.ref f__law_rng) = true)
    (h1__law_draw : PySem.W.nsIn K mainGlobals "_law_draw" = some (some (.ref f__law_draw)))
    (h2__law_draw : K.lookup f__law_draw = some ⟨oc__law_draw, od__law_draw, .func (PySem.W.fnOf "_law_draw" "_law_draw" (defArgs s__law_draw) (defBody s__law_draw) (defScope s__law_draw) .none kV__law_draw dc__law_draw pm__law_draw an__law_draw cd__law_draw ct__law_draw), sl__law_draw⟩)
    (h3__law_draw : PySem.W.codeIn K cd__law_draw "_law_draw" = true) (h4__law_draw : PySem.W.keepIn K (.ref f__law_draw) = true)
    (h1__law_letters : PySem.W.nsIn K mainGlobals "_law_letters" = some (some (.ref f__law_letters)))
    (h2__law_letters : K.lookup f__law_letters = some ⟨oc__law_letters, od__law_letters, .func (PySem.W.fnOf "_law_letters" "_law_letters" (defArgs s__law_letters) (defBody s__law_letters) (defScope s__law_letters) .none kV__law_letters dc__law_letters pm__law_letters an__law_letters cd__law_letters ct__law_letters), sl__law_letters⟩)
    (h3__law_letters : PySem.W.codeIn K cd__law_letters "_law_letters" = true) (h4__law_letters : PySem.W.keepIn K (.ref f__law_letters) = true)
    (h1__law_line : PySem.W.nsIn K mainGlobals "_law_line" = some (some (.ref f__law_line)))
    (h2__law_line : K.lookup f__law_line = some ⟨oc__law_line, od__law_line, .func (PySem.W.fnOf "_law_line" "_law_line" (defArgs s__law_line) (defBody s__law_line) (defScope s__law_line) .none kV__law_line dc__law_line pm__law_line an__law_line cd__law_line ct__law_line), sl__law_line⟩)
    (h3__law_line : PySem.W.codeIn K cd__law_line "_law_line" = true) (h4__law_line : PySem.W.keepIn K (.ref f__law_line) = true)
    (h1__law_order : PySem.W.nsIn K mainGlobals "_law_order" = some (some (.ref f__law_order)))
    (h2__law_order : K.lookup f__law_order = some ⟨oc__law_order, od__law_order, .func (PySem.W.fnOf "_law_order" "_law_order" (defArgs s__law_order) (defBody s__law_order) (defScope s__law_order) .none kV__law_order dc__law_order pm__law_order an__law_order cd__law_order ct__law_order), sl__law_order⟩)
    (h3__law_order : PySem.W.codeIn K cd__law_order "_law_order" = true) (h4__law_order : PySem.W.keepIn K (.ref f__law_order) = true)
    (h1__law_orders : PySem.W.nsIn K mainGlobals "_law_orders" = some (some (.ref f__law_orders)))
    (h2__law_orders : K.lookup f__law_orders = some ⟨oc__law_orders, od__law_orders, .func (PySem.W.fnOf "_law_orders" "_law_orders" (defArgs s__law_orders) (defBody s__law_orders) (defScope s__law_orders) .none kV__law_orders dc__law_orders pm__law_orders an__law_orders cd__law_orders ct__law_orders), sl__law_orders⟩)
    (h3__law_orders : PySem.W.codeIn K cd__law_orders "_law_orders" = true) (h4__law_orders : PySem.W.keepIn K (.ref f__law_orders) = true)
    (h1__law_tally : PySem.W.nsIn K mainGlobals "_law_tally" = some (some (.ref f__law_tally)))
    (h2__law_tally : K.lookup f__law_tally = some ⟨oc__law_tally, od__law_tally, .func (PySem.W.fnOf "_law_tally" "_law_tally" (defArgs s__law_tally) (defBody s__law_tally) (defScope s__law_tally) .none kV__law_tally dc__law_tally pm__law_tally an__law_tally cd__law_tally ct__law_tally), sl__law_tally⟩)
    (h3__law_tally : PySem.W.codeIn K cd__law_tally "_law_tally" = true) (h4__law_tally : PySem.W.keepIn K (.ref f__law_tally) = true)
    (h1__law_spoiled_orders : PySem.W.nsIn K mainGlobals "_law_spoiled_orders" = some (some (.ref f__law_spoiled_orders)))
    (h2__law_spoiled_orders : K.lookup f__law_spoiled_orders = some ⟨oc__law_spoiled_orders, od__law_spoiled_orders, .func (PySem.W.fnOf "_law_spoiled_orders" "_law_spoiled_orders" (defArgs s__law_spoiled_orders) (defBody s__law_spoiled_orders) (defScope s__law_spoiled_orders) .none kV__law_spoiled_orders dc__law_spoiled_orders pm__law_spoiled_orders an__law_spoiled_orders cd__law_spoiled_orders ct__law_spoiled_orders), sl__law_spoiled_orders⟩)
    (h3__law_spoiled_orders : PySem.W.codeIn K cd__law_spoiled_orders "_law_spoiled_orders" = true) (h4__law_spoiled_orders : PySem.W.keepIn K (.ref f__law_spoiled_orders) = true)
    (h1__law_bad_order : PySem.W.nsIn K mainGlobals "_law_bad_order" = some (some (.ref f__law_bad_order)))
    (h2__law_bad_order : K.lookup f__law_bad_order = some ⟨oc__law_bad_order, od__law_bad_order, .func (PySem.W.fnOf "_law_bad_order" "_law_bad_order" (defArgs s__law_bad_order) (defBody s__law_bad_order) (defScope s__law_bad_order) .none kV__law_bad_order dc__law_bad_order pm__law_bad_order an__law_bad_order cd__law_bad_order ct__law_bad_order), sl__law_bad_order⟩)
    (h3__law_bad_order : PySem.W.codeIn K cd__law_bad_order "_law_bad_order" = true) (h4__law_bad_order : PySem.W.keepIn K (.ref f__law_bad_order) = true)
    (h1__law_spoiled_numbers : PySem.W.nsIn K mainGlobals "_law_spoiled_numbers" = some (some (.ref f__law_spoiled_numbers)))
    (h2__law_spoiled_numbers : K.lookup f__law_spoiled_numbers = some ⟨oc__law_spoiled_numbers, od__law_spoiled_numbers, .func (PySem.W.fnOf "_law_spoiled_numbers" "_law_spoiled_numbers" (defArgs s__law_spoiled_numbers) (defBody s__law_spoiled_numbers) (defScope s__law_spoiled_numbers) .none kV__law_spoiled_numbers dc__law_spoiled_numbers pm__law_spoiled_numbers an__law_spoiled_numbers cd__law_spoiled_numbers ct__law_spoiled_numbers), sl__law_spoiled_numbers⟩)
    (h3__law_spoiled_numbers : PySem.W.codeIn K cd__law_spoiled_numbers "_law_spoiled_numbers" = true) (h4__law_spoiled_numbers : PySem.W.keepIn K (.ref f__law_spoiled_numbers) = true)
    (h1__law_error : PySem.W.nsIn K mainGlobals "_law_error" = some (some (.ref f__law_error)))
    (h2__law_error : K.lookup f__law_error = some ⟨oc__law_error, od__law_error, .func (PySem.W.fnOf "_law_error" "_law_error" (defArgs s__law_error) (defBody s__law_error) (defScope s__law_error) .none kV__law_error dc__law_error pm__law_error an__law_error cd__law_error ct__law_error), sl__law_error⟩)
    (h3__law_error : PySem.W.codeIn K cd__law_error "_law_error" = true) (h4__law_error : PySem.W.keepIn K (.ref f__law_error) = true)
    (h1__law_classes_right : PySem.W.nsIn K mainGlobals "_law_classes_right" = some (some (.ref f__law_classes_right)))
    (h2__law_classes_right : K.lookup f__law_classes_right = some ⟨oc__law_classes_right, od__law_classes_right, .func (PySem.W.fnOf "_law_classes_right" "_law_classes_right" (defArgs s__law_classes_right) (defBody s__law_classes_right) (defScope s__law_classes_right) .none kV__law_classes_right dc__law_classes_right pm__law_classes_right an__law_classes_right cd__law_classes_right ct__law_classes_right), sl__law_classes_right⟩)
    (h3__law_classes_right : PySem.W.codeIn K cd__law_classes_right "_law_classes_right" = true) (h4__law_classes_right : PySem.W.keepIn K (.ref f__law_classes_right) = true)
    (h1_law : PySem.W.nsIn K mainGlobals "law" = some (some (.ref f_law)))
    (h2_law : K.lookup f_law = some ⟨oc_law, od_law, .func (PySem.W.fnOf "law" "law" (defArgs s_law) (defBody s_law) (defScope s_law) .none kV_law dc_law pm_law an_law cd_law ct_law), sl_law⟩)
    (h3_law : PySem.W.codeIn K cd_law "law" = true) (h4_law : PySem.W.keepIn K (.ref f_law) = true)
    (h1_COLOURS : PySem.W.nsIn K mainGlobals "COLOURS" = some (some (.ref f_COLOURS)))
    (h2_COLOURS : K.lookup f_COLOURS = some ⟨.type "tuple", none, .seq #[.str "a" t0_COLOURS, .str "b" t1_COLOURS, .str "c" t2_COLOURS, .str "d" t3_COLOURS, .str "e" t4_COLOURS, .str "f" t5_COLOURS] n_COLOURS, sl_COLOURS⟩)
    (e1_DrillError : PySem.W.nsIn K mainGlobals "DrillError" = some (some (.ref C_DrillError)))
    (zc_get : PySem.W.specialIn K (.builtin "object.__class__") "__get__" = some (some (.builtin "getset_descriptor.__get__")))
    (zc_set : PySem.W.takesIn K (.builtin "object.__class__") = some true)
    (e1_BadRow : PySem.W.nsIn K mainGlobals "BadRow" = some (some (.ref C_BadRow)))
    (e2_BadRow : K.lookup C_BadRow = some (excClassObj nm_BadRow q_BadRow C_BadRow N_BadRow bs_BadRow [.ref C_DrillError, .type "ValueError", .type "Exception", .type "BaseException", .type "object"] true sn_BadRow sub_BadRow ab_BadRow col_BadRow dd_BadRow k0_BadRow k1_BadRow k2_BadRow k3_BadRow k5_BadRow "ValueError.__new__"))
    (e3_BadRow : PySem.W.findIn K (.ref C_BadRow) "__setattr__" = some (some (.builtin "object.__setattr__")))
    (e4_BadRow : PySem.W.subIn K (.ref C_BadRow) (.type "BaseException") = some true)
    (e5_BadRow : PySem.W.typeIn K (.ref C_BadRow) = some (.type "type"))
    (e6_BadRow : PySem.W.keepIn K (.ref C_BadRow) = true)
    (e7_BadRow : PySem.W.findIn K (.ref C_BadRow) "__init__" = some (some (.ref I_BadRow)))
    (e8_BadRow : PySem.W.typeIn K (.ref I_BadRow) = some (.type "function"))
    (e9_BadRow : PySem.W.findIn K (.ref C_BadRow) "value" = some none)
    (e10_BadRow : K.lookup I_BadRow = some ⟨oc_BadRow, od_BadRow, .func (PySem.W.fnOf "__init__" "BadRow.__init__" (defArgs (meth (top 2) 0)) (defBody (meth (top 2) 0)) (defScope (meth (top 2) 0)) .none kV_BadRow dc_BadRow pm_BadRow an_BadRow cd_BadRow ct_BadRow), sl_BadRow⟩)
    (e11_BadRow : PySem.W.codeIn K cd_BadRow "BadRow.__init__" = true)
    (e12_BadRow : PySem.W.keepIn K (.ref I_BadRow) = true)
    (g1_BadRow : PySem.W.findIn K (.ref C_BadRow) "__getattribute__" = some (some (.builtin "BaseException.__getattribute__")))
    (g2_BadRow : PySem.W.findIn K (.ref C_BadRow) "__getattr__" = some none)
    (g3_BadRow : PySem.W.hasDictIn K C_BadRow = true)
    (g5_BadRow : PySem.W.findIn K (.ref C_BadRow) "__class__" = some (some (.builtin "object.__class__")))
    (g6_BadRow : PySem.W.mroIn K C_BadRow (.type "object") = some true)
    (e1_BadCall : PySem.W.nsIn K mainGlobals "BadCall" = some (some (.ref C_BadCall)))
    (e2_BadCall : K.lookup C_BadCall = some (excClassObj nm_BadCall q_BadCall C_BadCall N_BadCall bs_BadCall [.ref C_DrillError, .type "ValueError", .type "Exception", .type "BaseException", .type "object"] true sn_BadCall sub_BadCall ab_BadCall col_BadCall dd_BadCall k0_BadCall k1_BadCall k2_BadCall k3_BadCall k5_BadCall "ValueError.__new__"))
    (e3_BadCall : PySem.W.findIn K (.ref C_BadCall) "__setattr__" = some (some (.builtin "object.__setattr__")))
    (e4_BadCall : PySem.W.subIn K (.ref C_BadCall) (.type "BaseException") = some true)
    (e5_BadCall : PySem.W.typeIn K (.ref C_BadCall) = some (.type "type"))
    (e6_BadCall : PySem.W.keepIn K (.ref C_BadCall) = true)
    (e7_BadCall : PySem.W.findIn K (.ref C_BadCall) "__init__" = some (some (.ref I_BadCall)))
    (e8_BadCall : PySem.W.typeIn K (.ref I_BadCall) = some (.type "function"))
    (e9_BadCall : PySem.W.findIn K (.ref C_BadCall) "value" = some none)
    (e10_BadCall : K.lookup I_BadCall = some ⟨oc_BadCall, od_BadCall, .func (PySem.W.fnOf "__init__" "BadCall.__init__" (defArgs (meth (top 3) 0)) (defBody (meth (top 3) 0)) (defScope (meth (top 3) 0)) .none kV_BadCall dc_BadCall pm_BadCall an_BadCall cd_BadCall ct_BadCall), sl_BadCall⟩)
    (e11_BadCall : PySem.W.codeIn K cd_BadCall "BadCall.__init__" = true)
    (e12_BadCall : PySem.W.keepIn K (.ref I_BadCall) = true)
    (g1_BadCall : PySem.W.findIn K (.ref C_BadCall) "__getattribute__" = some (some (.builtin "BaseException.__getattribute__")))
    (g2_BadCall : PySem.W.findIn K (.ref C_BadCall) "__getattr__" = some none)
    (g3_BadCall : PySem.W.hasDictIn K C_BadCall = true)
    (g5_BadCall : PySem.W.findIn K (.ref C_BadCall) "__class__" = some (some (.builtin "object.__class__")))
    (g6_BadCall : PySem.W.mroIn K C_BadCall (.type "object") = some true)
    (e1_BadCounts : PySem.W.nsIn K mainGlobals "BadCounts" = some (some (.ref C_BadCounts)))
    (e2_BadCounts : K.lookup C_BadCounts = some (excClassObj nm_BadCounts q_BadCounts C_BadCounts N_BadCounts bs_BadCounts [.ref C_DrillError, .type "ValueError", .type "Exception", .type "BaseException", .type "object"] true sn_BadCounts sub_BadCounts ab_BadCounts col_BadCounts dd_BadCounts k0_BadCounts k1_BadCounts k2_BadCounts k3_BadCounts k5_BadCounts "ValueError.__new__"))
    (e3_BadCounts : PySem.W.findIn K (.ref C_BadCounts) "__setattr__" = some (some (.builtin "object.__setattr__")))
    (e4_BadCounts : PySem.W.subIn K (.ref C_BadCounts) (.type "BaseException") = some true)
    (e5_BadCounts : PySem.W.typeIn K (.ref C_BadCounts) = some (.type "type"))
    (e6_BadCounts : PySem.W.keepIn K (.ref C_BadCounts) = true)
    (e7_BadCounts : PySem.W.findIn K (.ref C_BadCounts) "__init__" = some (some (.ref I_BadCounts)))
    (e8_BadCounts : PySem.W.typeIn K (.ref I_BadCounts) = some (.type "function"))
    (e9_BadCounts : PySem.W.findIn K (.ref C_BadCounts) "value" = some none)
    (e10_BadCounts : K.lookup I_BadCounts = some ⟨oc_BadCounts, od_BadCounts, .func (PySem.W.fnOf "__init__" "BadCounts.__init__" (defArgs (meth (top 4) 0)) (defBody (meth (top 4) 0)) (defScope (meth (top 4) 0)) .none kV_BadCounts dc_BadCounts pm_BadCounts an_BadCounts cd_BadCounts ct_BadCounts), sl_BadCounts⟩)
    (e11_BadCounts : PySem.W.codeIn K cd_BadCounts "BadCounts.__init__" = true)
    (e12_BadCounts : PySem.W.keepIn K (.ref I_BadCounts) = true)
    (g1_BadCounts : PySem.W.findIn K (.ref C_BadCounts) "__getattribute__" = some (some (.builtin "BaseException.__getattribute__")))
    (g2_BadCounts : PySem.W.findIn K (.ref C_BadCounts) "__getattr__" = some none)
    (g3_BadCounts : PySem.W.hasDictIn K C_BadCounts = true)
    (g5_BadCounts : PySem.W.findIn K (.ref C_BadCounts) "__class__" = some (some (.builtin "object.__class__")))
    (g6_BadCounts : PySem.W.mroIn K C_BadCounts (.type "object") = some true)
    (e1_BadColour : PySem.W.nsIn K mainGlobals "BadColour" = some (some (.ref C_BadColour)))
    (e2_BadColour : K.lookup C_BadColour = some (excClassObj nm_BadColour q_BadColour C_BadColour N_BadColour bs_BadColour [.ref C_DrillError, .type "ValueError", .type "Exception", .type "BaseException", .type "object"] true sn_BadColour sub_BadColour ab_BadColour col_BadColour dd_BadColour k0_BadColour k1_BadColour k2_BadColour k3_BadColour k5_BadColour "ValueError.__new__"))
    (e3_BadColour : PySem.W.findIn K (.ref C_BadColour) "__setattr__" = some (some (.builtin "object.__setattr__")))
    (e4_BadColour : PySem.W.subIn K (.ref C_BadColour) (.type "BaseException") = some true)
    (e5_BadColour : PySem.W.typeIn K (.ref C_BadColour) = some (.type "type"))
    (e6_BadColour : PySem.W.keepIn K (.ref C_BadColour) = true)
    (e7_BadColour : PySem.W.findIn K (.ref C_BadColour) "__init__" = some (some (.ref I_BadColour)))
    (e8_BadColour : PySem.W.typeIn K (.ref I_BadColour) = some (.type "function"))
    (e9_BadColour : PySem.W.findIn K (.ref C_BadColour) "value" = some none)
    (e10_BadColour : K.lookup I_BadColour = some ⟨oc_BadColour, od_BadColour, .func (PySem.W.fnOf "__init__" "BadColour.__init__" (defArgs (meth (top 5) 0)) (defBody (meth (top 5) 0)) (defScope (meth (top 5) 0)) .none kV_BadColour dc_BadColour pm_BadColour an_BadColour cd_BadColour ct_BadColour), sl_BadColour⟩)
    (e11_BadColour : PySem.W.codeIn K cd_BadColour "BadColour.__init__" = true)
    (e12_BadColour : PySem.W.keepIn K (.ref I_BadColour) = true)
    (g1_BadColour : PySem.W.findIn K (.ref C_BadColour) "__getattribute__" = some (some (.builtin "BaseException.__getattribute__")))
    (g2_BadColour : PySem.W.findIn K (.ref C_BadColour) "__getattr__" = some none)
    (g3_BadColour : PySem.W.hasDictIn K C_BadColour = true)
    (g5_BadColour : PySem.W.findIn K (.ref C_BadColour) "__class__" = some (some (.builtin "object.__class__")))
    (g6_BadColour : PySem.W.mroIn K C_BadColour (.type "object") = some true)
    (e1_BadTimes : PySem.W.nsIn K mainGlobals "BadTimes" = some (some (.ref C_BadTimes)))
    (e2_BadTimes : K.lookup C_BadTimes = some (excClassObj nm_BadTimes q_BadTimes C_BadTimes N_BadTimes bs_BadTimes [.ref C_DrillError, .type "ValueError", .type "Exception", .type "BaseException", .type "object"] true sn_BadTimes sub_BadTimes ab_BadTimes col_BadTimes dd_BadTimes k0_BadTimes k1_BadTimes k2_BadTimes k3_BadTimes k5_BadTimes "ValueError.__new__"))
    (e3_BadTimes : PySem.W.findIn K (.ref C_BadTimes) "__setattr__" = some (some (.builtin "object.__setattr__")))
    (e4_BadTimes : PySem.W.subIn K (.ref C_BadTimes) (.type "BaseException") = some true)
    (e5_BadTimes : PySem.W.typeIn K (.ref C_BadTimes) = some (.type "type"))
    (e6_BadTimes : PySem.W.keepIn K (.ref C_BadTimes) = true)
    (e7_BadTimes : PySem.W.findIn K (.ref C_BadTimes) "__init__" = some (some (.ref I_BadTimes)))
    (e8_BadTimes : PySem.W.typeIn K (.ref I_BadTimes) = some (.type "function"))
    (e9_BadTimes : PySem.W.findIn K (.ref C_BadTimes) "value" = some none)
    (e10_BadTimes : K.lookup I_BadTimes = some ⟨oc_BadTimes, od_BadTimes, .func (PySem.W.fnOf "__init__" "BadTimes.__init__" (defArgs (meth (top 6) 0)) (defBody (meth (top 6) 0)) (defScope (meth (top 6) 0)) .none kV_BadTimes dc_BadTimes pm_BadTimes an_BadTimes cd_BadTimes ct_BadTimes), sl_BadTimes⟩)
    (e11_BadTimes : PySem.W.codeIn K cd_BadTimes "BadTimes.__init__" = true)
    (e12_BadTimes : PySem.W.keepIn K (.ref I_BadTimes) = true)
    (g1_BadTimes : PySem.W.findIn K (.ref C_BadTimes) "__getattribute__" = some (some (.builtin "BaseException.__getattribute__")))
    (g2_BadTimes : PySem.W.findIn K (.ref C_BadTimes) "__getattr__" = some none)
    (g3_BadTimes : PySem.W.hasDictIn K C_BadTimes = true)
    (g5_BadTimes : PySem.W.findIn K (.ref C_BadTimes) "__class__" = some (some (.builtin "object.__class__")))
    (g6_BadTimes : PySem.W.mroIn K C_BadTimes (.type "object") = some true)
    (e1_BadText : PySem.W.nsIn K mainGlobals "BadText" = some (some (.ref C_BadText)))
    (e2_BadText : K.lookup C_BadText = some (excClassObj nm_BadText q_BadText C_BadText N_BadText bs_BadText [.ref C_DrillError, .type "ValueError", .type "Exception", .type "BaseException", .type "object"] true sn_BadText sub_BadText ab_BadText col_BadText dd_BadText k0_BadText k1_BadText k2_BadText k3_BadText k5_BadText "ValueError.__new__"))
    (e3_BadText : PySem.W.findIn K (.ref C_BadText) "__setattr__" = some (some (.builtin "object.__setattr__")))
    (e4_BadText : PySem.W.subIn K (.ref C_BadText) (.type "BaseException") = some true)
    (e5_BadText : PySem.W.typeIn K (.ref C_BadText) = some (.type "type"))
    (e6_BadText : PySem.W.keepIn K (.ref C_BadText) = true)
    (e7_BadText : PySem.W.findIn K (.ref C_BadText) "__init__" = some (some (.ref I_BadText)))
    (e8_BadText : PySem.W.typeIn K (.ref I_BadText) = some (.type "function"))
    (e9_BadText : PySem.W.findIn K (.ref C_BadText) "value" = some none)
    (e10_BadText : K.lookup I_BadText = some ⟨oc_BadText, od_BadText, .func (PySem.W.fnOf "__init__" "BadText.__init__" (defArgs (meth (top 9) 0)) (defBody (meth (top 9) 0)) (defScope (meth (top 9) 0)) .none kV_BadText dc_BadText pm_BadText an_BadText cd_BadText ct_BadText), sl_BadText⟩)
    (e11_BadText : PySem.W.codeIn K cd_BadText "BadText.__init__" = true)
    (e12_BadText : PySem.W.keepIn K (.ref I_BadText) = true)
    (g1_BadText : PySem.W.findIn K (.ref C_BadText) "__getattribute__" = some (some (.builtin "BaseException.__getattribute__")))
    (g2_BadText : PySem.W.findIn K (.ref C_BadText) "__getattr__" = some none)
    (g3_BadText : PySem.W.hasDictIn K C_BadText = true)
    (g5_BadText : PySem.W.findIn K (.ref C_BadText) "__class__" = some (some (.builtin "object.__class__")))
    (g6_BadText : PySem.W.mroIn K C_BadText (.type "object") = some true)
    (e1_BadIndex : PySem.W.nsIn K mainGlobals "BadIndex" = some (some (.ref C_BadIndex)))
    (e2_BadIndex : K.lookup C_BadIndex = some (excClassObj nm_BadIndex q_BadIndex C_BadIndex N_BadIndex bs_BadIndex [.ref C_DrillError, .type "ValueError", .type "Exception", .type "BaseException", .type "object"] true sn_BadIndex sub_BadIndex ab_BadIndex col_BadIndex dd_BadIndex k0_BadIndex k1_BadIndex k2_BadIndex k3_BadIndex k5_BadIndex "ValueError.__new__"))
    (e3_BadIndex : PySem.W.findIn K (.ref C_BadIndex) "__setattr__" = some (some (.builtin "object.__setattr__")))
    (e4_BadIndex : PySem.W.subIn K (.ref C_BadIndex) (.type "BaseException") = some true)
    (e5_BadIndex : PySem.W.typeIn K (.ref C_BadIndex) = some (.type "type"))
    (e6_BadIndex : PySem.W.keepIn K (.ref C_BadIndex) = true)
    (e7_BadIndex : PySem.W.findIn K (.ref C_BadIndex) "__init__" = some (some (.ref I_BadIndex)))
    (e8_BadIndex : PySem.W.typeIn K (.ref I_BadIndex) = some (.type "function"))
    (e9_BadIndex : PySem.W.findIn K (.ref C_BadIndex) "value" = some none)
    (e10_BadIndex : K.lookup I_BadIndex = some ⟨oc_BadIndex, od_BadIndex, .func (PySem.W.fnOf "__init__" "BadIndex.__init__" (defArgs (meth (top 8) 0)) (defBody (meth (top 8) 0)) (defScope (meth (top 8) 0)) .none kV_BadIndex dc_BadIndex pm_BadIndex an_BadIndex cd_BadIndex ct_BadIndex), sl_BadIndex⟩)
    (e11_BadIndex : PySem.W.codeIn K cd_BadIndex "BadIndex.__init__" = true)
    (e12_BadIndex : PySem.W.keepIn K (.ref I_BadIndex) = true)
    (g1_BadIndex : PySem.W.findIn K (.ref C_BadIndex) "__getattribute__" = some (some (.builtin "BaseException.__getattribute__")))
    (g2_BadIndex : PySem.W.findIn K (.ref C_BadIndex) "__getattr__" = some none)
    (g3_BadIndex : PySem.W.hasDictIn K C_BadIndex = true)
    (g5_BadIndex : PySem.W.findIn K (.ref C_BadIndex) "__class__" = some (some (.builtin "object.__class__")))
    (g6_BadIndex : PySem.W.mroIn K C_BadIndex (.type "object") = some true)
    (e1_BadGoal : PySem.W.nsIn K mainGlobals "BadGoal" = some (some (.ref C_BadGoal)))
    (e2_BadGoal : K.lookup C_BadGoal = some (excClassObj nm_BadGoal q_BadGoal C_BadGoal N_BadGoal bs_BadGoal [.ref C_DrillError, .type "ValueError", .type "Exception", .type "BaseException", .type "object"] true sn_BadGoal sub_BadGoal ab_BadGoal col_BadGoal dd_BadGoal k0_BadGoal k1_BadGoal k2_BadGoal k3_BadGoal k5_BadGoal "ValueError.__new__"))
    (e3_BadGoal : PySem.W.findIn K (.ref C_BadGoal) "__setattr__" = some (some (.builtin "object.__setattr__")))
    (e4_BadGoal : PySem.W.subIn K (.ref C_BadGoal) (.type "BaseException") = some true)
    (e5_BadGoal : PySem.W.typeIn K (.ref C_BadGoal) = some (.type "type"))
    (e6_BadGoal : PySem.W.keepIn K (.ref C_BadGoal) = true)
    (e7_BadGoal : PySem.W.findIn K (.ref C_BadGoal) "__init__" = some (some (.ref I_BadGoal)))
    (e8_BadGoal : PySem.W.typeIn K (.ref I_BadGoal) = some (.type "function"))
    (e9_BadGoal : PySem.W.findIn K (.ref C_BadGoal) "value" = some none)
    (e10_BadGoal : K.lookup I_BadGoal = some ⟨oc_BadGoal, od_BadGoal, .func (PySem.W.fnOf "__init__" "BadGoal.__init__" (defArgs (meth (top 7) 0)) (defBody (meth (top 7) 0)) (defScope (meth (top 7) 0)) .none kV_BadGoal dc_BadGoal pm_BadGoal an_BadGoal cd_BadGoal ct_BadGoal), sl_BadGoal⟩)
    (e11_BadGoal : PySem.W.codeIn K cd_BadGoal "BadGoal.__init__" = true)
    (e12_BadGoal : PySem.W.keepIn K (.ref I_BadGoal) = true)
    (g1_BadGoal : PySem.W.findIn K (.ref C_BadGoal) "__getattribute__" = some (some (.builtin "BaseException.__getattribute__")))
    (g2_BadGoal : PySem.W.findIn K (.ref C_BadGoal) "__getattr__" = some none)
    (g3_BadGoal : PySem.W.hasDictIn K C_BadGoal = true)
    (g5_BadGoal : PySem.W.findIn K (.ref C_BadGoal) "__class__" = some (some (.builtin "object.__class__")))
    (g6_BadGoal : PySem.W.mroIn K C_BadGoal (.type "object") = some true)
    (s_BadRow_BadRow : PySem.W.subIn K (.ref C_BadRow) (.ref C_BadRow) = some true)
    (s_BadCall_BadCall : PySem.W.subIn K (.ref C_BadCall) (.ref C_BadCall) = some true)
    (s_BadCounts_BadCounts : PySem.W.subIn K (.ref C_BadCounts) (.ref C_BadCounts) = some true)
    (s_BadColour_BadColour : PySem.W.subIn K (.ref C_BadColour) (.ref C_BadColour) = some true)
    (s_BadTimes_BadTimes : PySem.W.subIn K (.ref C_BadTimes) (.ref C_BadTimes) = some true)
    (s_BadText_BadText : PySem.W.subIn K (.ref C_BadText) (.ref C_BadText) = some true)
    (s_BadIndex_BadIndex : PySem.W.subIn K (.ref C_BadIndex) (.ref C_BadIndex) = some true)
    (s_BadGoal_BadGoal : PySem.W.subIn K (.ref C_BadGoal) (.ref C_BadGoal) = some true)
    (s_BadRow_BadCall : PySem.W.subIn K (.ref C_BadRow) (.ref C_BadCall) = some false)
    (s_BadRow_BadCounts : PySem.W.subIn K (.ref C_BadRow) (.ref C_BadCounts) = some false)
    (s_BadRow_BadColour : PySem.W.subIn K (.ref C_BadRow) (.ref C_BadColour) = some false)
    (s_BadRow_BadTimes : PySem.W.subIn K (.ref C_BadRow) (.ref C_BadTimes) = some false)
    (s_BadRow_BadText : PySem.W.subIn K (.ref C_BadRow) (.ref C_BadText) = some false)
    (s_BadRow_BadIndex : PySem.W.subIn K (.ref C_BadRow) (.ref C_BadIndex) = some false)
    (s_BadRow_BadGoal : PySem.W.subIn K (.ref C_BadRow) (.ref C_BadGoal) = some false)
    (s_BadCall_BadRow : PySem.W.subIn K (.ref C_BadCall) (.ref C_BadRow) = some false)
    (s_BadCall_BadCounts : PySem.W.subIn K (.ref C_BadCall) (.ref C_BadCounts) = some false)
    (s_BadCall_BadColour : PySem.W.subIn K (.ref C_BadCall) (.ref C_BadColour) = some false)
    (s_BadCall_BadTimes : PySem.W.subIn K (.ref C_BadCall) (.ref C_BadTimes) = some false)
    (s_BadCall_BadText : PySem.W.subIn K (.ref C_BadCall) (.ref C_BadText) = some false)
    (s_BadCall_BadIndex : PySem.W.subIn K (.ref C_BadCall) (.ref C_BadIndex) = some false)
    (s_BadCall_BadGoal : PySem.W.subIn K (.ref C_BadCall) (.ref C_BadGoal) = some false)
    (s_BadCounts_BadRow : PySem.W.subIn K (.ref C_BadCounts) (.ref C_BadRow) = some false)
    (s_BadCounts_BadCall : PySem.W.subIn K (.ref C_BadCounts) (.ref C_BadCall) = some false)
    (s_BadCounts_BadColour : PySem.W.subIn K (.ref C_BadCounts) (.ref C_BadColour) = some false)
    (s_BadCounts_BadTimes : PySem.W.subIn K (.ref C_BadCounts) (.ref C_BadTimes) = some false)
    (s_BadCounts_BadText : PySem.W.subIn K (.ref C_BadCounts) (.ref C_BadText) = some false)
    (s_BadCounts_BadIndex : PySem.W.subIn K (.ref C_BadCounts) (.ref C_BadIndex) = some false)
    (s_BadCounts_BadGoal : PySem.W.subIn K (.ref C_BadCounts) (.ref C_BadGoal) = some false)
    (s_BadColour_BadRow : PySem.W.subIn K (.ref C_BadColour) (.ref C_BadRow) = some false)
    (s_BadColour_BadCall : PySem.W.subIn K (.ref C_BadColour) (.ref C_BadCall) = some false)
    (s_BadColour_BadCounts : PySem.W.subIn K (.ref C_BadColour) (.ref C_BadCounts) = some false)
    (s_BadColour_BadTimes : PySem.W.subIn K (.ref C_BadColour) (.ref C_BadTimes) = some false)
    (s_BadColour_BadText : PySem.W.subIn K (.ref C_BadColour) (.ref C_BadText) = some false)
    (s_BadColour_BadIndex : PySem.W.subIn K (.ref C_BadColour) (.ref C_BadIndex) = some false)
    (s_BadColour_BadGoal : PySem.W.subIn K (.ref C_BadColour) (.ref C_BadGoal) = some false)
    (s_BadTimes_BadRow : PySem.W.subIn K (.ref C_BadTimes) (.ref C_BadRow) = some false)
    (s_BadTimes_BadCall : PySem.W.subIn K (.ref C_BadTimes) (.ref C_BadCall) = some false)
    (s_BadTimes_BadCounts : PySem.W.subIn K (.ref C_BadTimes) (.ref C_BadCounts) = some false)
    (s_BadTimes_BadColour : PySem.W.subIn K (.ref C_BadTimes) (.ref C_BadColour) = some false)
    (s_BadTimes_BadText : PySem.W.subIn K (.ref C_BadTimes) (.ref C_BadText) = some false)
    (s_BadTimes_BadIndex : PySem.W.subIn K (.ref C_BadTimes) (.ref C_BadIndex) = some false)
    (s_BadTimes_BadGoal : PySem.W.subIn K (.ref C_BadTimes) (.ref C_BadGoal) = some false)
    (s_BadText_BadRow : PySem.W.subIn K (.ref C_BadText) (.ref C_BadRow) = some false)
    (s_BadText_BadCall : PySem.W.subIn K (.ref C_BadText) (.ref C_BadCall) = some false)
    (s_BadText_BadCounts : PySem.W.subIn K (.ref C_BadText) (.ref C_BadCounts) = some false)
    (s_BadText_BadColour : PySem.W.subIn K (.ref C_BadText) (.ref C_BadColour) = some false)
    (s_BadText_BadTimes : PySem.W.subIn K (.ref C_BadText) (.ref C_BadTimes) = some false)
    (s_BadText_BadIndex : PySem.W.subIn K (.ref C_BadText) (.ref C_BadIndex) = some false)
    (s_BadText_BadGoal : PySem.W.subIn K (.ref C_BadText) (.ref C_BadGoal) = some false)
    (s_BadIndex_BadRow : PySem.W.subIn K (.ref C_BadIndex) (.ref C_BadRow) = some false)
    (s_BadIndex_BadCall : PySem.W.subIn K (.ref C_BadIndex) (.ref C_BadCall) = some false)
    (s_BadIndex_BadCounts : PySem.W.subIn K (.ref C_BadIndex) (.ref C_BadCounts) = some false)
    (s_BadIndex_BadColour : PySem.W.subIn K (.ref C_BadIndex) (.ref C_BadColour) = some false)
    (s_BadIndex_BadTimes : PySem.W.subIn K (.ref C_BadIndex) (.ref C_BadTimes) = some false)
    (s_BadIndex_BadText : PySem.W.subIn K (.ref C_BadIndex) (.ref C_BadText) = some false)
    (s_BadIndex_BadGoal : PySem.W.subIn K (.ref C_BadIndex) (.ref C_BadGoal) = some false)
    (s_BadGoal_BadRow : PySem.W.subIn K (.ref C_BadGoal) (.ref C_BadRow) = some false)
    (s_BadGoal_BadCall : PySem.W.subIn K (.ref C_BadGoal) (.ref C_BadCall) = some false)
    (s_BadGoal_BadCounts : PySem.W.subIn K (.ref C_BadGoal) (.ref C_BadCounts) = some false)
    (s_BadGoal_BadColour : PySem.W.subIn K (.ref C_BadGoal) (.ref C_BadColour) = some false)
    (s_BadGoal_BadTimes : PySem.W.subIn K (.ref C_BadGoal) (.ref C_BadTimes) = some false)
    (s_BadGoal_BadText : PySem.W.subIn K (.ref C_BadGoal) (.ref C_BadText) = some false)
    (s_BadGoal_BadIndex : PySem.W.subIn K (.ref C_BadGoal) (.ref C_BadIndex) = some false)
    (v_BadRow : PySem.W.subIn K (.ref C_BadRow) (.type "ValueError") = some true)
    (v_BadCall : PySem.W.subIn K (.ref C_BadCall) (.type "ValueError") = some true)
    (v_BadCounts : PySem.W.subIn K (.ref C_BadCounts) (.type "ValueError") = some true)
    (v_BadColour : PySem.W.subIn K (.ref C_BadColour) (.type "ValueError") = some true)
    (v_BadTimes : PySem.W.subIn K (.ref C_BadTimes) (.type "ValueError") = some true)
    (v_BadText : PySem.W.subIn K (.ref C_BadText) (.type "ValueError") = some true)
    (v_BadIndex : PySem.W.subIn K (.ref C_BadIndex) (.type "ValueError") = some true)
    (v_BadGoal : PySem.W.subIn K (.ref C_BadGoal) (.type "ValueError") = some true)
    (v_DrillError : PySem.W.subIn K (.ref C_DrillError) (.type "ValueError") = some true)
    (e4_DrillError : PySem.W.subIn K (.ref C_DrillError) (.type "BaseException") = some true)
    (e5_DrillError : PySem.W.typeIn K (.ref C_DrillError) = some (.type "type"))
    (s_BadRow_DrillError : PySem.W.subIn K (.ref C_BadRow) (.ref C_DrillError) = some true)
    (s_BadCall_DrillError : PySem.W.subIn K (.ref C_BadCall) (.ref C_DrillError) = some true)
    (s_BadCounts_DrillError : PySem.W.subIn K (.ref C_BadCounts) (.ref C_DrillError) = some true)
    (s_BadColour_DrillError : PySem.W.subIn K (.ref C_BadColour) (.ref C_DrillError) = some true)
    (s_BadTimes_DrillError : PySem.W.subIn K (.ref C_BadTimes) (.ref C_DrillError) = some true)
    (s_BadText_DrillError : PySem.W.subIn K (.ref C_BadText) (.ref C_DrillError) = some true)
    (s_BadIndex_DrillError : PySem.W.subIn K (.ref C_BadIndex) (.ref C_DrillError) = some true)
    (s_BadGoal_DrillError : PySem.W.subIn K (.ref C_BadGoal) (.ref C_DrillError) = some true)
    (x_DrillError : PySem.W.excIn K C_DrillError [.type "ValueError", .type "Exception", .type "BaseException", .type "object"] "ValueError.__new__" = true)
    (kp_DrillError : PySem.W.keepIn K (.ref C_DrillError) = true)
    (e9_DrillError : PySem.W.findIn K (.ref C_DrillError) "value" = some none)
    (g1_DrillError : PySem.W.findIn K (.ref C_DrillError) "__getattribute__" = some (some (.builtin "BaseException.__getattribute__")))
    (g2_DrillError : PySem.W.findIn K (.ref C_DrillError) "__getattr__" = some none)
    (g3_DrillError : PySem.W.hasDictIn K C_DrillError = true)
    (g5_DrillError : PySem.W.findIn K (.ref C_DrillError) "__class__" = some (some (.builtin "object.__class__")))
    (g6_DrillError : PySem.W.mroIn K C_DrillError (.type "object") = some true)
    (s_DrillError_DrillError : PySem.W.subIn K (.ref C_DrillError) (.ref C_DrillError) = some true)
    (z_isinstance : PySem.W.nsIn K mainGlobals "isinstance" = some none)
    (z_str : PySem.W.nsIn K mainGlobals "str" = some none)
    (z_enumerate : PySem.W.nsIn K mainGlobals "enumerate" = some none)
    (z_len : PySem.W.nsIn K mainGlobals "len" = some none)
    (z_list : PySem.W.nsIn K mainGlobals "list" = some none)
    (z_abs : PySem.W.nsIn K mainGlobals "abs" = some none)
    (z_range : PySem.W.nsIn K mainGlobals "range" = some none)
    (z_int : PySem.W.nsIn K mainGlobals "int" = some none)
    (z_ValueError : PySem.W.nsIn K mainGlobals "ValueError" = some none)
    (z_min : PySem.W.nsIn K mainGlobals "min" = some none)
    : ∃ fd : FuncData, (∀ (s : Shared) (v : Value), BindsTo s fd ⟨[v], []⟩ [("script", v)]) ∧ ∀ base : Heap, K.In base → base.Ns mainGlobals mg → FnG l.prog w K mg base CX0 6 fa fd ["script"] (sp_law K) := by
  have e : f_law = fa := by
    have e := (PySem.W.mg_of X G h1_law).symm.trans hfa
    injection e with e
    injection e
  subst e
  let T : Txt K mg := {
    a_is_colour := f_is_colour,
    fd_is_colour := PySem.W.fnOf "is_colour" "is_colour" (defArgs s_is_colour) (defBody s_is_colour) (defScope s_is_colour) .none kV_is_colour dc_is_colour pm_is_colour an_is_colour cd_is_colour ct_is_colour,
    F_is_colour := fun_mk (st := s_is_colour) h2_is_colour h3_is_colour h4_is_colour,
    m_is_colour := PySem.W.mg_of X G h1_is_colour,
    b_is_colour := (fun_mk (st := s_is_colour) h2_is_colour h3_is_colour h4_is_colour).binds (ps := ["text"]) fun _ _ _ _ _ _ us hl => match us, hl with | [_], _ => rfl,
    a_is_kind := f_is_kind,
    fd_is_kind := PySem.W.fnOf "is_kind" "is_kind" (defArgs s_is_kind) (defBody s_is_kind) (defScope s_is_kind) .none kV_is_kind dc_is_kind pm_is_kind an_is_kind cd_is_kind ct_is_kind,
    F_is_kind := fun_mk (st := s_is_kind) h2_is_kind h3_is_kind h4_is_kind,
    m_is_kind := PySem.W.mg_of X G h1_is_kind,
    b_is_kind := (fun_mk (st := s_is_kind) h2_is_kind h3_is_kind h4_is_kind).binds (ps := ["kind"]) fun _ _ _ _ _ _ us hl => match us, hl with | [_], _ => rfl,
    a_is_call := f_is_call,
    fd_is_call := PySem.W.fnOf "is_call" "is_call" (defArgs s_is_call) (defBody s_is_call) (defScope s_is_call) .none kV_is_call dc_is_call pm_is_call an_is_call cd_is_call ct_is_call,
    F_is_call := fun_mk (st := s_is_call) h2_is_call h3_is_call h4_is_call,
    m_is_call := PySem.W.mg_of X G h1_is_call,
    b_is_call := (fun_mk (st := s_is_call) h2_is_call h3_is_call h4_is_call).binds (ps := ["call"]) fun _ _ _ _ _ _ us hl => match us, hl with | [_], _ => rfl,
    a_check_row := f_check_row,
    fd_check_row := PySem.W.fnOf "check_row" "check_row" (defArgs s_check_row) (defBody s_check_row) (defScope s_check_row) .none kV_check_row dc_check_row pm_check_row an_check_row cd_check_row ct_check_row,
    F_check_row := fun_mk (st := s_check_row) h2_check_row h3_check_row h4_check_row,
    m_check_row := PySem.W.mg_of X G h1_check_row,
    b_check_row := (fun_mk (st := s_check_row) h2_check_row h3_check_row h4_check_row).binds (ps := ["row"]) fun _ _ _ _ _ _ us hl => match us, hl with | [_], _ => rfl,
    a_check_drill := f_check_drill,
    fd_check_drill := PySem.W.fnOf "check_drill" "check_drill" (defArgs s_check_drill) (defBody s_check_drill) (defScope s_check_drill) .none kV_check_drill dc_check_drill pm_check_drill an_check_drill cd_check_drill ct_check_drill,
    F_check_drill := fun_mk (st := s_check_drill) h2_check_drill h3_check_drill h4_check_drill,
    m_check_drill := PySem.W.mg_of X G h1_check_drill,
    b_check_drill := (fun_mk (st := s_check_drill) h2_check_drill h3_check_drill h4_check_drill).binds (ps := ["drill"]) fun _ _ _ _ _ _ us hl => match us, hl with | [_], _ => rfl,
    a_check_counts := f_check_counts,
    fd_check_counts := PySem.W.fnOf "check_counts" "check_counts" (defArgs s_check_counts) (defBody s_check_counts) (defScope s_check_counts) .none kV_check_counts dc_check_counts pm_check_counts an_check_counts cd_check_counts ct_check_counts,
    F_check_counts := fun_mk (st := s_check_counts) h2_check_counts h3_check_counts h4_check_counts,
    m_check_counts := PySem.W.mg_of X G h1_check_counts,
    b_check_counts := (fun_mk (st := s_check_counts) h2_check_counts h3_check_counts h4_check_counts).binds (ps := ["counts"]) fun _ _ _ _ _ _ us hl => match us, hl with | [_], _ => rfl,
    a_check_colour := f_check_colour,
    fd_check_colour := PySem.W.fnOf "check_colour" "check_colour" (defArgs s_check_colour) (defBody s_check_colour) (defScope s_check_colour) .none kV_check_colour dc_check_colour pm_check_colour an_check_colour cd_check_colour ct_check_colour,
    F_check_colour := fun_mk (st := s_check_colour) h2_check_colour h3_check_colour h4_check_colour,
    m_check_colour := PySem.W.mg_of X G h1_check_colour,
    b_check_colour := (fun_mk (st := s_check_colour) h2_check_colour h3_check_colour h4_check_colour).binds (ps := ["colour"]) fun _ _ _ _ _ _ us hl => match us, hl with | [_], _ => rfl,
    a_count_of := f_count_of,
    fd_count_of := PySem.W.fnOf "count_of" "count_of" (defArgs s_count_of) (defBody s_count_of) (defScope s_count_of) .none kV_count_of dc_count_of pm_count_of an_count_of cd_count_of ct_count_of,
    F_count_of := fun_mk (st := s_count_of) h2_count_of h3_count_of h4_count_of,
    m_count_of := PySem.W.mg_of X G h1_count_of,
    b_count_of := (fun_mk (st := s_count_of) h2_count_of h3_count_of h4_count_of).binds (ps := ["counts", "colour"]) fun _ _ _ _ _ _ us hl => match us, hl with | [_, _], _ => rfl,
    a_count_movers := f_count_movers,
    fd_count_movers := PySem.W.fnOf "count_movers" "count_movers" (defArgs s_count_movers) (defBody s_count_movers) (defScope s_count_movers) .none kV_count_movers dc_count_movers pm_count_movers an_count_movers cd_count_movers ct_count_movers,
    F_count_movers := fun_mk (st := s_count_movers) h2_count_movers h3_count_movers h4_count_movers,
    m_count_movers := PySem.W.mg_of X G h1_count_movers,
    b_count_movers := (fun_mk (st := s_count_movers) h2_count_movers h3_count_movers h4_count_movers).binds (ps := ["kind", "wearers"]) fun _ _ _ _ _ _ us hl => match us, hl with | [_, _], _ => rfl,
    a_move_counts := f_move_counts,
    fd_move_counts := PySem.W.fnOf "move_counts" "move_counts" (defArgs s_move_counts) (defBody s_move_counts) (defScope s_move_counts) .none kV_move_counts dc_move_counts pm_move_counts an_move_counts cd_move_counts ct_move_counts,
    F_move_counts := fun_mk (st := s_move_counts) h2_move_counts h3_move_counts h4_move_counts,
    m_move_counts := PySem.W.mg_of X G h1_move_counts,
    b_move_counts := (fun_mk (st := s_move_counts) h2_move_counts h3_move_counts h4_move_counts).binds (ps := ["call", "counts"]) fun _ _ _ _ _ _ us hl => match us, hl with | [_, _], _ => rfl,
    a_colour_after_call := f_colour_after_call,
    fd_colour_after_call := PySem.W.fnOf "colour_after_call" "colour_after_call" (defArgs s_colour_after_call) (defBody s_colour_after_call) (defScope s_colour_after_call) .none kV_colour_after_call dc_colour_after_call pm_colour_after_call an_colour_after_call cd_colour_after_call ct_colour_after_call,
    F_colour_after_call := fun_mk (st := s_colour_after_call) h2_colour_after_call h3_colour_after_call h4_colour_after_call,
    m_colour_after_call := PySem.W.mg_of X G h1_colour_after_call,
    b_colour_after_call := (fun_mk (st := s_colour_after_call) h2_colour_after_call h3_colour_after_call h4_colour_after_call).binds (ps := ["call", "ahead", "colour"]) fun _ _ _ _ _ _ us hl => match us, hl with | [_, _, _], _ => rfl,
    a_count_colours := f_count_colours,
    fd_count_colours := PySem.W.fnOf "count_colours" "count_colours" (defArgs s_count_colours) (defBody s_count_colours) (defScope s_count_colours) .none kV_count_colours dc_count_colours pm_count_colours an_count_colours cd_count_colours ct_count_colours,
    F_count_colours := fun_mk (st := s_count_colours) h2_count_colours h3_count_colours h4_count_colours,
    m_count_colours := PySem.W.mg_of X G h1_count_colours,
    b_count_colours := (fun_mk (st := s_count_colours) h2_count_colours h3_count_colours h4_count_colours).binds (ps := ["row"]) fun _ _ _ _ _ _ us hl => match us, hl with | [_], _ => rfl,
    a_run_on_counts := f_run_on_counts,
    fd_run_on_counts := PySem.W.fnOf "run_on_counts" "run_on_counts" (defArgs s_run_on_counts) (defBody s_run_on_counts) (defScope s_run_on_counts) .none kV_run_on_counts dc_run_on_counts pm_run_on_counts an_run_on_counts cd_run_on_counts ct_run_on_counts,
    F_run_on_counts := fun_mk (st := s_run_on_counts) h2_run_on_counts h3_run_on_counts h4_run_on_counts,
    m_run_on_counts := PySem.W.mg_of X G h1_run_on_counts,
    b_run_on_counts := (fun_mk (st := s_run_on_counts) h2_run_on_counts h3_run_on_counts h4_run_on_counts).binds (ps := ["drill", "counts"]) fun _ _ _ _ _ _ us hl => match us, hl with | [_, _], _ => rfl,
    a_colour_after := f_colour_after,
    fd_colour_after := PySem.W.fnOf "colour_after" "colour_after" (defArgs s_colour_after) (defBody s_colour_after) (defScope s_colour_after) .none kV_colour_after dc_colour_after pm_colour_after an_colour_after cd_colour_after ct_colour_after,
    F_colour_after := fun_mk (st := s_colour_after) h2_colour_after h3_colour_after h4_colour_after,
    m_colour_after := PySem.W.mg_of X G h1_colour_after,
    b_colour_after := (fun_mk (st := s_colour_after) h2_colour_after h3_colour_after h4_colour_after).binds (ps := ["drill", "ahead", "colour"]) fun _ _ _ _ _ _ us hl => match us, hl with | [_, _, _], _ => rfl,
    a__law_rng := f__law_rng,
    fd__law_rng := PySem.W.fnOf "_law_rng" "_law_rng" (defArgs s__law_rng) (defBody s__law_rng) (defScope s__law_rng) .none kV__law_rng dc__law_rng pm__law_rng an__law_rng cd__law_rng ct__law_rng,
    F__law_rng := fun_mk (st := s__law_rng) h2__law_rng h3__law_rng h4__law_rng,
    m__law_rng := PySem.W.mg_of X G h1__law_rng,
    b__law_rng := (fun_mk (st := s__law_rng) h2__law_rng h3__law_rng h4__law_rng).binds (ps := ["script"]) fun _ _ _ _ _ _ us hl => match us, hl with | [_], _ => rfl,
    a__law_draw := f__law_draw,
    fd__law_draw := PySem.W.fnOf "_law_draw" "_law_draw" (defArgs s__law_draw) (defBody s__law_draw) (defScope s__law_draw) .none kV__law_draw dc__law_draw pm__law_draw an__law_draw cd__law_draw ct__law_draw,
    F__law_draw := fun_mk (st := s__law_draw) h2__law_draw h3__law_draw h4__law_draw,
    m__law_draw := PySem.W.mg_of X G h1__law_draw,
    b__law_draw := (fun_mk (st := s__law_draw) h2__law_draw h3__law_draw h4__law_draw).binds (ps := ["rng", "limit"]) fun _ _ _ _ _ _ us hl => match us, hl with | [_, _], _ => rfl,
    a__law_letters := f__law_letters,
    fd__law_letters := PySem.W.fnOf "_law_letters" "_law_letters" (defArgs s__law_letters) (defBody s__law_letters) (defScope s__law_letters) .none kV__law_letters dc__law_letters pm__law_letters an__law_letters cd__law_letters ct__law_letters,
    F__law_letters := fun_mk (st := s__law_letters) h2__law_letters h3__law_letters h4__law_letters,
    m__law_letters := PySem.W.mg_of X G h1__law_letters,
    b__law_letters := (fun_mk (st := s__law_letters) h2__law_letters h3__law_letters h4__law_letters).binds (ps := ["rng"]) fun _ _ _ _ _ _ us hl => match us, hl with | [_], _ => rfl,
    a__law_line := f__law_line,
    fd__law_line := PySem.W.fnOf "_law_line" "_law_line" (defArgs s__law_line) (defBody s__law_line) (defScope s__law_line) .none kV__law_line dc__law_line pm__law_line an__law_line cd__law_line ct__law_line,
    F__law_line := fun_mk (st := s__law_line) h2__law_line h3__law_line h4__law_line,
    m__law_line := PySem.W.mg_of X G h1__law_line,
    b__law_line := (fun_mk (st := s__law_line) h2__law_line h3__law_line h4__law_line).binds (ps := ["rng", "letters", "longest"]) fun _ _ _ _ _ _ us hl => match us, hl with | [_, _, _], _ => rfl,
    a__law_order := f__law_order,
    fd__law_order := PySem.W.fnOf "_law_order" "_law_order" (defArgs s__law_order) (defBody s__law_order) (defScope s__law_order) .none kV__law_order dc__law_order pm__law_order an__law_order cd__law_order ct__law_order,
    F__law_order := fun_mk (st := s__law_order) h2__law_order h3__law_order h4__law_order,
    m__law_order := PySem.W.mg_of X G h1__law_order,
    b__law_order := (fun_mk (st := s__law_order) h2__law_order h3__law_order h4__law_order).binds (ps := ["rng", "letters", "highest"]) fun _ _ _ _ _ _ us hl => match us, hl with | [_, _, _], _ => rfl,
    a__law_orders := f__law_orders,
    fd__law_orders := PySem.W.fnOf "_law_orders" "_law_orders" (defArgs s__law_orders) (defBody s__law_orders) (defScope s__law_orders) .none kV__law_orders dc__law_orders pm__law_orders an__law_orders cd__law_orders ct__law_orders,
    F__law_orders := fun_mk (st := s__law_orders) h2__law_orders h3__law_orders h4__law_orders,
    m__law_orders := PySem.W.mg_of X G h1__law_orders,
    b__law_orders := (fun_mk (st := s__law_orders) h2__law_orders h3__law_orders h4__law_orders).binds (ps := ["rng", "letters", "longest", "highest"]) fun _ _ _ _ _ _ us hl => match us, hl with | [_, _, _, _], _ => rfl,
    a__law_tally := f__law_tally,
    fd__law_tally := PySem.W.fnOf "_law_tally" "_law_tally" (defArgs s__law_tally) (defBody s__law_tally) (defScope s__law_tally) .none kV__law_tally dc__law_tally pm__law_tally an__law_tally cd__law_tally ct__law_tally,
    F__law_tally := fun_mk (st := s__law_tally) h2__law_tally h3__law_tally h4__law_tally,
    m__law_tally := PySem.W.mg_of X G h1__law_tally,
    b__law_tally := (fun_mk (st := s__law_tally) h2__law_tally h3__law_tally h4__law_tally).binds (ps := ["line"]) fun _ _ _ _ _ _ us hl => match us, hl with | [_], _ => rfl,
    a__law_spoiled_orders := f__law_spoiled_orders,
    fd__law_spoiled_orders := PySem.W.fnOf "_law_spoiled_orders" "_law_spoiled_orders" (defArgs s__law_spoiled_orders) (defBody s__law_spoiled_orders) (defScope s__law_spoiled_orders) .none kV__law_spoiled_orders dc__law_spoiled_orders pm__law_spoiled_orders an__law_spoiled_orders cd__law_spoiled_orders ct__law_spoiled_orders,
    F__law_spoiled_orders := fun_mk (st := s__law_spoiled_orders) h2__law_spoiled_orders h3__law_spoiled_orders h4__law_spoiled_orders,
    m__law_spoiled_orders := PySem.W.mg_of X G h1__law_spoiled_orders,
    b__law_spoiled_orders := (fun_mk (st := s__law_spoiled_orders) h2__law_spoiled_orders h3__law_spoiled_orders h4__law_spoiled_orders).binds (ps := ["rng", "orders"]) fun _ _ _ _ _ _ us hl => match us, hl with | [_, _], _ => rfl,
    a__law_bad_order := f__law_bad_order,
    fd__law_bad_order := PySem.W.fnOf "_law_bad_order" "_law_bad_order" (defArgs s__law_bad_order) (defBody s__law_bad_order) (defScope s__law_bad_order) .none kV__law_bad_order dc__law_bad_order pm__law_bad_order an__law_bad_order cd__law_bad_order ct__law_bad_order,
    F__law_bad_order := fun_mk (st := s__law_bad_order) h2__law_bad_order h3__law_bad_order h4__law_bad_order,
    m__law_bad_order := PySem.W.mg_of X G h1__law_bad_order,
    b__law_bad_order := (fun_mk (st := s__law_bad_order) h2__law_bad_order h3__law_bad_order h4__law_bad_order).binds (ps := ["orders"]) fun _ _ _ _ _ _ us hl => match us, hl with | [_], _ => rfl,
    a__law_spoiled_numbers := f__law_spoiled_numbers,
    fd__law_spoiled_numbers := PySem.W.fnOf "_law_spoiled_numbers" "_law_spoiled_numbers" (defArgs s__law_spoiled_numbers) (defBody s__law_spoiled_numbers) (defScope s__law_spoiled_numbers) .none kV__law_spoiled_numbers dc__law_spoiled_numbers pm__law_spoiled_numbers an__law_spoiled_numbers cd__law_spoiled_numbers ct__law_spoiled_numbers,
    F__law_spoiled_numbers := fun_mk (st := s__law_spoiled_numbers) h2__law_spoiled_numbers h3__law_spoiled_numbers h4__law_spoiled_numbers,
    m__law_spoiled_numbers := PySem.W.mg_of X G h1__law_spoiled_numbers,
    b__law_spoiled_numbers := (fun_mk (st := s__law_spoiled_numbers) h2__law_spoiled_numbers h3__law_spoiled_numbers h4__law_spoiled_numbers).binds (ps := ["rng", "numbers"]) fun _ _ _ _ _ _ us hl => match us, hl with | [_, _], _ => rfl,
    a__law_error := f__law_error,
    fd__law_error := PySem.W.fnOf "_law_error" "_law_error" (defArgs s__law_error) (defBody s__law_error) (defScope s__law_error) .none kV__law_error dc__law_error pm__law_error an__law_error cd__law_error ct__law_error,
    F__law_error := fun_mk (st := s__law_error) h2__law_error h3__law_error h4__law_error,
    m__law_error := PySem.W.mg_of X G h1__law_error,
    b__law_error := (fun_mk (st := s__law_error) h2__law_error h3__law_error h4__law_error).binds (ps := ["door", "orders", "numbers", "text"]) fun _ _ _ _ _ _ us hl => match us, hl with | [_, _, _, _], _ => rfl,
    a__law_classes_right := f__law_classes_right,
    fd__law_classes_right := PySem.W.fnOf "_law_classes_right" "_law_classes_right" (defArgs s__law_classes_right) (defBody s__law_classes_right) (defScope s__law_classes_right) .none kV__law_classes_right dc__law_classes_right pm__law_classes_right an__law_classes_right cd__law_classes_right ct__law_classes_right,
    F__law_classes_right := fun_mk (st := s__law_classes_right) h2__law_classes_right h3__law_classes_right h4__law_classes_right,
    m__law_classes_right := PySem.W.mg_of X G h1__law_classes_right,
    b__law_classes_right := (fun_mk (st := s__law_classes_right) h2__law_classes_right h3__law_classes_right h4__law_classes_right).binds (ps := []) fun _ _ _ _ _ _ us hl => match us, hl with | [], _ => rfl,
    a_law := f_law,
    fd_law := PySem.W.fnOf "law" "law" (defArgs s_law) (defBody s_law) (defScope s_law) .none kV_law dc_law pm_law an_law cd_law ct_law,
    F_law := fun_mk (st := s_law) h2_law h3_law h4_law,
    m_law := PySem.W.mg_of X G h1_law,
    b_law := (fun_mk (st := s_law) h2_law h3_law h4_law).binds (ps := ["script"]) fun _ _ _ _ _ _ us hl => match us, hl with | [_], _ => rfl,
    a_COLOURS := f_COLOURS,
    m_COLOURS := PySem.W.mg_of X G h1_COLOURS,
    c_COLOURS := fun H => .inr ⟨_, _, _, h2_COLOURS, rfl, rfl, by show 6 ≤ sizeLine; decide, by show Vals colV [.str "a" t0_COLOURS, .str "b" t1_COLOURS, .str "c" t2_COLOURS, .str "d" t3_COLOURS, .str "e" t4_COLOURS, .str "f" t5_COLOURS]; exact (.cons ⟨_, rfl⟩ (.cons ⟨_, rfl⟩ (.cons ⟨_, rfl⟩ (.cons ⟨_, rfl⟩ (.cons ⟨_, rfl⟩ (.cons ⟨_, rfl⟩ .nil))))))⟩,
    t_COLOURS := ⟨_, h2_COLOURS, rfl, rfl⟩,
    C_DrillError := C_DrillError,
    g_DrillError := PySem.W.mg_of X G e1_DrillError,
    C_BadRow := C_BadRow,
    I_BadRow := I_BadRow,
    D_BadRow := PySem.W.fnOf "__init__" "BadRow.__init__" (defArgs (meth (top 2) 0)) (defBody (meth (top 2) 0)) (defScope (meth (top 2) 0)) .none kV_BadRow dc_BadRow pm_BadRow an_BadRow cd_BadRow ct_BadRow,
    O_BadRow := ⟨PySem.W.mg_of X G e1_BadRow, ⟨⟨_, _, _, _, _, _, _, _, _, _, _, _, _, _, _, e2_BadRow, by first | rfl | decide +kernel⟩, e3_BadRow, e4_BadRow, e5_BadRow, e6_BadRow⟩, e7_BadRow, e8_BadRow, e9_BadRow, fun_mk (st := (meth (top 2) 0)) e10_BadRow e11_BadRow e12_BadRow,
      (fun_mk (st := (meth (top 2) 0)) e10_BadRow e11_BadRow e12_BadRow).binds (ps := ["self", "value"]) fun _ _ _ _ _ _ us hl => match us, hl with | [_, _], _ => rfl⟩,
    kb_BadRow := fun s u v => .of_eq (by first | rfl | with_unfolding_all rfl | kernel_rfl),
    Z_BadRow := ⟨⟨g1_BadRow, g2_BadRow, e4_BadRow, g3_BadRow⟩, e9_BadRow, cls_some g3_BadRow, g5_BadRow, zc_get, zc_set, g6_BadRow⟩,
    C_BadCall := C_BadCall,
    I_BadCall := I_BadCall,
    D_BadCall := PySem.W.fnOf "__init__" "BadCall.__init__" (defArgs (meth (top 3) 0)) (defBody (meth (top 3) 0)) (defScope (meth (top 3) 0)) .none kV_BadCall dc_BadCall pm_BadCall an_BadCall cd_BadCall ct_BadCall,
    O_BadCall := ⟨PySem.W.mg_of X G e1_BadCall, ⟨⟨_, _, _, _, _, _, _, _, _, _, _, _, _, _, _, e2_BadCall, by first | rfl | decide +kernel⟩, e3_BadCall, e4_BadCall, e5_BadCall, e6_BadCall⟩, e7_BadCall, e8_BadCall, e9_BadCall, fun_mk (st := (meth (top 3) 0)) e10_BadCall e11_BadCall e12_BadCall,
      (fun_mk (st := (meth (top 3) 0)) e10_BadCall e11_BadCall e12_BadCall).binds (ps := ["self", "value"]) fun _ _ _ _ _ _ us hl => match us, hl with | [_, _], _ => rfl⟩,
    kb_BadCall := fun s u v => .of_eq (by first | rfl | with_unfolding_all rfl | kernel_rfl),
    Z_BadCall := ⟨⟨g1_BadCall, g2_BadCall, e4_BadCall, g3_BadCall⟩, e9_BadCall, cls_some g3_BadCall, g5_BadCall, zc_get, zc_set, g6_BadCall⟩,
    C_BadCounts := C_BadCounts,
    I_BadCounts := I_BadCounts,
    D_BadCounts := PySem.W.fnOf "__init__" "BadCounts.__init__" (defArgs (meth (top 4) 0)) (defBody (meth (top 4) 0)) (defScope (meth (top 4) 0)) .none kV_BadCounts dc_BadCounts pm_BadCounts an_BadCounts cd_BadCounts ct_BadCounts,
    O_BadCounts := ⟨PySem.W.mg_of X G e1_BadCounts, ⟨⟨_, _, _, _, _, _, _, _, _, _, _, _, _, _, _, e2_BadCounts, by first | rfl | decide +kernel⟩, e3_BadCounts, e4_BadCounts, e5_BadCounts, e6_BadCounts⟩, e7_BadCounts, e8_BadCounts, e9_BadCounts, fun_mk (st := (meth (top 4) 0)) e10_BadCounts e11_BadCounts e12_BadCounts,
      (fun_mk (st := (meth (top 4) 0)) e10_BadCounts e11_BadCounts e12_BadCounts).binds (ps := ["self", "value"]) fun _ _ _ _ _ _ us hl => match us, hl with | [_, _], _ => rfl⟩,
    kb_BadCounts := fun s u v => .of_eq (by first | rfl | with_unfolding_all rfl | kernel_rfl),
    Z_BadCounts := ⟨⟨g1_BadCounts, g2_BadCounts, e4_BadCounts, g3_BadCounts⟩, e9_BadCounts, cls_some g3_BadCounts, g5_BadCounts, zc_get, zc_set, g6_BadCounts⟩,
    C_BadColour := C_BadColour,
    I_BadColour := I_BadColour,
    D_BadColour := PySem.W.fnOf "__init__" "BadColour.__init__" (defArgs (meth (top 5) 0)) (defBody (meth (top 5) 0)) (defScope (meth (top 5) 0)) .none kV_BadColour dc_BadColour pm_BadColour an_BadColour cd_BadColour ct_BadColour,
    O_BadColour := ⟨PySem.W.mg_of X G e1_BadColour, ⟨⟨_, _, _, _, _, _, _, _, _, _, _, _, _, _, _, e2_BadColour, by first | rfl | decide +kernel⟩, e3_BadColour, e4_BadColour, e5_BadColour, e6_BadColour⟩, e7_BadColour, e8_BadColour, e9_BadColour, fun_mk (st := (meth (top 5) 0)) e10_BadColour e11_BadColour e12_BadColour,
      (fun_mk (st := (meth (top 5) 0)) e10_BadColour e11_BadColour e12_BadColour).binds (ps := ["self", "value"]) fun _ _ _ _ _ _ us hl => match us, hl with | [_, _], _ => rfl⟩,
    kb_BadColour := fun s u v => .of_eq (by first | rfl | with_unfolding_all rfl | kernel_rfl),
    Z_BadColour := ⟨⟨g1_BadColour, g2_BadColour, e4_BadColour, g3_BadColour⟩, e9_BadColour, cls_some g3_BadColour, g5_BadColour, zc_get, zc_set, g6_BadColour⟩,
    C_BadTimes := C_BadTimes,
    I_BadTimes := I_BadTimes,
    D_BadTimes := PySem.W.fnOf "__init__" "BadTimes.__init__" (defArgs (meth (top 6) 0)) (defBody (meth (top 6) 0)) (defScope (meth (top 6) 0)) .none kV_BadTimes dc_BadTimes pm_BadTimes an_BadTimes cd_BadTimes ct_BadTimes,
    O_BadTimes := ⟨PySem.W.mg_of X G e1_BadTimes, ⟨⟨_, _, _, _, _, _, _, _, _, _, _, _, _, _, _, e2_BadTimes, by first | rfl | decide +kernel⟩, e3_BadTimes, e4_BadTimes, e5_BadTimes, e6_BadTimes⟩, e7_BadTimes, e8_BadTimes, e9_BadTimes, fun_mk (st := (meth (top 6) 0)) e10_BadTimes e11_BadTimes e12_BadTimes,
      (fun_mk (st := (meth (top 6) 0)) e10_BadTimes e11_BadTimes e12_BadTimes).binds (ps := ["self", "value"]) fun _ _ _ _ _ _ us hl => match us, hl with | [_, _], _ => rfl⟩,
    kb_BadTimes := fun s u v => .of_eq (by first | rfl | with_unfolding_all rfl | kernel_rfl),
    Z_BadTimes := ⟨⟨g1_BadTimes, g2_BadTimes, e4_BadTimes, g3_BadTimes⟩, e9_BadTimes, cls_some g3_BadTimes, g5_BadTimes, zc_get, zc_set, g6_BadTimes⟩,
    C_BadText := C_BadText,
    I_BadText := I_BadText,
    D_BadText := PySem.W.fnOf "__init__" "BadText.__init__" (defArgs (meth (top 9) 0)) (defBody (meth (top 9) 0)) (defScope (meth (top 9) 0)) .none kV_BadText dc_BadText pm_BadText an_BadText cd_BadText ct_BadText,
    O_BadText := ⟨PySem.W.mg_of X G e1_BadText, ⟨⟨_, _, _, _, _, _, _, _, _, _, _, _, _, _, _, e2_BadText, by first | rfl | decide +kernel⟩, e3_BadText, e4_BadText, e5_BadText, e6_BadText⟩, e7_BadText, e8_BadText, e9_BadText, fun_mk (st := (meth (top 9) 0)) e10_BadText e11_BadText e12_BadText,
      (fun_mk (st := (meth (top 9) 0)) e10_BadText e11_BadText e12_BadText).binds (ps := ["self", "value"]) fun _ _ _ _ _ _ us hl => match us, hl with | [_, _], _ => rfl⟩,
    kb_BadText := fun s u v => .of_eq (by first | rfl | with_unfolding_all rfl | kernel_rfl),
    Z_BadText := ⟨⟨g1_BadText, g2_BadText, e4_BadText, g3_BadText⟩, e9_BadText, cls_some g3_BadText, g5_BadText, zc_get, zc_set, g6_BadText⟩,
    C_BadIndex := C_BadIndex,
    I_BadIndex := I_BadIndex,
    D_BadIndex := PySem.W.fnOf "__init__" "BadIndex.__init__" (defArgs (meth (top 8) 0)) (defBody (meth (top 8) 0)) (defScope (meth (top 8) 0)) .none kV_BadIndex dc_BadIndex pm_BadIndex an_BadIndex cd_BadIndex ct_BadIndex,
    O_BadIndex := ⟨PySem.W.mg_of X G e1_BadIndex, ⟨⟨_, _, _, _, _, _, _, _, _, _, _, _, _, _, _, e2_BadIndex, by first | rfl | decide +kernel⟩, e3_BadIndex, e4_BadIndex, e5_BadIndex, e6_BadIndex⟩, e7_BadIndex, e8_BadIndex, e9_BadIndex, fun_mk (st := (meth (top 8) 0)) e10_BadIndex e11_BadIndex e12_BadIndex,
      (fun_mk (st := (meth (top 8) 0)) e10_BadIndex e11_BadIndex e12_BadIndex).binds (ps := ["self", "value"]) fun _ _ _ _ _ _ us hl => match us, hl with | [_, _], _ => rfl⟩,
    kb_BadIndex := fun s u v => .of_eq (by first | rfl | with_unfolding_all rfl | kernel_rfl),
    Z_BadIndex := ⟨⟨g1_BadIndex, g2_BadIndex, e4_BadIndex, g3_BadIndex⟩, e9_BadIndex, cls_some g3_BadIndex, g5_BadIndex, zc_get, zc_set, g6_BadIndex⟩,
    C_BadGoal := C_BadGoal,
    I_BadGoal := I_BadGoal,
    D_BadGoal := PySem.W.fnOf "__init__" "BadGoal.__init__" (defArgs (meth (top 7) 0)) (defBody (meth (top 7) 0)) (defScope (meth (top 7) 0)) .none kV_BadGoal dc_BadGoal pm_BadGoal an_BadGoal cd_BadGoal ct_BadGoal,
    O_BadGoal := ⟨PySem.W.mg_of X G e1_BadGoal, ⟨⟨_, _, _, _, _, _, _, _, _, _, _, _, _, _, _, e2_BadGoal, by first | rfl | decide +kernel⟩, e3_BadGoal, e4_BadGoal, e5_BadGoal, e6_BadGoal⟩, e7_BadGoal, e8_BadGoal, e9_BadGoal, fun_mk (st := (meth (top 7) 0)) e10_BadGoal e11_BadGoal e12_BadGoal,
      (fun_mk (st := (meth (top 7) 0)) e10_BadGoal e11_BadGoal e12_BadGoal).binds (ps := ["self", "value"]) fun _ _ _ _ _ _ us hl => match us, hl with | [_, _], _ => rfl⟩,
    kb_BadGoal := fun s u v => .of_eq (by first | rfl | with_unfolding_all rfl | kernel_rfl),
    Z_BadGoal := ⟨⟨g1_BadGoal, g2_BadGoal, e4_BadGoal, g3_BadGoal⟩, e9_BadGoal, cls_some g3_BadGoal, g5_BadGoal, zc_get, zc_set, g6_BadGoal⟩,
    k_BadRow_BadRow := kit_yes g3_BadRow e5_BadRow s_BadRow_BadRow,
    k_BadRow_BadCall := kit_no g3_BadCall e5_BadCall s_BadRow_BadCall s_BadCall_BadCall,
    k_BadRow_BadCounts := kit_no g3_BadCounts e5_BadCounts s_BadRow_BadCounts s_BadCounts_BadCounts,
    k_BadRow_BadColour := kit_no g3_BadColour e5_BadColour s_BadRow_BadColour s_BadColour_BadColour,
    k_BadRow_BadTimes := kit_no g3_BadTimes e5_BadTimes s_BadRow_BadTimes s_BadTimes_BadTimes,
    k_BadRow_BadText := kit_no g3_BadText e5_BadText s_BadRow_BadText s_BadText_BadText,
    k_BadRow_BadIndex := kit_no g3_BadIndex e5_BadIndex s_BadRow_BadIndex s_BadIndex_BadIndex,
    k_BadRow_BadGoal := kit_no g3_BadGoal e5_BadGoal s_BadRow_BadGoal s_BadGoal_BadGoal,
    k_BadCall_BadRow := kit_no g3_BadRow e5_BadRow s_BadCall_BadRow s_BadRow_BadRow,
    k_BadCall_BadCall := kit_yes g3_BadCall e5_BadCall s_BadCall_BadCall,
    k_BadCall_BadCounts := kit_no g3_BadCounts e5_BadCounts s_BadCall_BadCounts s_BadCounts_BadCounts,
    k_BadCall_BadColour := kit_no g3_BadColour e5_BadColour s_BadCall_BadColour s_BadColour_BadColour,
    k_BadCall_BadTimes := kit_no g3_BadTimes e5_BadTimes s_BadCall_BadTimes s_BadTimes_BadTimes,
    k_BadCall_BadText := kit_no g3_BadText e5_BadText s_BadCall_BadText s_BadText_BadText,
    k_BadCall_BadIndex := kit_no g3_BadIndex e5_BadIndex s_BadCall_BadIndex s_BadIndex_BadIndex,
    k_BadCall_BadGoal := kit_no g3_BadGoal e5_BadGoal s_BadCall_BadGoal s_BadGoal_BadGoal,
    k_BadCounts_BadRow := kit_no g3_BadRow e5_BadRow s_BadCounts_BadRow s_BadRow_BadRow,
    k_BadCounts_BadCall := kit_no g3_BadCall e5_BadCall s_BadCounts_BadCall s_BadCall_BadCall,
    k_BadCounts_BadCounts := kit_yes g3_BadCounts e5_BadCounts s_BadCounts_BadCounts,
    k_BadCounts_BadColour := kit_no g3_BadColour e5_BadColour s_BadCounts_BadColour s_BadColour_BadColour,
    k_BadCounts_BadTimes := kit_no g3_BadTimes e5_BadTimes s_BadCounts_BadTimes s_BadTimes_BadTimes,
    k_BadCounts_BadText := kit_no g3_BadText e5_BadText s_BadCounts_BadText s_BadText_BadText,
    k_BadCounts_BadIndex := kit_no g3_BadIndex e5_BadIndex s_BadCounts_BadIndex s_BadIndex_BadIndex,
    k_BadCounts_BadGoal := kit_no g3_BadGoal e5_BadGoal s_BadCounts_BadGoal s_BadGoal_BadGoal,
    k_BadColour_BadRow := kit_no g3_BadRow e5_BadRow s_BadColour_BadRow s_BadRow_BadRow,
    k_BadColour_BadCall := kit_no g3_BadCall e5_BadCall s_BadColour_BadCall s_BadCall_BadCall,
    k_BadColour_BadCounts := kit_no g3_BadCounts e5_BadCounts s_BadColour_BadCounts s_BadCounts_BadCounts,
    k_BadColour_BadColour := kit_yes g3_BadColour e5_BadColour s_BadColour_BadColour,
    k_BadColour_BadTimes := kit_no g3_BadTimes e5_BadTimes s_BadColour_BadTimes s_BadTimes_BadTimes,
    k_BadColour_BadText := kit_no g3_BadText e5_BadText s_BadColour_BadText s_BadText_BadText,
    k_BadColour_BadIndex := kit_no g3_BadIndex e5_BadIndex s_BadColour_BadIndex s_BadIndex_BadIndex,
    k_BadColour_BadGoal := kit_no g3_BadGoal e5_BadGoal s_BadColour_BadGoal s_BadGoal_BadGoal,
    k_BadTimes_BadRow := kit_no g3_BadRow e5_BadRow s_BadTimes_BadRow s_BadRow_BadRow,
    k_BadTimes_BadCall := kit_no g3_BadCall e5_BadCall s_BadTimes_BadCall s_BadCall_BadCall,
    k_BadTimes_BadCounts := kit_no g3_BadCounts e5_BadCounts s_BadTimes_BadCounts s_BadCounts_BadCounts,
    k_BadTimes_BadColour := kit_no g3_BadColour e5_BadColour s_BadTimes_BadColour s_BadColour_BadColour,
    k_BadTimes_BadTimes := kit_yes g3_BadTimes e5_BadTimes s_BadTimes_BadTimes,
    k_BadTimes_BadText := kit_no g3_BadText e5_BadText s_BadTimes_BadText s_BadText_BadText,
    k_BadTimes_BadIndex := kit_no g3_BadIndex e5_BadIndex s_BadTimes_BadIndex s_BadIndex_BadIndex,
    k_BadTimes_BadGoal := kit_no g3_BadGoal e5_BadGoal s_BadTimes_BadGoal s_BadGoal_BadGoal,
    k_BadText_BadRow := kit_no g3_BadRow e5_BadRow s_BadText_BadRow s_BadRow_BadRow,
    k_BadText_BadCall := kit_no g3_BadCall e5_BadCall s_BadText_BadCall s_BadCall_BadCall,
    k_BadText_BadCounts := kit_no g3_BadCounts e5_BadCounts s_BadText_BadCounts s_BadCounts_BadCounts,
    k_BadText_BadColour := kit_no g3_BadColour e5_BadColour s_BadText_BadColour s_BadColour_BadColour,
    k_BadText_BadTimes := kit_no g3_BadTimes e5_BadTimes s_BadText_BadTimes s_BadTimes_BadTimes,
    k_BadText_BadText := kit_yes g3_BadText e5_BadText s_BadText_BadText,
    k_BadText_BadIndex := kit_no g3_BadIndex e5_BadIndex s_BadText_BadIndex s_BadIndex_BadIndex,
    k_BadText_BadGoal := kit_no g3_BadGoal e5_BadGoal s_BadText_BadGoal s_BadGoal_BadGoal,
    k_BadIndex_BadRow := kit_no g3_BadRow e5_BadRow s_BadIndex_BadRow s_BadRow_BadRow,
    k_BadIndex_BadCall := kit_no g3_BadCall e5_BadCall s_BadIndex_BadCall s_BadCall_BadCall,
    k_BadIndex_BadCounts := kit_no g3_BadCounts e5_BadCounts s_BadIndex_BadCounts s_BadCounts_BadCounts,
    k_BadIndex_BadColour := kit_no g3_BadColour e5_BadColour s_BadIndex_BadColour s_BadColour_BadColour,
    k_BadIndex_BadTimes := kit_no g3_BadTimes e5_BadTimes s_BadIndex_BadTimes s_BadTimes_BadTimes,
    k_BadIndex_BadText := kit_no g3_BadText e5_BadText s_BadIndex_BadText s_BadText_BadText,
    k_BadIndex_BadIndex := kit_yes g3_BadIndex e5_BadIndex s_BadIndex_BadIndex,
    k_BadIndex_BadGoal := kit_no g3_BadGoal e5_BadGoal s_BadIndex_BadGoal s_BadGoal_BadGoal,
    k_BadGoal_BadRow := kit_no g3_BadRow e5_BadRow s_BadGoal_BadRow s_BadRow_BadRow,
    k_BadGoal_BadCall := kit_no g3_BadCall e5_BadCall s_BadGoal_BadCall s_BadCall_BadCall,
    k_BadGoal_BadCounts := kit_no g3_BadCounts e5_BadCounts s_BadGoal_BadCounts s_BadCounts_BadCounts,
    k_BadGoal_BadColour := kit_no g3_BadColour e5_BadColour s_BadGoal_BadColour s_BadColour_BadColour,
    k_BadGoal_BadTimes := kit_no g3_BadTimes e5_BadTimes s_BadGoal_BadTimes s_BadTimes_BadTimes,
    k_BadGoal_BadText := kit_no g3_BadText e5_BadText s_BadGoal_BadText s_BadText_BadText,
    k_BadGoal_BadIndex := kit_no g3_BadIndex e5_BadIndex s_BadGoal_BadIndex s_BadIndex_BadIndex,
    k_BadGoal_BadGoal := kit_yes g3_BadGoal e5_BadGoal s_BadGoal_BadGoal,
    k_BadRow_ValueError := kit_VE v_BadRow,
    k_BadCall_ValueError := kit_VE v_BadCall,
    k_BadCounts_ValueError := kit_VE v_BadCounts,
    k_BadColour_ValueError := kit_VE v_BadColour,
    k_BadTimes_ValueError := kit_VE v_BadTimes,
    k_BadText_ValueError := kit_VE v_BadText,
    k_BadIndex_ValueError := kit_VE v_BadIndex,
    k_BadGoal_ValueError := kit_VE v_BadGoal,
    k_DrillError_ValueError := kit_VE v_DrillError,
    x_DrillError := x_DrillError,
    kp_DrillError := kp_DrillError,
    sb_DrillError := e4_DrillError,
    ty_DrillError := e5_DrillError,
    Z_DrillError := ⟨⟨g1_DrillError, g2_DrillError, e4_DrillError, g3_DrillError⟩, e9_DrillError, cls_some g3_DrillError, g5_DrillError, zc_get, zc_set, g6_DrillError⟩,
    k_DrillError_DrillError := kit_yes g3_DrillError e5_DrillError s_DrillError_DrillError,
    k_BadRow_DrillError := kit_yes g3_DrillError e5_DrillError s_BadRow_DrillError,
    k_BadCall_DrillError := kit_yes g3_DrillError e5_DrillError s_BadCall_DrillError,
    k_BadCounts_DrillError := kit_yes g3_DrillError e5_DrillError s_BadCounts_DrillError,
    k_BadColour_DrillError := kit_yes g3_DrillError e5_DrillError s_BadColour_DrillError,
    k_BadTimes_DrillError := kit_yes g3_DrillError e5_DrillError s_BadTimes_DrillError,
    k_BadText_DrillError := kit_yes g3_DrillError e5_DrillError s_BadText_DrillError,
    k_BadIndex_DrillError := kit_yes g3_DrillError e5_DrillError s_BadIndex_DrillError,
    k_BadGoal_DrillError := kit_yes g3_DrillError e5_DrillError s_BadGoal_DrillError,
    t_BadRow_DrillError := exm_sub e4_DrillError g3_DrillError e5_DrillError s_BadRow_DrillError,
    t_BadCall_DrillError := exm_sub e4_DrillError g3_DrillError e5_DrillError s_BadCall_DrillError,
    t_BadCounts_DrillError := exm_sub e4_DrillError g3_DrillError e5_DrillError s_BadCounts_DrillError,
    t_BadColour_DrillError := exm_sub e4_DrillError g3_DrillError e5_DrillError s_BadColour_DrillError,
    t_BadTimes_DrillError := exm_sub e4_DrillError g3_DrillError e5_DrillError s_BadTimes_DrillError,
    t_BadText_DrillError := exm_sub e4_DrillError g3_DrillError e5_DrillError s_BadText_DrillError,
    t_BadIndex_DrillError := exm_sub e4_DrillError g3_DrillError e5_DrillError s_BadIndex_DrillError,
    t_BadGoal_DrillError := exm_sub e4_DrillError g3_DrillError e5_DrillError s_BadGoal_DrillError,
    n_isinstance := PySem.W.mg_none_of X G z_isinstance,
    n_str := PySem.W.mg_none_of X G z_str,
    n_enumerate := PySem.W.mg_none_of X G z_enumerate,
    n_len := PySem.W.mg_none_of X G z_len,
    n_list := PySem.W.mg_none_of X G z_list,
    n_abs := PySem.W.mg_none_of X G z_abs,
    n_range := PySem.W.mg_none_of X G z_range,
    n_int := PySem.W.mg_none_of X G z_int,
    n_ValueError := PySem.W.mg_none_of X G z_ValueError,
    n_min := PySem.W.mg_none_of X G z_min }
  refine ⟨PySem.W.fnOf "law" "law" (defArgs s_law) (defBody s_law) (defScope s_law) .none kV_law dc_law pm_law an_law cd_law ct_law, fun s v => .of_eq rfl, fun base _ _ => ?_⟩
  have G__law_rng := ok__law_rng (P := l.prog) (w := w) (base := base) T 
  have G__law_classes_right := ok__law_classes_right (P := l.prog) (w := w) (base := base) T 
  have G__law_draw := ok__law_draw (P := l.prog) (w := w) (base := base) T 
  have G__law_letters := ok__law_letters (P := l.prog) (w := w) (base := base) T G__law_draw
  have G__law_spoiled_orders := ok__law_spoiled_orders (P := l.prog) (w := w) (base := base) T G__law_draw
  have G__law_order := ok__law_order (P := l.prog) (w := w) (base := base) T G__law_draw
  have G__law_orders := ok__law_orders (P := l.prog) (w := w) (base := base) T G__law_draw G__law_order
  have G__law_spoiled_numbers := ok__law_spoiled_numbers (P := l.prog) (w := w) (base := base) T G__law_draw
  have G__law_tally := ok__law_tally (P := l.prog) (w := w) (base := base) T 
  have G__law_line := ok__law_line (P := l.prog) (w := w) (base := base) T G__law_draw
  have G_is_colour := ok_is_colour (P := l.prog) (w := w) (base := base) T 
  have G_check_row := ok_check_row (P := l.prog) (w := w) (base := base) T G_is_colour
  have G_count_colours := ok_count_colours (P := l.prog) (w := w) (base := base) T G_check_row
  have G_is_kind := ok_is_kind (P := l.prog) (w := w) (base := base) T 
  have G_is_call := ok_is_call (P := l.prog) (w := w) (base := base) T G_is_colour G_is_kind
  have G_check_drill := ok_check_drill (P := l.prog) (w := w) (base := base) T G_is_call
  have G_check_counts := ok_check_counts (P := l.prog) (w := w) (base := base) T 
  have G_count_movers := ok_count_movers (P := l.prog) (w := w) (base := base) T 
  have G_count_of := ok_count_of (P := l.prog) (w := w) (base := base) T 
  have G_move_counts := ok_move_counts (P := l.prog) (w := w) (base := base) T G_count_movers G_count_of
  have G_run_on_counts := ok_run_on_counts (P := l.prog) (w := w) (base := base) T G_check_drill G_check_counts G_move_counts
  have G_check_colour := ok_check_colour (P := l.prog) (w := w) (base := base) T G_is_colour
  have G_colour_after_call := ok_colour_after_call (P := l.prog) (w := w) (base := base) T G_count_of
  have G_colour_after := ok_colour_after (P := l.prog) (w := w) (base := base) T G_check_drill G_check_counts G_check_colour G_colour_after_call G_move_counts
  have G__law_error := ok__law_error (P := l.prog) (w := w) (base := base) T G_count_colours G_run_on_counts G_colour_after
  have G__law_bad_order := ok__law_bad_order (P := l.prog) (w := w) (base := base) T 
  exact ok_law T G__law_rng G__law_classes_right G__law_letters G__law_spoiled_orders G__law_orders G__law_spoiled_numbers G__law_tally G__law_line G__law_draw G__law_error G__law_bad_order
theorem walk {l : PySem.W.OpenLaw} {q : Program} {loose : List Str} {XP : (Str → Option Value) → Heap → Prop} {YP : World → Heap → Prop} {d : DefRec} {K : Params → PySem.W.Frag} (hn : l.most = some 63) (hdf : d.params.defaults = [])
    (hY : ∀ (w : World) (h : Heap), YP w h → (K w.params).In h)
    (F : ∀ (w : World) (mg : Str → Option Value) (fa : Addr) (h : Heap), (K w.params).In h → h.Ns mainGlobals mg → mg d.name = some (.ref fa) → ∃ fd : FuncData, (∀ (s : Shared) (u : Value), BindsTo s fd ⟨[u], []⟩ [("script", u)]) ∧
      ∀ base : Heap, (K w.params).In base → base.Ns mainGlobals mg → FnG l.prog w (K w.params) mg base CX0 6 fa fd ["script"] (sp_law (K w.params))) :
    PySem.W.WalkO q loose XP YP l.row.toRowW d [] (fun f vs => PySem.call f vs) :=
  walk_G (n := 63) (k := 6) (K := K) (sp := sp_law) hn (by decide) hdf ⟨rfl, by decide, by decide⟩ hY F (fun K H a ns hl hS => ⟨a, ns, rfl, hS, hl, fun _ => rfl⟩)
end Dr
open PySem PySem.W PyProof.Rows in
set_option maxRecDepth 100000 in
set_option maxHeartbeats 0 in
theorem PySem.Challenge.cw_drillrow_k10_counts_errors_holds : PySem.Challenge.rw_drillrow_k10_counts_errors.Holds := by
  w_on; o_law; k_head; (case hw => w_witness2)
  k_fill
  refine Dr.walk (l := PySem.Challenge.rw_drillrow_k10_counts_errors) rfl rfl (fun w h Y => PySem.W.kIn_of Y) ?F
  case F =>
    intro w mg fa h KX G hmg
    refine' Dr.all_mk KX G hmg ?h1_is_colour ?h2_is_colour ?h3_is_colour ?h4_is_colour ?h1_is_kind ?h2_is_kind ?h3_is_kind ?h4_is_kind ?h1_is_call ?h2_is_call ?h3_is_call ?h4_is_call ?h1_check_row ?h2_check_row ?h3_check_row ?h4_check_row ?h1_check_drill ?h2_check_drill ?h3_check_drill ?h4_check_drill ?h1_check_counts ?h2_check_counts ?h3_check_counts ?h4_check_counts ?h1_check_colour ?h2_check_colour ?h3_check_colour ?h4_check_colour ?h1_count_of ?h2_count_of ?h3_count_of ?h4_count_of ?h1_count_movers ?h2_count_movers ?h3_count_movers ?h4_count_movers ?h1_move_counts ?h2_move_counts ?h3_move_counts ?h4_move_counts ?h1_colour_after_call ?h2_colour_after_call ?h3_colour_after_call ?h4_colour_after_call ?h1_count_colours ?h2_count_colours ?h3_count_colours ?h4_count_colours ?h1_run_on_counts ?h2_run_on_counts ?h3_run_on_counts ?h4_run_on_counts ?h1_colour_after ?h2_colour_after ?h3_colour_after ?h4_colour_after ?h1__law_rng ?h2__law_rng ?h3__law_rng ?h4__law_rng ?h1__law_draw ?h2__law_draw ?h3__law_draw ?h4__law_draw ?h1__law_letters ?h2__law_letters ?h3__law_letters ?h4__law_letters ?h1__law_line ?h2__law_line ?h3__law_line ?h4__law_line ?h1__law_order ?h2__law_order ?h3__law_order ?h4__law_order ?h1__law_orders ?h2__law_orders ?h3__law_orders ?h4__law_orders ?h1__law_tally ?h2__law_tally ?h3__law_tally ?h4__law_tally ?h1__law_spoiled_orders ?h2__law_spoiled_orders ?h3__law_spoiled_orders ?h4__law_spoiled_orders ?h1__law_bad_order ?h2__law_bad_order ?h3__law_bad_order ?h4__law_bad_order ?h1__law_spoiled_numbers ?h2__law_spoiled_numbers ?h3__law_spoiled_numbers ?h4__law_spoiled_numbers ?h1__law_error ?h2__law_error ?h3__law_error ?h4__law_error ?h1__law_classes_right ?h2__law_classes_right ?h3__law_classes_right ?h4__law_classes_right ?h1_law ?h2_law ?h3_law ?h4_law ?h1_COLOURS ?h2_COLOURS ?e1_DrillError ?zc_get ?zc_set ?e1_BadRow ?e2_BadRow ?e3_BadRow ?e4_BadRow ?e5_BadRow ?e6_BadRow ?e7_BadRow ?e8_BadRow ?e9_BadRow ?e10_BadRow ?e11_BadRow ?e12_BadRow ?g1_BadRow ?g2_BadRow ?g3_BadRow ?g5_BadRow ?g6_BadRow ?e1_BadCall ?e2_BadCall ?e3_BadCall ?e4_BadCall ?e5_BadCall ?e6_BadCall ?e7_BadCall ?e8_BadCall ?e9_BadCall ?e10_BadCall ?e11_BadCall ?e12_BadCall ?g1_BadCall ?g2_BadCall ?g3_BadCall ?g5_BadCall ?g6_BadCall ?e1_BadCounts ?e2_BadCounts ?e3_BadCounts ?e4_BadCounts ?e5_BadCounts ?e6_BadCounts ?e7_BadCounts ?e8_BadCounts ?e9_BadCounts ?e10_BadCounts ?e11_BadCounts ?e12_BadCounts ?g1_BadCounts ?g2_BadCounts ?g3_BadCounts ?g5_BadCounts ?g6_BadCounts ?e1_BadColour ?e2_BadColour ?e3_BadColour ?e4_BadColour ?e5_BadColour ?e6_BadColour ?e7_BadColour ?e8_BadColour ?e9_BadColour ?e10_BadColour ?e11_BadColour ?e12_BadColour ?g1_BadColour ?g2_BadColour ?g3_BadColour ?g5_BadColour ?g6_BadColour ?e1_BadTimes ?e2_BadTimes ?e3_BadTimes ?e4_BadTimes ?e5_BadTimes ?e6_BadTimes ?e7_BadTimes ?e8_BadTimes ?e9_BadTimes ?e10_BadTimes ?e11_BadTimes ?e12_BadTimes ?g1_BadTimes ?g2_BadTimes ?g3_BadTimes ?g5_BadTimes ?g6_BadTimes ?e1_BadText ?e2_BadText ?e3_BadText ?e4_BadText ?e5_BadText ?e6_BadText ?e7_BadText ?e8_BadText ?e9_BadText ?e10_BadText ?e11_BadText ?e12_BadText ?g1_BadText ?g2_BadText ?g3_BadText ?g5_BadText ?g6_BadText ?e1_BadIndex ?e2_BadIndex ?e3_BadIndex ?e4_BadIndex ?e5_BadIndex ?e6_BadIndex ?e7_BadIndex ?e8_BadIndex ?e9_BadIndex ?e10_BadIndex ?e11_BadIndex ?e12_BadIndex ?g1_BadIndex ?g2_BadIndex ?g3_BadIndex ?g5_BadIndex ?g6_BadIndex ?e1_BadGoal ?e2_BadGoal ?e3_BadGoal ?e4_BadGoal ?e5_BadGoal ?e6_BadGoal ?e7_BadGoal ?e8_BadGoal ?e9_BadGoal ?e10_BadGoal ?e11_BadGoal ?e12_BadGoal ?g1_BadGoal ?g2_BadGoal ?g3_BadGoal ?g5_BadGoal ?g6_BadGoal ?s_BadRow_BadRow ?s_BadCall_BadCall ?s_BadCounts_BadCounts ?s_BadColour_BadColour ?s_BadTimes_BadTimes ?s_BadText_BadText ?s_BadIndex_BadIndex ?s_BadGoal_BadGoal ?s_BadRow_BadCall ?s_BadRow_BadCounts ?s_BadRow_BadColour ?s_BadRow_BadTimes ?s_BadRow_BadText ?s_BadRow_BadIndex ?s_BadRow_BadGoal ?s_BadCall_BadRow ?s_BadCall_BadCounts ?s_BadCall_BadColour ?s_BadCall_BadTimes ?s_BadCall_BadText ?s_BadCall_BadIndex ?s_BadCall_BadGoal ?s_BadCounts_BadRow ?s_BadCounts_BadCall ?s_BadCounts_BadColour ?s_BadCounts_BadTimes ?s_BadCounts_BadText ?s_BadCounts_BadIndex ?s_BadCounts_BadGoal ?s_BadColour_BadRow ?s_BadColour_BadCall ?s_BadColour_BadCounts ?s_BadColour_BadTimes ?s_BadColour_BadText ?s_BadColour_BadIndex ?s_BadColour_BadGoal ?s_BadTimes_BadRow ?s_BadTimes_BadCall ?s_BadTimes_BadCounts ?s_BadTimes_BadColour ?s_BadTimes_BadText ?s_BadTimes_BadIndex ?s_BadTimes_BadGoal ?s_BadText_BadRow ?s_BadText_BadCall ?s_BadText_BadCounts ?s_BadText_BadColour ?s_BadText_BadTimes ?s_BadText_BadIndex ?s_BadText_BadGoal ?s_BadIndex_BadRow ?s_BadIndex_BadCall ?s_BadIndex_BadCounts ?s_BadIndex_BadColour ?s_BadIndex_BadTimes ?s_BadIndex_BadText ?s_BadIndex_BadGoal ?s_BadGoal_BadRow ?s_BadGoal_BadCall ?s_BadGoal_BadCounts ?s_BadGoal_BadColour ?s_BadGoal_BadTimes ?s_BadGoal_BadText ?s_BadGoal_BadIndex ?v_BadRow ?v_BadCall ?v_BadCounts ?v_BadColour ?v_BadTimes ?v_BadText ?v_BadIndex ?v_BadGoal ?v_DrillError ?e4_DrillError ?e5_DrillError ?s_BadRow_DrillError ?s_BadCall_DrillError ?s_BadCounts_DrillError ?s_BadColour_DrillError ?s_BadTimes_DrillError ?s_BadText_DrillError ?s_BadIndex_DrillError ?s_BadGoal_DrillError ?x_DrillError ?kp_DrillError ?e9_DrillError ?g1_DrillError ?g2_DrillError ?g3_DrillError ?g5_DrillError ?g6_DrillError ?s_DrillError_DrillError ?z_isinstance ?z_str ?z_enumerate ?z_len ?z_list ?z_abs ?z_range ?z_int ?z_ValueError ?z_min
    (case h1_is_colour => k_is)
    (case h2_is_colour => k_is)
    (case h3_is_colour => k_is)
    (case h4_is_colour => k_is)
    (case h1_is_kind => k_is)
    (case h2_is_kind => k_is)
    (case h3_is_kind => k_is)
    (case h4_is_kind => k_is)
    (case h1_is_call => k_is)
    (case h2_is_call => k_is)
    (case h3_is_call => k_is)
    (case h4_is_call => k_is)
    (case h1_check_row => k_is)
    (case h2_check_row => k_is)
    (case h3_check_row => k_is)
    (case h4_check_row => k_is)
    (case h1_check_drill => k_is)
    (case h2_check_drill => k_is)
    (case h3_check_drill => k_is)
    (case h4_check_drill => k_is)
    (case h1_check_counts => k_is)
    (case h2_check_counts => k_is)
    (case h3_check_counts => k_is)
    (case h4_check_counts => k_is)
    (case h1_check_colour => k_is)
    (case h2_check_colour => k_is)
    (case h3_check_colour => k_is)
    (case h4_check_colour => k_is)
    (case h1_count_of => k_is)
    (case h2_count_of => k_is)
    (case h3_count_of => k_is)
    (case h4_count_of => k_is)
    (case h1_count_movers => k_is)
    (case h2_count_movers => k_is)
    (case h3_count_movers => k_is)
    (case h4_count_movers => k_is)
    (case h1_move_counts => k_is)
    (case h2_move_counts => k_is)
    (case h3_move_counts => k_is)
    (case h4_move_counts => k_is)
    (case h1_colour_after_call => k_is)
    (case h2_colour_after_call => k_is)
    (case h3_colour_after_call => k_is)
    (case h4_colour_after_call => k_is)
    (case h1_count_colours => k_is)
    (case h2_count_colours => k_is)
    (case h3_count_colours => k_is)
    (case h4_count_colours => k_is)
    (case h1_run_on_counts => k_is)
    (case h2_run_on_counts => k_is)
    (case h3_run_on_counts => k_is)
    (case h4_run_on_counts => k_is)
    (case h1_colour_after => k_is)
    (case h2_colour_after => k_is)
    (case h3_colour_after => k_is)
    (case h4_colour_after => k_is)
    (case h1__law_rng => k_is)
    (case h2__law_rng => k_is)
    (case h3__law_rng => k_is)
    (case h4__law_rng => k_is)
    (case h1__law_draw => k_is)
    (case h2__law_draw => k_is)
    (case h3__law_draw => k_is)
    (case h4__law_draw => k_is)
    (case h1__law_letters => k_is)
    (case h2__law_letters => k_is)
    (case h3__law_letters => k_is)
    (case h4__law_letters => k_is)
    (case h1__law_line => k_is)
    (case h2__law_line => k_is)
    (case h3__law_line => k_is)
    (case h4__law_line => k_is)
    (case h1__law_order => k_is)
    (case h2__law_order => k_is)
    (case h3__law_order => k_is)
    (case h4__law_order => k_is)
    (case h1__law_orders => k_is)
    (case h2__law_orders => k_is)
    (case h3__law_orders => k_is)
    (case h4__law_orders => k_is)
    (case h1__law_tally => k_is)
    (case h2__law_tally => k_is)
    (case h3__law_tally => k_is)
    (case h4__law_tally => k_is)
    (case h1__law_spoiled_orders => k_is)
    (case h2__law_spoiled_orders => k_is)
    (case h3__law_spoiled_orders => k_is)
    (case h4__law_spoiled_orders => k_is)
    (case h1__law_bad_order => k_is)
    (case h2__law_bad_order => k_is)
    (case h3__law_bad_order => k_is)
    (case h4__law_bad_order => k_is)
    (case h1__law_spoiled_numbers => k_is)
    (case h2__law_spoiled_numbers => k_is)
    (case h3__law_spoiled_numbers => k_is)
    (case h4__law_spoiled_numbers => k_is)
    (case h1__law_error => k_is)
    (case h2__law_error => k_is)
    (case h3__law_error => k_is)
    (case h4__law_error => k_is)
    (case h1__law_classes_right => k_is)
    (case h2__law_classes_right => k_is)
    (case h3__law_classes_right => k_is)
    (case h4__law_classes_right => k_is)
    (case h1_law => k_is)
    (case h2_law => k_is)
    (case h3_law => k_is)
    (case h4_law => k_is)
    (case h1_COLOURS => k_is)
    (case h2_COLOURS => k_is)
    (case e1_DrillError => k_is)
    (case zc_get => k_is)
    (case zc_set => k_is)
    (case e1_BadRow => k_is)
    (case e2_BadRow => k_is)
    (case e3_BadRow => k_is)
    (case e4_BadRow => k_is)
    (case e5_BadRow => k_is)
    (case e6_BadRow => k_is)
    (case e7_BadRow => k_is)
    (case e8_BadRow => k_is)
    (case e9_BadRow => k_is)
    (case e10_BadRow => k_is)
    (case e11_BadRow => k_is)
    (case e12_BadRow => k_is)
    (case g1_BadRow => k_is)
    (case g2_BadRow => k_is)
    (case g3_BadRow => k_is)
    (case g5_BadRow => k_is)
    (case g6_BadRow => k_is)
    (case e1_BadCall => k_is)
    (case e2_BadCall => k_is)
    (case e3_BadCall => k_is)
    (case e4_BadCall => k_is)
    (case e5_BadCall => k_is)
    (case e6_BadCall => k_is)
    (case e7_BadCall => k_is)
    (case e8_BadCall => k_is)
    (case e9_BadCall => k_is)
    (case e10_BadCall => k_is)
    (case e11_BadCall => k_is)
    (case e12_BadCall => k_is)
    (case g1_BadCall => k_is)
    (case g2_BadCall => k_is)
    (case g3_BadCall => k_is)
    (case g5_BadCall => k_is)
    (case g6_BadCall => k_is)
    (case e1_BadCounts => k_is)
    (case e2_BadCounts => k_is)
    (case e3_BadCounts => k_is)
    (case e4_BadCounts => k_is)
    (case e5_BadCounts => k_is)
    (case e6_BadCounts => k_is)
    (case e7_BadCounts => k_is)
    (case e8_BadCounts => k_is)
    (case e9_BadCounts => k_is)
    (case e10_BadCounts => k_is)
    (case e11_BadCounts => k_is)
    (case e12_BadCounts => k_is)
    (case g1_BadCounts => k_is)
    (case g2_BadCounts => k_is)
    (case g3_BadCounts => k_is)
    (case g5_BadCounts => k_is)
    (case g6_BadCounts => k_is)
    (case e1_BadColour => k_is)
    (case e2_BadColour => k_is)
    (case e3_BadColour => k_is)
    (case e4_BadColour => k_is)
    (case e5_BadColour => k_is)
    (case e6_BadColour => k_is)
    (case e7_BadColour => k_is)
    (case e8_BadColour => k_is)
    (case e9_BadColour => k_is)
    (case e10_BadColour => k_is)
    (case e11_BadColour => k_is)
    (case e12_BadColour => k_is)
    (case g1_BadColour => k_is)
    (case g2_BadColour => k_is)
    (case g3_BadColour => k_is)
    (case g5_BadColour => k_is)
    (case g6_BadColour => k_is)
    (case e1_BadTimes => k_is)
    (case e2_BadTimes => k_is)
    (case e3_BadTimes => k_is)
    (case e4_BadTimes => k_is)
    (case e5_BadTimes => k_is)
    (case e6_BadTimes => k_is)
    (case e7_BadTimes => k_is)
    (case e8_BadTimes => k_is)
    (case e9_BadTimes => k_is)
    (case e10_BadTimes => k_is)
    (case e11_BadTimes => k_is)
    (case e12_BadTimes => k_is)
    (case g1_BadTimes => k_is)
    (case g2_BadTimes => k_is)
    (case g3_BadTimes => k_is)
    (case g5_BadTimes => k_is)
    (case g6_BadTimes => k_is)
    (case e1_BadText => k_is)
    (case e2_BadText => k_is)
    (case e3_BadText => k_is)
    (case e4_BadText => k_is)
    (case e5_BadText => k_is)
    (case e6_BadText => k_is)
    (case e7_BadText => k_is)
    (case e8_BadText => k_is)
    (case e9_BadText => k_is)
    (case e10_BadText => k_is)
    (case e11_BadText => k_is)
    (case e12_BadText => k_is)
    (case g1_BadText => k_is)
    (case g2_BadText => k_is)
    (case g3_BadText => k_is)
    (case g5_BadText => k_is)
    (case g6_BadText => k_is)
    (case e1_BadIndex => k_is)
    (case e2_BadIndex => k_is)
    (case e3_BadIndex => k_is)
    (case e4_BadIndex => k_is)
    (case e5_BadIndex => k_is)
    (case e6_BadIndex => k_is)
    (case e7_BadIndex => k_is)
    (case e8_BadIndex => k_is)
    (case e9_BadIndex => k_is)
    (case e10_BadIndex => k_is)
    (case e11_BadIndex => k_is)
    (case e12_BadIndex => k_is)
    (case g1_BadIndex => k_is)
    (case g2_BadIndex => k_is)
    (case g3_BadIndex => k_is)
    (case g5_BadIndex => k_is)
    (case g6_BadIndex => k_is)
    (case e1_BadGoal => k_is)
    (case e2_BadGoal => k_is)
    (case e3_BadGoal => k_is)
    (case e4_BadGoal => k_is)
    (case e5_BadGoal => k_is)
    (case e6_BadGoal => k_is)
    (case e7_BadGoal => k_is)
    (case e8_BadGoal => k_is)
    (case e9_BadGoal => k_is)
    (case e10_BadGoal => k_is)
    (case e11_BadGoal => k_is)
    (case e12_BadGoal => k_is)
    (case g1_BadGoal => k_is)
    (case g2_BadGoal => k_is)
    (case g3_BadGoal => k_is)
    (case g5_BadGoal => k_is)
    (case g6_BadGoal => k_is)
    (case s_BadRow_BadRow => k_is)
    (case s_BadCall_BadCall => k_is)
    (case s_BadCounts_BadCounts => k_is)
    (case s_BadColour_BadColour => k_is)
    (case s_BadTimes_BadTimes => k_is)
    (case s_BadText_BadText => k_is)
    (case s_BadIndex_BadIndex => k_is)
    (case s_BadGoal_BadGoal => k_is)
    (case s_BadRow_BadCall => k_is)
    (case s_BadRow_BadCounts => k_is)
    (case s_BadRow_BadColour => k_is)
    (case s_BadRow_BadTimes => k_is)
    (case s_BadRow_BadText => k_is)
    (case s_BadRow_BadIndex => k_is)
    (case s_BadRow_BadGoal => k_is)
    (case s_BadCall_BadRow => k_is)
    (case s_BadCall_BadCounts => k_is)
    (case s_BadCall_BadColour => k_is)
    (case s_BadCall_BadTimes => k_is)
    (case s_BadCall_BadText => k_is)
    (case s_BadCall_BadIndex => k_is)
    (case s_BadCall_BadGoal => k_is)
    (case s_BadCounts_BadRow => k_is)
    (case s_BadCounts_BadCall => k_is)
    (case s_BadCounts_BadColour => k_is)
    (case s_BadCounts_BadTimes => k_is)
    (case s_BadCounts_BadText => k_is)
    (case s_BadCounts_BadIndex => k_is)
    (case s_BadCounts_BadGoal => k_is)
    (case s_BadColour_BadRow => k_is)
    (case s_BadColour_BadCall => k_is)
    (case s_BadColour_BadCounts => k_is)
    (case s_BadColour_BadTimes => k_is)
    (case s_BadColour_BadText => k_is)
    (case s_BadColour_BadIndex => k_is)
    (case s_BadColour_BadGoal => k_is)
    (case s_BadTimes_BadRow => k_is)
    (case s_BadTimes_BadCall => k_is)
    (case s_BadTimes_BadCounts => k_is)
    (case s_BadTimes_BadColour => k_is)
    (case s_BadTimes_BadText => k_is)
    (case s_BadTimes_BadIndex => k_is)
    (case s_BadTimes_BadGoal => k_is)
    (case s_BadText_BadRow => k_is)
    (case s_BadText_BadCall => k_is)
    (case s_BadText_BadCounts => k_is)
    (case s_BadText_BadColour => k_is)
    (case s_BadText_BadTimes => k_is)
    (case s_BadText_BadIndex => k_is)
    (case s_BadText_BadGoal => k_is)
    (case s_BadIndex_BadRow => k_is)
    (case s_BadIndex_BadCall => k_is)
    (case s_BadIndex_BadCounts => k_is)
    (case s_BadIndex_BadColour => k_is)
    (case s_BadIndex_BadTimes => k_is)
    (case s_BadIndex_BadText => k_is)
    (case s_BadIndex_BadGoal => k_is)
    (case s_BadGoal_BadRow => k_is)
    (case s_BadGoal_BadCall => k_is)
    (case s_BadGoal_BadCounts => k_is)
    (case s_BadGoal_BadColour => k_is)
    (case s_BadGoal_BadTimes => k_is)
    (case s_BadGoal_BadText => k_is)
    (case s_BadGoal_BadIndex => k_is)
    (case v_BadRow => k_is)
    (case v_BadCall => k_is)
    (case v_BadCounts => k_is)
    (case v_BadColour => k_is)
    (case v_BadTimes => k_is)
    (case v_BadText => k_is)
    (case v_BadIndex => k_is)
    (case v_BadGoal => k_is)
    (case v_DrillError => k_is)
    (case e4_DrillError => k_is)
    (case e5_DrillError => k_is)
    (case s_BadRow_DrillError => k_is)
    (case s_BadCall_DrillError => k_is)
    (case s_BadCounts_DrillError => k_is)
    (case s_BadColour_DrillError => k_is)
    (case s_BadTimes_DrillError => k_is)
    (case s_BadText_DrillError => k_is)
    (case s_BadIndex_DrillError => k_is)
    (case s_BadGoal_DrillError => k_is)
    (case x_DrillError => k_exc)
    (case kp_DrillError => k_is)
    (case e9_DrillError => k_is)
    (case g1_DrillError => k_is)
    (case g2_DrillError => k_is)
    (case g3_DrillError => k_is)
    (case g5_DrillError => k_is)
    (case g6_DrillError => k_is)
    (case s_DrillError_DrillError => k_is)
    (case z_isinstance => k_is)
    (case z_str => k_is)
    (case z_enumerate => k_is)
    (case z_len => k_is)
    (case z_list => k_is)
    (case z_abs => k_is)
    (case z_range => k_is)
    (case z_int => k_is)
    (case z_ValueError => k_is)
    (case z_min => k_is)
