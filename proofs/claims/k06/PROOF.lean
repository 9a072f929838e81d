import PyProof.Rows.All
import Wide.All
import OpenK.AllK
import Wide.FinOn
import PyProof.ListStr
import PyProof.ReprRoads
import HandS.ForMost
import HandS.Walk
import HandS.Wide
import HandS.Strs
import HandS.StrMore
import HandS.IsInst
import HandS.Codes
import PyProof.StrLawsRepr
import PyProof.ReprText
import HandS.Replace
import HandS.ForExc
import HandS.ExcInit
import HandS.ExcField
import HandS.ExcIs
import KE.KExcIs
import HandS.ExcValue
import PyProof.Logic
import PyProof.StrLoop
import HandS.ReplaceList
import HandS.SortInts
import HandS.Conv
import HandS.More
import HandS.FStr
import HandS.RaiseMore
import HandS.Dict
import HandS.Small
import HandS.WordsDict
import HandS.Zip
import KE.GoesZip
import KE.GoesMore
import HandS.OwnEq
import OpenK.KOps
import HandS.Style
import PySem.Challenge.RW_drillrow_k06_whole_equivalent_drills
set_option Elab.async false
set_option linter.all false
set_option maxRecDepth 100000
set_option maxHeartbeats 4000000
/-! Rules that the hand layer lacks, for this program and its laws. -/
namespace Dr
open PySem L2
theorem map_get {α β : Type} {f : α → β} {l : List α} {i : Nat} {y : β} (h : (l.map f)[i]? = some y) : ∃ x, l[i]? = some x ∧ y = f x := by
  rw [List.getElem?_map] at h
  cases e : l[i]? with
  | none => rw [e] at h; cases h
  | some x => rw [e] at h; exact ⟨x, rfl, (Option.some.inj h).symm⟩
theorem lt_of_get {α : Type} {l : List α} {i : Nat} {x : α} (h : l[i]? = some x) : i < l.length := (List.getElem?_eq_some_iff.mp h).1
theorem get_of_lt {α : Type} {l : List α} {i : Nat} (h : i < l.length) : ∃ x, l[i]? = some x := ⟨l[i], by simp [h]⟩
theorem get_inj {α : Type} {l : List α} {i : Nat} {x y : α} (h : l[i]? = some x) (h' : l[i]? = some y) : x = y := Option.some.inj (h.symm.trans h')
theorem vals_of : ∀ {xs : List V} {us : List Value}, xs.length = us.length → (∀ (i : Nat) (x : V) (u : Value), xs[i]? = some x → us[i]? = some u → RelV x u) → Vals xs us
  | [], [], _, _ => .nil
  | [], _ :: _, h, _ => by simp at h
  | _ :: _, [], h, _ => by simp at h
  | x :: xs, u :: us, h, r => .cons (r 0 x u rfl rfl) (vals_of (by simpa using h) fun i y w h1 h2 => r (i + 1) y w (by simpa using h1) (by simpa using h2))
/-- a test that is known -/
theorem if_pos_dec {c A B : Prop} [Decidable c] (h : c) (a : A) : if decide c = true then A else B := by
  rw [decide_eq_true h, if_pos rfl]; exact a
theorem if_neg_dec {c A B : Prop} [Decidable c] (h : ¬ c) (b : B) : if decide c = true then A else B := by
  rw [decide_eq_false h, if_neg Bool.false_ne_true]; exact b
theorem if_two {c A B : Prop} [Decidable c] (a : c → A) (b : ¬ c → B) : if decide c = true then A else B := by
  by_cases h : c
  · exact if_pos_dec h (a h)
  · exact if_neg_dec h (b h)
theorem if_two_not {c A B : Prop} [Decidable c] (a : ¬ c → A) (b : c → B) : if (!decide c) = true then A else B := by
  by_cases h : c
  · rw [decide_eq_true h]; exact b h
  · rw [decide_eq_false h]; exact a h
section
variable {X : Cx}
/-- an item of a list by values, for a place that is no less than 0 -/
def rGetL (K : PySem.W.Frag) : V → V → Hp → VK → Prop := fun o i H Q =>
  ∃ (p : Addr) (xs : List V) (j : Nat) (v : V), o = .ref p ∧ i = .int (j : Int) ∧ SqL K H p xs ∧ xs[j]? = some v ∧ Q v H
theorem get_list : PGet X (rGetL X.K) := by
  intro pins s σ H o i ov iv Q I ro ri h
  obtain ⟨p, xs, j, v, rfl, rfl, hq, hx, q⟩ := h
  cases ro
  obtain ⟨t, rfl⟩ := ri
  obtain ⟨its, rv, pl, hz⟩ := I.list hq
  obtain ⟨u, hu, ru⟩ := rv.get hx
  have hj : j < xs.length := (List.getElem?_eq_some_iff.mp hx).1
  have hl := line63
  refine wpAny_getItem_list pl.isList (by omega) (by omega) (x := u) (by simpa using hu) ⟨v, H, I, ru, q⟩
/-- a power of two numbers: the answer below 2 ^ 2 ^ 27 -/
def CPowW (i j : Int) : Prop := 0 ≤ j ∧ ((i.natAbs.log2 : Int) + 1) * j ≤ 134217728
theorem op_powW : OpR X (binaryOp .Pow) (rI CPowW fun i j => .int (i ^ j.toNat)) := opI fun i j _ _ _ _ _ hc q => by
  have h0 : 0 ≤ j := hc.1
  have h1 : ((i.natAbs.log2 : Int) + 1) * j ≤ 134217728 := hc.2
  have hb : Builtin.Int.intBits i ≤ i.natAbs.log2 + 1 := by
    unfold Builtin.Int.intBits
    split <;> omega
  have h2 : ((Builtin.Int.intBits i : Nat) : Int) * j ≤ ((i.natAbs.log2 : Int) + 1) * j := Int.mul_le_mul_of_nonneg_right (by omega) h0
  exact PyProof.Rows.pow_int h0 (by omega) q
/-- list(text): a new list of its signs -/
theorem call_list_text (hc : X.calm = true) : CallR X (.type "list") (fun xs H Q => ∃ z : Str, xs = [.str z] ∧ z.cps.size ≤ sizeLine ∧
    ∀ l, H l = none → Q (.ref l) (upd H l (.lst (z.cps.toList.map fun c => V.str ⟨#[c]⟩)))) := by
  intro pins s σ H xs us Q I r h
  obtain ⟨z, rfl, hz, q⟩ := h
  obtain ⟨u, rfl, t, rfl⟩ := vals1 r
  refine call_list_str (I.ok.hd hc) z t (fun h' tk acc c k e it => ?_) hz
  have hv : Vals (z.cps.toList.map fun c => V.str ⟨#[c]⟩) acc.toList := by
    obtain ⟨hs, hp⟩ := it
    refine vals_of (by simp [hs]) fun i x u hx hu => ?_
    obtain ⟨c', w', h1, rfl⟩ := hp i u (by simpa using hu)
    obtain ⟨c2, h2, rfl⟩ := map_get hx
    have e2 : z.cps[i]? = some c2 := by simpa using h2
    rw [h1] at e2
    cases e2
    exact ⟨_, rfl⟩
  exact ⟨.ref s.heap.objs.size, _, I.laid (t' := tk) k (Nat.le_refl _) (show ObjOk X.prog X.w _ h' _ (.lst _) from ⟨by simpa using hz, acc.toList, c, hv, by simpa using e⟩), rfl, q _ (I.hok.fresh (Nat.le_refl _))⟩

/-! ### enumerate(text) -/
/-- signs of a text by turns, each in a new pair with its place -/
def ItEs (z : Str) : It := ⟨fun i _ => i < z.cps.size,
  fun i H v H' => ∃ (T : Addr) (c : Nat), v = .ref T ∧ H T = none ∧ H' = upd H T (.tup [.int (i : Nat), .str ⟨#[c]⟩]) ∧ z.cps[i]? = some c, fun i _ => i = z.cps.size⟩
def iEnumS (ta : TA) : TI := fun σ H R => ta σ H fun vs H1 => ∃ z : Str, vs = [.str z] ∧ R (ItEs z) H1
/-- how the iterator of a text lies: one of two kinds -/
def SIt (z : Str) (t : Tok) (it : Addr) (i : Nat) (h : Heap) : Prop := h.IsStrIter it (strIterType z) z t i
theorem draws_text {P : Program} {w : World} {A : Around} (hh : A.handled = none) (it : Addr) (z : Str) (t : Tok) :
    Draws P w A it [it] z.cps.size (fun i v => ∃ c u, z.cps[i]? = some c ∧ v = .str ⟨#[c]⟩ u) (SIt z t it) := by
  unfold SIt strIterType
  cases h : z.cps.all (· < 128)
  · exact Draws.strWide hh it z t
  · exact Draws.strAscii hh it z t
theorem turn_enumS {P : Program} {w : World} {K : PySem.W.Frag} {elts : List Expr} {kk : Nat} {tpos : Pos} (z : Str) (t : Tok) (e it : Addr) (hne : e ≠ it) :
    Turn P w K (.Tuple elts kk tpos) (ItEs z) [e, it] e (fun i h => (∃ old, IsEnum h e it ((i : Nat) : Int) old) ∧ SIt z t it i h) where
  mem := by simp
  obj := fun i h st b hb => by
    obtain ⟨⟨old, he⟩, hs⟩ := st
    have hb2 : b = e ∨ b = it := by simpa using hb
    rcases hb2 with q | q
    · subst q; exact ⟨_, he, fun v q => nomatch q⟩
    · subst q
      obtain ⟨o, ho, hc, hd⟩ := hs
      exact ⟨o, ho, fun v q => by rw [hd] at q; cases q⟩
  keep := fun i h h' st k => by
    obtain ⟨⟨old, he⟩, ⟨o, ho, r⟩⟩ := st
    exact ⟨⟨old, k e (by simp) _ he⟩, ⟨o, k it (by simp) _ ho, r⟩⟩
  item := by
    intro X hP hw hK hc i pins s σ H E I hf st hg
    subst hP hw hK
    obtain ⟨⟨old, he⟩, hit⟩ := st
    have D : Draws X.prog X.w X.A.in1 it [it] z.cps.size _ (SIt z t it) := draws_text (by rw [Around.in1_handled]; exact I.ok.hd hc) it z t
    have hel : e < s.heap.objs.size := Heap.lt_size he
    have hil : it < s.heap.objs.size := by obtain ⟨_, q, _⟩ := hit; exact Heap.lt_size q
    refine wpAny_pyNext_enum_itemD D he hit hg hne (by simp [hne]) fun x h' tk hx ho hit' hT hsz hk => ?_
    obtain ⟨c, u, hcx, rfl⟩ := hx
    refine ⟨_, rfl, wpAny_letOwnedTupleGo_enum (s := { s with heap := h', toks := tk + 1 }) ho fun h2 he' sb => ?_⟩
    have hT2 : h2.get? s.heap.objs.size = some { cls := .type "tuple", data := .seq #[.int i tk, .str ⟨#[c]⟩ u] } := (sb.2 _ (Nat.ne_of_gt hel)).trans hT
    have new : ObjOk X.prog X.w (upd H s.heap.objs.size (.tup [.int (i : Nat), .str ⟨#[c]⟩])) h2 s.heap.objs.size (.tup [.int (i : Nat), .str ⟨#[c]⟩]) :=
      ⟨by show 2 ≤ sizeLine; decide, [.int i tk, .str ⟨#[c]⟩ u], .cons ⟨_, rfl⟩ (.cons ⟨_, rfl⟩ .nil), ⟨_, hT2, rfl, _, rfl⟩⟩
    have kept2 : ∀ b ob, b ∉ [e, it] → s.heap.get? b = some ob → h2.get? b = some ob := fun b ob hb q => by
      have n1 : b ≠ e := fun q => hb (by simp [q])
      have n2 : b ≠ it := fun q => hb (by simp [q])
      exact (sb.2 b n1).trans (hk b ob n1 n2 q)
    have I1 := I.turnedNew (t' := tk + 1) (ch := [e, it]) kept2 hf (Nat.le_refl _) new
    refine ⟨.ref s.heap.objs.size, _, I1, rfl, ⟨_, c, rfl, I.hok.fresh (Nat.le_refl _), rfl, hcx⟩, ⟨⟨.str ⟨#[c]⟩ u, ?_⟩, ?_⟩, fun b hb => ?_⟩
    · have e1 : ((i + 1 : Nat) : Int) = (i : Int) + 1 := by omega
      rw [e1]; exact he'
    · obtain ⟨o, hoo, r⟩ := hit'
      exact ⟨o, (sb.2 it (Ne.symm hne)).trans hoo, r⟩
    · have hb2 : b = e ∨ b = it := by simpa using hb
      have hlt : b < s.heap.objs.size := by
        rcases hb2 with q | q
        · rw [q]; exact hel
        · rw [q]; exact hil
      rw [upd_ne (Nat.ne_of_lt hlt)]
      exact (hf b hb).1
  done := by
    intro X hP hw hK hc i pins s σ H E I hf st hg
    subst hP hw hK
    obtain ⟨⟨old, he⟩, hit⟩ := st
    have hi : i = z.cps.size := hg
    subst hi
    obtain ⟨f0, f1, f2, f3, f4, f5⟩ := hf it (by simp)
    have D : Draws X.prog X.w X.A.in1 it [it] z.cps.size _ (SIt z t it) := draws_text (by rw [Around.in1_handled]; exact I.ok.hd hc) it z t
    exact wpAny_pyNext_enum_endD D he hit fun h' eb => ⟨rfl, I.turned (t' := s.toks) (fun b o hb q => eb b o hb q) f0 f1 f3 f4 f5⟩
  self := fun A i s Q E st h => let ⟨⟨_, he⟩, _⟩ := st; wpAny_pyIter_enum he h
open PySem.Spec PyProof.Rows in
theorem pi_enumS {e : Expr} {ta : TA} {p pos tpos : Pos} {elts : List Expr} {kk : Nat} (hg : Gl X "enumerate") (hm : X.mg "enumerate" = none) (ha : PA X [e] ta)
    (hs : starEach [e] X.env = [(false, eval e X.env)] := by rfl) : PI X (.Tuple elts kk tpos) (.Call (.Name "enumerate" p) [e] [] pos) (iEnumS ta) := by
  refine ⟨fun pins s σ H R I h => ?_⟩
  refine Call_ (ld_blt I hg hm boot_enumerate (PyProof.Rows.callWith_type1 (thn (ha.run pos pins s σ H _ I h) fun us s1 got => ?_) hs rfl))
  obtain ⟨vs, H1, I1, r1, z, ez, q⟩ := got
  subst ez
  obtain ⟨u, rfl, t, rfl⟩ := vals1 r1
  refine call_enumerate_str fun h' he hit hsz hk => wpAny_pyIter_enum he ?_
  have I2 : Inv X pins σ H1 { s1 with heap := h' } := I1.kept (t' := s1.toks) hk
  refine ⟨s1.heap.objs.size + 1, [s1.heap.objs.size + 1, s1.heap.objs.size], _, _, H1, rfl, I2, turn_enumS z t _ _ (Nat.succ_ne_self _), ⟨⟨.none, he⟩, hit⟩, fun b hb => ?_, q⟩
  have hb2 : b = s1.heap.objs.size + 1 ∨ b = s1.heap.objs.size := by simpa using hb
  have hle : s1.heap.objs.size ≤ b := by
    rcases hb2 with q | q
    · rw [q]; exact Nat.le_succ _
    · exact Nat.le_of_eq q.symm
  exact I1.fpOk hle (I1.hok.fresh hle)
end
theorem walk_enumS {z : Str} : Walk (ItEs z) z.cps.size (fun _ => True)
    (fun i H v H' => ∃ (T : Addr) (c : Nat), v = .ref T ∧ H T = none ∧ H' = upd H T (.tup [.int (i : Nat), .str ⟨#[c]⟩]) ∧ z.cps[i]? = some c) :=
  ⟨fun _ _ h _ => h, fun _ _ => rfl, fun _ _ _ _ _ _ y => y⟩
end Dr
/-! ### the rules whose readings name the written part, with it by name -/
namespace Dr
open PySem L2
section
variable {X : Cx} {K : PySem.W.Frag}
theorem PE.as {e : Expr} {t t' : TE} (h : PE X e t) (q : t = t') : PE X e t' := q ▸ h
theorem ix_listK (h : X.K = K) : IxR X (rIxL K) := h ▸ ix_list
theorem ix_tupK (h : X.K = K) : IxR X (rIxT K) := h ▸ ix_tup
theorem op_in_seqK (h : X.K = K) : OpR X (compareOp .In) (rIn K false) := h ▸ op_in_seq
theorem op_notIn_seqK (h : X.K = K) : OpR X (compareOp .NotIn) (rIn K true) := h ▸ op_notIn_seq
theorem sl_listK (h : X.K = K) : SlR X (rSlL K) := h ▸ sl_list
theorem sl_tupK (h : X.K = K) : SlR X (rSlT K) := h ▸ sl_tup
theorem call_len_seqK (h : X.K = K) : CallR X (.builtin "len") (fun xs H Q => ∃ p ys, xs = [.ref p] ∧ (SqL K H p ys ∨ SqT K H p ys) ∧ Q (.int ys.length) H) := h ▸ call_len_seq
theorem call_list_ofK (h : X.K = K) : CallR X (.type "list") (fun xs H Q => ∃ p ys, xs = [.ref p] ∧ (SqL K H p ys ∨ SqT K H p ys) ∧ ∀ l, H l = none → Q (.ref l) (upd H l (.lst ys))) := h ▸ call_list_of
theorem call_isiK' (h : X.K = K) : CallR X (.builtin "isinstance") (rIsi K) := h ▸ call_isi
theorem op_eqDK (h : X.K = K) (hu : X.A.units + 64 < cLine) : OpR X (compareOp .Eq) (rEqD K) := h ▸ op_eqD hu
theorem op_neDK (h : X.K = K) (hu : X.A.units + 64 < cLine) : OpR X (compareOp .NotEq) (rNeD K) := h ▸ op_neD hu
variable {T id : String} {name : Str} {r : V → List V → Hp → VK → Prop} {o e : Expr} {es : List Expr} {to te : TE} {t : TA} {apos pos : Pos}
theorem pe_bm0K (h : X.K = K) (pa : PlainAttrs T) (slot : Slot T name id) (hty : typeOf (.builtin id) = pure (.type "method_descriptor")) (hm : MtR X id r) (ho : PE X o to)
    (hbase : attributeBase o name X.env (eval o X.env) = eval o X.env := by rfl) (hline : (apos.endLine == pos.line) = true := by rfl) :
    PE X (.Call (.Attribute o name apos) [] [] pos) (tBM0 K T r to) := h ▸ pe_bm0 pa slot hty hm ho hbase hline
theorem pe_bmK (h : X.K = K) (pa : PlainAttrs T) (slot : Slot T name id) (hty : typeOf (.builtin id) = pure (.type "method_descriptor")) (hm : MtR X id r) (ho : PE X o to) (ha : PA X (e :: es) t)
    (q1 : attributeBase o name X.env (eval o X.env) = eval o X.env := by rfl) (q2 : ((backTo pos (starEach (e :: es) X.env)).all (fun x => !x.1) && (backToKw pos (keywordEach [] X.env)).all (fun x => x.1.isSome)
      && decide ((e :: es).length + ([] : List Keyword).length + (if ([] : List Keyword).isEmpty then 0 else 1) < 30)) = true := by rfl) (q3 : (apos.endLine == pos.line) = true := by rfl)
    (q4 : starEach (e :: es) X.env = (false, eval e X.env) :: starEach es X.env := by rfl) (q5 : (backTo pos (starEach es X.env)).any (·.1) = false := by rfl) :
    PE X (.Call (.Attribute o name apos) (e :: es) [] pos) (tBM K T r to t) := h ▸ pe_bm pa slot hty hm ho ha q1 q2 q3 q4 q5
end
end Dr

namespace Dr
open PySem L2
theorem two_pow_mono {a b : Nat} (h : a ≤ b) : (2 : Int) ^ a ≤ 2 ^ b := by
  have := Nat.pow_le_pow_right (n := 2) (by decide) h
  have e : ∀ k : Nat, (2 : Int) ^ k = ((2 ^ k : Nat) : Int) := fun k => by rw [Int.natCast_pow]; rfl
  rw [e, e]
  omega
theorem pow3_ok {i : Int} (h : i.natAbs < 2 ^ 200) : CPowW i 3 := by
  have x := PySem.Flt.log2_lt_of (by decide : 0 < 200) h
  refine ⟨by decide, ?_⟩
  omega
end Dr
/-! Data of the program: colours, calls, drills; promises of its defs (valid arguments). -/
namespace Dr
open PySem L2

theorem Same.sqT {K : PySem.W.Frag} {H H' : Hp} {a : Addr} {xs : List V} (e : Same H H') (h : SqT K H a xs) : SqT K H' a xs := by
  rcases h with (h | ⟨o, h⟩) | h
  · exact .inl (.inl (e _ _ h))
  · exact .inl (.inr ⟨o, e _ _ h⟩)
  · exact .inr h
theorem Same.new {H : Hp} {p : Addr} {o : HO} (h : H p = none) : Same H (upd H p o) := fun b u e => by
  rw [upd_ne (ne_of_none e h)]; exact e
/-- the heap without the one at r -/
def hid (r : Addr) (H : Hp) : Hp := fun b => if b = r then none else H b
theorem hid_ne {r b : Addr} {H : Hp} (h : b ≠ r) : hid r H b = H b := if_neg h
theorem hid_r {r : Addr} {H : Hp} : hid r H r = none := if_pos rfl
theorem hid_same {r : Addr} {H : Hp} : Same (hid r H) H := fun b o e => by
  by_cases hb : b = r
  · subst hb; rw [hid_r] at e; cases e
  · rw [hid_ne hb] at e; exact e
theorem hid_some {r b : Addr} {H : Hp} {o : HO} (e : hid r H b = some o) : b ≠ r := fun hb => by
  subst hb; rw [hid_r] at e; cases e
theorem hid_mono {r : Addr} {H H' : Hp} (s : Same H H') : Same (hid r H) (hid r H') := fun b o e => by
  rw [hid_ne (hid_some e)]
  exact s b o (hid_same b o e)
theorem hid_upd {r : Addr} {H : Hp} {o : HO} : Same (hid r H) (hid r (upd H r o)) := fun b u e => by
  rw [hid_ne (hid_some e), upd_ne (hid_some e)]
  exact hid_same b u e
theorem hid_new {r p : Addr} {H : Hp} {o : HO} (h : H p = none) : Same (hid r H) (hid r (upd H p o)) := hid_mono (Same.new h)
theorem Same.sqL {K : PySem.W.Frag} {H H' : Hp} {a : Addr} {xs : List V} (e : Same H H') (h : SqL K H a xs) : SqL K H' a xs := e.seq h

/-! ### colours -/
abbrev sg (c : Nat) : Str := ⟨#[c]⟩
def colN : List Nat := [97, 98, 99, 100, 101, 102]
def colS : List Str := ["a", "b", "c", "d", "e", "f"]
def colV : List V := colS.map V.str
theorem colS_sg : colS = colN.map sg := by decide +kernel
def isC (z : Str) : Bool := decide (z ∈ colS)
theorem isC_iff {z : Str} : isC z = true ↔ ∃ c, c ∈ colN ∧ z = sg c := by
  unfold isC
  rw [decide_eq_true_iff, colS_sg, List.mem_map]
  constructor
  · rintro ⟨c, h, e⟩; exact ⟨c, h, e.symm⟩
  · rintro ⟨c, h, e⟩; exact ⟨c, h, e.symm⟩
theorem eqV_str (x y : Str) : eqV (.str x) (.str y) = decide (x = y) := by
  unfold eqV
  first
    | rfl
    | (rw [Bool.eq_iff_iff]; simp)
theorem inV_str (z : Str) (l : List Str) : inV (.str z) (l.map V.str) = decide (z ∈ l) := by
  unfold inV
  rw [Bool.eq_iff_iff, decide_eq_true_iff, List.any_eq_true]
  constructor
  · rintro ⟨v, hv, e⟩
    obtain ⟨y, hy, rfl⟩ := List.mem_map.mp hv
    rw [eqV_str] at e
    have e' := of_decide_eq_true e
    rw [← e']; exact hy
  · intro h
    exact ⟨.str z, List.mem_map.mpr ⟨z, h, rfl⟩, by rw [eqV_str]; simp⟩
theorem flat_strs (l : List Str) : (l.map V.str).all flatV = true := by
  rw [List.all_eq_true]
  intro v hv
  obtain ⟨y, _, rfl⟩ := List.mem_map.mp hv
  rfl

/-! ### calls -/
inductive Kd where
  | m (n : Int) | s (z : Str)
def Kd.v : Kd → V
  | .m n => .int n
  | .s z => .str z
def Kd.ok : Kd → Bool
  | .m n => decide (1 ≤ n)
  | .s z => decide (z ∈ (["all", "swap"] : List Str))
theorem scal_k (k : Kd) (z : Str) : scal k.v (.str z) = true := by cases k <;> rfl
structure Cl where
  k : Kd
  a : Str
  b : Str
def Cl.vs (c : Cl) : List V := [c.k.v, .str c.a, .str c.b]
def Cl.ok (c : Cl) : Bool := c.k.ok && (isC c.a && (isC c.b && !decide (c.a = c.b)))
/-- how great its number is -/
def Kd.le (t : Int) (k : Kd) : Prop := ∀ n, k = .m n → n ≤ t
def Cl.le (t : Int) (c : Cl) : Prop := Kd.le t c.k
/-- a drill stands at a -/
def Drill (K : PySem.W.Frag) (H : Hp) (a : Addr) (D : List Cl) : Prop :=
  ∃ ts : List Addr, SqL K H a (ts.map V.ref) ∧ ts.length = D.length ∧ ∀ (i : Nat) (t : Addr) (c : Cl), ts[i]? = some t → D[i]? = some c → SqT K H t c.vs
theorem Drill.same {K : PySem.W.Frag} {H H' : Hp} {a : Addr} {D : List Cl} (e : Same H H') (h : Drill K H a D) : Drill K H' a D := by
  obtain ⟨ts, h1, h2, h3⟩ := h
  exact ⟨ts, e.seq h1, h2, fun i t c x y => Same.sqT e (h3 i t c x y)⟩

/-! ### the promises of the checks -/
def sp_is_colour (K : PySem.W.Frag) : Sp := fun vs H Q _ => ∃ z, vs = [.str z] ∧ Q (.bl (isC z)) H
def sp_is_kind (K : PySem.W.Frag) : Sp := fun vs H Q _ => ∃ k : Kd, vs = [k.v] ∧ ∀ H', Same H H' → Q (.bl k.ok) H'
def sp_is_call (K : PySem.W.Frag) : Sp := fun vs H Q _ => ∃ (t : Addr) (c : Cl), vs = [.ref t] ∧ SqT K H t c.vs ∧ ∀ H', Same H H' → Q (.bl c.ok) H'
def sp_check_drill (K : PySem.W.Frag) : Sp := fun vs H Q _ => ∃ (a : Addr) (D : List Cl), vs = [.ref a] ∧ Drill K H a D ∧ (∀ c ∈ D, c.ok = true) ∧ ∀ H', Same H H' → Q .non H'
def sp_check_row (K : PySem.W.Frag) : Sp := fun vs H Q _ => ∃ z : Str, vs = [.str z] ∧ (∀ c ∈ z.cps.toList, c ∈ colN) ∧ ∀ H', Same H H' → Q .non H'
def sp_check_counts (K : PySem.W.Frag) : Sp := fun vs H Q _ => ∃ (a : Addr) (ns : List Int), vs = [.ref a] ∧ SqL K H a (ns.map V.int) ∧ ns.length = 6 ∧ (∀ n ∈ ns, 0 ≤ n) ∧ ∀ H', Same H H' → Q .non H'

/-! ### counts -/
def ci (z : Str) : Nat := colS.idxOf z
theorem ci_lt {z : Str} (h : isC z = true) : ci z < 6 := by
  have h' : z ∈ colS := of_decide_eq_true h
  exact List.idxOf_lt_length_of_mem h'
theorem ci_get {z : Str} (h : isC z = true) : colS[ci z]? = some z := by
  have h' : z ∈ colS := of_decide_eq_true h
  rw [List.getElem?_eq_some_iff]
  exact ⟨ci_lt h, List.getElem_idxOf (ci_lt h)⟩
theorem ci_first {z : Str} : ∀ m, m < ci z → colS[m]? ≠ some z := fun m hm e => by
  have h1 := List.getElem?_eq_some_iff.mp e
  obtain ⟨hl, he⟩ := h1
  have h2 := List.not_of_lt_findIdx (p := fun y => y == z) (xs := colS) (i := m) (by simpa [ci, List.idxOf] using hm)
  simp [he] at h2
theorem ci_inj {y z : Str} (hy : isC y = true) (hz : isC z = true) (h : y ≠ z) : ci y ≠ ci z := fun e => by
  have h1 := ci_get hy
  rw [e, ci_get hz] at h1
  exact h (Option.some.inj h1).symm
def movers (k : Kd) (n : Int) : Int := match k with
  | .s _ => n
  | .m m => if m ≤ n then 1 else 0
def Kd.swap (k : Kd) : Bool := match k with
  | .s z => decide (z = "swap")
  | .m _ => false
def cn (ns : List Int) (z : Str) : Int := ns.getD (ci z) 0
theorem cn_get {ns : List Int} {z : Str} (h6 : ns.length = 6) (h : isC z = true) : ns[ci z]? = some (cn ns z) := by
  have := ci_lt h
  unfold cn
  rw [List.getD_eq_getElem?_getD]
  obtain ⟨x, hx⟩ := get_of_lt (l := ns) (i := ci z) (by omega)
  rw [hx]; rfl
def mv (c : Cl) (ns : List Int) : List Int :=
  let g := movers c.k (cn ns c.a)
  let b := if c.k.swap = true then cn ns c.b else 0
  let n1 := ns.set (ci c.a) (cn ns c.a + (b - g))
  n1.set (ci c.b) (cn n1 c.b + (g - b))
theorem mv_len (c : Cl) (ns : List Int) : (mv c ns).length = ns.length := by
  unfold mv; simp
def mvs (D : List Cl) (ns : List Int) : List Int := D.foldl (fun n c => mv c n) ns
theorem mvs_len (D : List Cl) : ∀ ns, (mvs D ns).length = ns.length := by
  unfold mvs
  induction D with
  | nil => intro ns; rfl
  | cons c D ih => intro ns; rw [List.foldl_cons, ih, mv_len]
theorem take_one {α : Type} {l : List α} {i : Nat} {x : α} (h : l[i]? = some x) : l.take (i + 1) = l.take i ++ [x] := by
  rw [List.take_add_one, h]; rfl
theorem mvs_more {D : List Cl} {i : Nat} {c : Cl} {ns : List Int} (h : D[i]? = some c) : mvs (D.take (i + 1)) ns = mv c (mvs (D.take i) ns) := by
  rw [take_one h]
  unfold mvs
  rw [List.foldl_append]; rfl
theorem Cl.ok_a {c : Cl} (h : c.ok = true) : isC c.a = true := by
  unfold Cl.ok at h; simp only [Bool.and_eq_true] at h; exact h.2.1
theorem Cl.ok_b {c : Cl} (h : c.ok = true) : isC c.b = true := by
  unfold Cl.ok at h; simp only [Bool.and_eq_true] at h; exact h.2.2.1
theorem Cl.ok_k {c : Cl} (h : c.ok = true) : c.k.ok = true := by
  unfold Cl.ok at h; simp only [Bool.and_eq_true] at h; exact h.1
theorem Cl.ok_ne {c : Cl} (h : c.ok = true) : c.a ≠ c.b := by
  unfold Cl.ok at h; simp only [Bool.and_eq_true] at h
  have := h.2.2.2
  simpa using this
theorem Kd.ok_s {z : Str} (h : (Kd.s z).ok = true) : z = "all" ∨ z = "swap" := by
  have h' : z ∈ (["all", "swap"] : List Str) := of_decide_eq_true h
  simpa using h'
/-- a new list of ints -/
def NewInts (H : Hp) (ns : List Int) (Q : VK) : Prop := ∀ H' p, Same H H' → H p = none → H' p = some (.lst (ns.map V.int)) → Q (.ref p) H'
def sp_count_of (K : PySem.W.Frag) : Sp := fun vs H Q _ => ∃ (a : Addr) (ns : List Int) (z : Str), vs = [.ref a, .str z] ∧ SqL K H a (ns.map V.int) ∧ ns.length = 6 ∧ isC z = true ∧ Q (.int (cn ns z)) H
def sp_count_movers (K : PySem.W.Frag) : Sp := fun vs H Q _ => ∃ (k : Kd) (n : Int), vs = [k.v, .int n] ∧ k.ok = true ∧ Q (.int (movers k n)) H
def sp_move_counts (K : PySem.W.Frag) : Sp := fun vs H Q _ => ∃ (t : Addr) (c : Cl) (a : Addr) (ns : List Int), vs = [.ref t, .ref a] ∧ SqT K H t c.vs ∧ c.ok = true ∧
  SqL K H a (ns.map V.int) ∧ ns.length = 6 ∧ NewInts H (mv c ns) Q
def tally (l : List Nat) : List Int := colN.map fun c => (l.count c : Int)
def sp_count_colours (K : PySem.W.Frag) : Sp := fun vs H Q _ => ∃ z : Str, vs = [.str z] ∧ (∀ c ∈ z.cps.toList, c ∈ colN) ∧ NewInts H (tally z.cps.toList) Q
def sp_run_on_counts (K : PySem.W.Frag) : Sp := fun vs H Q _ => ∃ (d a : Addr) (D : List Cl) (ns : List Int), vs = [.ref d, .ref a] ∧ Drill K H d D ∧ (∀ c ∈ D, c.ok = true) ∧
  SqL K H a (ns.map V.int) ∧ ns.length = 6 ∧ (∀ n ∈ ns, 0 ≤ n) ∧ NewInts H (mvs D ns) Q
theorem map_int_set (ns : List Int) (i : Nat) (n : Int) : (ns.map V.int).set i (.int n) = (ns.set i n).map V.int := by
  rw [List.map_set]
theorem ixN_nat {n i : Nat} (h : i < n) : ixN n (i : Int) = some i := by
  unfold ixN
  rw [if_pos (by omega), if_pos (by omega)]
  simp
theorem cnt_count (c : Nat) : ∀ l : List Nat, PyProof.Rows.cnt c l = (l.count c : Int)
  | [] => rfl
  | n :: r => by
    rw [PyProof.Rows.cnt_cons, cnt_count c r, List.count_cons]
    by_cases e : n = c
    · subst e; simp; omega
    · simp [e]
theorem txt_count (z : Str) (c : Nat) : Txt.count z (sg c) = (z.cps.toList.count c : Int) := by
  rw [PyProof.Rows.count_cnt, cnt_count]
end Dr
/-! ### the draws of the laws with _law_rng -/
namespace Dr
open PySem L2
/-- the state of the draws at r: at most c of them were mixed -/
def Rg (H : Hp) (r : Addr) (c : Nat) : Prop := ∃ d s n : Int, H r = some (.lst [.int d, .int s, .int n]) ∧ 0 ≤ d ∧ 0 ≤ s ∧ s < 2305843009213693951 ∧ 0 ≤ n ∧ n ≤ c
theorem Rg.mono {H : Hp} {r : Addr} {c c' : Nat} (h : Rg H r c) (l : c ≤ c') : Rg H r c' := by
  obtain ⟨d, s, n, h1, h2, h3, h4, h5, h6⟩ := h
  exact ⟨d, s, n, h1, h2, h3, h4, h5, by omega⟩
/-- a def that draws: from H, at most k draws more; what it leaves beside the state of the draws is told by P -/
def Drawn (r : Addr) (H : Hp) (c : Nat) (P : Hp → Prop) : Prop := ∀ H', Same (hid r H) (hid r H') → Rg H' r c → P H'
theorem Rg.new {H : Hp} {r p : Addr} {c : Nat} {o : HO} (h : Rg H r c) (hp : H p = none) : Rg (upd H p o) r c := by
  obtain ⟨d, s, n, h1, h2⟩ := h
  exact ⟨d, s, n, by rw [upd_ne (ne_of_none h1 hp)]; exact h1, h2⟩
theorem Rg.ne {H : Hp} {r p : Addr} {c : Nat} (h : Rg H r c) (hp : H p = none) : p ≠ r := by
  obtain ⟨d, s, n, h1, h2⟩ := h
  exact (ne_of_none h1 hp).symm
theorem Rg.upd {H : Hp} {r p : Addr} {c : Nat} {o : HO} (h : Rg H r c) (hp : p ≠ r) : Rg (L2.upd H p o) r c := by
  obtain ⟨d, s, n, h1, h2⟩ := h
  exact ⟨d, s, n, by rw [upd_ne hp.symm]; exact h1, h2⟩
def sp_law_draw (K : PySem.W.Frag) : Sp := fun vs H Q _ => ∃ (r : Addr) (lim : Int) (c : Nat), vs = [.ref r, .int lim] ∧ Rg H r c ∧ c < 1000000000 ∧ 0 < lim ∧ lim < 2 ^ 200 ∧
  ∀ H' n, Same (hid r H) (hid r H') → Rg H' r (c + 1) → 0 ≤ n → n < lim → Q (.int n) H'
def sp_law_rng (K : PySem.W.Frag) : Sp := fun vs H Q _ => ∃ (a : Addr) (ns : List Int), vs = [.ref a] ∧ SqL K H a (ns.map V.int) ∧ ns.length ≤ 1000000 ∧ ∀ H' r, Same H H' → H r = none → Rg H' r 0 → Q (.ref r) H'
theorem cut_ints (ns : List Int) (lo hi : Option Int) : ∃ ms : List Int, cutV (ns.map V.int) lo hi = ms.map V.int ∧ ms.length ≤ ns.length := by
  refine ⟨(ns.drop (HT.sIx ns.length 0 lo)).take (HT.sIx ns.length ns.length hi - HT.sIx ns.length 0 lo), ?_, ?_⟩
  · unfold cutV
    rw [List.length_map, List.map_take, List.map_drop]
  · simp; omega
theorem cut_63 (ns : List Int) : (cutV (ns.map V.int) none (some 63)).length ≤ 63 := by
  unfold cutV
  rw [HT.sIx_none]
  have h : HT.sIx (ns.map V.int).length (ns.map V.int).length (some 63) = min 63 (ns.map V.int).length := HT.sIx_nat _ _ 63
  rw [h]
  simp
  omega
end Dr
namespace Dr
open PySem L2
theorem ext_get {r p : Addr} {H H' : Hp} {o : HO} (S : Same (hid r H) (hid r H')) (hp : p ≠ r) (h : H p = some o) : H' p = some o := by
  have e := S p o (by rw [hid_ne hp]; exact h)
  rw [hid_ne hp] at e
  exact e
theorem ext_free {r p : Addr} {H H' : Hp} (S : Same (hid r H) (hid r H')) (hp : p ≠ r) (h : H' p = none) : H p = none := by
  have e := S.free (l := p) (by rw [hid_ne hp]; exact h)
  rw [hid_ne hp] at e
  exact e
theorem hid_get {r p : Addr} {H : Hp} {o : HO} (hp : p ≠ r) (h : H p = some o) : hid r H p = some o := by rw [hid_ne hp]; exact h
theorem ext_upd {r p : Addr} {H H' : Hp} {o : HO} (S : Same (hid r H) (hid r H')) (hp : p ≠ r) (h : H p = none) : Same (hid r H) (hid r (upd H' p o)) := fun b u e => by
  have hb := hid_some e
  have e' := hid_same b u e
  have nb : b ≠ p := fun z => by subst z; rw [h] at e'; cases e'
  rw [hid_ne hb, upd_ne nb]
  exact ext_get S hb e'
theorem pick {α : Type} {xs : List α} {n : Int} (h0 : 0 ≤ n) (h1 : n < xs.length) : ∃ (j : Nat) (x : α), n = (j : Int) ∧ j < xs.length ∧ xs[j]? = some x ∧ atI xs n = some x ∧ x ∈ xs := by
  obtain ⟨j, rfl⟩ : ∃ j : Nat, n = (j : Int) := ⟨n.toNat, by omega⟩
  have hj : j < xs.length := by omega
  obtain ⟨x, hx⟩ := get_of_lt hj
  exact ⟨j, x, rfl, hj, hx, atI_nat hx, List.mem_of_getElem? hx⟩
theorem pick_ints {ns : List Int} {n : Int} (h0 : 0 ≤ n) (h1 : n < ns.length) : ∃ m, m ∈ ns ∧ atI (ns.map V.int) n = some (.int m) := by
  obtain ⟨j, x, rfl, hj, hx, _, hm⟩ := pick (xs := ns) h0 h1
  exact ⟨x, hm, at_of rfl (by rw [List.getElem?_map, hx]; rfl)⟩
theorem pick_strs {ls : List Str} {n : Int} (h0 : 0 ≤ n) (h1 : n < ls.length) : ∃ z, z ∈ ls ∧ atI (ls.map V.str) n = some (.str z) := by
  obtain ⟨j, x, rfl, hj, hx, _, hm⟩ := pick (xs := ls) h0 h1
  exact ⟨x, hm, at_of rfl (by rw [List.getElem?_map, hx]; rfl)⟩
theorem abc_signs : (("abcdef" : Str).cps.toList.map fun c => V.str ⟨#[c]⟩) = colV := by decide +kernel
theorem abc_list : ("abcdef" : Str).cps.toList = colN := by decide +kernel
/-- some colours that differ, in any order -/
structure Lett (ls : List Str) : Prop where
  pos : 1 ≤ ls.length
  six : ls.length ≤ 6
  nd : ls.Nodup
  col : ∀ z ∈ ls, isC z = true
theorem colS_nd : colS.Nodup := by decide +kernel
theorem col_isC {z : Str} (h : z ∈ colS) : isC z = true := decide_eq_true h
theorem Lett.of {got rest : List Str} (h : (got ++ rest).Perm colS) (h1 : 1 ≤ got.length) (h6 : got.length ≤ 6) : Lett got where
  pos := h1
  six := h6
  nd := by
    have := (List.Perm.nodup_iff h).mpr colS_nd
    exact (List.nodup_append.mp this).1
  col := fun z hz => col_isC (h.mem_iff.mp (List.mem_append_left _ hz))
theorem erase_perm {α : Type} : ∀ {l : List α} {k : Nat} {x : α}, l[k]? = some x → (x :: l.eraseIdx k).Perm l
  | [], _, _, h => by simp at h
  | a :: l, 0, x, h => by
    have e : a = x := Option.some.inj h
    subst e
    exact List.Perm.refl _
  | a :: l, k + 1, x, h => (List.Perm.swap a x _).trans (List.Perm.cons a (erase_perm (l := l) (k := k) (by simpa using h)))
theorem perm_pop {got rest : List Str} {k : Nat} {x : Str} (h : (got ++ rest).Perm colS) (hx : rest[k]? = some x) : ((got ++ [x]) ++ rest.eraseIdx k).Perm colS := by
  rw [List.append_assoc]
  exact (List.Perm.append_left got (erase_perm hx)).trans h
def sp_law_letters (K : PySem.W.Frag) : Sp := fun vs H Q _ => ∃ (r : Addr) (c : Nat), vs = [.ref r] ∧ Rg H r c ∧ c < 900000000 ∧
  ∀ H' p ls, Same (hid r H) (hid r H') → Rg H' r (c + 7) → H p = none → p ≠ r → H' p = some (.lst (ls.map V.str)) → Lett ls → Q (.ref p) H'
def sp_law_line (K : PySem.W.Frag) : Sp := fun vs H Q _ => ∃ (r l : Addr) (longest : Int) (ls : List Str) (c : Nat), vs = [.ref r, .ref l, .int longest] ∧ Rg H r c ∧ c < 900000000 ∧
  SqL K (hid r H) l (ls.map V.str) ∧ Lett ls ∧ 0 ≤ longest ∧ longest ≤ 1000 ∧
  ∀ H' z, Same (hid r H) (hid r H') → Rg H' r (c + 4000) → (∀ x ∈ z.cps.toList, x ∈ colN) → (z.cps.size : Int) ≤ longest → Q (.str z) H'
def sp_law_order (K : PySem.W.Frag) : Sp := fun vs H Q _ => ∃ (r l : Addr) (top : Int) (ls : List Str) (c : Nat), vs = [.ref r, .ref l, .int top] ∧ Rg H r c ∧ c < 950000000 ∧
  SqL K (hid r H) l (ls.map V.str) ∧ Lett ls ∧ 2 ≤ top ∧ top ≤ 1000 ∧
  ∀ (H' : Hp) (t : Addr) (cl : Cl), Same (hid r H) (hid r H') → Rg H' r (c + 6) → t ≠ r → H' t = some (.tup cl.vs) → cl.ok = true → Cl.le top cl → Q (.ref t) H'
def sp_law_orders (K : PySem.W.Frag) : Sp := fun vs H Q _ => ∃ (r l : Addr) (longest top : Int) (ls : List Str) (c : Nat), vs = [.ref r, .ref l, .int longest, .int top] ∧ Rg H r c ∧ c < 900000000 ∧
  SqL K (hid r H) l (ls.map V.str) ∧ Lett ls ∧ 0 ≤ longest ∧ longest ≤ 1000 ∧ 2 ≤ top ∧ top ≤ 1000 ∧
  ∀ (H' : Hp) (a : Addr) (D : List Cl), Same (hid r H) (hid r H') → Rg H' r (c + 7000) → Drill K (hid r H') a D → (∀ cl ∈ D, cl.ok = true) → (∀ cl ∈ D, Cl.le top cl) → (D.length : Int) ≤ longest → Q (.ref a) H'
def sp_law_tally (K : PySem.W.Frag) : Sp := fun vs H Q _ => ∃ z : Str, vs = [.str z] ∧ NewInts H (tally z.cps.toList) Q
end Dr
namespace Dr
open PySem L2
theorem erase_map {α β : Type} (f : α → β) : ∀ (l : List α) (j : Nat), (l.map f).eraseIdx j = (l.eraseIdx j).map f
  | [], _ => by simp
  | _ :: _, 0 => rfl
  | a :: l, j + 1 => by
    show f a :: (l.map f).eraseIdx j = f a :: (l.eraseIdx j).map f
    rw [erase_map f l j]
theorem str_last {z : Str} (h : ¬ z = "") : ∃ x, x ∈ z.cps.toList ∧ atI z.cps.toList (-1) = some x := by
  have hne : z.cps.toList ≠ [] := fun e => h (by
    cases z with | mk a => cases a; simp at e; subst e; rfl)
  refine ⟨z.cps.toList.getLast hne, List.getLast_mem hne, ?_⟩
  have e := List.dropLast_concat_getLast hne
  have q := atI_last z.cps.toList.dropLast (z.cps.toList.getLast hne)
  rw [e] at q
  exact q
theorem str_app (a b : Str) : (a ++ b).cps.toList = a.cps.toList ++ b.cps.toList := by
  show (a.cps ++ b.cps).toList = _
  simp
theorem str_size (a b : Str) : (a ++ b).cps.size = a.cps.size + b.cps.size := by
  show (a.cps ++ b.cps).size = _
  simp
end Dr
namespace Dr
open PySem L2
abbrev without (x : Str) (l : List Str) : List Str := l.filter fun y => !decide (V.str y = V.str x)
theorem without_len {x : Str} : ∀ {l : List Str}, l.Nodup → x ∈ l → (without x l).length + 1 = l.length
  | [], _, h => by simp at h
  | a :: l, nd, h => by
    obtain ⟨h1, h2⟩ := List.nodup_cons.mp nd
    unfold without
    by_cases e : a = x
    · subst e
      rw [List.filter_cons_of_neg (by simp)]
      have : l.filter (fun y => !decide (V.str y = V.str a)) = l := List.filter_eq_self.mpr fun y hy => by
        have : y ≠ a := fun q => h1 (q ▸ hy)
        simp [this]
      rw [this, List.length_cons]
    · rw [List.filter_cons_of_pos (by simp [e]), List.length_cons, List.length_cons]
      have hx : x ∈ l := by
        rcases List.mem_cons.mp h with q | q
        · exact absurd q.symm e
        · exact q
      rw [without_len h2 hx]
theorem without_mem {x y : Str} {l : List Str} (h : y ∈ without x l) : y ∈ l ∧ y ≠ x := by
  obtain ⟨h1, h2⟩ := List.mem_filter.mp h
  refine ⟨h1, fun e => ?_⟩
  subst e
  simp at h2
theorem filter_take {α : Type} (p : α → Bool) {l : List α} {i : Nat} {x : α} (h : l[i]? = some x) : (l.take (i + 1)).filter p = (l.take i).filter p ++ (if p x = true then [x] else []) := by
  rw [take_one h, List.filter_append]
  congr 1
  by_cases e : p x = true
  · rw [if_pos e, List.filter_cons_of_pos e]; rfl
  · rw [if_neg e, List.filter_cons_of_neg e]; rfl
theorem kind_menu {n t : Int} (hn : 1 ≤ n) (ht : n ≤ t) (h2 : 2 ≤ t) {v : V} (h : v ∈ [V.int 1, V.int 1, V.int 2, V.int n, V.str "all", V.str "swap"]) : ∃ k : Kd, k.v = v ∧ k.ok = true ∧ Kd.le t k := by
  simp only [List.mem_cons, List.not_mem_nil, or_false] at h
  rcases h with h | h | h | h | h | h
  · exact ⟨.m 1, h.symm, by decide, fun m e => by cases e; omega⟩
  · exact ⟨.m 1, h.symm, by decide, fun m e => by cases e; omega⟩
  · exact ⟨.m 2, h.symm, by decide, fun m e => by cases e; omega⟩
  · exact ⟨.m n, h.symm, decide_eq_true hn, fun m e => by cases e; exact ht⟩
  · exact ⟨.s "all", h.symm, by decide +kernel, fun m e => by cases e⟩
  · exact ⟨.s "swap", h.symm, by decide +kernel, fun m e => by cases e⟩
theorem Cl.le_mono {s t : Int} {c : Cl} (h : Cl.le s c) (e : s ≤ t) : Cl.le t c := fun n q => Int.le_trans (h n q) e
theorem abc_at {i c : Nat} (h : ("abcdef" : Str).cps[i]? = some c) : colS[i]? = some (sg c) := by
  have h' : colN[i]? = some c := by rw [← abc_list]; simpa using h
  rw [colS_sg, List.getElem?_map, h']
  rfl
theorem Cl.mk_ok {k : Kd} {a b : Str} (hk : k.ok = true) (ha : isC a = true) (hb : isC b = true) (h : a ≠ b) : (Cl.mk k a b).ok = true := by
  unfold Cl.ok
  rw [hk, ha, hb]
  simp [h]
end Dr
/-! Calls on rows, person by person, and their counts. -/
namespace Dr
open PySem L2
def cc (z : Str) : Nat := z.cps.toList.headD 0
theorem cc_sg (c : Nat) : cc (sg c) = c := rfl
theorem sg_cc {z : Str} (h : isC z = true) : sg (cc z) = z := by
  obtain ⟨c, _, rfl⟩ := isC_iff.mp h
  rfl
theorem cc_col {z : Str} (h : isC z = true) : cc z ∈ colN := by
  obtain ⟨c, hc, rfl⟩ := isC_iff.mp h
  exact hc
theorem sg_inj {a b : Nat} (h : sg a = sg b) : a = b := congrArg cc h
theorem cc_ne {a b : Str} (ha : isC a = true) (hb : isC b = true) (h : a ≠ b) : cc a ≠ cc b := fun e => h (by rw [← sg_cc ha, ← sg_cc hb, e])
/-- the places of the wearers of a -/
def posN (a : Nat) (l : List Nat) : List Nat := (List.range l.length).filter fun p => decide (l[p]? = some a)
def setAll (b : Nat) (l : List Nat) (ps : List Nat) : List Nat := ps.foldl (fun l p => l.set p b) l
/-- one call, as the laws reckon it: the places first -/
def run1 (c : Cl) (l : List Nat) : List Nat :=
  let ch := posN (cc c.a) l
  match c.k with
  | .m n => setAll (cc c.b) l ((ch.drop (n - 1).toNat).take 1)
  | .s z => if z = "swap" then setAll (cc c.b) (l.map fun y => if y = cc c.b then cc c.a else y) ch else setAll (cc c.b) l ch
def runs (D : List Cl) (l : List Nat) : List Nat := D.foldl (fun l c => run1 c l) l
theorem runs_more {D : List Cl} {i : Nat} {c : Cl} {l : List Nat} (h : D[i]? = some c) : runs (D.take (i + 1)) l = run1 c (runs (D.take i) l) := by
  rw [take_one h]
  unfold runs
  rw [List.foldl_append]; rfl
theorem setAll_len (b : Nat) : ∀ (ps l : List Nat), (setAll b l ps).length = l.length
  | [], _ => rfl
  | p :: ps, l => by
    show (setAll b (l.set p b) ps).length = _
    rw [setAll_len b ps, List.length_set]
theorem run1_len (c : Cl) (l : List Nat) : (run1 c l).length = l.length := by
  unfold run1
  split
  · exact setAll_len _ _ _
  · split
    · rw [setAll_len]; simp
    · exact setAll_len _ _ _
theorem runs_len (D : List Cl) : ∀ l, (runs D l).length = l.length := by
  unfold runs
  induction D with
  | nil => intro l; rfl
  | cons c D ih => intro l; rw [List.foldl_cons, ih, run1_len]
theorem posN_iff {a : Nat} {l : List Nat} {p : Nat} : p ∈ posN a l ↔ l[p]? = some a := by
  unfold posN
  rw [List.mem_filter, List.mem_range]
  constructor
  · exact fun h => of_decide_eq_true h.2
  · exact fun h => ⟨lt_of_get h, decide_eq_true h⟩
theorem posN_nd (a : Nat) (l : List Nat) : (posN a l).Nodup := List.Pairwise.filter _ List.nodup_range
theorem count_set {a b x : Nat} : ∀ {l : List Nat} {p : Nat}, l[p]? = some a → ((l.set p b).count x : Int) = l.count x - (if a = x then 1 else 0) + (if b = x then 1 else 0)
  | [], _, h => by simp at h
  | y :: l, 0, h => by
    have e : y = a := Option.some.inj h
    subst e
    show (((b :: l).count x : Nat) : Int) = _
    rw [List.count_cons, List.count_cons]
    by_cases h1 : b = x <;> by_cases h2 : y = x <;> simp [h1, h2] <;> omega
  | y :: l, p + 1, h => by
    have ih := count_set (a := a) (b := b) (x := x) (l := l) (p := p) (by simpa using h)
    show (((y :: l.set p b).count x : Nat) : Int) = _
    rw [List.count_cons, List.count_cons]
    omega
theorem count_setAll {a b x : Nat} (hab : a ≠ b) : ∀ {ps l : List Nat}, ps.Nodup → (∀ p ∈ ps, l[p]? = some a) →
    ((setAll b l ps).count x : Int) = l.count x - (if a = x then (ps.length : Int) else 0) + (if b = x then (ps.length : Int) else 0)
  | [], l, _, _ => by
    show (l.count x : Int) = _
    simp
  | p :: ps, l, nd, h => by
    obtain ⟨h1, h2⟩ := List.nodup_cons.mp nd
    have h0 := h p List.mem_cons_self
    have ih := count_setAll (x := x) hab (ps := ps) (l := l.set p b) h2 fun q hq => by
      have nq : p ≠ q := fun e => h1 (e ▸ hq)
      rw [List.getElem?_set_ne nq]
      exact h q (List.mem_cons_of_mem _ hq)
    show ((setAll b (l.set p b) ps).count x : Int) = _
    rw [ih, count_set h0, List.length_cons]
    by_cases c1 : a = x <;> by_cases c2 : b = x <;> simp [c1, c2] <;> omega
theorem posN_len (a : Nat) : ∀ l : List Nat, (posN a l).length = l.count a := by
  intro l
  unfold posN
  rw [← List.countP_eq_length_filter]
  induction l with
  | nil => rfl
  | cons y l ih =>
    rw [List.length_cons, List.range_succ_eq_map, List.countP_cons, List.countP_map, List.count_cons]
    have e : ((fun p => decide ((y :: l)[p]? = some a)) ∘ Nat.succ) = fun p => decide (l[p]? = some a) := by
      funext p; simp
    rw [e, ih]
    by_cases h : y = a <;> simp [h]
theorem count_map_ab {a b x : Nat} (hab : a ≠ b) : ∀ l : List Nat, ((l.map fun y => if y = b then a else y).count x : Int) = if x = a then (l.count a : Int) + l.count b else if x = b then 0 else (l.count x : Int)
  | [] => by simp
  | y :: l => by
    have ih := count_map_ab (x := x) hab l
    rw [List.map_cons, List.count_cons, List.count_cons, List.count_cons, List.count_cons]
    by_cases h1 : y = b
    · subst h1
      by_cases h2 : x = a
      · subst h2
        simp [hab, Ne.symm hab] at ih ⊢
        omega
      · by_cases h3 : x = y
        · subst h3
          simp [h2, Ne.symm h2, hab] at ih ⊢
          omega
        · simp [h2, h3, Ne.symm h2, Ne.symm h3] at ih ⊢
          omega
    · by_cases h2 : x = a
      · subst h2
        by_cases h4 : y = x <;> simp [h1, h4, hab] at ih ⊢ <;> omega
      · by_cases h3 : x = b
        · subst h3
          simp [h1, h2] at ih ⊢
          omega
        · by_cases h4 : y = x <;> simp [h1, h2, h3, h4] at ih ⊢ <;> omega

theorem tally_at {l : List Nat} {z : Str} (h : isC z = true) : cn (tally l) z = (l.count (cc z) : Int) := by
  have h1 := cn_get (ns := tally l) rfl h
  have h2 := ci_get h
  rw [colS_sg, List.getElem?_map] at h2
  unfold tally at h1 ⊢
  rw [List.getElem?_map] at h1
  cases e : colN[ci z]? with
  | none => rw [e] at h2; cases h2
  | some c =>
    rw [e] at h1 h2
    have e1 : sg c = z := Option.some.inj h2
    rw [← e1, cc_sg]
    rw [← e1] at h1
    exact (Option.some.inj h1).symm
/-- how many change -/
def moved (c : Cl) (l : List Nat) : Int := movers c.k (l.count (cc c.a))
theorem run1_count {c : Cl} (hv : c.ok = true) (l : List Nat) (x : Nat) : ((run1 c l).count x : Int) =
    l.count x - (if cc c.a = x then moved c l - (if c.k.swap = true then (l.count (cc c.b) : Int) else 0) else 0) + (if cc c.b = x then moved c l - (if c.k.swap = true then (l.count (cc c.b) : Int) else 0) else 0) := by
  have va := Cl.ok_a hv
  have vb := Cl.ok_b hv
  have hk := Cl.ok_k hv
  have hab : cc c.a ≠ cc c.b := cc_ne va vb (Cl.ok_ne hv)
  have nd := posN_nd (cc c.a) l
  have len := posN_len (cc c.a) l
  unfold run1 moved
  cases e : c.k with
  | m n =>
    rw [e] at hk
    have hn : 1 ≤ n := of_decide_eq_true hk
    have es : ¬ (Kd.m n).swap = true := by intro z; cases z
    dsimp only
    rw [count_setAll hab (((List.take_sublist _ _).trans (List.drop_sublist _ _)).nodup nd) (fun p hp => posN_iff.mp (List.mem_of_mem_drop (List.mem_of_mem_take hp))), if_neg es]
    have hl : ((((posN (cc c.a) l).drop (n - 1).toNat).take 1).length : Int) = movers (.m n) (l.count (cc c.a)) := by
      rw [List.length_take, List.length_drop, len]
      show _ = if n ≤ (l.count (cc c.a) : Int) then (1 : Int) else 0
      split <;> omega
    rw [hl]
    split <;> split <;> omega
  | s z =>
    rw [e] at hk
    dsimp only
    by_cases hz : z = "swap"
    · have es : (Kd.s z).swap = true := decide_eq_true hz
      rw [if_pos hz, if_pos es]
      have hpos : ∀ p ∈ posN (cc c.a) l, (l.map fun y => if y = cc c.b then cc c.a else y)[p]? = some (cc c.a) := fun p hp => by
        rw [List.getElem?_map, posN_iff.mp hp]
        simp [hab]
      rw [count_setAll hab nd hpos, count_map_ab hab, len]
      show _ = (l.count x : Int) - (if cc c.a = x then (l.count (cc c.a) : Int) - _ else 0) + (if cc c.b = x then (l.count (cc c.a) : Int) - _ else 0)
      by_cases h1 : cc c.a = x
      · subst h1
        simp [hab, Ne.symm hab]
        omega
      · by_cases h2 : cc c.b = x
        · subst h2
          simp [hab, Ne.symm hab]
          omega
        · simp [h1, h2, Ne.symm h1, Ne.symm h2]
    · have es : ¬ (Kd.s z).swap = true := fun q => hz (of_decide_eq_true q)
      rw [if_neg hz, if_neg es]
      rw [count_setAll hab nd (fun p hp => posN_iff.mp hp), len]
      show _ = (l.count x : Int) - (if cc c.a = x then (l.count (cc c.a) : Int) - 0 else 0) + (if cc c.b = x then (l.count (cc c.a) : Int) - 0 else 0)
      split <;> split <;> omega
theorem colN_ci {z : Str} (h : isC z = true) : colN[ci z]? = some (cc z) := by
  have h2 := ci_get h
  rw [colS_sg, List.getElem?_map] at h2
  cases e : colN[ci z]? with
  | none => rw [e] at h2; cases h2
  | some c => rw [e] at h2; rw [← Option.some.inj h2]; rfl
theorem tally_run1 {c : Cl} (hv : c.ok = true) (l : List Nat) : tally (run1 c l) = mv c (tally l) := by
  have va := Cl.ok_a hv
  have vb := Cl.ok_b hv
  have hab : cc c.a ≠ cc c.b := cc_ne va vb (Cl.ok_ne hv)
  have hci := ci_inj va vb (Cl.ok_ne hv)
  have la := ci_lt va
  have lb := ci_lt vb
  have h6 : (tally l).length = 6 := rfl
  refine List.ext_getElem? fun i => ?_
  by_cases hi : i < 6
  · obtain ⟨x, hx⟩ := get_of_lt (l := colN) (i := i) hi
    have e1 : (tally (run1 c l))[i]? = some ((run1 c l).count x : Int) := by unfold tally; rw [List.getElem?_map, hx]; rfl
    have e0 : (tally l)[i]? = some (l.count x : Int) := by unfold tally; rw [List.getElem?_map, hx]; rfl
    rw [e1, run1_count hv]
    have ixa : ci c.a = i ↔ cc c.a = x := by
      constructor
      · intro e; have := colN_ci va; rw [e, hx] at this; exact (Option.some.inj this).symm
      · intro e
        have := colN_ci va
        rw [e] at this
        exact nd_ix (l := colN) (by decide) this hx
    have ixb : ci c.b = i ↔ cc c.b = x := by
      constructor
      · intro e; have := colN_ci vb; rw [e, hx] at this; exact (Option.some.inj this).symm
      · intro e
        have := colN_ci vb
        rw [e] at this
        exact nd_ix (l := colN) (by decide) this hx
    unfold mv moved
    rw [tally_at va, tally_at vb]
    dsimp only
    have hcn : cn ((tally l).set (ci c.a) ((l.count (cc c.a) : Int) + ((if c.k.swap = true then (l.count (cc c.b) : Int) else 0) - movers c.k (l.count (cc c.a))))) c.b = (l.count (cc c.b) : Int) := by
      have h1 := cn_get (ns := (tally l).set (ci c.a) ((l.count (cc c.a) : Int) + ((if c.k.swap = true then (l.count (cc c.b) : Int) else 0) - movers c.k (l.count (cc c.a))))) (by rw [List.length_set]; rfl) vb
      rw [List.getElem?_set_ne hci] at h1
      have h2 := cn_get (ns := tally l) rfl vb
      rw [h2, tally_at vb] at h1
      exact (Option.some.inj h1).symm
    rw [hcn]
    by_cases h2 : ci c.b = i
    · rw [h2, List.getElem?_set_self (by rw [List.length_set]; omega)]
      have n1 : ¬ cc c.a = x := fun e => hab (e.trans (ixb.mp h2).symm)
      rw [if_neg n1, if_pos (ixb.mp h2), ← ixb.mp h2]
      congr 1 <;> omega
    · rw [List.getElem?_set_ne h2]
      rw [if_neg (fun e => h2 (ixb.mpr e))]
      by_cases h1 : ci c.a = i
      · rw [h1, List.getElem?_set_self (by omega), if_pos (ixa.mp h1), ← ixa.mp h1]
        congr 1 <;> omega
      · rw [List.getElem?_set_ne h1, e0, if_neg (fun e => h1 (ixa.mpr e))]
        congr 1 <;> omega
  · rw [List.getElem?_eq_none (by show 6 ≤ i; omega), List.getElem?_eq_none (by rw [mv_len]; show 6 ≤ i; omega)]
theorem tally_runs {D : List Cl} (hv : ∀ c ∈ D, c.ok = true) : ∀ l, tally (runs D l) = mvs D (tally l) := by
  induction D with
  | nil => intro l; rfl
  | cons c D ih =>
    intro l
    show tally (runs D (run1 c l)) = mvs D (mv c (tally l))
    rw [ih (fun x hx => hv x (List.mem_cons_of_mem _ hx)), tally_run1 (hv c List.mem_cons_self)]
theorem setAll_mem {b : Nat} : ∀ {ps l : List Nat} {y : Nat}, y ∈ setAll b l ps → y = b ∨ y ∈ l
  | [], l, y, h => .inr h
  | p :: ps, l, y, h => by
    rcases setAll_mem (ps := ps) (l := l.set p b) h with h | h
    · exact .inl h
    · exact (List.mem_or_eq_of_mem_set h).symm
theorem run1_col {c : Cl} (hv : c.ok = true) {l : List Nat} (h : ∀ y ∈ l, y ∈ colN) : ∀ y ∈ run1 c l, y ∈ colN := by
  have ka := cc_col (Cl.ok_a hv)
  have kb := cc_col (Cl.ok_b hv)
  intro y hy
  unfold run1 at hy
  dsimp only at hy
  split at hy
  · rcases setAll_mem hy with q | q
    · rw [q]; exact kb
    · exact h y q
  · split at hy
    · rcases setAll_mem hy with q | q
      · rw [q]; exact kb
      · obtain ⟨x, hx, rfl⟩ := List.mem_map.mp q
        split
        · exact ka
        · exact h x hx
    · rcases setAll_mem hy with q | q
      · rw [q]; exact kb
      · exact h y q
theorem runs_col {D : List Cl} (hv : ∀ c ∈ D, c.ok = true) : ∀ {l : List Nat}, (∀ y ∈ l, y ∈ colN) → ∀ y ∈ runs D l, y ∈ colN := by
  induction D with
  | nil => intro l h; exact h
  | cons c D ih =>
    intro l h
    exact ih (fun x hx => hv x (List.mem_cons_of_mem _ hx)) (run1_col (hv c List.mem_cons_self) h)
end Dr
namespace Dr
open PySem L2
abbrev cV (c : Nat) : V := V.str (sg c)
abbrev nV (n : Nat) : V := V.int (n : Int)
open TL in
theorem joinL_one : ∀ l : List Nat, joinL [] (l.map fun c => [c]) = l
  | [] => rfl
  | [c] => rfl
  | c :: d :: l => by
    have ih := joinL_one (d :: l)
    show [c] ++ [] ++ joinL [] ((d :: l).map fun c => [c]) = _
    rw [ih]
    rfl
open TL in
theorem join_sg (l : List Nat) : Txt.join "" (l.map sg) = ⟨l.toArray⟩ := by
  have h : tl (Txt.join "" (l.map sg)) = l := by
    rw [join_eq, tl_join, List.map_map]
    exact joinL_one l
  have h' : (Txt.join "" (l.map sg)).cps.toList = l := h
  cases e : Txt.join "" (l.map sg) with
  | mk a =>
    rw [e] at h'
    have : a = l.toArray := by
      rw [← h']
    rw [this]
theorem cut_call {α : Type} (xs : List α) {n : Nat} (hn : 1 ≤ n) : (xs.drop (min (n - 1) xs.length)).take (min n xs.length - min (n - 1) xs.length) = (xs.drop (n - 1)).take 1 := by
  by_cases h : n ≤ xs.length
  · rw [Nat.min_eq_left h, Nat.min_eq_left (by omega), show n - (n - 1) = 1 by omega]
  · rw [List.drop_eq_nil_of_le (i := n - 1) (by omega), show min n xs.length - min (n - 1) xs.length = 0 by omega]
    simp
theorem cutV_call (xs : List V) {n : Int} (hn : 1 ≤ n) : cutV xs (some (n - 1)) (some n) = (xs.drop (n - 1).toNat).take 1 := by
  obtain ⟨k, rfl⟩ : ∃ k : Nat, n = (k : Int) := ⟨n.toNat, by omega⟩
  have h1 : ((k : Int) - 1) = ((k - 1 : Nat) : Int) := by omega
  unfold cutV
  rw [h1, HT.sIx_nat, HT.sIx_nat, cut_call xs (by omega), Int.toNat_natCast]
def sp_law_run (K : PySem.W.Frag) : Sp := fun vs H Q _ => ∃ (d : Addr) (z : Str) (D : List Cl), vs = [.ref d, .str z] ∧ Drill K H d D ∧ (∀ c ∈ D, c.ok = true) ∧ z.cps.size ≤ 1000 ∧
  ∀ H', Same H H' → Q (.str ⟨(runs D z.cps.toList).toArray⟩) H'
theorem setAll_more {b : Nat} {l : List Nat} {ps : List Nat} {i p : Nat} (h : ps[i]? = some p) : setAll b l (ps.take (i + 1)) = (setAll b l (ps.take i)).set p b := by
  rw [take_one h]
  unfold setAll
  rw [List.foldl_append]; rfl
theorem map_part {f : Nat → Nat} {l : List Nat} {i y : Nat} (h : l[i]? = some y) : ((l.take i).map f ++ l.drop i).set i (f y) = (l.take (i + 1)).map f ++ l.drop (i + 1) := by
  have hi := lt_of_get h
  have hl : ((l.take i).map f).length = i := by rw [List.length_map, List.length_take]; omega
  rw [List.set_append_right _ _ (by omega), hl, Nat.sub_self, List.drop_eq_getElem_cons hi, take_one h, List.map_append, List.append_assoc]
  rfl
theorem map_part_at {f : Nat → Nat} {l : List Nat} {i : Nat} (hi : i < l.length) : ((l.take i).map f ++ l.drop i)[i]? = l[i]? := by
  have hl : ((l.take i).map f).length = i := by rw [List.length_map, List.length_take]; omega
  rw [List.getElem?_append_right (by omega), hl, Nat.sub_self, List.getElem?_drop, Nat.add_zero]
theorem map_part_len {f : Nat → Nat} {l : List Nat} {i : Nat} (hi : i ≤ l.length) : ((l.take i).map f ++ l.drop i).length = l.length := by
  rw [List.length_append, List.length_map, List.length_take, List.length_drop]; omega
end Dr

namespace Dr
open PySem L2
/-- a change at a new place -/
theorem ext_same {H H' G : Hp} {p : Addr} {o : HO} (S : Same H H') (hp : G p = none) (g : Same H G) : Same H (upd H' p o) := fun b u e => by
  rw [upd_ne (ne_of_none e (g.free hp))]
  exact S b u e
theorem set_self {α : Type} : ∀ {l : List α} {i : Nat} {x : α}, l[i]? = some x → l.set i x = l
  | [], _, _, h => by simp at h
  | a :: l, 0, x, h => by
    have e : a = x := Option.some.inj h
    subst e; rfl
  | a :: l, i + 1, x, h => by
    show a :: l.set i x = a :: l
    rw [set_self (l := l) (i := i) (by simpa using h)]
end Dr

namespace Dr
open PySem L2
theorem filter_one {α : Type} (p : α → Bool) (x : α) : [x].filter p = if p x = true then [x] else [] := by
  by_cases e : p x = true
  · rw [if_pos e, List.filter_cons_of_pos e]; rfl
  · rw [if_neg e, List.filter_cons_of_neg e]; rfl
theorem sum_sg : ∀ l : List Nat, ((l.map sg).map (·.length)).sum = l.length
  | [] => rfl
  | c :: l => by
    have ih := sum_sg l
    simp only [List.map_cons, List.sum_cons, List.length_cons] at ih ⊢
    rw [ih]
    show 1 + l.length = l.length + 1
    omega
end Dr
/-! Promises that hold where no repr is under way; the law's own call; repr of data. -/
namespace Dr
open PySem PySem.Spec PyProof.Rows L2
/-- a promise that is kept where nothing is being written by repr -/
structure FnG (P : Program) (w : World) (K : PySem.W.Frag) (mg : Str → Option Value) (base : Heap) (CX : CXT) (k : Nat) (f : Addr) (fd : FuncData) (ps : List Str) (sp : Sp) : Prop where
  len : ∀ vs H Q E, sp vs H Q E → vs.length = ps.length
  run : ∀ (A : Around) (outer : List Env) (s : Shared) (H : Hp) (args : Args) (us : List Value) (vs : List V) (Q : VK) (E : XK), Room k A → A.guards = some [] →
    Env0 P w K mg base A outer s H → BindsTo s fd args (ps.zip us) → Vals vs us → sp vs H Q E → codeAny (model P w) A (.call (.ref f) args) (CR CX outer P w H s Q E) s
section
variable {P : Program} {w : World} {K : PySem.W.Frag} {mg : Str → Option Value} {base : Heap} {CX : CXT} {f : Addr} {fd : FuncData} {ps : List Str} {sp : Sp}
theorem FnG.of {k : Nat} (F : FnOk P w K mg base CX k f fd ps sp) : FnG P w K mg base CX k f fd ps sp :=
  ⟨F.len, fun A outer s H args us vs Q E hr _ e b r h => F.run A outer s H args us vs Q E hr e b r h⟩
theorem deeper_guards {A : Around} (env : Env) (h : A.guards = some []) : (A.deeper env).guards = some [] := h
/-- the rule for such a def, by its body -/
theorem okG {x qual : Str} {st : Stmt} {N : List Str} {k : Nat} (F : Fun K x qual st f fd) (S : FnScope N ps (defScope st)) (len : ∀ vs H Q E, sp vs H Q E → vs.length = ps.length)
    (body : ∀ (cdv : Value) (A : Around) (outer : List Env) (s : Shared) (H : Hp) (vs : List V) (Q : VK) (E : XK), Room k (A.deeper (envOfC qual (defScope st) s.heap.objs.size f cdv)) →
      (A.deeper (envOfC qual (defScope st) s.heap.objs.size f cdv)).guards = some [] → sp vs H Q E →
      ∃ t, PSs (cxOf CX P w K mg base N qual (defScope st) f cdv A outer s H E).nox (defBody st) t ∧ t { nx := fun _ H' => Q .non H', rt := Q } (start N vs) H) :
    FnG P w K mg base CX (k + 1) f fd ps sp := by
  obtain ⟨oc, od, kV, doc, pm, an, cdv, ct, osl, rfl, lk, hcd⟩ := F.ex
  constructor
  · exact len
  intro A outer s H args us vs Q E room gd e0 binds rel want
  have kin : K.In s.heap := e0.mod.kin.keeps fun b o e => (e0.bs b o e).1
  have lim : s.heap.NoLimit := e0.mod.nolimit.keeps fun b o e => (e0.bs b o e).1
  have kinds : ∀ y ∈ ps.zip us, (defScope st).names.lookup y.1 = some .local ∨ ((defScope st).names.lookup y.1 = some .cell ∧
      ((cellsFrom (s.heap.objs.size + 1) (defScope st).names []).lookup y.1).isSome = true) := by
    rintro ⟨n, v⟩ hy
    rcases S.par n (List.of_mem_zip hy).1 with q | q
    · exact .inl q
    · exact .inr ⟨q, PySem.W.cellsFrom_some _ _ _ (.inl q)⟩
  refine codeAny_call_function room.depth (kin _ _ lk) rfl S.co S.gen rfl (PySem.W.codeRec_of kin hcd) (binds _ _ _ _ (wpAny_newFunctionEnv_cells S.kind kinds ?_))
  rintro env rfl s1 x
  refine ⟨lim.keeps x.toInCall.keep, codeAny_func ?_⟩
  obtain ⟨t, ht, hq⟩ := body cdv A outer s H vs Q E (room.deeper _) gd want
  have I := inv_start (CX := CX) (E := E) S room.hd e0 (len _ _ _ _ want) rel x
  refine wpAny_mono (ht.nox.run [] s1 (start N vs) H _ I hq) ?_ fun e s' hs => hs
  intro fl s' hs
  cases fl with
  | ret u =>
    obtain ⟨v, σ', H', J, rv, q⟩ := hs
    exact ⟨v, H', J.os, J.bare, J.base, J.hok, rv, q⟩
  | next =>
    obtain ⟨σ', H', J, q⟩ := hs
    exact ⟨.non, H', J.os, J.bare, J.base, J.hok, rfl, q⟩
  | brk => exact hs.elim fun _ hs => hs.elim fun _ hs => hs.2.elim
  | cont => exact hs.elim fun _ hs => hs.elim fun _ hs => hs.2.elim
end
section
variable {X : Cx} {CX : CXT} {k : Nat} {f : Addr} {fd : FuncData} {ps : List Str} {sp : Sp} {E : XK} {x : Str} {p pos : Pos} {e : Expr} {es : List Expr} {t : TA}
/-- a call of such a def -/
theorem pe_callG (F : FnG X.prog X.w X.K X.mg X.base CX k f fd ps sp) (room : Room k X.A) (gd : X.A.guards = some []) (hg : Gl X x) (hm : X.mg x = some (.ref f)) (hk : PySem.W.keepIn X.K (.ref f) = true)
    (hb : Binds X.K fd ps []) (hx : Passes CX X E) (ha : PA X (e :: es) t) (d1 : (x == ("__debug__" : Str)) = false := by decide)
    (d2 : starEach (e :: es) X.env = (false, eval e X.env) :: starEach es X.env := by rfl) (d3 : (backTo pos (starEach es X.env)).any (·.1) = false := by rfl) :
    PE X (.Call (.Name x p) (e :: es) [] pos) (tCall sp [] E t) := by
  constructor
  intro pins s σ H Q I h
  refine wpAny_Call_Name_kw (ld_glob I hg hm (PySem.W.callWith_K (h₀ := X.base) I.ok.mod.kin hk (thn (ha.run pos pins s σ H _ I h) ?_) d2 d3) d1)
  rintro us s1 ⟨vs, H1, I1, r, q⟩
  refine ⟨I1.kIn, ?_⟩
  have q' : sp vs H1 Q E := by
    have z : sp (vs ++ []) H1 Q E := q
    rw [List.append_nil] at z
    exact z
  have hl : us.length = ps.length := by rw [← r.length]; exact F.len _ _ _ _ q'
  have b := hb s1 us I1.kIn (by simpa using hl)
  rw [List.append_nil] at b
  refine wpAny_call (codeAny_mono (F.run X.A X.stack s1 H1 ⟨us, []⟩ us vs Q E room gd I1.env0 b r q') ?_)
  intro fin s' hq
  cases fin with
  | error e => exact hx pins σ H1 s1 e s' I1 hq
  | ok fl =>
    cases fl with
    | ret u => exact I1.after hq
    | next => exact hq.elim
    | brk => exact hq.elim
    | cont => exact hq.elim
/-- f(k = v, ..), nothing by place -/
theorem pe_callK0 {kws : List Keyword} {ks : List Str} {g : List Value → List Value → List Value} {gV : List V → List V → List V} {tk : TA} (F : FnOk X.prog X.w X.K X.mg X.base CX k f fd ps sp) (room : Room k X.A) (hg : Gl X x)
    (hm : X.mg x = some (.ref f)) (hk : PySem.W.keepIn X.K (.ref f) = true) (hb : KBinds X.K fd ps ks g gV) (hx : Passes CX X E) (hkw : PK X kws tk) (d0 : (backToKw pos (keywordEach kws X.env)).all (·.1.isSome) = true := by rfl)
    (d1 : (backToKw pos (keywordEach kws X.env)).filterMap (·.1) = ks := by rfl) (d2 : (x == ("__debug__" : Str)) = false := by decide)
    (d3 : ((backTo pos (starEach [] X.env)).any (·.1) || (backToKw pos (keywordEach kws X.env)).any (·.1.isNone)) = false := by rfl) :
    PE X (.Call (.Name x p) [] kws pos) (tCallK sp gV E tNil tk) := by
  constructor
  intro pins s σ H Q I h
  refine wpAny_Call_Name_kw (ld_glob I hg hm (PySem.W.callWith_KW0 (h₀ := X.base) I.ok.mod.kin hk d0 (thn (hkw.run pos pins s σ H _ I h) ?_) d3) d2)
  rintro ws s2 ⟨zs, H2, I2, rz, q2⟩
  refine ⟨I2.kIn, ?_⟩
  rw [d1]
  exact run_fnk (us := []) (vs := []) F room hb hx I2 .nil rz q2
/-- repr of data: lists and tuples of ints, texts, of any depth -/
theorem call_reprD (gd : X.A.guards = some []) (hu : X.A.units + 64 < cLine) : CallR X (.builtin "repr") (fun xs H Q => ∃ (a : Addr) (d : PyData), xs = [.ref a] ∧ Dp X.K H (.ref a) d ∧ d.showable = true ∧ d.hasDict = false ∧
    d.depth < 60 ∧ d.shown.length ≤ sizeLine ∧ Q (.str d.shown) H) := by
  intro pins s σ H xs us Q I r h
  obtain ⟨a, d, rfl, hd, h1, h2, h3, h4, q⟩ := h
  obtain ⟨u, rfl, ru⟩ := vals1 r
  cases ru
  obtain ⟨as, hr⟩ := Dp.reads I d (.ref a) (.ref a) hd rfl
  refine repr_of_reads' hr h1 (fun e => by rw [h2] at e; cases e) gd (by omega) (fun b o e => e) (fun h' u tk hk => ?_) h4
  exact ⟨.str d.shown, H, I.kept (t' := tk) hk, ⟨u, rfl⟩, q⟩
end
end Dr
namespace Dr
open PySem PySem.Spec PyProof.Rows L2
/-- the law's own call, from a promise that wants no repr under way -/
theorem law_callG {P : Program} {w : World} {K : PySem.W.Frag} {mg mb : Str → Option Value} {CX : CXT} {k : Nat} {fa a : Addr} {fd : FuncData} {x : Str} {sp : Sp} {s1 : Shared} {vs : List Value} {ns : List Int}
    (kin : K.In s1.heap) (hmg : s1.heap.Ns mainGlobals mg) (hmb : s1.heap.Ns builtinsNs mb) (blt : ∀ x : Str, x ≠ "__name__" → mb x = bootBuiltins x) (lim : s1.heap.NoLimit) (g0 : s1.gens = #[])
    (ha : s1.heap.get? a = some { cls := .type "list", data := .seq vs.toArray }) (hi : IntsAre vs ns) (few : ns.length ≤ sizeLine) (room : Room k callerA)
    (F : ∀ base : Heap, K.In base → base.Ns mainGlobals mg → FnG P w K mg base CX k fa fd [x] sp) (hbind : ∀ (s : Shared) (u : Value), BindsTo s fd ⟨[u], []⟩ [(x, u)])
    (hsp : ∀ H : Hp, SqL K H a (ns.map V.int) → sp [.ref a] H (fun v _ => v = .bl true) fun _ _ _ => False)
    (hCX : ∀ H e s', CX [] H s1 (fun _ _ _ => False) e s' → False) :
    codeAny (model P w) callerA (.call (.ref fa) ⟨[.ref a], []⟩) (fun r s' => r = .ok (.ret (.bool true)) ∧ OldK s1.heap s'.heap ∧ s'.os = s1.os ∧ AllBare s'.gens) s1 := by
  have rv := vals_ints hi
  have lv := hi.length
  let ob : Obj := { cls := .type "list", data := .seq vs.toArray }
  -- what is tracked: the script at most
  have main : ∀ H : Hp, (∀ b, H b = none ∨ (b = a ∧ H b = some (.frz ob (.lst (ns.map V.int))))) → SqL K H a (ns.map V.int) → HOk P w H s1.heap → (H a ≠ none → K.lookup a = none) →
      codeAny (model P w) callerA (.call (.ref fa) ⟨[.ref a], []⟩) (fun r s' => r = .ok (.ret (.bool true)) ∧ OldK s1.heap s'.heap ∧ s'.os = s1.os ∧ AllBare s'.gens) s1 := by
    intro H only seq hok hK
    have untracked : ∀ {b : Addr} {m : Str → Option Value}, s1.heap.Ns b m → H b = none := fun {b m} h => by
      rcases only b with q | ⟨q, _⟩
      · exact q
      · obtain ⟨o, es, ep, e, d, _⟩ := h
        rw [q, ha] at e
        have e' := Option.some.inj e
        rw [← e'] at d
        cases d
    have nsBase : ∀ {b : Addr} {m : Str → Option Value}, s1.heap.Ns b m → (hidT s1.heap H).Ns b m := fun {b m} h => by
      have n := untracked h
      obtain ⟨o, es, ep, e, r⟩ := h
      exact ⟨o, es, ep, hidT_get e n, r⟩
    have kb : K.In (hidT s1.heap H) := fun b o e => hidT_get (kin b o e) (by
      rcases only b with q | ⟨q, q2⟩
      · exact q
      · subst q
        rw [hK (by rw [q2]; intro z; cases z)] at e
        cases e)
    have md : Mod K mg (hidT s1.heap H) := ⟨kb, nsBase hmg, ⟨mb, nsBase hmb, blt⟩, by
      obtain ⟨mc, l1, l2⟩ := lim
      exact ⟨mc, nsBase l1, l2⟩⟩
    have env : Env0 P w K mg (hidT s1.heap H) callerA [] s1 H :=
      ⟨rfl, md, fun b o e => of_hidT e, Nat.le_of_eq (hidT_size _ _), trivial, (fun b hb => (nomatch hb)), hok, .of_eq g0⟩
    refine codeAny_mono ((F _ kb (nsBase hmg)).run callerA [] s1 H ⟨[.ref a], []⟩ [.ref a] [.ref a] _ _ room rfl env (hbind s1 (.ref a)) (.cons rfl .nil) (hsp H seq)) ?_
    intro r s' h
    cases r with
    | error e => exact (hCX H e s' h).elim
    | ok fl =>
      cases fl with
      | next => exact h.elim
      | brk => exact h.elim
      | cont => exact h.elim
      | ret u =>
        obtain ⟨v, H', os, bare, un, hok', rel, q⟩ := h
        have ev : v = .bl true := q
        rw [ev] at rel
        have eu : u = Value.bool true := rel
        rw [eu]
        refine ⟨rfl, OldK.of_keep ?_, os, bare⟩
        intro b o e
        rcases only b with n | ⟨rfl, n⟩
        · exact un.keep b o e n (fun z => (nomatch z)) (fun z => (nomatch z))
        · have n2 := un.frzs b ob _ n
          obtain ⟨e2, _⟩ := hok' b _ n2
          have eo : ob = o := by rw [ha] at e; exact Option.some.inj e
          rw [← eo]
          exact e2
  cases hk : K.lookup a with
  | some o =>
    have e := kin a o hk
    rw [ha] at e
    have eo := Option.some.inj e
    subst eo
    refine main (fun _ => none) (fun _ => .inl rfl) ?_ (fun b u z => by cases z) (fun z => absurd rfl z)
    exact .inr ⟨_, vs.toArray, _, hk, rfl, rfl, rfl, by rw [List.size_toArray]; omega, by simpa using rv⟩
  | none =>
    let H : Hp := fun b => if b = a then some (.frz ob (.lst (ns.map V.int))) else none
    have Ha : H a = some (.frz ob (.lst (ns.map V.int))) := if_pos rfl
    have Hb : ∀ {b}, b ≠ a → H b = none := fun h => if_neg h
    refine main H (fun b => ?_) (.inl (.inr ⟨ob, Ha⟩)) (fun b u z => ?_) fun _ => hk
    · by_cases q : b = a
      · subst q; exact .inr ⟨rfl, Ha⟩
      · exact .inl (Hb q)
    · by_cases q : b = a
      · subst q
        rw [Ha] at z
        have z' := Option.some.inj z
        subst z'
        exact ⟨ha, by rw [List.length_map]; exact few, vs, _, rv, ha⟩
      · rw [Hb q] at z; cases z
/-- the goal that the head leaves -/
theorem walk_G {l : PySem.W.OpenLaw} {n k : Nat} {q : Program} {loose : List Str} {XP : (Str → Option Value) → Heap → Prop} {YP : World → Heap → Prop} {d : DefRec} {K : Params → PySem.W.Frag} {sp : PySem.W.Frag → Sp}
    (hn : l.most = some n) (hn2 : n ≤ sizeLine) (hdf : d.params.defaults = []) (room : Room k callerA) (hY : ∀ (w : World) (h : Heap), YP w h → (K w.params).In h)
    (F : ∀ (w : World) (mg : Str → Option Value) (fa : Addr) (h : Heap), (K w.params).In h → h.Ns mainGlobals mg → mg d.name = some (.ref fa) →
      ∃ fd : FuncData, (∀ (s : Shared) (u : Value), BindsTo s fd ⟨[u], []⟩ [("script", u)]) ∧
        ∀ base : Heap, (K w.params).In base → base.Ns mainGlobals mg → FnG l.prog w (K w.params) mg base CX0 k fa fd ["script"] (sp (K w.params)))
    (hsp : ∀ (K : PySem.W.Frag) (H : Hp) (a : Addr) (ns : List Int), ns.length ≤ n → SqL K H a (ns.map V.int) → sp K [.ref a] H (fun v _ => v = .bl true) fun _ _ _ => False) :
    PySem.W.WalkO q loose XP YP l.row.toRowW d [] (fun f vs => PySem.call f vs) := by
  refine Att.attach_call hn hdf ?_
  intro w s0 s1 mg mb fa o pm cd doc a vs ns G Y ho hd hcd hmg hobj hints hlen hg
  have kin := hY w _ Y
  obtain ⟨fd, hb, hF⟩ := F w mg fa _ kin G.T.g hmg
  exact law_callG kin G.T.g G.T.b G.T.builtins G.T.nolimit hg hobj hints (Nat.le_trans hlen hn2) room hF hb (fun H hS => hsp _ H a ns hlen hS) fun _ _ _ z => z
end Dr

namespace Dr
open PySem L2
/-- keywords alone, laid in the parameters' order -/
def gP (is : List Nat) (us ws : List Value) : List Value := match us with
  | [] => if ws.length = is.length then is.filterMap (fun i => ws[i]?) else []
  | _ :: _ => []
def gPV (is : List Nat) (us ws : List V) : List V := match us with
  | [] => if ws.length = is.length then is.filterMap (fun i => ws[i]?) else []
  | _ :: _ => []
theorem vals_pick {zs : List V} {ws : List Value} (r : Vals zs ws) : ∀ is : List Nat, Vals (is.filterMap fun i => zs[i]?) (is.filterMap fun i => ws[i]?)
  | [] => .nil
  | i :: is => by
    have ih := vals_pick r is
    cases e : zs[i]? with
    | none => rw [List.filterMap_cons_none e, List.filterMap_cons_none (r.none_of e)]; exact ih
    | some x =>
      obtain ⟨u, hu, ru⟩ := r.get e
      rw [List.filterMap_cons_some e, List.filterMap_cons_some hu]
      exact .cons ru ih
theorem gP_rel (is : List Nat) {vs : List V} {us : List Value} {zs : List V} {ws : List Value} (r : Vals vs us) (q : Vals zs ws) : Vals (gPV is vs zs) (gP is us ws) := by
  cases r with
  | cons _ _ => exact .nil
  | nil =>
    show Vals (if zs.length = is.length then _ else []) (if ws.length = is.length then _ else [])
    rw [q.length]
    split
    · exact vals_pick q is
    · exact .nil
end Dr
/-! How long the texts are that repr writes of data. -/
namespace Dr
open PySem L2
structure Sh (n k : Nat) (d : PyData) : Prop where
  len : d.shown.length ≤ n
  ok : d.showable = true
  nd : d.hasDict = false
  dp : d.depth ≤ k
theorem Sh.mono {n k n' k' : Nat} {d : PyData} (h : Sh n k d) (a : n ≤ n') (b : k ≤ k') : Sh n' k' d := ⟨Nat.le_trans h.len a, h.ok, h.nd, Nat.le_trans h.dp b⟩
theorem len_list (ts : List Str) : (listText ts).length ≤ piled ts + 2 := by
  cases ts with
  | nil => decide
  | cons t r =>
    rw [listText_eq_join, PySem.strLen_append, PySem.strLen_append]
    have h := join_length_add (t :: r) (by simp)
    have e1 : (("[" : Str)).length = 1 := rfl
    have e2 : (("]" : String) : Str).length = 1 := rfl
    omega
theorem len_tup (ts : List Str) : (tupleText ts).length ≤ piled ts + 3 := by
  unfold tupleText
  rw [PySem.strLen_append, PySem.strLen_append]
  have e1 : ((("(" : String) : Str)).length = 1 := rfl
  have e3 : (((if ts.length == 1 then ",)" else ")" : String) : Str)).length ≤ 2 := by split <;> decide
  have h : (Str.join ", " ts).length ≤ piled ts := by
    cases ts with
    | nil => decide
    | cons t r =>
      have := join_length_add (t :: r) (by simp)
      omega
  omega
theorem sh_all {n k : Nat} : ∀ {ds : List PyData}, (∀ d ∈ ds, Sh n k d) → piled (PyData.shownAll ds) ≤ ds.length * (n + 2) ∧ PyData.showableAll ds = true ∧ PyData.hasDictAll ds = false ∧ PyData.depthAll ds ≤ k
  | [], _ => ⟨by show 0 ≤ _; omega, rfl, rfl, Nat.zero_le _⟩
  | d :: ds, h => by
    obtain ⟨a1, a2, a3, a4⟩ := h d List.mem_cons_self
    obtain ⟨b1, b2, b3, b4⟩ := sh_all fun x hx => h x (List.mem_cons_of_mem d hx)
    refine ⟨?_, ?_, ?_, ?_⟩
    · show piled (d.shown :: PyData.shownAll ds) ≤ _
      rw [piled_cons, List.length_cons, Nat.add_mul]
      omega
    · show (PyData.showable d && PyData.showableAll ds) = true
      rw [a2, b2]; rfl
    · show (PyData.hasDict d || PyData.hasDictAll ds) = false
      rw [a3, b3]; rfl
    · show max d.depth (PyData.depthAll ds) ≤ k
      omega
theorem sh_list {n k : Nat} {ds : List PyData} (h : ∀ d ∈ ds, Sh n k d) : Sh (ds.length * (n + 2) + 2) (k + 1) (.list ds) := by
  obtain ⟨b1, b2, b3, b4⟩ := sh_all h
  refine ⟨?_, by simp only [PyData.showable]; exact b2, by simp only [PyData.hasDict]; exact b3, by simp only [PyData.depth]; omega⟩
  simp only [PyData.shown]
  exact Nat.le_trans (len_list _) (by omega)
theorem sh_tup {n k : Nat} {ds : List PyData} (h : ∀ d ∈ ds, Sh n k d) : Sh (ds.length * (n + 2) + 3) (k + 1) (.tuple ds) := by
  obtain ⟨b1, b2, b3, b4⟩ := sh_all h
  refine ⟨?_, by simp only [PyData.showable]; exact b2, by simp only [PyData.hasDict]; exact b3, by simp only [PyData.depth]; omega⟩
  simp only [PyData.shown]
  exact Nat.le_trans (len_tup _) (by omega)
theorem sh_str {z : Str} {n : Nat} (hn : z.cps.size ≤ n) (h : ∀ c ∈ z.cps.toList, c < 16 ^ 8) : Sh (10 * n + 2) 0 (.str z) := by
  refine ⟨?_, by simp only [PyData.showable], by simp only [PyData.hasDict], by simp only [PyData.depth]; exact Nat.le_refl _⟩
  simp only [PyData.shown]
  have := StrLaws.reprText_len z h
  have e : z.length = z.cps.size := rfl
  omega
open TL in
theorem sh_nat {n : Nat} {k : Nat} (hk : 0 < k) (h6 : k ≤ 300) (h : n < 10 ^ k) : Sh k 0 (.int (n : Int)) := by
  refine ⟨?_, ?_, by simp only [PyData.hasDict], by simp only [PyData.depth]; exact Nat.le_refl _⟩
  · simp only [PyData.shown]
    have e : (Str.ofString (toString ((n : Nat) : Int))).cps.toList = numL n := tl_num n
    have e2 : (Str.ofString (toString ((n : Nat) : Int))).length = (numL n).length := by
      rw [← e]; simp [Str.length]
    rw [e2]
    exact numL_len hk h
  · simp only [PyData.showable]
    refine decide_eq_true ?_
    have e : ((n : Int)).natAbs = n := Int.natAbs_natCast n
    rw [e]
    have h2 : n < 2 ^ 1900 := Nat.lt_of_lt_of_le h (Nat.le_trans (Nat.pow_le_pow_right (by decide) h6) (by decide +kernel))
    have := PySem.Flt.log2_lt_of (by decide : 0 < 1900) h2
    omega
theorem sh_int {i : Int} {k : Nat} (h0 : 0 ≤ i) (hk : 0 < k) (h6 : k ≤ 300) (h : i < 10 ^ k) : Sh k 0 (.int i) := by
  obtain ⟨n, rfl⟩ : ∃ n : Nat, i = (n : Int) := ⟨i.toNat, by omega⟩
  refine sh_nat hk h6 ?_
  have e : ((10 : Int) ^ k) = ((10 ^ k : Nat) : Int) := by rw [Int.natCast_pow]; rfl
  omega
/-! ### the data of the laws -/
def dK : Kd → PyData
  | .m n => .int n
  | .s z => .str z
def dCl (c : Cl) : PyData := .tuple [dK c.k, .str c.a, .str c.b]
def dIs (ns : List Int) : PyData := .list (ns.map .int)
theorem dp_ints {K : PySem.W.Frag} {H : Hp} : ∀ ns : List Int, DpAll K H (ns.map V.int) (ns.map .int)
  | [] => .nil
  | n :: ns => .cons (.int n) (dp_ints ns)
theorem dp_is {K : PySem.W.Frag} {H : Hp} {a : Addr} {ns : List Int} (h : SqL K H a (ns.map V.int)) : Dp K H (.ref a) (dIs ns) := .lst h (dp_ints ns)
theorem dp_k {K : PySem.W.Frag} {H : Hp} (k : Kd) : Dp K H k.v (dK k) := by
  cases k with
  | m n => exact .int n
  | s z => exact .str z
theorem dp_cl {K : PySem.W.Frag} {H : Hp} {t : Addr} {c : Cl} (h : SqT K H t c.vs) : Dp K H (.ref t) (dCl c) := .tup h (.cons (dp_k c.k) (.cons (.str c.a) (.cons (.str c.b) .nil)))
theorem dp_cls {K : PySem.W.Frag} {H : Hp} : ∀ {ts : List Addr} {D : List Cl}, ts.length = D.length → (∀ (i : Nat) (t : Addr) (c : Cl), ts[i]? = some t → D[i]? = some c → SqT K H t c.vs) → DpAll K H (ts.map V.ref) (D.map dCl)
  | [], [], _, _ => .nil
  | [], _ :: _, h, _ => by simp at h
  | _ :: _, [], h, _ => by simp at h
  | t :: ts, c :: D, h, r => .cons (dp_cl (r 0 t c rfl rfl)) (dp_cls (by simpa using h) fun i t' c' h1 h2 => r (i + 1) t' c' (by simpa using h1) (by simpa using h2))
theorem dp_drill {K : PySem.W.Frag} {H : Hp} {a : Addr} {D : List Cl} (h : Drill K H a D) : Dp K H (.ref a) (.list (D.map dCl)) := by
  obtain ⟨ts, h1, h2, h3⟩ := h
  exact .lst h1 (dp_cls h2 h3)
theorem sh_col {z : Str} (h : isC z = true) : Sh 12 0 (.str z) := by
  obtain ⟨c, hc, rfl⟩ := isC_iff.mp h
  refine sh_str (n := 1) (Nat.le_refl _) fun x hx => ?_
  have e : x = c := List.mem_singleton.mp hx
  subst e
  have : ∀ y ∈ colN, y < 16 ^ 8 := by decide +kernel
  exact this x hc
theorem sh_cl {c : Cl} (hv : c.ok = true) {k : Nat} (hk : 0 < k) (h6 : k ≤ 300) {t : Int} (ht : Cl.le t c) (h : t < 10 ^ k) : Sh (3 * (44 + k + 2) + 3) 1 (dCl c) := by
  have ha := sh_col (Cl.ok_a hv)
  have hb := sh_col (Cl.ok_b hv)
  have hok := Cl.ok_k hv
  have hkd : Sh (44 + k) 0 (dK c.k) := by
    cases e : c.k with
    | m n =>
      rw [e] at hok
      have h1 : 1 ≤ n := of_decide_eq_true hok
      have h2 := ht n e
      exact (sh_int (k := k) (by omega) hk h6 (by omega)).mono (by omega) (Nat.le_refl _)
    | s z =>
      rw [e] at hok
      rcases Kd.ok_s hok with q | q
      · rw [q]; exact (sh_str (n := 4) (by decide +kernel) (by decide +kernel)).mono (by omega) (Nat.le_refl _)
      · rw [q]; exact (sh_str (n := 4) (by decide +kernel) (by decide +kernel)).mono (by omega) (Nat.le_refl _)
  refine sh_tup (n := 44 + k) (k := 0) (ds := [dK c.k, .str c.a, .str c.b]) fun d hd => ?_
  simp only [List.mem_cons, List.not_mem_nil, or_false] at hd
  rcases hd with hd | hd | hd
  · rw [hd]; exact hkd
  · rw [hd]; exact ha.mono (by omega) (Nat.le_refl _)
  · rw [hd]; exact hb.mono (by omega) (Nat.le_refl _)
end Dr
namespace Dr
open PySem L2
theorem Rg.same {H H' : Hp} {r : Addr} {c : Nat} (S : Same H H') (h : Rg H r c) : Rg H' r c := by
  obtain ⟨d, s, n, h1, h2⟩ := h
  exact ⟨d, s, n, S _ _ h1, h2⟩
theorem tally_small {l : List Nat} {n : Int} (hn : n ∈ tally l) (hl : l.length ≤ 60) : 0 ≤ n ∧ n < 10 ^ 3 := by
  unfold tally at hn
  obtain ⟨c, _, rfl⟩ := List.mem_map.mp hn
  have := List.count_le_length (a := c) (l := l)
  constructor
  · omega
  · have : ((l.count c : Nat) : Int) ≤ 60 := by omega
    exact Int.lt_of_le_of_lt this (by decide)
def sp_law (K : PySem.W.Frag) : Sp := fun vs H Q _ => ∃ (a : Addr) (ns : List Int), vs = [.ref a] ∧ SqL K H a (ns.map V.int) ∧ ns.length ≤ 63 ∧ ∀ H', Q (.bl true) H'
end Dr
/-! Counts: what a call does to them, sums, large counts; list.count of bools. -/
namespace Dr
open PySem L2
def eqB (k : Bool) (v : Value) : Bool := match v with
  | .bool b => b == k
  | _ => false
theorem vals_bl : ∀ {bs : List Bool} {us : List Value}, Vals (bs.map V.bl) us → us = bs.map Value.bool
  | [], _, .nil => rfl
  | b :: bs, _, .cons r h => by
    cases r
    rw [vals_bl h]; rfl
theorem eqB_count {k : Bool} : ∀ (bs : List Bool), (bs.map Value.bool).countP (eqB k) = bs.count k
  | [] => rfl
  | b :: bs => by
    have ih := eqB_count (k := k) bs
    rw [List.map_cons, List.countP_cons, List.count_cons, ih] <;> rfl
section
variable {X : Cx} {K : PySem.W.Frag}
def rCntB (K : PySem.W.Frag) : V → List V → Hp → VK → Prop := fun x xs H Q => ∃ (p : Addr) (bs : List Bool) (k : Bool), x = .ref p ∧ xs = [.bl k] ∧ SqL K H p (bs.map V.bl) ∧ Q (.int (bs.count k : Nat)) H
theorem mt_lcountB : MtR X "list.count" (rCntB X.K) := by
  intro pins s σ H x xs v us Q I rx rxs h
  obtain ⟨p, bs, k, rfl, rfl, hs, q⟩ := h
  cases rx
  obtain ⟨u, rfl, ru⟩ := rxs.one
  cases ru
  obtain ⟨its, rv, ⟨⟨cls, dd, data, sl⟩, n, ho, hc, hdn, hd⟩, hlen⟩ := I.list hs
  simp only at hc hd
  subst hc hd
  have hi := vals_bl rv
  subst hi
  refine call_meets PySem.F.slot_list_count ⟨_, ho, rfl⟩ PySem.F.entry_list_count (PySem.F.args_list_count_2 _ _)
    (SeqAt.list_countAt p (bs.map Value.bool).toArray n dd sl (.bool k) (eqB k)) ⟨ho, fun y hy => ?_, ?_⟩
  · obtain ⟨b, _, rfl⟩ := List.mem_map.mp (by simpa using hy : y ∈ bs.map Value.bool)
    exact PySem.SeqAt.EqAt.bool_bool b k
  have ec : (bs.map Value.bool).toArray.toList.countP (eqB k) = bs.count k := eqB_count bs
  refine ⟨.int (bs.count k : Nat), H, I.tok _, ⟨s.toks, ?_⟩, q⟩
  show Value.int (((bs.map Value.bool).toArray.toList.countP (eqB k) : Nat) : Int) s.toks = Value.int ((bs.count k : Nat) : Int) s.toks
  rw [ec]
theorem mt_lcountBK (h : X.K = K) : MtR X "list.count" (rCntB K) := h ▸ mt_lcountB
theorem pg_tupK {es : List Expr} {k : Nat} {pos : Pos} {t : TGs} (n : Nat) (h : X.K = K) (hc : X.calm = true) (g : PGs X es t)
    (hn : (assignEach es X.env).length = n := by rfl) (hst : (assignEach es X.env).findIdx? (·.1) = none := by rfl) : PG X (.Tuple es k pos) (gTup K n t) := h ▸ pg_tup hc g hn hst
theorem cr_sumK (h : X.K = K) (hc : X.calm = true) : CallR X (.builtin "sum") (rSum K) := h ▸ cr_sum hc
end
/-! ### what a call does -/
theorem getD_set {l : List Int} {i j : Nat} {x : Int} (hi : i < l.length) : (l.set i x).getD j 0 = if i = j then x else l.getD j 0 := by
  rw [List.getD_eq_getElem?_getD, List.getElem?_set, List.getD_eq_getElem?_getD]
  by_cases e : i = j
  · subst e; rw [if_pos rfl, if_pos hi, if_pos rfl]; rfl
  · rw [if_neg e, if_neg e]
theorem set_getD {l : List Int} {i : Nat} (hi : i < l.length) : l.set i (l.getD i 0) = l := by
  apply List.ext_getElem?
  intro j
  rw [List.getElem?_set]
  by_cases e : i = j
  · subst e
    obtain ⟨x, hx⟩ := get_of_lt hi
    rw [if_pos rfl, if_pos hi, List.getD_eq_getElem?_getD, hx]; rfl
  · rw [if_neg e]
theorem mv_eq {c : Cl} {ns : List Int} (h6 : ns.length = 6) (hv : c.ok = true) :
    mv c ns = (ns.set (ci c.a) (cn ns c.a + ((if c.k.swap = true then cn ns c.b else 0) - movers c.k (cn ns c.a)))).set (ci c.b) (cn ns c.b + (movers c.k (cn ns c.a) - (if c.k.swap = true then cn ns c.b else 0))) := by
  have ha := ci_lt (Cl.ok_a hv)
  have ne := ci_inj (Cl.ok_a hv) (Cl.ok_b hv) (Cl.ok_ne hv)
  unfold mv
  dsimp only
  congr 1
  have e : cn (ns.set (ci c.a) (cn ns c.a + ((if c.k.swap = true then cn ns c.b else 0) - movers c.k (cn ns c.a)))) c.b = cn ns c.b := by
    unfold cn
    rw [getD_set (by omega), if_neg ne]
  rw [e]
theorem mv_swap {c : Cl} {ns : List Int} (h6 : ns.length = 6) (hv : c.ok = true) (hk : c.k = .s "swap") : mv c ns = (ns.set (ci c.a) (cn ns c.b)).set (ci c.b) (cn ns c.a) := by
  rw [mv_eq h6 hv, hk]
  have e : (Kd.s "swap").swap = true := by decide +kernel
  rw [if_pos e]
  show (ns.set (ci c.a) (cn ns c.a + (cn ns c.b - cn ns c.a))).set (ci c.b) (cn ns c.b + (cn ns c.a - cn ns c.b)) = _
  rw [show cn ns c.a + (cn ns c.b - cn ns c.a) = cn ns c.b by omega, show cn ns c.b + (cn ns c.a - cn ns c.b) = cn ns c.a by omega]
theorem mv_all {c : Cl} {ns : List Int} (h6 : ns.length = 6) (hv : c.ok = true) (hk : c.k = .s "all") : mv c ns = (ns.set (ci c.b) (cn ns c.b + cn ns c.a)).set (ci c.a) 0 := by
  have ne := ci_inj (Cl.ok_a hv) (Cl.ok_b hv) (Cl.ok_ne hv)
  rw [mv_eq h6 hv, hk]
  have e : ¬ (Kd.s "all").swap = true := by decide +kernel
  rw [if_neg e]
  show (ns.set (ci c.a) (cn ns c.a + (0 - cn ns c.a))).set (ci c.b) (cn ns c.b + (cn ns c.a - 0)) = _
  rw [show cn ns c.a + (0 - cn ns c.a) = 0 by omega, show cn ns c.b + (cn ns c.a - 0) = cn ns c.b + cn ns c.a by omega]
  exact List.set_comm _ _ ne
theorem mv_num {c : Cl} {ns : List Int} {m : Int} (h6 : ns.length = 6) (hv : c.ok = true) (hk : c.k = .m m) : mv c ns = if m ≤ cn ns c.a then (ns.set (ci c.a) (cn ns c.a - 1)).set (ci c.b) (cn ns c.b + 1) else ns := by
  have ha := ci_lt (Cl.ok_a hv)
  have hb := ci_lt (Cl.ok_b hv)
  rw [mv_eq h6 hv, hk]
  have e : ¬ (Kd.m m).swap = true := fun h => by cases h
  rw [if_neg e]
  show (ns.set (ci c.a) (cn ns c.a + (0 - (if m ≤ cn ns c.a then 1 else 0)))).set (ci c.b) (cn ns c.b + ((if m ≤ cn ns c.a then 1 else 0) - 0)) = _
  split
  · rw [show cn ns c.a + (0 - 1) = cn ns c.a - 1 by omega, show cn ns c.b + ((1 : Int) - 0) = cn ns c.b + 1 by omega]
  · rw [show cn ns c.a + (0 - 0) = cn ns c.a by omega, show cn ns c.b + ((0 : Int) - 0) = cn ns c.b by omega]
    unfold cn
    rw [set_getD (by omega), set_getD (by omega)]
theorem Cl.kinds {c : Cl} (hv : c.ok = true) : c.k = .s "all" ∨ c.k = .s "swap" ∨ ∃ m, c.k = .m m ∧ 1 ≤ m := by
  have hk := Cl.ok_k hv
  cases e : c.k with
  | m m => rw [e] at hk; exact .inr (.inr ⟨m, rfl, of_decide_eq_true hk⟩)
  | s z =>
    rw [e] at hk
    rcases Kd.ok_s hk with q | q
    · left; rw [q]
    · right; left; rw [q]
theorem sum_set : ∀ {l : List Int} {i : Nat} {x : Int}, i < l.length → (l.set i x).sum = l.sum + (x - l.getD i 0)
  | [], _, _, h => absurd h (Nat.not_lt_zero _)
  | a :: l, 0, x, _ => by
    show x + l.sum = a + l.sum + (x - a)
    omega
  | a :: l, i + 1, x, h => by
    have ih := sum_set (l := l) (i := i) (x := x) (by simpa using h)
    show a + (l.set i x).sum = a + l.sum + (x - l.getD i 0)
    omega
theorem mv_sum {c : Cl} {ns : List Int} (h6 : ns.length = 6) (hv : c.ok = true) : (mv c ns).sum = ns.sum := by
  have ha := ci_lt (Cl.ok_a hv)
  have hb := ci_lt (Cl.ok_b hv)
  have ne := ci_inj (Cl.ok_a hv) (Cl.ok_b hv) (Cl.ok_ne hv)
  rw [mv_eq h6 hv, sum_set (by rw [List.length_set]; omega), sum_set (by omega), getD_set (by omega), if_neg ne]
  unfold cn
  omega
theorem mvs_sum {D : List Cl} : ∀ {ns : List Int}, ns.length = 6 → (∀ c ∈ D, c.ok = true) → (mvs D ns).sum = ns.sum := by
  induction D with
  | nil => intro ns _ _; rfl
  | cons c D ih =>
    intro ns h6 hv
    show (mvs D (mv c ns)).sum = _
    rw [ih (by rw [mv_len, h6]) (fun x hx => hv x (List.mem_cons_of_mem _ hx)), mv_sum h6 (hv c List.mem_cons_self)]
theorem mvs_append (D1 D2 : List Cl) (ns : List Int) : mvs (D1 ++ D2) ns = mvs D2 (mvs D1 ns) := by
  unfold mvs
  rw [List.foldl_append]
theorem nn_iff {ns : List Int} : (∀ n ∈ ns, 0 ≤ n) ↔ ∀ i, 0 ≤ ns.getD i 0 := by
  constructor
  · intro h i
    rw [List.getD_eq_getElem?_getD]
    cases e : ns[i]? with
    | none => exact Int.le_refl _
    | some x => exact h x (List.mem_of_getElem? e)
  · intro h n hn
    obtain ⟨i, hi⟩ := List.getElem?_of_mem hn
    have := h i
    rw [List.getD_eq_getElem?_getD, hi] at this
    exact this
theorem mv_nn {c : Cl} {ns : List Int} (h6 : ns.length = 6) (hv : c.ok = true) (h : ∀ n ∈ ns, 0 ≤ n) : ∀ n ∈ mv c ns, 0 ≤ n := by
  have ha := ci_lt (Cl.ok_a hv)
  have hb := ci_lt (Cl.ok_b hv)
  rw [nn_iff] at h ⊢
  intro i
  have na := h (ci c.a)
  have nb := h (ci c.b)
  have ni := h i
  rcases Cl.kinds hv with e | e | ⟨m, e, h1⟩
  · rw [mv_all h6 hv e, getD_set (by rw [List.length_set]; omega), getD_set (by omega)]
    unfold cn
    split
    · omega
    · split <;> omega
  · rw [mv_swap h6 hv e, getD_set (by rw [List.length_set]; omega), getD_set (by omega)]
    unfold cn
    split
    · omega
    · split <;> omega
  · rw [mv_num h6 hv e]
    split
    · next hm =>
      rw [getD_set (by rw [List.length_set]; omega), getD_set (by omega)]
      unfold cn at hm ⊢
      split
      · omega
      · split <;> omega
    · exact ni
theorem mvs_nn {D : List Cl} : ∀ {ns : List Int}, ns.length = 6 → (∀ c ∈ D, c.ok = true) → (∀ n ∈ ns, 0 ≤ n) → ∀ n ∈ mvs D ns, 0 ≤ n := by
  induction D with
  | nil => intro ns _ _ h; exact h
  | cons c D ih =>
    intro ns h6 hv h
    exact ih (ns := mv c ns) (by rw [mv_len, h6]) (fun x hx => hv x (List.mem_cons_of_mem _ hx)) (mv_nn h6 (hv c List.mem_cons_self) h)
theorem sum_nn : ∀ {l : List Int}, (∀ n ∈ l, 0 ≤ n) → 0 ≤ l.sum
  | [], _ => Int.le_refl _
  | a :: l, h => by
    have h1 := h a List.mem_cons_self
    have h2 := sum_nn (l := l) fun n hn => h n (List.mem_cons_of_mem _ hn)
    show 0 ≤ a + l.sum
    omega
theorem le_sum : ∀ {l : List Int}, (∀ n ∈ l, 0 ≤ n) → ∀ n ∈ l, n ≤ l.sum
  | [], _ => fun n hn => by cases hn
  | a :: l, h => fun n hn => by
    have h1 := h a List.mem_cons_self
    have h3 : ∀ n ∈ l, 0 ≤ n := fun n hn => h n (List.mem_cons_of_mem _ hn)
    have h2 := sum_nn h3
    show n ≤ a + l.sum
    rcases List.mem_cons.mp hn with e | e
    · omega
    · have := le_sum h3 n e
      omega
theorem sum_le : ∀ {l : List Int} {t : Int}, (∀ n ∈ l, n ≤ t) → l.sum ≤ l.length * t
  | [], _, _ => by simp
  | a :: l, t, h => by
    have h1 := h a List.mem_cons_self
    have h2 := sum_le (l := l) (t := t) fun n hn => h n (List.mem_cons_of_mem _ hn)
    show a + l.sum ≤ ((l.length + 1 : Nat) : Int) * t
    rw [Int.natCast_add, Int.add_mul]
    omega
/-! ### large counts -/
/-- x is y and some of 100000 more, where y is large -/
def Far (j : Nat) (x y : Int) : Prop := ∃ k : Int, 0 ≤ k ∧ x = y + 100000 * k ∧ 0 ≤ y ∧ (k = 0 ∨ 900000 - (j : Int) ≤ y)
def FarS (j : Nat) (xs ys : List Int) : Prop := xs.length = 6 ∧ ys.length = 6 ∧ ∀ i, i < 6 → Far j (xs.getD i 0) (ys.getD i 0)
theorem Far.mono {j : Nat} {x y : Int} (h : Far j x y) : Far (j + 1) x y := by
  obtain ⟨k, h1, h2, h3, h4⟩ := h
  exact ⟨k, h1, h2, h3, by omega⟩
theorem Far.zero (j : Nat) : Far j 0 0 := ⟨0, by decide, by omega, by decide, .inl rfl⟩
theorem Far.add {j : Nat} {x y z w : Int} (h : Far j x y) (g : Far j z w) : Far j (x + z) (y + w) := by
  obtain ⟨k, h1, h2, h3, h4⟩ := h
  obtain ⟨l, g1, g2, g3, g4⟩ := g
  refine ⟨k + l, by omega, by omega, by omega, ?_⟩
  rcases h4 with h4 | h4
  · rcases g4 with g4 | g4
    · left; omega
    · right; omega
  · right; omega
theorem Far.up {j : Nat} {x y : Int} (h : Far j x y) : Far j (x + 1) (y + 1) := by
  obtain ⟨k, h1, h2, h3, h4⟩ := h
  exact ⟨k, h1, by omega, by omega, by omega⟩
theorem Far.down {j : Nat} {x y : Int} (h : Far j x y) (hy : 1 ≤ y) : Far (j + 1) (x - 1) (y - 1) := by
  obtain ⟨k, h1, h2, h3, h4⟩ := h
  exact ⟨k, h1, by omega, by omega, by omega⟩
theorem Far.test {j : Nat} {x y m : Int} (h : Far j x y) (hj : j ≤ 1000) (hm : m ≤ 1000) : m ≤ x ↔ m ≤ y := by
  obtain ⟨k, h1, h2, h3, h4⟩ := h
  rcases h4 with h4 | h4
  · subst h4; omega
  · omega
theorem far_mv {j : Nat} {c : Cl} {xs ys : List Int} (h : FarS j xs ys) (hv : c.ok = true) (hj : j ≤ 1000) (hl : Cl.le 1000 c) : FarS (j + 1) (mv c xs) (mv c ys) := by
  have ha := ci_lt (Cl.ok_a hv)
  have hb := ci_lt (Cl.ok_b hv)
  obtain ⟨hx, hy, h⟩ := h
  have fa : Far j (cn xs c.a) (cn ys c.a) := h _ ha
  have fb : Far j (cn xs c.b) (cn ys c.b) := h _ hb
  refine ⟨by rw [mv_len, hx], by rw [mv_len, hy], fun i hi => ?_⟩
  have fi := (h i hi).mono
  rcases Cl.kinds hv with e | e | ⟨m, e, h1⟩
  · rw [mv_all hx hv e, mv_all hy hv e, getD_set (by rw [List.length_set]; omega), getD_set (by omega), getD_set (by rw [List.length_set]; omega), getD_set (by omega)]
    split
    · exact Far.zero _
    · split
      · exact (fb.add fa).mono
      · exact fi
  · rw [mv_swap hx hv e, mv_swap hy hv e, getD_set (by rw [List.length_set]; omega), getD_set (by omega), getD_set (by rw [List.length_set]; omega), getD_set (by omega)]
    split
    · exact fa.mono
    · split
      · exact fb.mono
      · exact fi
  · have hm : m ≤ 1000 := hl m e
    have ht := fa.test hj hm
    rw [mv_num hx hv e, mv_num hy hv e]
    by_cases q : m ≤ cn ys c.a
    · rw [if_pos q, if_pos (ht.mpr q), getD_set (by rw [List.length_set]; omega), getD_set (by omega), getD_set (by rw [List.length_set]; omega), getD_set (by omega)]
      split
      · exact fb.up.mono
      · split
        · exact fa.down (by omega)
        · exact fi
    · rw [if_neg q, if_neg (fun z => q (ht.mp z))]
      exact fi
theorem far_mvs {D : List Cl} : ∀ {j : Nat} {xs ys : List Int}, FarS j xs ys → (∀ c ∈ D, c.ok = true) → (∀ c ∈ D, Cl.le 1000 c) → j + D.length ≤ 1000 → FarS (j + D.length) (mvs D xs) (mvs D ys) := by
  induction D with
  | nil => intro j xs ys h _ _ _; exact h
  | cons c D ih =>
    intro j xs ys h hv hl hj
    rw [List.length_cons] at hj ⊢
    have := ih (far_mv h (hv c List.mem_cons_self) (by omega) (hl c List.mem_cons_self)) (fun x hx => hv x (List.mem_cons_of_mem _ hx)) (fun x hx => hl x (List.mem_cons_of_mem _ hx)) (by omega)
    rw [show j + (D.length + 1) = j + 1 + D.length by omega]
    exact this
/-! ### data of ints -/
theorem lay_ints : ∀ ns : List Int, PyData.canLayAll0 (ns.map .int) = true
  | [] => rfl
  | n :: ns => by
    show (PyData.canLay0 (.int n) && PyData.canLayAll0 (ns.map .int)) = true
    rw [lay_ints ns]; rfl
theorem dep_ints : ∀ ns : List Int, PyData.depthAll (ns.map .int) = 0
  | [] => rfl
  | n :: ns => by
    show max (PyData.depth (.int n)) (PyData.depthAll (ns.map .int)) = 0
    rw [dep_ints ns]
    simp [PyData.depth]
theorem shaped_is (ns : List Int) : SeqAt.shaped (dIs ns) = true := by
  unfold SeqAt.shaped dIs
  rw [Bool.and_eq_true]
  refine ⟨by simp only [PyData.canLay0]; exact lay_ints ns, decide_eq_true ?_⟩
  simp only [PyData.depth]
  rw [dep_ints]
  decide
theorem eqv_is (ns : List Int) : PyData.eqv (dIs ns) (dIs ns) = true := SeqAt.eqv_refl _ (SeqAt.canLay_of_shaped (shaped_is ns))
theorem cut_from {xs : List V} (k : Nat) : cutV xs (some (k : Int)) none = xs.drop k := by
  unfold cutV
  rw [HT.sIx_nat, HT.sIx_none]
  by_cases h : k ≤ xs.length
  · rw [Nat.min_eq_left h, List.take_of_length_le (by rw [List.length_drop]; omega)]
  · rw [Nat.min_eq_right (by omega), List.drop_length, List.drop_eq_nil_of_le (by omega), List.take_nil]
theorem cut_upto {xs : List V} (k : Nat) : cutV xs none (some (k : Int)) = xs.take k := by
  unfold cutV
  rw [HT.sIx_nat, HT.sIx_none, List.drop_zero, Nat.sub_zero]
  by_cases h : k ≤ xs.length
  · rw [Nat.min_eq_left h]
  · rw [Nat.min_eq_right (by omega), List.take_of_length_le (Nat.le_refl _), List.take_of_length_le (by omega)]
section
variable {K : PySem.W.Frag} {H : Hp} {ts : List Addr} {D : List Cl} {p : Addr} {k : Nat}
theorem drill_drop (hl : ts.length = D.length) (hT : ∀ (i : Nat) (t : Addr) (c : Cl), ts[i]? = some t → D[i]? = some c → SqT K H t c.vs) (hp : SqL K H p ((ts.map V.ref).drop k)) : Drill K H p (D.drop k) :=
  ⟨ts.drop k, by rw [List.map_drop]; exact hp, by simp [hl], fun i t c h1 h2 => hT (k + i) t c (by rw [← List.getElem?_drop]; exact h1) (by rw [← List.getElem?_drop]; exact h2)⟩
theorem drill_take (hl : ts.length = D.length) (hT : ∀ (i : Nat) (t : Addr) (c : Cl), ts[i]? = some t → D[i]? = some c → SqT K H t c.vs) (hp : SqL K H p ((ts.map V.ref).take k)) : Drill K H p (D.take k) :=
  ⟨ts.take k, by rw [List.map_take]; exact hp, by simp [hl], fun i t c h1 h2 => by
    rw [List.getElem?_take] at h1 h2
    split at h1
    · next hk => rw [if_pos hk] at h2; exact hT i t c h1 h2
    · cases h1⟩
end
/-- the counts less 100000, where they are large -/
def big (n : Int) : Bool := decide (1000000 < n)
def less (n : Int) : Int := n - 100000 * (if big n = true then 1 else 0)
theorem far_less {ns : List Int} (h6 : ns.length = 6) (h : ∀ n ∈ ns, 0 ≤ n) : FarS 0 ns (ns.map less) := by
  refine ⟨h6, by rw [List.length_map, h6], fun i hi => ?_⟩
  obtain ⟨x, hx⟩ := get_of_lt (l := ns) (i := i) (by omega)
  have h0 := h x (List.mem_of_getElem? hx)
  rw [List.getD_eq_getElem?_getD, List.getD_eq_getElem?_getD, List.getElem?_map, hx]
  show Far 0 x (less x)
  unfold less
  by_cases hb : big x = true
  · have := of_decide_eq_true hb
    rw [if_pos hb]
    exact ⟨1, by decide, by omega, by omega, by omega⟩
  · rw [if_neg hb]
    exact ⟨0, by decide, by omega, by omega, by omega⟩
theorem sum_less : ∀ ns : List Int, (ns.map less).sum = ns.sum - 100000 * (((ns.map big).count true : Nat) : Int)
  | [] => rfl
  | n :: ns => by
    have ih := sum_less ns
    show less n + (ns.map less).sum = n + ns.sum - 100000 * (((big n :: ns.map big).count true : Nat) : Int)
    rw [ih, List.count_cons]
    unfold less
    cases e : big n
    · simp; omega
    · simp; omega
theorem less_nn {ns : List Int} (h : ∀ n ∈ ns, 0 ≤ n) : ∀ n ∈ ns.map less, 0 ≤ n := fun y hy => by
  obtain ⟨x, hx, rfl⟩ := List.mem_map.mp hy
  have h0 := h x hx
  unfold less
  by_cases hb : big x = true
  · have := of_decide_eq_true hb
    rw [if_pos hb]
    omega
  · rw [if_neg hb]
    omega
/-- pairs of a list of ints, item by item -/
def gapsOf (xs ys : List Int) : List Int := (xs.zip ys).map fun p => p.1 - p.2
theorem gaps_far {j : Nat} {xs ys : List Int} (h : FarS j xs ys) : ∀ g ∈ gapsOf xs ys, 0 ≤ g ∧ g % 100000 = 0 := fun g hg => by
  obtain ⟨hx, hy, h⟩ := h
  obtain ⟨⟨x, y⟩, hp, rfl⟩ := List.mem_map.mp hg
  obtain ⟨i, hi⟩ := List.getElem?_of_mem hp
  have hi6 : i < 6 := by
    have := lt_of_get hi
    rw [List.length_zip] at this
    omega
  obtain ⟨h1, h2⟩ := List.getElem?_zip_eq_some.mp hi
  obtain ⟨k, k0, e, _, _⟩ := h i hi6
  rw [List.getD_eq_getElem?_getD, List.getD_eq_getElem?_getD, h1, h2] at e
  have e' : x = y + 100000 * k := e
  show 0 ≤ x - y ∧ (x - y) % 100000 = 0
  omega
/-! ### promises -/
def sp_law_numbers (K : PySem.W.Frag) : Sp := fun vs H Q _ => ∃ (r : Addr) (c : Nat), vs = [.ref r] ∧ Rg H r c ∧ c < 900000000 ∧
  ∀ (H' : Hp) (p : Addr) (ns : List Int), Same (hid r H) (hid r H') → Rg H' r (c + 30) → H p = none → p ≠ r → H' p = some (.lst (ns.map V.int)) → ns.length = 6 → (∀ n ∈ ns, 0 ≤ n ∧ n ≤ 10 ^ 29) → Q (.ref p) H'
def sp_law_after (K : PySem.W.Frag) : Sp := fun vs H Q _ => ∃ (d a : Addr) (D : List Cl) (ns : List Int), vs = [.ref d, .ref a] ∧ Drill K H d D ∧ (∀ c ∈ D, c.ok = true) ∧
  SqL K H a (ns.map V.int) ∧ ns.length = 6 ∧ NewInts H (mvs D ns) Q
theorem abc_index {z : Str} (h : isC z = true) : ∃ rest, Builtin.Str.occurrences ("abcdef" : Str) z 0 ("abcdef" : Str).length 1 = ci z :: rest := by
  obtain ⟨c, hc, rfl⟩ := isC_iff.mp h
  have e : ∀ c ∈ colN, Builtin.Str.occurrences ("abcdef" : Str) (sg c) 0 ("abcdef" : Str).length 1 = [ci (sg c)] := by decide +kernel
  exact ⟨[], e c hc⟩
end Dr
/-! One person of a row: the colour by the counts ahead. -/
namespace Dr
open PySem L2
theorem filt_at {p : Nat → Bool} : ∀ {n i : Nat}, i < n → p i = true → ((List.range n).filter p)[((List.range i).filter p).length]? = some i
  | 0, _, h, _ => absurd h (Nat.not_lt_zero _)
  | n + 1, i, h, hp => by
    rw [List.range_succ, List.filter_append]
    by_cases e : i < n
    · have ih := filt_at e hp
      rw [List.getElem?_append_left (lt_of_get ih)]
      exact ih
    · have e' : i = n := by omega
      subst e'
      rw [List.getElem?_append_right (Nat.le_refl _), Nat.sub_self, List.filter_cons_of_pos hp]
      rfl
theorem posN_take {a : Nat} {l : List Nat} {i : Nat} (hi : i ≤ l.length) : (List.range i).filter (fun p => decide (l[p]? = some a)) = posN a (l.take i) := by
  unfold posN
  rw [List.length_take, Nat.min_eq_left hi]
  refine List.filter_congr fun p hp => ?_
  have hp' : p < i := List.mem_range.mp hp
  rw [List.getElem?_take, if_pos hp']
theorem posN_at {a : Nat} {l : List Nat} {i j : Nat} : (posN a l)[j]? = some i ↔ l[i]? = some a ∧ (l.take i).count a = j := by
  have fwd : ∀ {i : Nat}, l[i]? = some a → (posN a l)[(l.take i).count a]? = some i := fun {i} h => by
    have hi := lt_of_get h
    have := filt_at (p := fun p => decide (l[p]? = some a)) hi (decide_eq_true h)
    rw [posN_take (Nat.le_of_lt hi), posN_len] at this
    exact this
  constructor
  · intro h
    have h1 := posN_iff.mp (List.mem_of_getElem? h)
    exact ⟨h1, nd_ix (posN_nd a l) (fwd h1) h⟩
  · rintro ⟨h1, rfl⟩
    exact fwd h1
theorem setAll_at {b : Nat} : ∀ {ps l : List Nat} {i : Nat}, i < l.length → (setAll b l ps)[i]? = if i ∈ ps then some b else l[i]?
  | [], l, i, _ => by simp [setAll]
  | p :: ps, l, i, h => by
    show (setAll b (l.set p b) ps)[i]? = _
    rw [setAll_at (by rw [List.length_set]; exact h), List.getElem?_set]
    by_cases h1 : i ∈ ps
    · rw [if_pos h1, if_pos (List.mem_cons_of_mem _ h1)]
    · rw [if_neg h1]
      by_cases h2 : p = i
      · subst h2
        rw [if_pos rfl, if_pos h, if_pos List.mem_cons_self]
      · rw [if_neg h2, if_neg (fun q => by rcases List.mem_cons.mp q with e | e; exact h2 e.symm; exact h1 e)]
/-- what a person wears after a call: n wear the call's colour ahead -/
def stp (c : Cl) (n : Int) (x : Nat) : Nat :=
  if c.k.swap = true ∧ x = cc c.b then cc c.a else if x = cc c.a then (match c.k with
    | .s _ => cc c.b
    | .m m => if n = m - 1 then cc c.b else x) else x
theorem run1_at {c : Cl} {l : List Nat} {i x : Nat} (hv : c.ok = true) (hx : l[i]? = some x) : (run1 c l)[i]? = some (stp c ((l.take i).count (cc c.a)) x) := by
  have hab : cc c.a ≠ cc c.b := cc_ne (Cl.ok_a hv) (Cl.ok_b hv) (Cl.ok_ne hv)
  have hi := lt_of_get hx
  have pa : i ∈ posN (cc c.a) l ↔ x = cc c.a := by rw [posN_iff, hx]; exact ⟨fun e => Option.some.inj e, fun e => by rw [e]⟩
  unfold run1 stp
  rcases Cl.kinds hv with e | e | ⟨m, e, hm⟩
  · rw [e]
    dsimp only
    have es : ¬ (Kd.s "all").swap = true := by decide +kernel
    have g : ¬ ((Kd.s "all").swap = true ∧ x = cc c.b) := fun q => es q.1
    rw [if_neg (show ¬ ("all" : Str) = "swap" by decide +kernel), setAll_at hi, if_neg g, hx]
    by_cases q : x = cc c.a
    · rw [if_pos (pa.mpr q), if_pos q]
    · rw [if_neg (fun z => q (pa.mp z)), if_neg q]
  · rw [e]
    dsimp only
    have es : (Kd.s "swap").swap = true := by decide +kernel
    rw [if_pos rfl, setAll_at (by rw [List.length_map]; exact hi), List.getElem?_map, hx]
    by_cases q : x = cc c.a
    · rw [if_pos (pa.mpr q), if_neg (fun z => hab (q.symm.trans z.2)), if_pos q]
    · rw [if_neg (fun z => q (pa.mp z))]
      show some (if x = cc c.b then cc c.a else x) = _
      by_cases q2 : x = cc c.b
      · rw [if_pos q2, if_pos ⟨es, q2⟩]
      · rw [if_neg q2, if_neg (fun z => q2 z.2), if_neg q]
  · rw [e]
    dsimp only
    have es : ¬ (Kd.m m).swap = true := fun z => by cases z
    have g : ¬ ((Kd.m m).swap = true ∧ x = cc c.b) := fun q => es q.1
    rw [if_neg g, setAll_at hi, hx]
    have mem : i ∈ ((posN (cc c.a) l).drop (m - 1).toNat).take 1 ↔ x = cc c.a ∧ (((l.take i).count (cc c.a) : Nat) : Int) = m - 1 := by
      have h1 : i ∈ ((posN (cc c.a) l).drop (m - 1).toNat).take 1 ↔ (posN (cc c.a) l)[(m - 1).toNat]? = some i := by
        rw [List.take_one, List.head?_drop]
        cases (posN (cc c.a) l)[(m - 1).toNat]? with
        | none => simp
        | some y => simp; exact eq_comm
      rw [h1, posN_at, hx]
      constructor
      · rintro ⟨h2, h3⟩; exact ⟨Option.some.inj h2, by omega⟩
      · rintro ⟨h2, h3⟩; exact ⟨by rw [h2], by omega⟩
    by_cases q : x = cc c.a
    · rw [if_pos q]
      by_cases q2 : (((l.take i).count (cc c.a) : Nat) : Int) = m - 1
      · rw [if_pos (mem.mpr ⟨q, q2⟩), if_pos q2]
      · rw [if_neg (fun z => q2 (mem.mp z).2), if_neg q2]
    · rw [if_neg (fun z => q (mem.mp z).1), if_neg q]
theorem run1_take {c : Cl} {l : List Nat} (hv : c.ok = true) (p : Nat) : (run1 c l).take p = run1 c (l.take p) := by
  refine List.ext_getElem? fun i => ?_
  by_cases h : i < p ∧ i < l.length
  · obtain ⟨x, hx⟩ := get_of_lt h.2
    have h2 : (l.take p)[i]? = some x := by rw [List.getElem?_take, if_pos h.1]; exact hx
    rw [List.getElem?_take, if_pos h.1, run1_at hv hx, run1_at hv h2, List.take_take, Nat.min_eq_left (by omega)]
  · rw [List.getElem?_eq_none (by rw [List.length_take, run1_len]; omega), List.getElem?_eq_none (by rw [run1_len, List.length_take]; omega)]
theorem runs_take {D : List Cl} (hv : ∀ c ∈ D, c.ok = true) (p : Nat) : ∀ l, (runs D l).take p = runs D (l.take p) := by
  induction D with
  | nil => intro l; rfl
  | cons c D ih =>
    intro l
    show (runs D (run1 c l)).take p = runs D (run1 c (l.take p))
    rw [ih (fun x hx => hv x (List.mem_cons_of_mem _ hx)), run1_take (hv c List.mem_cons_self)]
/-! ### colour_after -/
def one (c : Cl) (ns : List Int) (w : Str) : Str :=
  if c.k.swap = true ∧ w = c.b then c.a else if w = c.a then (match c.k with
    | .s _ => c.b
    | .m m => if cn ns c.a = m - 1 then c.b else w) else w
def ones (D : List Cl) (p : List Int × Str) : List Int × Str := D.foldl (fun p c => (mv c p.1, one c p.1 p.2)) p
theorem ones_fst (D : List Cl) : ∀ p, (ones D p).1 = mvs D p.1 := by
  induction D with
  | nil => intro p; rfl
  | cons c D ih => intro p; exact ih _
theorem ones_more {D : List Cl} {i : Nat} {c : Cl} {p : List Int × Str} (h : D[i]? = some c) : ones (D.take (i + 1)) p = (mv c (ones (D.take i) p).1, one c (ones (D.take i) p).1 (ones (D.take i) p).2) := by
  rw [take_one h]
  unfold ones
  rw [List.foldl_append]; rfl
theorem one_isC {c : Cl} {ns : List Int} {w : Str} (hv : c.ok = true) (h : isC w = true) : isC (one c ns w) = true := by
  have ha := Cl.ok_a hv
  have hb := Cl.ok_b hv
  unfold one
  split
  · exact ha
  · split
    · split
      · exact hb
      · split
        · exact hb
        · exact h
    · exact h
theorem ones_isC {D : List Cl} (hv : ∀ c ∈ D, c.ok = true) : ∀ {p : List Int × Str}, isC p.2 = true → isC (ones D p).2 = true := by
  induction D with
  | nil => intro p h; exact h
  | cons c D ih =>
    intro p h
    exact ih (fun x hx => hv x (List.mem_cons_of_mem _ hx)) (p := (mv c p.1, one c p.1 p.2)) (one_isC (hv c List.mem_cons_self) h)
theorem sg_cc_iff {z : Str} {x : Nat} (h : isC z = true) : sg x = z ↔ x = cc z := by
  constructor
  · rintro rfl; rfl
  · rintro rfl; exact sg_cc h
theorem one_stp {c : Cl} {l : List Nat} {x : Nat} (hv : c.ok = true) : one c (tally l) (sg x) = sg (stp c (l.count (cc c.a)) x) := by
  have ha := Cl.ok_a hv
  have hb := Cl.ok_b hv
  unfold one stp
  rw [tally_at ha]
  simp only [sg_cc_iff ha, sg_cc_iff hb]
  by_cases h1 : c.k.swap = true ∧ x = cc c.b
  · rw [if_pos h1, if_pos h1, sg_cc ha]
  · rw [if_neg h1, if_neg h1]
    by_cases h2 : x = cc c.a
    · rw [if_pos h2, if_pos h2]
      cases c.k with
      | s z => exact (sg_cc hb).symm
      | m m =>
        dsimp only
        split
        · exact (sg_cc hb).symm
        · rfl
    · rw [if_neg h2, if_neg h2]
theorem ones_runs {D : List Cl} (hv : ∀ c ∈ D, c.ok = true) : ∀ {l : List Nat} {p x : Nat}, l[p]? = some x → ∃ y, (runs D l)[p]? = some y ∧ (ones D (tally (l.take p), sg x)).2 = sg y := by
  induction D with
  | nil => intro l p x h; exact ⟨x, h, rfl⟩
  | cons c D ih =>
    intro l p x h
    have hc := hv c List.mem_cons_self
    have h1 := run1_at hc h
    obtain ⟨y, hy, e⟩ := ih (fun x hx => hv x (List.mem_cons_of_mem _ hx)) h1
    refine ⟨y, hy, ?_⟩
    show (ones D (mv c (tally (l.take p)), one c (tally (l.take p)) (sg x))).2 = sg y
    rw [← tally_run1 hc, one_stp hc, ← run1_take hc]
    exact e
/-! ### a person behind a great crowd -/
def crowd1 (c : Cl) (w : Str) : Str :=
  match c.k with
  | .m _ => w
  | .s z => if z = "all" then (if w = c.a then c.b else w) else if w = c.a ∨ w = c.b then (if w = c.a then c.b else c.a) else w
def crowds (D : List Cl) (w : Str) : Str := D.foldl (fun w c => crowd1 c w) w
theorem crowds_more {D : List Cl} {i : Nat} {c : Cl} {w : Str} (h : D[i]? = some c) : crowds (D.take (i + 1)) w = crowd1 c (crowds (D.take i) w) := by
  rw [take_one h]
  unfold crowds
  rw [List.foldl_append]; rfl
theorem crowd_step {c : Cl} {ns : List Int} {w : Str} {b : Int} (hv : c.ok = true) (hl : Cl.le 20 c) (h6 : ns.length = 6) (h0 : ∀ n ∈ ns, 0 ≤ n) (hw : isC w = true) (hb : b ≤ cn ns w) (h21 : 21 ≤ b) :
    one c ns w = crowd1 c w ∧ b - 1 ≤ cn (mv c ns) (crowd1 c w) ∧ isC (crowd1 c w) = true := by
  have ha := Cl.ok_a hv
  have hcb := Cl.ok_b hv
  have la := ci_lt ha
  have lb := ci_lt hcb
  have lw := ci_lt hw
  have hne := Cl.ok_ne hv
  have nab := ci_inj ha hcb hne
  have nn := nn_iff.mp h0
  have n1 : 0 ≤ cn ns c.a := nn _
  have n2 : 0 ≤ cn ns c.b := nn _
  have n3 : 0 ≤ cn ns w := nn _
  rcases Cl.kinds hv with e | e | ⟨m, e, hm⟩
  · have es : ¬ c.k.swap = true := by rw [e]; decide +kernel
    have e1 : crowd1 c w = if w = c.a then c.b else w := by unfold crowd1; rw [e]; dsimp only; rw [if_pos rfl]
    have e2 : one c ns w = if w = c.a then c.b else w := by unfold one; rw [if_neg (fun q => es q.1), e]
    rw [e1, e2, mv_all h6 hv e]
    refine ⟨rfl, ?_, ?_⟩
    · by_cases q : w = c.a
      · subst q
        rw [if_pos rfl]
        unfold cn at *
        rw [getD_set (by rw [List.length_set]; omega), if_neg nab, getD_set (by omega), if_pos rfl]
        omega
      · rw [if_neg q]
        have na := ci_inj hw ha q
        unfold cn at *
        rw [getD_set (by rw [List.length_set]; omega), if_neg (Ne.symm na), getD_set (by omega)]
        split
        · next q2 => rw [← q2] at hb; omega
        · omega
    · split
      · exact hcb
      · exact hw
  · have es : c.k.swap = true := by rw [e]; decide +kernel
    have e1 : crowd1 c w = if w = c.a ∨ w = c.b then (if w = c.a then c.b else c.a) else w := by unfold crowd1; rw [e]; dsimp only; rw [if_neg (by decide +kernel)]
    have e2 : one c ns w = if w = c.b then c.a else if w = c.a then c.b else w := by
      unfold one
      by_cases q : w = c.b
      · rw [if_pos ⟨es, q⟩, if_pos q]
      · rw [if_neg (fun z => q z.2), if_neg q, e]
    have e3 : one c ns w = crowd1 c w := by
      rw [e1, e2]
      by_cases q : w = c.b
      · have q2 : ¬ w = c.a := fun z => hne (z.symm.trans q)
        rw [if_pos q, if_pos (.inr q), if_neg q2]
      · by_cases q2 : w = c.a
        · rw [if_neg q, if_pos q2, if_pos (.inl q2), if_pos q2]
        · rw [if_neg q, if_neg q2, if_neg (by rintro (z | z); exact q2 z; exact q z)]
    refine ⟨e3, ?_, by rw [← e3]; exact one_isC hv hw⟩
    rw [← e3, e2, mv_swap h6 hv e]
    by_cases q : w = c.b
    · rw [if_pos q]
      subst q
      unfold cn at *
      rw [getD_set (by rw [List.length_set]; omega), if_neg (Ne.symm nab), getD_set (by omega), if_pos rfl]
      omega
    · rw [if_neg q]
      by_cases q2 : w = c.a
      · rw [if_pos q2]
        subst q2
        unfold cn at *
        rw [getD_set (by rw [List.length_set]; omega), if_pos rfl]
        omega
      · rw [if_neg q2]
        have na := ci_inj hw ha q2
        have nb := ci_inj hw hcb q
        unfold cn at *
        rw [getD_set (by rw [List.length_set]; omega), if_neg (Ne.symm nb), getD_set (by omega), if_neg (Ne.symm na)]
        omega
  · have es : ¬ c.k.swap = true := by rw [e]; exact fun z => by cases z
    have e1 : crowd1 c w = w := by unfold crowd1; rw [e]
    have h20 : m ≤ 20 := hl m e
    have e2 : one c ns w = w := by
      unfold one
      rw [if_neg (fun q => es q.1), e]
      by_cases q : w = c.a
      · rw [if_pos q]
        dsimp only
        subst q
        rw [if_neg (by omega)]
      · rw [if_neg q]
    rw [e1, e2, mv_num h6 hv e]
    refine ⟨rfl, ?_, hw⟩
    split
    · unfold cn at *
      rw [getD_set (by rw [List.length_set]; omega), getD_set (by omega)]
      split
      · next q2 => rw [← q2] at hb; omega
      · split
        · next q2 => rw [← q2] at hb; omega
        · omega
    · omega
theorem crowd_runs {D : List Cl} : ∀ {ns : List Int} {w : Str} {b : Int}, (∀ c ∈ D, c.ok = true) → (∀ c ∈ D, Cl.le 20 c) → ns.length = 6 → (∀ n ∈ ns, 0 ≤ n) → isC w = true → b ≤ cn ns w → 21 + (D.length : Int) ≤ b → (ones D (ns, w)).2 = crowds D w := by
  induction D with
  | nil => intro ns w b _ _ _ _ _ _ _; rfl
  | cons c D ih =>
    intro ns w b hv hl h6 h0 hw hb h21
    rw [List.length_cons] at h21
    obtain ⟨h1, h2, h3⟩ := crowd_step (hv c List.mem_cons_self) (hl c List.mem_cons_self) h6 h0 hw hb (by omega)
    show (ones D (mv c ns, one c ns w)).2 = crowds D (crowd1 c w)
    rw [h1]
    exact ih (fun x hx => hv x (List.mem_cons_of_mem _ hx)) (fun x hx => hl x (List.mem_cons_of_mem _ hx)) (by rw [mv_len, h6]) (mv_nn h6 (hv c List.mem_cons_self) h0) h3 h2 (by omega)
theorem in_two {x a b : Str} : (if (false : Bool) = true then !inV (.str x) [.str a, .str b] else inV (.str x) [.str a, .str b]) = decide (x = a ∨ x = b) := by
  rw [if_neg (by decide)]
  have := inV_str x [a, b]
  rw [show [V.str a, V.str b] = [a, b].map V.str from rfl, this]
  congr 1
  simp
theorem one_swap {c : Cl} {ns : List Int} {w : Str} (e : c.k = .s "swap") : one c ns w = if w = c.b then c.a else if w = c.a then c.b else w := by
  have es : c.k.swap = true := by rw [e]; decide +kernel
  unfold one
  by_cases q : w = c.b
  · rw [if_pos ⟨es, q⟩, if_pos q]
  · rw [if_neg (fun z => q z.2), if_neg q, e]
theorem one_all {c : Cl} {ns : List Int} {w : Str} (e : c.k = .s "all") : one c ns w = if w = c.a then c.b else w := by
  have es : ¬ c.k.swap = true := by rw [e]; decide +kernel
  unfold one; rw [if_neg (fun q => es q.1), e]
theorem one_num {c : Cl} {ns : List Int} {w : Str} {m : Int} (e : c.k = .m m) : one c ns w = if w = c.a then (if cn ns c.a = m - 1 then c.b else w) else w := by
  have es : ¬ c.k.swap = true := by rw [e]; exact fun z => by cases z
  unfold one; rw [if_neg (fun q => es q.1), e]
theorem crowd_all {c : Cl} {w : Str} (e : c.k = .s "all") : crowd1 c w = if w = c.a then c.b else w := by unfold crowd1; rw [e]; dsimp only; rw [if_pos rfl]
theorem crowd_swap {c : Cl} {w : Str} (e : c.k = .s "swap") : crowd1 c w = if w = c.a ∨ w = c.b then (if w = c.a then c.b else c.a) else w := by unfold crowd1; rw [e]; dsimp only; rw [if_neg (by decide +kernel)]
theorem crowd_num {c : Cl} {w : Str} {m : Int} (e : c.k = .m m) : crowd1 c w = w := by unfold crowd1; rw [e]
theorem swap_ne_all : ¬ (V.str "swap" = V.str "all") := fun z => absurd (V.str.inj z) (by decide +kernel)
theorem all_ne_swap : ¬ (V.str "all" = V.str "swap") := fun z => absurd (V.str.inj z) (by decide +kernel)
theorem cutS_upto (z : Str) (k : Nat) : (cutS z none (some (k : Int))).cps.toList = z.cps.toList.take k := by
  unfold cutS
  rw [HT.sIx_nat, HT.sIx_none]
  have e : z.length = z.cps.toList.length := by show z.cps.size = _; simp
  show (z.cps.toList.drop 0).take (min k z.length - 0) = _
  rw [List.drop_zero, Nat.sub_zero, e]
  by_cases h : k ≤ z.cps.toList.length
  · rw [Nat.min_eq_left h]
  · rw [Nat.min_eq_right (by omega), List.take_of_length_le (Nat.le_refl _), List.take_of_length_le (by omega)]
/-! ### data of texts -/
def dSs (zs : List Str) : PyData := .list (zs.map .str)
theorem dp_strs {K : PySem.W.Frag} {H : Hp} : ∀ zs : List Str, DpAll K H (zs.map V.str) (zs.map .str)
  | [] => .nil
  | z :: zs => .cons (.str z) (dp_strs zs)
theorem dp_ss {K : PySem.W.Frag} {H : Hp} {a : Addr} {zs : List Str} (h : SqL K H a (zs.map V.str)) : Dp K H (.ref a) (dSs zs) := .lst h (dp_strs zs)
theorem dep_strs : ∀ zs : List Str, PyData.depthAll (zs.map .str) = 0
  | [] => rfl
  | z :: zs => by
    show max (PyData.depth (.str z)) (PyData.depthAll (zs.map .str)) = 0
    rw [dep_strs zs]
    simp [PyData.depth]
theorem ok_col {z : Str} (h : isC z = true) : PyData.strOk z = true := by
  obtain ⟨c, hc, rfl⟩ := isC_iff.mp h
  have e : ∀ c ∈ colN, PyData.strOk (sg c) = true := by decide +kernel
  exact e c hc
theorem lay_strs : ∀ zs : List Str, (∀ z ∈ zs, isC z = true) → PyData.canLayAll0 (zs.map .str) = true
  | [], _ => rfl
  | z :: zs, h => by
    show (PyData.canLay0 (.str z) && PyData.canLayAll0 (zs.map .str)) = true
    rw [lay_strs zs fun x hx => h x (List.mem_cons_of_mem _ hx)]
    simp only [PyData.canLay0, Bool.and_true]
    exact ok_col (h z List.mem_cons_self)
theorem shaped_ss {zs : List Str} (h : ∀ z ∈ zs, isC z = true) : SeqAt.shaped (dSs zs) = true := by
  unfold SeqAt.shaped dSs
  rw [Bool.and_eq_true]
  refine ⟨by simp only [PyData.canLay0]; exact lay_strs zs h, decide_eq_true ?_⟩
  simp only [PyData.depth]
  rw [dep_strs]
  decide
theorem eqv_ss {zs : List Str} (h : ∀ z ∈ zs, isC z = true) : PyData.eqv (dSs zs) (dSs zs) = true := SeqAt.eqv_refl _ (SeqAt.canLay_of_shaped (shaped_ss h))
theorem tally_nn (l : List Nat) : ∀ n ∈ tally l, 0 ≤ n := fun n hn => by
  unfold tally at hn
  obtain ⟨c, _, rfl⟩ := List.mem_map.mp hn
  omega
/-! ### promises -/
def sp_check_colour (K : PySem.W.Frag) : Sp := fun vs H Q _ => ∃ z, vs = [.str z] ∧ isC z = true ∧ Q .non H
def sp_colour_after_call (K : PySem.W.Frag) : Sp := fun vs H Q _ => ∃ (t : Addr) (c : Cl) (a : Addr) (ns : List Int) (w : Str), vs = [.ref t, .ref a, .str w] ∧ SqT K H t c.vs ∧ c.ok = true ∧
  SqL K H a (ns.map V.int) ∧ ns.length = 6 ∧ isC w = true ∧ Q (.str (one c ns w)) H
def sp_colour_after (K : PySem.W.Frag) : Sp := fun vs H Q _ => ∃ (d a : Addr) (D : List Cl) (ns : List Int) (w : Str), vs = [.ref d, .ref a, .str w] ∧ Drill K H d D ∧ (∀ c ∈ D, c.ok = true) ∧
  SqL K H a (ns.map V.int) ∧ ns.length = 6 ∧ (∀ n ∈ ns, 0 ≤ n) ∧ isC w = true ∧ ∀ H', Same H H' → Q (.str (ones D (ns, w)).2) H'
def sp_law_crowd_colour (K : PySem.W.Frag) : Sp := fun vs H Q _ => ∃ (d : Addr) (D : List Cl) (w : Str), vs = [.ref d, .str w] ∧ Drill K H d D ∧ (∀ c ∈ D, c.ok = true) ∧ isC w = true ∧
  ∀ H', Same H H' → Q (.str (crowds D w)) H'
end Dr
/-! Own errors with one field, value: made, raised; what a def lets out. -/
namespace Dr
open PySem L2
/-- the def at place j of a class's body -/
def meth (st : Stmt) (j : Nat) : Stmt := match st with
  | .ClassDef (body := b) .. => b.getD j (.Pass ⟨0, 0, 0, 0⟩)
  | _ => .Pass ⟨0, 0, 0, 0⟩
def sp_init (C : Addr) : Sp := fun vs H Q _ => ∃ (e : Addr) (v : V), vs = [.ref e, v] ∧ H e = some (exo e C none) ∧
  ∀ dx, H dx = none → dx ≠ e → Q .non (upd (upd H dx (exd dx [("value", v)])) e (exo e C (some dx)))
structure Own (K : PySem.W.Frag) (mg : Str → Option Value) (x qual : String) (st : Stmt) (C fI : Addr) (fd : FuncData) : Prop where
  g : mg x = some (.ref C)
  T : OexC K C
  iC : PySem.W.findIn K (.ref C) "__init__" = some (some (.ref fI))
  tI : PySem.W.typeIn K (.ref fI) = some (.type "function")
  no : PySem.W.findIn K (.ref C) "value" = some none
  F : L2.Fun K "__init__" qual st fI fd
  b : Binds K fd ["self", "value"] []
section
variable {P : Program} {w : World} {K : PySem.W.Frag} {mg : Str → Option Value} {base : Heap}
theorem ok_init {x qual : String} {st : Stmt} {C fI : Addr} {fd : FuncData} {p1 p2 p3 p4 : Pos} (O : Own K mg x qual st C fI fd)
    (SC : FnScope ["self", "value"] ["self", "value"] (defScope st)) (hb : defBody st = [.Assign [.Attribute (.Name "self" p1) "value" p2] (.Name "value" p3) p4])
    (hl1 : (defScope st).names.lookup ("self" : Str) = some .local) (hl2 : (defScope st).names.lookup ("value" : Str) = some .local)
    (hs : ∀ env : Env, swapsWith (.Name "value" p3) (some (.Attribute (.Name "self" p1) "value" p2)) p4.line env = pure false) :
    FnOk P w K mg base CX0 1 fI fd ["self", "value"] (sp_init C) := by
  refine O.F.ok SC (fun vs H Q E h => ?_) (fun cdv A outer s H vs Q E hr h => ?_)
  · obtain ⟨e, v, rfl, _⟩ := h
    rfl
  · obtain ⟨e, v, rfl, he, q⟩ := h
    rw [hb]
    refine ⟨_, pss_one (ps_ost (pv 0 rfl (.inl hl1)) (pv 1 rfl (.inl hl2)) (hs _)), ?_⟩
    refine ⟨_, rfl, _, rfl, e, C, rfl, O.T, O.no, .inl ⟨he, fun dx hdx hne => ?_⟩⟩
    exact q dx hdx hne
/-- what a made error leaves -/
theorem mk_out {C : Addr} {H1 : Hp} {v : V} {Q : XK} (q : ∀ (d : Addr) (H' : Hp), Same H1 H' → H1 d = none → H' d = some (.xd [(("value" : Str), v)]) → Q (.ref C) (some d) H') :
    [v].length ≤ 1000 ∧ ∀ a, H1 a = none → sp_init C (.ref a :: ([v] ++ [])) (upd H1 a (exo a C none)) (fun v2 H2 => v2 = .non ∧ ∃ (d : Addr) (fs : List (Str × V)), H2 a = some (exo a C (some d)) ∧ H2 d = some (exd d fs) ∧ H1 d = none ∧ Q (.ref C) (some d) (upd (del H2 a) d (.xd fs))) (fun _ _ _ => False) := by
  refine ⟨by show 1 ≤ 1000; decide, fun a ha => ⟨a, v, rfl, upd_same, fun dx hdx hne => ?_⟩⟩
  have hdx1 : H1 dx = none := by rw [upd_ne hne] at hdx; exact hdx
  refine ⟨rfl, dx, _, upd_same, by rw [upd_ne hne]; exact upd_same, hdx1, q dx _ (fun b u e => ?_) hdx1 upd_same⟩
  have nb : b ≠ a := ne_of_none e ha
  have nd : b ≠ dx := ne_of_none e hdx1
  rw [upd_ne nd, del_ne nb, upd_ne nb, upd_ne nd, upd_ne nb]
  exact e
end
section
variable {X : Cx} {C fI : Addr} {fd : FuncData} {x qual : String} {st : Stmt}
/-- raise X(e) -/
theorem ps_raiseOwn {a : Expr} {ta : TA} {W : WX} {p pos pos2 : Pos} (hc : X.calm = true) (O : Own X.K X.mg x qual st C fI fd) (G : FnOk X.prog X.w X.K X.mg X.base CX0 1 fI fd ["self", "value"] (sp_init C)) (hr : Room 2 X.A) (tk : Takes X W)
    (ha : PA X [a] ta) (hg : Gl X x) (hdb : ((x : Str) == ("__debug__" : Str)) = false := by decide)
    (he : starEach (a :: []) X.env = (false, eval a X.env) :: starEach [] X.env := by rfl) (hpl : (backTo pos (starEach [] X.env)).any (·.1) = false := by rfl) :
    PS X (.Raise (some (.Call (.Name x p) [a] [] pos)) none pos2) (fun _ σ H => tMkO C (sp_init C) [] ta σ H fun cls d H' => W cls d σ H') :=
  ps_raise hc tk (pmk_oex O.T O.iC O.tI G hr O.b .nil pass0 hg O.g ha hdb he hpl)
end
/-- an error of the class at C, with v in it, goes out -/
def Out (H : Hp) (E : XK) (C : Addr) (v : V) : Prop := ∀ (d : Addr) (H' : Hp), Same H H' → H d = none → H' d = some (.xd [(("value" : Str), v)]) → E (.ref C) (some d) H'
theorem Out.from {H H1 : Hp} {E : XK} {C : Addr} {v : V} (h : Out H E C v) (S : Same H H1) : Out H1 E C v := fun d H' S' f e => h d H' (S.trans S') (S.free f) e
end Dr
/-! ### the checks, both ends -/
namespace Dr
open PySem L2
theorem first_some {α : Type} {p : α → Bool} : ∀ {l : List α} {i : Nat} {x : α}, l[i]? = some x → p x = true → (∀ j y, j < i → l[j]? = some y → p y = false) → l.findIdx? p = some i
  | [], _, _, h, _, _ => by simp at h
  | a :: l, 0, x, h, hp, _ => by
    have e : a = x := Option.some.inj h
    rw [List.findIdx?_cons, e, hp]
    rfl
  | a :: l, i + 1, x, h, hp, hb => by
    have ih := first_some (l := l) (i := i) (x := x) (by simpa using h) hp fun j y hj hy => hb (j + 1) y (by omega) (by simpa using hy)
    rw [List.findIdx?_cons, hb 0 a (by omega) rfl, ih]
    rfl
theorem first_none {α : Type} {p : α → Bool} {l : List α} (h : ∀ (j : Nat) (y : α), l[j]? = some y → p y = false) : l.findIdx? p = none := by
  rw [List.findIdx?_eq_none_iff]
  intro x hx
  obtain ⟨j, hj⟩ := List.getElem?_of_mem hx
  exact h j x hj
theorem none_first {α : Type} {p : α → Bool} {l : List α} (h : l.findIdx? p = none) : ∀ x ∈ l, p x = false := by
  rw [List.findIdx?_eq_none_iff] at h
  exact h
def badZ (z : Str) : Option Nat := z.cps.toList.findIdx? fun c => !isC (sg c)
def badD (D : List Cl) : Option Nat := D.findIdx? fun c => !c.ok
def badN (ns : List Int) : Option V := if ns.length = 6 then (ns.findIdx? fun n => decide (n < 0)).map fun i => .int (i : Nat) else some .non
theorem badZ_none {z : Str} (h : badZ z = none) : ∀ c ∈ z.cps.toList, c ∈ colN := fun c hc => by
  have := none_first h c hc
  have e : isC (sg c) = true := by simpa using this
  obtain ⟨x, hx, q⟩ := isC_iff.mp e
  rw [sg_inj q]; exact hx
theorem badD_none {D : List Cl} (h : badD D = none) : ∀ c ∈ D, c.ok = true := fun c hc => by
  have := none_first h c hc
  simpa using this
theorem badN_none {ns : List Int} (h : badN ns = none) : ns.length = 6 ∧ ∀ n ∈ ns, 0 ≤ n := by
  unfold badN at h
  by_cases e : ns.length = 6
  · rw [if_pos e] at h
    refine ⟨e, fun n hn => ?_⟩
    have h2 : ns.findIdx? (fun n => decide (n < 0)) = none := by
      cases q : ns.findIdx? (fun n => decide (n < 0)) with
      | none => rfl
      | some i => rw [q] at h; cases h
    have := none_first h2 n hn
    have := of_decide_eq_false this
    omega
  · rw [if_neg e] at h; cases h
/-- both ends of a check -/
def Ends2 (H : Hp) (Q : VK) (E : XK) (C : Addr) (b : Option V) : Prop := (∀ v, b = some v → Out H E C v) ∧ (b = none → ∀ H', Same H H' → Q .non H')
def iV (b : Option Nat) : Option V := b.map fun i => .int (i : Nat)
theorem iV_some {b : Option Nat} {v : V} (h : iV b = some v) : ∃ i, b = some i ∧ V.int (i : Nat) = v := by
  cases b with
  | none => cases h
  | some i => exact ⟨i, rfl, Option.some.inj h⟩
theorem iV_none {b : Option Nat} (h : iV b = none) : b = none := by
  cases b with
  | none => rfl
  | some i => cases h
def sx_check_colour (K : PySem.W.Frag) (C : Addr) : Sp := fun vs H Q E => ∃ z, vs = [.str z] ∧ (isC z = true → Q .non H) ∧ (isC z = false → Out H E C (.str z))
def sx_check_row (K : PySem.W.Frag) (C : Addr) : Sp := fun vs H Q E => ∃ z, vs = [.str z] ∧ Ends2 H Q E C (iV (badZ z))
def sx_check_drill (K : PySem.W.Frag) (C : Addr) : Sp := fun vs H Q E => ∃ (a : Addr) (D : List Cl), vs = [.ref a] ∧ Drill K H a D ∧ Ends2 H Q E C (iV (badD D))
def sx_check_counts (K : PySem.W.Frag) (C : Addr) : Sp := fun vs H Q E => ∃ (a : Addr) (ns : List Int), vs = [.ref a] ∧ SqL K H a (ns.map V.int) ∧ Ends2 H Q E C (badN ns)
def sx_count_colours (K : PySem.W.Frag) (C : Addr) : Sp := fun vs H Q E => ∃ z : Str, vs = [.str z] ∧ (∀ i, badZ z = some i → Out H E C (.int (i : Nat))) ∧ (badZ z = none → NewInts H (tally z.cps.toList) Q)
def sx_run_on_counts (K : PySem.W.Frag) (C1 C2 : Addr) : Sp := fun vs H Q E => ∃ (d a : Addr) (D : List Cl) (ns : List Int), vs = [.ref d, .ref a] ∧ Drill K H d D ∧ SqL K H a (ns.map V.int) ∧
  (∀ i, badD D = some i → Out H E C1 (.int (i : Nat))) ∧ (badD D = none → ∀ v, badN ns = some v → Out H E C2 v) ∧ (badD D = none → badN ns = none → NewInts H (mvs D ns) Q)
def sx_colour_after (K : PySem.W.Frag) (C1 C2 C3 : Addr) : Sp := fun vs H Q E => ∃ (d a : Addr) (D : List Cl) (ns : List Int) (w : Str), vs = [.ref d, .ref a, .str w] ∧ Drill K H d D ∧ SqL K H a (ns.map V.int) ∧
  (∀ i, badD D = some i → Out H E C1 (.int (i : Nat))) ∧ (badD D = none → ∀ v, badN ns = some v → Out H E C2 v) ∧ (badD D = none → badN ns = none → isC w = false → Out H E C3 (.str w)) ∧
  (badD D = none → badN ns = none → isC w = true → ∀ H', Same H H' → Q (.str (ones D (ns, w)).2) H')
end Dr
/-! A caught error of one of several own classes: isinstance, its field. -/
namespace Dr
open PySem L2
structure ErrC (K : PySem.W.Frag) (C : Addr) : Prop where
  X : XfC K C
  no : PySem.W.findIn K (.ref C) "value" = some none
  cl : (PySem.W.clsIn K C).isSome = true
  ha : PySem.W.findIn K (.ref C) "__class__" = some (some (.builtin "object.__class__"))
  hn : PySem.W.specialIn K (.builtin "object.__class__") "__get__" = some (some (.builtin "getset_descriptor.__get__"))
  ht : PySem.W.takesIn K (.builtin "object.__class__") = some true
  hm : PySem.W.mroIn K C (.type "object") = some true
/-- isinstance(e, c), e the error that the suite holds, of the class cls, with the dict d -/
def rIsX (K : PySem.W.Frag) (cls : Value) (d : Option Addr) (a : Addr) : List V → Hp → VK → Prop := fun xs H Q => ∃ (C dd : Addr) (fs : List (Str × V)) (c : V) (u : Value) (b : Bool), xs = [.ref a, c] ∧ cls = .ref C ∧ ErrC K C ∧
  d = some dd ∧ H dd = some (.xd fs) ∧ ClsV c u ∧ PySem.W.kitOne K (.ref C) u = some b ∧ Q (.bl b) H
def rIsXT (K : PySem.W.Frag) (cls : Value) (d : Option Addr) (a : Addr) : List V → Hp → VK → Prop := fun xs H Q => ∃ (C dd tp : Addr) (fs : List (Str × V)) (cs : List V) (us : List Value) (b : Bool), xs = [.ref a, .ref tp] ∧ cls = .ref C ∧ ErrC K C ∧
  d = some dd ∧ H dd = some (.xd fs) ∧ H tp = some (.tup cs) ∧ Paired ClsV cs us ∧ PySem.W.kitAny K (.ref C) us = some b ∧ Q (.bl b) H
section
theorem mt_indexK {X : Cx} {K : PySem.W.Frag} (h : X.K = K) : MtR X "list.index" (rIndex K) := h ▸ mt_index
variable {X : Cx} {K : PySem.W.Frag} {a : Addr} {oe : Obj} {cls : Value} {d : Option Addr} {pn : List (Addr × Obj)}
theorem suite_inst {pins : List (Addr × Obj)} {σ : St} {H : Hp} {s : Shared} {C dd : Addr} {fs : List (Str × V)} (I : Inv (X.suite a ((a, oe) :: pn)) pins σ H s) (hz : Zc cls d oe) (hf : ∃ vs, oe.data = .fields vs) (ec : cls = .ref C) (ed : d = some dd) (hd : H dd = some (.xd fs)) :
    ∃ od : Obj, PySem.W.InstAt s.heap a oe C (some od) := by
  subst ec
  subst ed
  obtain ⟨ha, _⟩ := I.pin (a, oe) (List.mem_append_left _ List.mem_cons_self)
  obtain ⟨vs, hv⟩ := hf
  have hx : ObjOk X.prog X.w H s.heap dd (.xd fs) := I.hok dd _ hd
  obtain ⟨mA, hns, hr⟩ := hx
  obtain ⟨od, ho, hl⟩ := lookIn_ns hns
  exact ⟨od, ha, hz.1, by unfold PySem.W.notCls; rw [hv] <;> rfl, by rw [hz.2]; exact ho⟩
theorem call_isX (hK : X.K = K) (hz : Zc cls d oe) (hf : ∃ vs, oe.data = .fields vs) : CallR (X.suite a ((a, oe) :: pn)) (.builtin "isinstance") (rIsX K cls d a) := by
  subst hK
  intro pins s σ H xs us Q I r h
  obtain ⟨C, dd, fs, c, u, b, rfl, ec, T, ed, hd, k, e, q⟩ := h
  obtain ⟨u1, u2, rfl, r1, r2⟩ := vals2 r
  have e2 := k.eq r2
  subst e2
  cases (show u1 = Value.ref a from r1)
  obtain ⟨od, J⟩ := suite_inst I hz hf ec ed hd
  exact PySem.W.kia_one (PySem.W.kitx_exc T.cl T.X.ga T.X.gg T.X.exC T.ha T.hn T.ht T.hm) I.kIn J e (fun z => nomatch z) fun tk => ⟨.bl b, H, I.tok tk, rfl, q⟩
theorem call_isXT (hK : X.K = K) (hz : Zc cls d oe) (hf : ∃ vs, oe.data = .fields vs) : CallR (X.suite a ((a, oe) :: pn)) (.builtin "isinstance") (rIsXT K cls d a) := by
  subst hK
  intro pins s σ H xs us Q I r h
  obtain ⟨C, dd, tp, fs, cs, ws, b, rfl, ec, T, ed, hd, hT, k, e, q⟩ := h
  obtain ⟨u1, u2, rfl, r1, r2⟩ := vals2 r
  cases (show u2 = Value.ref tp from r2)
  cases (show u1 = Value.ref a from r1)
  obtain ⟨od, J⟩ := suite_inst I hz hf ec ed hd
  obtain ⟨_, its, rv, o, h1, h2, n, h3⟩ := (show ObjOk X.prog X.w H s.heap tp (.tup cs) from I.hok tp _ hT)
  have e3 := ClsV.all k rv
  subst e3
  obtain ⟨oc, od', dt, sl⟩ := o
  simp only at h2 h3
  subst h2 h3
  exact PySem.W.kia_tup (PySem.W.kitx_exc T.cl T.X.ga T.X.gg T.X.exC T.ha T.hn T.ht T.hm) I.kIn J h1 e (fun z => nomatch z) fun tk => ⟨.bl b, H, I.tok tk, rfl, q⟩
/-- e.value -/
def tXv (K : PySem.W.Frag) (a : Addr) (cls : Value) (d : Option Addr) (te : TE) : TE := fun σ H Q => te σ H fun x H1 => x = .ref a ∧ ∃ (C dd : Addr) (fs : List (Str × V)) (v : V), cls = .ref C ∧ ErrC K C ∧ d = some dd ∧ H1 dd = some (.xd fs) ∧ fs.lookup ("value" : Str) = some v ∧ Q v H1
theorem pe_xv {e : Expr} {te : TE} {pos : Pos} (hK : X.K = K) (hz : Zc cls d oe) (hf : ∃ vs, oe.data = .fields vs) (he : PE (X.suite a ((a, oe) :: pn)) e te) (hb : attributeBase e "value" X.env (eval e X.env) = eval e X.env := by rfl) :
    PE (X.suite a ((a, oe) :: pn)) (.Attribute e "value" pos) (tXv K a cls d te) := by
  subst hK
  refine ⟨fun pins s σ H Q I h => ?_⟩
  refine attr_of hb (thn (he.run pins s σ H _ I h) fun u s1 hh => ?_)
  obtain ⟨x, H1, I1, rx, ex, C, dd, fs, v, ec, T, ed, ea, l, q⟩ := hh
  subst ex
  obtain rfl : u = Value.ref a := rx
  subst ec
  subst ed
  obtain ⟨ha, _⟩ := I1.pin (a, oe) (List.mem_append_left _ List.mem_cons_self)
  obtain ⟨vs, hd⟩ := hf
  have hx : ObjOk X.prog X.w H1 s1.heap dd (.xd fs) := I1.hok dd _ ea
  obtain ⟨mA, hns, hr⟩ := hx
  obtain ⟨od, ho, hl⟩ := lookIn_ns hns
  obtain ⟨u, hu, ru⟩ := RelO.some_of (v := v) (o := mA "value") (by rw [← l]; exact hr "value")
  have J : PySem.W.InstAt s1.heap a oe C (some od) := ⟨ha, hz.1, by unfold PySem.W.notCls; rw [hd] <;> rfl, by rw [hz.2]; exact ho⟩
  exact HandSPX.exc_get I1.kIn J T.X.ga T.X.gg T.X.exC (PySem.W.findObj_own T.X.hdC T.no rfl (by rw [hl, hu])) (handed_of ru) ⟨v, H1, I1.tok _, ru, q⟩
end
end Dr
/-! ### the law's own asking -/
namespace Dr
open PySem L2
/-- which error, by its name and its value; none: no error -/
def due0 (z : Str) : Option (Str × V) := (badZ z).map fun i => ("row", .int (i : Nat))
def due1 (D : List Cl) (ns : List Int) : Option (Str × V) := match badD D with
  | some i => some ("call", .int (i : Nat))
  | none => (badN ns).map fun v => ("counts", v)
def due2 (D : List Cl) (ns : List Int) (w : Str) : Option (Str × V) := match due1 D ns with
  | some p => some p
  | none => if isC w = true then none else some ("colour", .str w)
def due (door : Int) (D : List Cl) (ns : List Int) (w : Str) : Option (Str × V) := if door = 0 then due0 w else if door = 1 then due1 D ns else due2 D ns w
/-- a pair, or None -/
def Told (H : Hp) (Q : VK) (p : Option (Str × V)) : Prop := match p with
  | none => ∀ H', Same H H' → Q .non H'
  | some (x, v) => ∀ (H' : Hp) (t : Addr), Same H H' → H t = none → H' t = some (.tup [.str x, v]) → Q (.ref t) H'
def sx_law_error (K : PySem.W.Frag) (_C1 _C2 _C3 _C4 : Addr) : Sp := fun vs H Q _ => ∃ (door : Int) (d a : Addr) (D : List Cl) (ns : List Int) (w : Str), vs = [.int door, .ref d, .ref a, .str w] ∧ Drill K H d D ∧ SqL K H a (ns.map V.int) ∧
  Told H Q (due door D ns w)
end Dr
namespace Dr
open PySem L2
theorem kit_four {K : PySem.W.Frag} {t a b c d : Value} (h1 : PySem.W.kitOne K t a = some false) (h2 : PySem.W.kitOne K t b = some false) (h3 : PySem.W.kitOne K t c = some false) (h4 : PySem.W.kitOne K t d = some false) : PySem.W.kitAny K t [a, b, c, d] = some false := by
  simp only [PySem.W.kitAny, h1, h2, h3, h4]
end Dr
/-! Own errors held as values: made, asked for their class, their field read. -/
namespace Dr
open PySem L2
/-- an error object at a, of the class cls, with the dict d -/
def Err (cls : Value) (d : Option Addr) (a : Addr) : HO := .ext fun h => ∃ (oe : Obj) (vs : Array Value), h.get? a = some oe ∧ Zc cls d oe ∧ oe.data = .fields vs
theorem err_ok {P : Program} {w : World} {H : Hp} {h : Heap} {a : Addr} {cls : Value} {d : Option Addr} {oe : Obj} {vs : Array Value} (e : h.get? a = some oe) (z : Zc cls d oe) (f : oe.data = .fields vs) : ObjOk P w H h a (Err cls d a) :=
  ⟨⟨oe, vs, e, z, f⟩, ⟨oe, e⟩, fun _ _ ⟨o, v, q, r⟩ k => ⟨o, v, k o q, r⟩⟩
section
variable {X : Cx} {K : PySem.W.Frag}
/-- what makes an error, as a value -/
theorem pe_made {e : Expr} {t : St → Hp → XK → Prop} (hm : PMk X e t) : PE X e (fun σ H Q => t σ H fun cls d H' => ∀ a, H' a = none → Q (.ref a) (upd H' a (Err cls d a))) := by
  refine ⟨fun pins s σ H Q I h => thn (hm pins s σ H _ I h) fun u s' hu => ?_⟩
  obtain ⟨a, oe, vs, sI, H', cls, d, rfl, J, k, hne, ha, hz, hd, h1, na, os, ag, r, q⟩ := hu
  obtain ⟨h2, g2, d2, t2, o2⟩ := s'
  obtain rfl : o2 = sI.os := os
  have hok := J.hok.laidN k na (err_ok (H := upd H' a (Err cls d a)) ha hz hd)
  exact ⟨.ref a, _, J.call (h' := h2) (g' := g2) (d' := d2) (t' := t2) (ch := []) (Un.laidN k hne na) hok ag (fun b z => absurd z (by simp)), rfl, q a na⟩
theorem err_inst {pins : List (Addr × Obj)} {σ : St} {H : Hp} {s : Shared} {a C : Addr} {d : Option Addr} (I : Inv X pins σ H s) (h : H a = some (Err (.ref C) d a)) (hd : d = none ∨ ∃ dd fs, d = some dd ∧ H dd = some (.xd fs)) :
    ∃ (oe : Obj) (od : Option Obj), PySem.W.InstAt s.heap a oe C od := by
  obtain ⟨⟨oe, vs, e, z, f⟩, _⟩ := (show ObjOk X.prog X.w H s.heap a (Err (.ref C) d a) from I.hok a _ h)
  have no : PySem.W.notCls oe = true := by unfold PySem.W.notCls; rw [f] <;> rfl
  rcases hd with rfl | ⟨dd, fs, rfl, hx⟩
  · exact ⟨oe, none, e, z.1, no, by rw [z.2]; trivial⟩
  · obtain ⟨mA, hns, _⟩ := (show ObjOk X.prog X.w H s.heap dd (.xd fs) from I.hok dd _ hx)
    obtain ⟨od, ho, _⟩ := lookIn_ns hns
    exact ⟨oe, some od, e, z.1, no, by rw [z.2]; exact ho⟩
/-- isinstance(x, c), x an error that is held -/
def rIsH (K : PySem.W.Frag) : List V → Hp → VK → Prop := fun xs H Q => ∃ (a C : Addr) (d : Option Addr) (c : V) (u : Value) (b : Bool), xs = [.ref a, c] ∧ H a = some (Err (.ref C) d a) ∧ (d = none ∨ ∃ dd fs, d = some dd ∧ H dd = some (.xd fs)) ∧ ErrC K C ∧
  ClsV c u ∧ PySem.W.kitOne K (.ref C) u = some b ∧ Q (.bl b) H
theorem call_isH (hK : X.K = K) : CallR X (.builtin "isinstance") (rIsH K) := by
  subst hK
  intro pins s σ H xs us Q I r h
  obtain ⟨a, C, d, c, u, b, rfl, he, hd, T, k, e, q⟩ := h
  obtain ⟨u1, u2, rfl, r1, r2⟩ := vals2 r
  have e2 := k.eq r2
  subst e2
  cases (show u1 = Value.ref a from r1)
  obtain ⟨oe, od, J⟩ := err_inst I he hd
  exact PySem.W.kia_one (PySem.W.kitx_exc T.cl T.X.ga T.X.gg T.X.exC T.ha T.hn T.ht T.hm) I.kIn J e (fun z => nomatch z) fun tk => ⟨.bl b, H, I.tok tk, rfl, q⟩
/-- x.value, x an error that is held -/
def tHv (K : PySem.W.Frag) (te : TE) : TE := fun σ H Q => te σ H fun x H1 => ∃ (a C dd : Addr) (fs : List (Str × V)) (v : V), x = .ref a ∧ H1 a = some (Err (.ref C) (some dd) a) ∧ H1 dd = some (.xd fs) ∧ ErrC K C ∧ fs.lookup ("value" : Str) = some v ∧ Q v H1
theorem pe_hv {e : Expr} {te : TE} {pos : Pos} (hK : X.K = K) (he : PE X e te) (hb : attributeBase e "value" X.env (eval e X.env) = eval e X.env := by rfl) : PE X (.Attribute e "value" pos) (tHv K te) := by
  subst hK
  refine ⟨fun pins s σ H Q I h => attr_of hb (thn (he.run pins s σ H _ I h) fun u s1 hh => ?_)⟩
  obtain ⟨x, H1, I1, rx, a, C, dd, fs, v, ex, ha, hx, T, l, q⟩ := hh
  subst ex
  obtain rfl : u = Value.ref a := rx
  obtain ⟨⟨oe, vs, e0, z, f⟩, _⟩ := (show ObjOk X.prog X.w H1 s1.heap a (Err (.ref C) (some dd) a) from I1.hok a _ ha)
  obtain ⟨mA, hns, hr⟩ := (show ObjOk X.prog X.w H1 s1.heap dd (.xd fs) from I1.hok dd _ hx)
  obtain ⟨od, ho, hl⟩ := lookIn_ns hns
  obtain ⟨u, hu, ru⟩ := RelO.some_of (v := v) (o := mA "value") (by rw [← l]; exact hr "value")
  have J : PySem.W.InstAt s1.heap a oe C (some od) := ⟨e0, z.1, by unfold PySem.W.notCls; rw [f] <;> rfl, by rw [z.2]; exact ho⟩
  exact HandSPX.exc_get I1.kIn J T.X.ga T.X.gg T.X.exC (PySem.W.findObj_own T.X.hdC T.no rfl (by rw [hl, hu])) (handed_of ru) ⟨v, H1, I1.tok _, ru, q⟩
end
end Dr
namespace Dr
open PySem L2
def sp_law_bad_order (K : PySem.W.Frag) : Sp := fun vs H Q _ => ∃ (d : Addr) (D : List Cl), vs = [.ref d] ∧ Drill K H d D ∧ (∀ i, badD D = some i → ∀ H', Same H H' → Q (.int (i : Nat)) H') ∧ (badD D = none → ∀ H', Same H H' → Q .non H')
theorem notin_two {x a b : Str} : (if (true : Bool) = true then !inV (.str x) [.str a, .str b] else inV (.str x) [.str a, .str b]) = !decide (x = a ∨ x = b) := by
  rw [if_pos rfl]
  have := in_two (x := x) (a := a) (b := b)
  rw [if_neg (by decide)] at this
  rw [this]
theorem notin_abc {x : Str} : (if (true : Bool) = true then !inV (.str x) colV else inV (.str x) colV) = !isC x := by
  rw [if_pos rfl]
  show (!inV (.str x) (colS.map V.str)) = _
  rw [inV_str]
  rfl
end Dr
namespace Dr
open PySem L2
theorem badN_len {ns : List Int} (h : ns.length ≠ 6) : badN ns = some .non := by unfold badN; rw [if_neg h]
theorem badN_ok {ns : List Int} (h6 : ns.length = 6) (h : ∀ n ∈ ns, 0 ≤ n) : badN ns = none := by
  unfold badN
  rw [if_pos h6, first_none (p := fun n => decide (n < 0)) fun j y hy => decide_eq_false (by have := h y (List.mem_of_getElem? hy); omega)]
  rfl
theorem badN_at {ns : List Int} {i : Nat} {x : Int} (h6 : ns.length = 6) (hx : ns[i]? = some x) (hn : x < 0) (h : ∀ j y, j < i → ns[j]? = some y → 0 ≤ y) : badN ns = some (.int (i : Nat)) := by
  unfold badN
  rw [if_pos h6, first_some (p := fun n => decide (n < 0)) hx (decide_eq_true hn) fun j y hj hy => decide_eq_false (by have := h j y hj hy; omega)]
  rfl
def wrongs (b : Option V) : List V := match b with | none => [] | some v => [v]
def sp_law_spoiled_numbers (K : PySem.W.Frag) : Sp := fun vs H Q _ => ∃ (r a : Addr) (c : Nat) (ns : List Int), vs = [.ref r, .ref a] ∧ Rg H r c ∧ c < 900000000 ∧ a ≠ r ∧ H a = some (.lst (ns.map V.int)) ∧ ns.length = 6 ∧ (∀ n ∈ ns, 0 ≤ n) ∧
  ∀ (H' : Hp) (t p q : Addr) (ms : List Int), Same (hid r H) (hid r H') → Rg H' r (c + 30) → t ≠ r → p ≠ r → q ≠ r → H' t = some (.tup [.ref p, .ref q]) → H' p = some (.lst (ms.map V.int)) → H' q = some (.lst (wrongs (badN ms))) → Q (.ref t) H'
end Dr
namespace Dr
theorem map_rep {n : Nat} {x : Int} : (List.replicate n x).map L2.V.int = List.replicate n (L2.V.int x) := List.map_replicate
end Dr
namespace Dr
open PySem L2
/-- tuples of calls that were laid, beside the state of the draws -/
def Menu (r : Addr) (G : Hp) (vs : List V) : Prop := ∀ v ∈ vs, ∃ (t : Addr) (c : Cl), v = .ref t ∧ t ≠ r ∧ G t = some (.tup c.vs)
theorem Menu.nil {r : Addr} {G : Hp} : Menu r G [] := fun v h => absurd h (by simp)
theorem Menu.new {r p : Addr} {G : Hp} {vs : List V} {o : HO} (h : Menu r G vs) (hp : G p = none) : Menu r (upd G p o) vs := fun v hv => by
  obtain ⟨t, c, e, n, q⟩ := h v hv
  exact ⟨t, c, e, n, (Same.new hp) _ _ q⟩
theorem Menu.tup {r p : Addr} {G : Hp} {vs : List V} {c : Cl} (h : Menu r G vs) (hp : G p = none) (np : p ≠ r) : Menu r (upd G p (.tup c.vs)) (vs ++ [.ref p]) := fun v hv => by
  rcases List.mem_append.mp hv with hv | hv
  · exact (h.new hp) v hv
  · rw [List.mem_singleton.mp hv]; exact ⟨p, c, rfl, np, upd_same⟩
theorem Menu.app {r : Addr} {G : Hp} {vs ws : List V} (h : Menu r G vs) (g : Menu r G ws) : Menu r G (vs ++ ws) := fun v hv => by
  rcases List.mem_append.mp hv with hv | hv
  · exact h v hv
  · exact g v hv
theorem Menu.ext {r : Addr} {G G' : Hp} {vs : List V} (h : Menu r G vs) (S : Same (hid r G) (hid r G')) : Menu r G' vs := fun v hv => by
  obtain ⟨t, c, e, n, q⟩ := h v hv
  exact ⟨t, c, e, n, ext_get S n q⟩
def sp_law_spoiled_orders (K : PySem.W.Frag) : Sp := fun vs H Q _ => ∃ (r d : Addr) (c : Nat) (D : List Cl), vs = [.ref r, .ref d] ∧ Rg H r c ∧ c < 900000000 ∧ Drill K (hid r H) d D ∧ D.length ≤ 1000 ∧
  ∀ (H' : Hp) (p : Addr) (D' : List Cl), Same (hid r H) (hid r H') → Rg H' r (c + 2000) → Drill K (hid r H') p D' → Q (.ref p) H'
end Dr
namespace Dr
theorem upd_at {H : L2.Hp} {l : PySem.Addr} {o : L2.HO} (_ : H l = none) : L2.upd H l o l = some o := L2.upd_same
end Dr
namespace Dr
open PySem L2
theorem hid2_upd {r p : Addr} {H : Hp} {o : HO} : Same (hid p (hid r H)) (hid p (hid r (upd H p o))) := fun b u e => by
  have hb := hid_some e
  rw [hid_ne hb] at e ⊢
  have hr := hid_some e
  rw [hid_ne hr] at e ⊢
  rw [upd_ne hb]
  exact e
theorem hid2_new {r p : Addr} {H : Hp} {o : HO} (h : H p = none) : Same (hid r H) (hid p (hid r (upd H p o))) := fun b u e => by
  have hr := hid_some e
  have e' := hid_same b u e
  have hb : b ≠ p := ne_of_none e' h
  rw [hid_ne hb, hid_ne hr, upd_ne hb]
  exact e'
end Dr
/-! An own error made by C(name=v): no value by place, one by its name. -/
namespace DrKw
open PySem PySem.W PySem.Calls PySem.HandSPX PySem.Builtin PySem.Builtin.ObjectAttr
section
variable {M : Model} {A : Around} {E : Value → Shared → Prop} {h : Heap} {g : Array GenState} {d : Drawn} {t : Nat} {os : OsState}
variable {nm q : Str} {C N : Addr} {bs bm bmB : List Value} {hdct : Bool} {sn : List Str} {sub : List Value} {ab : Bool} {col : Option Bool} {dd : Option Addr} {k0 k1 k2 k3 k5 : Option Value} {B newId initId : String}
theorem kw_check_new (F : ExcBaseFacts B newId initId bmB) (hT : ∀ X : String, bm.contains (.type X) = bmB.contains (.type X)) {kn : Str} {v : Value} {Q : Unit → Shared → Prop}
    (hC : h.get? C = some (excClassObj nm q C N bs bm hdct sn sub ab col dd k0 k1 k2 k3 k5 newId)) (hq : Q () ⟨h, g, d, t, os⟩) : wpAny M A (checkBuiltinCall newId ⟨[.ref C], [(kn, v)]⟩) Q E ⟨h, g, d, t, os⟩ := by
  have hcn : (Value.ref C :: bm).contains (.type B) = true := by rw [List.contains_cons, hT, F.hasB, Bool.or_true]
  have hst := F.noStar
  simp only [checkBuiltinCall, F.newKind, F.newSplit, F.newRow]
  repeat (first | refine wpAny_loadPart_at hC ?_ | (refine wpAny_isSubtype_exc hC ?_; rw [hcn]) | refine wpAny_staticBase_exc hC ?_ | refine wpAny_madeBy_exc hC ?_ | simp only [bne_self_eq_false, Bool.false_eq_true, if_false] | wp_step)
  exact hq
end
section
variable {prog : Program} {w : World} {A : Around} {E : Value → Shared → Prop} {R : Result → Shared → Prop} {h : Heap} {g : Array GenState} {d : Drawn} {t : Nat} {os : OsState}
variable {nm q : Str} {C N : Addr} {bs bm bmB : List Value} {hdct : Bool} {sn : List Str} {sub : List Value} {ab : Bool} {col : Option Bool} {dd : Option Addr} {k0 k1 k2 k3 k5 : Option Value} {B newId initId : String}
theorem kw_new (F : ExcBaseFacts B newId initId bmB) (hT : ∀ X : String, bm.contains (.type X) = bmB.contains (.type X)) {kn : Str} {v : Value}
    (hC : h.get? C = some (excClassObj nm q C N bs bm hdct sn sub ab col dd k0 k1 k2 k3 k5 newId))
    (hr : R (.ok (.ret (.ref (h.objs.size + 1)))) ⟨(h.push (W.kdv_tup [])).push (excO C h.objs.size), g, d, t, os⟩) :
    codeAny (model prog w) A (.builtin newId ⟨[.ref C], [(kn, v)]⟩) R ⟨h, g, d, t, os⟩ := by
  have he := F.ends
  have h1 : (Value.ref C :: bm).contains (.type B) = true := by rw [List.contains_cons, hT, F.hasB, Bool.or_true]
  have h2 : (Value.ref C :: bm).contains (.type "AttributeError") = false := by rw [List.contains_cons, hT, F.noAttr]; rfl
  have h3 : (Value.ref C :: bm).contains (.type "NameError") = false := by rw [List.contains_cons, hT, F.noName]; rfl
  refine codeAny_builtinAt F.entry ?_; unfold Builtin.«BaseException.__new__»; refine wpAt_bind ?_; show PySem.wpAt _ _ _ (stack >>= _) _ _ _
  refine wpAt_bind (wpAt_stack fun ps bl => wpAt_of_wpAny ?_); wp_walk
  refine wpAt_of_wpAny ?_; rw [F.owner]
  repeat (first | with_reducible refine wpAny_madeHere_exc F.canon hC ?_ | with_reducible refine wpAny_loadPart_at hC ?_ | (with_reducible refine wpAny_isSubtype_exc hC ?_; first | rw [h1] | rw [h2] | rw [h3]) | wp_step)
  show R _ _
  rw [Heap.size_push]
  exact hr
theorem kw_type_call (F : ExcBaseFacts B newId initId bmB) (hT : ∀ X : String, bm.contains (.type X) = bmB.contains (.type X)) {kn : Str} {v : Value} {fI : Addr} {Q : Fin → Shared → Prop}
    (hC : h.get? C = some (excClassObj nm q C N bs bm hdct sn sub ab col dd k0 k1 k2 k3 k5 newId))
    (hi : W.Looks (model prog w) h (typeLookup (.ref C) "__init__") (some (.ref fI))) (hb : ∀ self, W.Looks (model prog w) h (bindSpecial (.ref fI) self) (.ref fI, [self]))
    (hk : codeAny (model prog w) A (.call (.ref fI) ⟨[.ref (h.objs.size + 1)], [(kn, v)]⟩)
      (fun r s' => match r with | .ok (.ret v) => v = .none ∧ Q (.done (.ret (.ref (h.objs.size + 1)))) s' | .ok _ => False | .error e => E e s')
      ⟨(h.push (W.kdv_tup [])).push (excO C h.objs.size), g, d, t, os⟩) :
    wpAny (model prog w) A (Builtin.«type.__call__» ⟨[.ref C], [(kn, v)]⟩) Q E ⟨h, g, d, t, os⟩ := by
  repeat (first | with_reducible refine wpAny_loadPart_at hC ?_ | with_reducible refine wpAny_madeBy_exc hC ?_ | wp_step)
  refine codeAny_call_builtin_code (Code.quiet_builtin _ F.quiet) (kw_check_new F hT hC (kw_new F hT hC ?_))
  show wpAny (model prog w) _ _ _ _ _
  have kp : ∀ b o, h.get? b = some o → ((h.push (W.kdv_tup [])).push (excO C h.objs.size)).get? b = some o := fun b o e => Heap.get?_push_of_some _ (Heap.get?_push_of_some _ e)
  have hC2 := kp _ _ hC
  have hg : ((h.push (W.kdv_tup [])).push (excO C h.objs.size)).get? (h.objs.size + 1) = some (excO C h.objs.size) := by heap_get
  have hcc : (Value.ref C :: bm).contains (.ref C) = true := by simp
  have hi2 := hi.keeps kp
  have hb2 := (hb (.ref (h.objs.size + 1))).keeps kp
  unfold isInstance
  repeat (first | with_reducible refine wpAny_loadPart_at hg ?_ | (with_reducible refine wpAny_isSubtype_exc hC2 ?_; rw [hcc]) | wp_step)
  show wpAny (model prog w) _ (typeLookup (.ref C) _) _ _ _
  refine hi2.at (wpAny_holding (wpAny_bind (hb2.at ?_)))
  refine wpAny_bind (wpAny_call (codeAny_mono hk fun r s' z => ?_))
  cases r with
  | error e => exact z
  | ok fl =>
    cases fl with
    | ret v =>
      obtain ⟨rfl, z⟩ := z
      first | exact wpAny_pure (wpAny_pure z) | (wp_walk; exact z) | wp_walk
    | _ => exact z.elim
theorem kw_call (F : ExcBaseFacts B newId initId bmB) (hT : ∀ X : String, bm.contains (.type X) = bmB.contains (.type X)) {kn : Str} {v : Value} {fI : Addr}
    (hC : h.get? C = some (excClassObj nm q C N bs bm hdct sn sub ab col dd k0 k1 k2 k3 k5 newId))
    (hi : W.Looks (model prog w) h (typeLookup (.ref C) "__init__") (some (.ref fI))) (hb : ∀ self, W.Looks (model prog w) h (bindSpecial (.ref fI) self) (.ref fI, [self]))
    (hk : codeAny (model prog w) (A.under (.builtin "type.__call__" ⟨[.ref C], [(kn, v)]⟩)) (.call (.ref fI) ⟨[.ref (h.objs.size + 1)], [(kn, v)]⟩) (W.InitBack (h.objs.size + 1) R)
      ⟨(h.push (W.kdv_tup [])).push (excO C h.objs.size), g, d, t, os⟩) :
    codeAny (model prog w) A (.call (.ref C) ⟨[], [(kn, v)]⟩) R ⟨h, g, d, t, os⟩ := by
  have f1 := tc_lookup
  have f2 := tc_bind (.ref C)
  have hTy : (⟨h, g, d, t, os⟩ : Shared).TypeIs (.ref C) "type" := ⟨_, hC, rfl⟩
  refine codeAny_of_tree (?_ : wpAny _ _ (callAny (.ref C) _) _ _ _)
  repeat (any_goals (first | assumption | with_reducible refine wpAny_loadPart_at hC ?_ | wp_step))
  refine ⟨rfl, ?_⟩
  refine codeAny_call_builtin_at (Code.quiet_builtin _ (by decide +kernel)) entry_typeCall ?_
  have f3 := tc_sub
  have hz : wpAny (model prog w) (A.under (.builtin "type.__call__" ⟨[.ref C], [(kn, v)]⟩)) (Builtin.«type.__call__» ⟨[.ref C], [(kn, v)]⟩) (fun fin s' => match fin with | .done f => R (.ok f) s' | .again c' => c'.quiet = true ∧ codeAny (model prog w) A c' R s') (fun e s' => R (.error e) s') ⟨h, g, d, t, os⟩ :=
    kw_type_call F hT hC hi hb (codeAny_mono hk fun r s' z => by
      cases r with
      | error e => exact z
      | ok fl => cases fl <;> exact z)
  simp only [checkBuiltinCall, tc_kind, tc_split]
  repeat (any_goals (first | assumption | with_reducible refine wpAny_loadPart_at hC ?_ | with_reducible refine wpAny_onRaise ?_ | with_reducible refine wpAny_map ?_ | wp_step))
end
end DrKw
namespace Dr
open PySem PySem.Spec L2
/-- how a method binds self and one value that is given by its name -/
def KwOne (fd : FuncData) (n : Str) : Prop := ∀ (s : Shared) (u v : Value), BindsTo s fd ⟨[u], [(n, v)]⟩ [("self", u), (n, v)]
section
variable {X : Cx} {C fI : Addr} {fd : FuncData} {x n : Str} {sp : Sp} {te : TE} {e : Expr} {p pos kpos : Pos} {k : Nat}
def oneOf (Q : V → Hp → Prop) : List V → Hp → Prop := fun vs H => match vs with | [v] => Q v H | _ => False
theorem oneOf_is {Q : V → Hp → Prop} {vs : List V} {H : Hp} (h : oneOf Q vs H) : ∃ v, vs = [v] ∧ Q v H := by
  match vs, h with
  | [v], h => exact ⟨v, rfl, h⟩
/-- what C(n=e) asks -/
def tMkK (C : Addr) (sp : Sp) (te : TE) : St → Hp → XK → Prop := fun σ H Q => te σ H fun v H1 =>
  ∀ a, H1 a = none → sp [.ref a, v] (upd H1 a (exo a C none)) (fun v2 H2 => v2 = .non ∧ ∃ (d : Addr) (fs : List (Str × V)), H2 a = some (exo a C (some d)) ∧ H2 d = some (exd d fs) ∧ H1 d = none ∧ Q (.ref C) (some d) (upd (del H2 a) d (.xd fs))) (fun _ _ _ => False)
theorem pmk_oexK (T : OexC X.K C) (iC : PySem.W.findIn X.K (.ref C) "__init__" = some (some (.ref fI))) (tI : PySem.W.typeIn X.K (.ref fI) = some (.type "function"))
    (F1 : FnOk X.prog X.w X.K X.mg X.base CX0 k fI fd ["self", n] sp) (hr : Room (k + 1) X.A) (hb : KwOne fd n) (hg : Gl X x) (hm : X.mg x = some (.ref C)) (he : PE X e te)
    (hdb : (x == ("__debug__" : Str)) = false := by decide) (hall : (backToKw pos (keywordEach [⟨some n, e, kpos⟩] X.env)).all (·.1.isSome) = true := by rfl) (hks : (backToKw pos (keywordEach [⟨some n, e, kpos⟩] X.env)).filterMap (·.1) = [n] := by rfl)
    (hpl : ((backTo pos (starEach [] X.env)).any (·.1) || (backToKw pos (keywordEach [⟨some n, e, kpos⟩] X.env)).any (·.1.isNone)) = false := by rfl) :
    PMk X (.Call (.Name x p) [] [⟨some n, e, kpos⟩] pos) (tMkK C sp te) := by
  intro pins s σ H Q I h
  obtain ⟨nm, q, N, bs, bm, sn, sub, ab, col, dd, k0, k1, k2, k3, k5, hC, hbm⟩ := T.cls
  have hkw : PK X [⟨some n, e, kpos⟩] (tCons te tNil) := pk_cons he pk_nil
  refine wpAny_Call_Name_kw (ld_glob I hg hm ?_ hdb)
  refine PySem.W.callWith_KW0 (h₀ := X.base) I.ok.mod.kin T.kC hall (thn (hkw.run pos pins s σ H (oneOf fun v H1 => ∀ a, H1 a = none → sp [.ref a, v] (upd H1 a (exo a C none)) (fun v2 H2 => v2 = .non ∧ ∃ (d : Addr) (fs : List (Str × V)), H2 a = some (exo a C (some d)) ∧ H2 d = some (exd d fs) ∧ H1 d = none ∧ Q (.ref C) (some d) (upd (del H2 a) d (.xd fs))) (fun _ _ _ => False)) I h) fun us s1 hh => ?_) hpl
  obtain ⟨zs, H1, I1, r1, q1⟩ := hh
  obtain ⟨v, rfl, q1⟩ := oneOf_is q1
  refine ⟨I1.kIn, ?_⟩
  rw [hks]
  cases r1 with
  | cons rv rn =>
  cases rn
  rename_i u
  show wpAny _ _ (call (.ref C) [] [(n, u)]) _ _ _
  obtain ⟨hp, g, dr, tk, os⟩ := s1
  have hsz : hp.objs.size ≤ hp.objs.size + 1 := Nat.le_succ _
  have hn : H1 (hp.objs.size + 1) = none := I1.hok.fresh hsz
  have hq := q1 (hp.objs.size + 1) hn
  have kk : ∀ b o, hp.get? b = some o → ((hp.push (PySem.W.kdv_tup [])).push (PySem.HandSPX.excO C hp.objs.size)).get? b = some o := fun b o z => Heap.get?_push_of_some _ (Heap.get?_push_of_some _ z)
  have hget : ((hp.push (PySem.W.kdv_tup [])).push (PySem.HandSPX.excO C hp.objs.size)).get? (hp.objs.size + 1) = some (PySem.HandSPX.excO C hp.objs.size) := by heap_get
  have I2 : Inv X pins σ (upd H1 (hp.objs.size + 1) (exo (hp.objs.size + 1) C none)) ⟨(hp.push (PySem.W.kdv_tup [])).push (PySem.HandSPX.excO C hp.objs.size), g, dr, tk, os⟩ :=
    I1.laid (t' := tk) (a := hp.objs.size + 1) (o := exo (hp.objs.size + 1) C none) (h' := (hp.push (PySem.W.kdv_tup [])).push (PySem.HandSPX.excO C hp.objs.size)) kk hsz (exo_ok hget)
  have r2 : Vals [V.ref (hp.objs.size + 1), v] [Value.ref (hp.objs.size + 1), u] := .cons rfl (.cons rv .nil)
  refine wpAny_call (DrKw.kw_call F.excBase_ValueError (fun Y => PySem.HandSPX.refsVE_contains Y bm hbm) (I1.kIn _ _ hC) (PySem.W.looks_findIn I1.kIn iC) (fun self => PySem.W.bind_fn I1.kIn self tI)
    (codeAny_mono (F1.run _ X.stack _ _ ⟨[Value.ref (hp.objs.size + 1)], [(n, u)]⟩ [Value.ref (hp.objs.size + 1), u] _ _ (fun _ _ _ => False) (hr.make C [] [(n, u)]) (I2.env0.make C [] [(n, u)]) (hb _ _ _) r2 hq) fun r s' hq' => ?_))
  cases r with
  | error er => exact pass0 pins σ _ _ er s' I2 hq'
  | ok fl =>
    cases fl with
    | ret u' =>
      obtain ⟨v2, H2, os2, bare2, un2, hok2, rv2, ev, d, fs, ea, ed, hd1, q2⟩ := hq'
      subst ev
      obtain ⟨h2, g2, d2, t2, os'⟩ := s'
      exact ⟨rv2, mk_end (raises_own T.exC T.tyC) I1 hsz kk un2 hok2 os2 bare2 ea ed hd1 q2⟩
    | _ => exact False.elim hq'
end
end Dr
namespace Dr
open PySem L2
/-- x is an own error that is held, with v in it; D: the class under which all of them stand -/
def HE (K : PySem.W.Frag) (D : Addr) (H : Hp) (x v : V) : Prop := ∃ a C dd, x = .ref a ∧ ErrC K C ∧ H a = some (Err (.ref C) (some dd) a) ∧ H dd = some (.xd [(("value" : Str), v)]) ∧
  PySem.W.kitOne K (.ref C) (.ref D) = some true ∧ PySem.W.kitOne K (.ref C) (.type "ValueError") = some true
theorem HE.same {K : PySem.W.Frag} {D : Addr} {H G : Hp} {x v : V} (h : HE K D H x v) (S : Same H G) : HE K D G x v := by
  obtain ⟨a, C, dd, e, T, h1, h2, h3, h4⟩ := h
  exact ⟨a, C, dd, e, T, S _ _ h1, S _ _ h2, h3, h4⟩
theorem he_new {K : PySem.W.Frag} {D C a d : Addr} {G : Hp} {v : V} (T : ErrC K C) (h3 : PySem.W.kitOne K (.ref C) (.ref D) = some true) (h4 : PySem.W.kitOne K (.ref C) (.type "ValueError") = some true)
    (e : G d = some (.xd [(("value" : Str), v)])) (n : G a = none) : HE K D (upd G a (Err (.ref C) (some d) a)) (.ref a) v :=
  ⟨a, C, d, rfl, T, upd_same, (Same.new n) _ _ e, h3, h4⟩
/-- x is an own error that is held, with a field or bare -/
def HB (K : PySem.W.Frag) (D : Addr) (H : Hp) (x : V) : Prop := ∃ (a C : Addr) (d : Option Addr), x = .ref a ∧ H a = some (Err (.ref C) d a) ∧ (d = none ∨ ∃ dd fs, d = some dd ∧ H dd = some (.xd fs)) ∧ ErrC K C ∧
  PySem.W.kitOne K (.ref C) (.ref D) = some true ∧ PySem.W.kitOne K (.ref C) (.type "ValueError") = some true
theorem HE.toB {K : PySem.W.Frag} {D : Addr} {H : Hp} {x v : V} (h : HE K D H x v) : HB K D H x := by
  obtain ⟨a, C, dd, e, T, h1, h2, h3, h4⟩ := h
  exact ⟨a, C, some dd, e, h1, .inr ⟨dd, _, rfl, h2⟩, T, h3, h4⟩
def HEs (K : PySem.W.Frag) (D : Addr) (H : Hp) (xs vs : List V) : Prop := xs.length = vs.length ∧ ∀ (i : Nat) (x v : V), xs[i]? = some x → vs[i]? = some v → HE K D H x v
theorem HEs.nil {K : PySem.W.Frag} {D : Addr} {H : Hp} : HEs K D H [] [] := ⟨rfl, fun i x v h => absurd h (by simp)⟩
theorem HEs.same {K : PySem.W.Frag} {D : Addr} {H G : Hp} {xs vs : List V} (h : HEs K D H xs vs) (S : Same H G) : HEs K D G xs vs := ⟨h.1, fun i x v a b => (h.2 i x v a b).same S⟩
theorem HEs.more {K : PySem.W.Frag} {D : Addr} {H : Hp} {xs vs : List V} {x v : V} (h : HEs K D H xs vs) (g : HE K D H x v) : HEs K D H (xs ++ [x]) (vs ++ [v]) := by
  refine ⟨by rw [List.length_append, List.length_append, h.1] <;> rfl, fun i y w a b => ?_⟩
  by_cases hi : i < xs.length
  · rw [List.getElem?_append_left hi] at a
    rw [List.getElem?_append_left (h.1 ▸ hi)] at b
    exact h.2 i y w a b
  · rw [List.getElem?_append_right (by omega)] at a
    rw [List.getElem?_append_right (by have := h.1; omega)] at b
    have z : i - xs.length = 0 := by
      have := lt_of_get a
      simp at this
      omega
    rw [z] at a
    rw [show i - vs.length = 0 by rw [← h.1]; exact z] at b
    rw [← Option.some.inj a, ← Option.some.inj b]
    exact g
def sp_law_classes_right (_ : PySem.W.Frag) : Sp := fun vs H Q _ => vs = [] ∧ ∀ H', Same H H' → Q (.bl true) H'
end Dr
namespace Dr
open PySem L2
section
variable {H1 : Hp} {C a dx : Addr} {v : V} {e : Value}
theorem made_dict (hdx : upd H1 a (exo a C none) dx = none) (hne : dx ≠ a) : (upd (upd (upd H1 a (exo a C none)) dx (exd dx [(("value" : Str), v)])) a (exo a C (some dx))) dx = some (exd dx [(("value" : Str), v)]) := by
  rw [upd_ne hne]; exact upd_same
theorem made_free (hdx : upd H1 a (exo a C none) dx = none) (hne : dx ≠ a) : H1 dx = none := by rw [upd_ne hne] at hdx; exact hdx
theorem made_same (ha : H1 a = none) (hdx : upd H1 a (exo a C none) dx = none) (hne : dx ≠ a) :
    Same H1 (upd (del (upd (upd (upd H1 a (exo a C none)) dx (exd dx [(("value" : Str), v)])) a (exo a C (some dx))) a) dx (.xd [(("value" : Str), v)])) := fun b u e => by
  have nb : b ≠ a := ne_of_none e ha
  have nd : b ≠ dx := ne_of_none e (made_free hdx hne)
  rw [upd_ne nd, del_ne nb, upd_ne nb, upd_ne nd, upd_ne nb]
  exact e
theorem made_both (ha : H1 a = none) (hdx : upd H1 a (exo a C none) dx = none) (hne : dx ≠ a) :
    Same H1 (upd (del (upd (upd (upd H1 a (exo a C none)) dx (exd dx [(("value" : Str), v)])) a (exo a C (some dx))) a) dx (.xd [(("value" : Str), v)])) ∧
    (upd (del (upd (upd (upd H1 a (exo a C none)) dx (exd dx [(("value" : Str), v)])) a (exo a C (some dx))) a) dx (.xd [(("value" : Str), v)])) dx = some (.xd [(("value" : Str), v)]) := ⟨made_same ha hdx hne, upd_same⟩
end
end Dr
/-! What is due, held as a value beside what is told (the laws of errors). -/
namespace Dr
open PySem L2
def ScV (v : V) : Prop := v = .non ∨ (∃ i, v = .int i) ∨ ∃ z, v = .str z ∧ PyData.strOk z = true
def dV (v : V) : PyData := match v with
  | .int i => .int i
  | .str z => .str z
  | _ => .none
theorem dp_v {K : PySem.W.Frag} {H : Hp} {v : V} (h : ScV v) : Dp K H v (dV v) := by
  rcases h with rfl | ⟨i, rfl⟩ | ⟨z, rfl, _⟩
  · exact .non
  · exact .int _
  · exact .str _
/-- x is p as a value: None, or a pair -/
def DueV (K : PySem.W.Frag) (H : Hp) (p : Option (Str × V)) (x : V) : Prop := match p with
  | none => x = .non
  | some (y, v) => ∃ t, x = .ref t ∧ SqT K H t [.str y, v]
theorem DueV.same {K : PySem.W.Frag} {H G : Hp} {p : Option (Str × V)} {x : V} (h : DueV K H p x) (S : Same H G) : DueV K G p x := by
  match p, h with
  | none, h => exact h
  | some (y, v), ⟨t, e, q⟩ => exact ⟨t, e, Same.sqT S q⟩
def dP (p : Option (Str × V)) : PyData := match p with
  | none => .none
  | some (y, v) => .tuple [.str y, dV v]
/-- what a pair may hold, so that it is compared -/
def ScP (p : Option (Str × V)) : Prop := ∀ y v, p = some (y, v) → PyData.strOk y = true ∧ ScV v
theorem dp_p {K : PySem.W.Frag} {H : Hp} {p : Option (Str × V)} {x : V} (s : ScP p) (h : DueV K H p x) : Dp K H x (dP p) := by
  match p, s, h with
  | none, _, h => rw [show x = .non from h]; exact .non
  | some (y, v), s, ⟨t, e, q⟩ => rw [e]; exact .tup q (.cons (.str _) (.cons (dp_v (s y v rfl).2) .nil))
theorem shaped_p {p : Option (Str × V)} (s : ScP p) : SeqAt.shaped (dP p) = true := by
  match p, s with
  | none, _ => decide +kernel
  | some (y, v), s =>
    obtain ⟨h, h2⟩ := s y v rfl
    rcases h2 with rfl | ⟨i, rfl⟩ | ⟨z, rfl, hz⟩
    · simp [SeqAt.shaped, dP, dV, PyData.canLay0, PyData.canLayAll0, PyData.depth, PyData.depthAll, h]
    · simp [SeqAt.shaped, dP, dV, PyData.canLay0, PyData.canLayAll0, PyData.depth, PyData.depthAll, h]
    · simp [SeqAt.shaped, dP, dV, PyData.canLay0, PyData.canLayAll0, PyData.depth, PyData.depthAll, h, hz]
theorem eqv_p {p : Option (Str × V)} (s : ScP p) : PyData.eqv (dP p) (dP p) = true := SeqAt.eqv_refl _ (SeqAt.canLay_of_shaped (shaped_p s))
theorem told_due {K : PySem.W.Frag} {H : Hp} {Q : VK} {p : Option (Str × V)} (h : ∀ H' x, Same H H' → DueV K H' p x → Q x H') : Told H Q p := by
  match p with
  | none => exact fun H' S => h H' _ S rfl
  | some (y, v) => exact fun H' t S _ e => h H' _ S ⟨t, rfl, SqT.of e⟩
theorem due0_sc {z : Str} : ScP (due0 z) := fun y v h => by
  unfold due0 at h
  cases q : badZ z with
  | none => rw [q] at h; cases h
  | some i => rw [q] at h; cases h; exact ⟨by decide +kernel, .inr (.inl ⟨_, rfl⟩)⟩
theorem badN_sc {ns : List Int} {v : V} (h : badN ns = some v) : ScV v := by
  unfold badN at h
  by_cases e : ns.length = 6
  · rw [if_pos e] at h
    cases q : ns.findIdx? (fun n => decide (n < 0)) with
    | none => rw [q] at h; cases h
    | some i => rw [q] at h; cases h; exact .inr (.inl ⟨_, rfl⟩)
  · rw [if_neg e] at h; cases h; exact .inl rfl
theorem due1_sc {D : List Cl} {ns : List Int} : ScP (due1 D ns) := fun y v h => by
  unfold due1 at h
  cases q : badD D with
  | some i => rw [q] at h; cases h; exact ⟨by decide +kernel, .inr (.inl ⟨_, rfl⟩)⟩
  | none =>
    rw [q] at h
    cases q2 : badN ns with
    | none => rw [q2] at h; cases h
    | some w => rw [q2] at h; cases h; exact ⟨by decide +kernel, badN_sc q2⟩
theorem due2_sc {D : List Cl} {ns : List Int} {w : Str} (hw : PyData.strOk w = true) : ScP (due2 D ns w) := fun y v h => by
  unfold due2 at h
  cases q : due1 D ns with
  | some p => rw [q] at h; cases h; exact due1_sc _ _ q
  | none =>
    rw [q] at h
    cases c : isC w with
    | true => rw [c] at h; cases h
    | false => rw [c] at h; cases h; exact ⟨by decide +kernel, .inr (.inr ⟨_, rfl, hw⟩)⟩
/-- the places of a row at which no colour stands -/
def bads (z : Str) (n : Nat) : List Nat := (List.range n).filter fun i => !decide ((z.cps.toList.getD i 0) ∈ colN)
theorem bads_more (z : Str) (n : Nat) : bads z (n + 1) = bads z n ++ (if z.cps.toList.getD n 0 ∈ colN then [] else [n]) := by
  unfold bads
  rw [List.range_succ, List.filter_append]
  congr 1
  by_cases h : z.cps.toList.getD n 0 ∈ colN
  · rw [if_pos h, List.filter_cons, decide_eq_true h]; rfl
  · rw [if_neg h, List.filter_cons, decide_eq_false h]; rfl
theorem isC_sg {c : Nat} : isC (sg c) = decide (c ∈ colN) := by
  by_cases h : c ∈ colN
  · rw [decide_eq_true h]; exact isC_iff.mpr ⟨c, h, rfl⟩
  · rw [decide_eq_false h]
    cases q : isC (sg c) with
    | false => rfl
    | true =>
      obtain ⟨x, hx, e⟩ := isC_iff.mp q
      rw [sg_inj e] at h
      exact absurd hx h
theorem bads_head : ∀ (z : Str), (bads z z.cps.size).head? = badZ z := by
  intro z
  have key : ∀ (l : List Nat), ((List.range l.length).filter fun i => !decide ((l.getD i 0) ∈ colN)).head? = l.findIdx? fun c => !isC (sg c) := by
    intro l
    induction l with
    | nil => rfl
    | cons a l ih =>
      rw [List.length_cons, List.range_succ_eq_map, List.findIdx?_cons, List.filter_cons]
      rw [show (a :: l).getD 0 0 = a from rfl, isC_sg]
      cases c : decide (a ∈ colN) with
      | false => rfl
      | true =>
        rw [if_neg (by decide), if_neg (by decide), List.filter_map, List.head?_map, ← ih]
        rfl
  have e : z.cps.size = z.cps.toList.length := by simp
  unfold bads badZ
  rw [e]
  exact key z.cps.toList
end Dr
namespace Dr
open PySem L2
theorem eqv_no (x : PyData) (l : List PyData) : PyData.eqv (.list (x :: l)) (.list []) = false := by
  simp [PyData.eqv, PyData.eqvAll]
theorem eqv_nil : PyData.eqv (.list []) (.list []) = true := by decide +kernel
theorem shaped_one {v : V} (h : ScV v) : SeqAt.shaped (.list [dV v]) = true := by
  rcases h with rfl | ⟨i, rfl⟩ | ⟨z, rfl, hz⟩
  · decide +kernel
  · simp [SeqAt.shaped, dV, PyData.canLay0, PyData.canLayAll0, PyData.depth, PyData.depthAll]
  · simp [SeqAt.shaped, dV, PyData.canLay0, PyData.canLayAll0, PyData.depth, PyData.depthAll, hz]
def nI (l : List Nat) : List Int := l.map fun (i : Nat) => (i : Int)
end Dr
namespace Dr
open PySem PySem.W
section
variable {K : Frag} {C D : Addr} {t : Value}
theorem cls_some (h : hasDictIn K C = true) : (clsIn K C).isSome = true := by
  unfold hasDictIn at h
  cases e : clsIn K C with
  | none => rw [e] at h; cases h
  | some x => rfl
theorem kitCls_sub {b : Bool} (hd : hasDictIn K D = true) (ht : typeIn K (.ref D) = some (.type "type")) (s : subIn K t (.ref D) = some b) : kitCls K t (.ref D) = some b := by
  have z : ((clsIn K D).isSome && typeIn K (.ref D) == some (.type "type")) = true := by rw [cls_some hd, ht]; rfl
  show (if ((clsIn K D).isSome && typeIn K (.ref D) == some (.type "type")) = true then subIn K t (.ref D) else none) = some b
  rw [if_pos z, s]
theorem kit_yes (hd : hasDictIn K D = true) (ht : typeIn K (.ref D) = some (.type "type")) (s : subIn K t (.ref D) = some true) : kitOne K t (.ref D) = some true := by
  unfold kitOne
  split
  · rfl
  · exact kitCls_sub hd ht s
theorem kit_no (hd : hasDictIn K D = true) (ht : typeIn K (.ref D) = some (.type "type")) (s : subIn K t (.ref D) = some false) (r : subIn K (.ref D) (.ref D) = some true) : kitOne K t (.ref D) = some false := by
  unfold kitOne
  split
  · rename_i h
    have e : t = .ref D := beq_iff_eq.mp h
    rw [e, r] at s
    cases s
  · exact kitCls_sub hd ht s
theorem kit_VE (s : subIn K (.ref C) (.type "ValueError") = some true) : kitOne K (.ref C) (.type "ValueError") = some true := by
  unfold kitOne
  split
  · rfl
  · show (if kitMeta "ValueError" = true then subIn K (.ref C) (.type "ValueError") else none) = some true
    rw [if_pos (by decide +kernel), s]
theorem exm_sub (b : subIn K (.ref D) (.type "BaseException") = some true) (hd : hasDictIn K D = true) (ht : typeIn K (.ref D) = some (.type "type")) (s : subIn K t (.ref D) = some true) : exmOne K t (.ref D) = some true := by
  unfold exmOne
  rw [b, if_pos (by rfl)]
  exact kitCls_sub hd ht s
end
end Dr
/-! A run has one end: two facts of one run hold together. -/
namespace DrDet
open PySem PySem.Sem
theorem runs_det {M : Model} {Γ : Ctx} {p : Pos} {t : Sem Fin} {fs : List Frame} {s s1 : Shared} {e : End} (h : Runs M Γ p t fs s e s1) : ∀ {e2 : End} {s2 : Shared}, Runs M Γ p t fs s e2 s2 → e = e2 ∧ s1 = s2 := by
  induction h with
  | done => intro e2 s2 g; cases g; exact ⟨rfl, rfl⟩
  | raise => intro e2 s2 g; cases g; exact ⟨rfl, rfl⟩
  | again _ _ ih => intro e2 s2 g; cases g; exact ih ‹_›
  | rule _ ih => intro e2 s2 g; cases g; exact ih ‹_›
  | «at» _ ih => intro e2 s2 g; cases g; exact ih ‹_›
  | load a _ ih => intro e2 s2 g; cases g with | load b r => rw [a] at b; cases b; exact ih r
  | update _ _ ih => intro e2 s2 g; cases g; exact ih ‹_›
  | loadIfAlive _ ih => intro e2 s2 g; cases g; exact ih ‹_›
  | point _ ih => intro e2 s2 g; cases g; exact ih ‹_›
  | alloc _ ih => intro e2 s2 g; cases g; exact ih ‹_›
  | fresh _ ih => intro e2 s2 g; cases g; exact ih ‹_›
  | ask _ ih => intro e2 s2 g; cases g; exact ih ‹_›
  | choose _ _ ih => intro e2 s2 g; cases g; exact ih ‹_›
  | os _ ih => intro e2 s2 g; cases g; exact ih ‹_›
  | handled _ ih => intro e2 s2 g; cases g; exact ih ‹_›
  | genState a _ ih => intro e2 s2 g; cases g with | genState b r => rw [a] at b; cases b; exact ih r
  | stack _ ih => intro e2 s2 g; cases g; exact ih ‹_›
  | thread _ ih => intro e2 s2 g; cases g; exact ih ‹_›
  | newGen _ ih => intro e2 s2 g; cases g; exact ih ‹_›
  | call _ _ i1 i2 =>
    intro e2 s2 g
    cases g with
    | call a b => obtain ⟨z, rfl⟩ := i1 a; cases z; exact i2 b
    | callSusp a => obtain ⟨z, _⟩ := i1 a; cases z
  | callSusp _ i1 =>
    intro e2 s2 g
    cases g with
    | call a b => obtain ⟨z, _⟩ := i1 a; cases z
    | callSusp a => obtain ⟨z, rfl⟩ := i1 a; cases z; exact ⟨rfl, rfl⟩
  | yield => intro e2 s2 g; cases g; exact ⟨rfl, rfl⟩
  | resumeFresh q _ _ _ i1 i2 =>
    intro e2 s2 g
    cases g with
    | resumeFresh q2 a _ b => rw [q] at q2; cases q2; obtain ⟨rfl, rfl⟩ := i1 a; exact i2 b
    | resumeSuspended q2 => rw [q] at q2; cases q2
    | resumeJustStarted q2 n => exact absurd rfl n
    | resumeRunning q2 => rw [q] at q2; cases q2
    | resumeFinished q2 => rw [q] at q2; cases q2
  | resumeSuspended q _ _ _ i1 i2 =>
    intro e2 s2 g
    cases g with
    | resumeFresh q2 => rw [q] at q2; cases q2
    | resumeSuspended q2 a _ b => rw [q] at q2; cases q2; obtain ⟨rfl, rfl⟩ := i1 a; exact i2 b
    | resumeJustStarted q2 n => rw [q] at q2; cases q2
    | resumeThrowFresh q2 => rw [q] at q2; cases q2
    | resumeRunning q2 => rw [q] at q2; cases q2
    | resumeFinished q2 => rw [q] at q2; cases q2
  | resumeJustStarted q n _ ih =>
    intro e2 s2 g
    cases g with
    | resumeFresh q2 => exact absurd rfl n
    | resumeSuspended q2 => rw [q] at q2; cases q2
    | resumeJustStarted q2 n a => exact ih a
    | resumeRunning q2 => rw [q] at q2; cases q2
    | resumeFinished q2 => rw [q] at q2; cases q2
  | resumeThrowFresh q _ ih =>
    intro e2 s2 g
    cases g with
    | resumeSuspended q2 => rw [q] at q2; cases q2
    | resumeThrowFresh q2 a => exact ih a
    | resumeRunning q2 => rw [q] at q2; cases q2
    | resumeFinished q2 => rw [q] at q2; cases q2
  | resumeRunning q _ ih =>
    intro e2 s2 g
    cases g with
    | resumeRunning q2 a => exact ih a
    | resumeFresh q2 => rw [q] at q2; cases q2
    | resumeSuspended q2 => rw [q] at q2; cases q2
    | resumeJustStarted q2 => rw [q] at q2; cases q2
    | resumeThrowFresh q2 => rw [q] at q2; cases q2
    | resumeFinished q2 => rw [q] at q2; cases q2
  | resumeFinished q _ ih =>
    intro e2 s2 g
    cases g with
    | resumeFinished q2 a => exact ih a
    | resumeFresh q2 => rw [q] at q2; cases q2
    | resumeSuspended q2 => rw [q] at q2; cases q2
    | resumeJustStarted q2 => rw [q] at q2; cases q2
    | resumeThrowFresh q2 => rw [q] at q2; cases q2
    | resumeRunning q2 => rw [q] at q2; cases q2
  | segRet _ _ i1 i2 =>
    intro e2 s2 g
    cases g with
    | segRet a b => obtain ⟨z, rfl⟩ := i1 a; cases z; exact i2 b
    | segSuspOut _ a => obtain ⟨z, _⟩ := i1 a; cases z
    | segSuspGen _ a => obtain ⟨z, _⟩ := i1 a; cases z
  | segGen _ _ i1 i2 =>
    intro e2 s2 g
    cases g with
    | segGen a b => obtain ⟨z, rfl⟩ := i1 a; cases z; exact i2 b
    | segSuspOut _ a => obtain ⟨z, _⟩ := i1 a; cases z
    | segSuspGen _ a => obtain ⟨z, _⟩ := i1 a; cases z
  | segSuspOut q _ i1 =>
    intro e2 s2 g
    cases g with
    | segRet a b => obtain ⟨z, _⟩ := i1 a; cases z
    | segGen a b => obtain ⟨z, _⟩ := i1 a; cases z
    | segSuspOut _ a => obtain ⟨z, rfl⟩ := i1 a; cases z; exact ⟨rfl, rfl⟩
    | segSuspGen q2 a => rw [q] at q2; cases q2
  | segSuspGen q _ _ _ i1 i2 =>
    intro e2 s2 g
    cases g with
    | segRet a b => obtain ⟨z, _⟩ := i1 a; cases z
    | segGen a b => obtain ⟨z, _⟩ := i1 a; cases z
    | segSuspOut q2 a => rw [q] at q2; cases q2
    | segSuspGen q2 a _ b => rw [q] at q2; cases q2; obtain ⟨z, rfl⟩ := i1 a; cases z; exact i2 b
theorem wakes_det {M : Model} {Γ : Ctx} {p : Pos} {g : Nat} {r : Resume} {s : Shared} {a b : GenResult} {s1 s2 : Shared} (h : Wakes M Γ p g r s a s1) (k : Wakes M Γ p g r s b s2) : a = b ∧ s1 = s2 := by
  unfold Wakes at h k
  cases hg : s.gens[g]? with
  | none => rw [hg] at h; exact h.elim
  | some st =>
    rw [hg] at h k
    cases st with
    | fresh c =>
      cases r with
      | throw x => exact ⟨h.1.trans k.1.symm, h.2.trans k.2.symm⟩
      | send v =>
        cases v with
        | none =>
          obtain ⟨e1, t1, r1, _, rfl, rfl⟩ := h
          obtain ⟨e2, t2, r2, _, rfl, rfl⟩ := k
          obtain ⟨rfl, rfl⟩ := runs_det r1 r2
          exact ⟨rfl, rfl⟩
        | _ => exact ⟨h.1.trans k.1.symm, h.2.trans k.2.symm⟩
    | suspended k0 l c0 p0 fs cl =>
      obtain ⟨e1, t1, r1, _, rfl, rfl⟩ := h
      obtain ⟨e2, t2, r2, _, rfl, rfl⟩ := k
      obtain ⟨rfl, rfl⟩ := runs_det r1 r2
      exact ⟨rfl, rfl⟩
    | running => exact ⟨h.1.trans k.1.symm, h.2.trans k.2.symm⟩
    | finished => exact ⟨h.1.trans k.1.symm, h.2.trans k.2.symm⟩
theorem wp_both {α : Type} (M : Model) (Γ : Ctx) (t : Sem α) : ∀ (Q R : α → Pos → Shared → Prop) (E F : Value → Pos → Shared → Prop) (p : Pos) (s : Shared), wp M Γ t Q E p s → wp M Γ t R F p s →
    wp M Γ t (fun a p' s' => Q a p' s' ∧ R a p' s') (fun e p' s' => E e p' s' ∧ F e p' s') p s := by
  induction t with
  | pure a => intro Q R E F p s h k; exact ⟨h, k⟩
  | raise e => intro Q R E F p s h k; exact ⟨h, k⟩
  | unsupported _ => intro Q R E F p s h _; exact h
  | finish _ => intro Q R E F p s h _; exact h
  | rule _ k ih => intro Q R E F p s h k; exact ih () Q R E F p s h k
  | «at» p' k ih => intro Q R E F p s h k; exact ih () Q R E F p' s h k
  | load a _ k ih => intro Q R E F p s h k; obtain ⟨o, ho, h⟩ := h; obtain ⟨o2, ho2, k⟩ := k; rw [ho] at ho2; cases ho2; exact ⟨o, ho, ih o Q R E F p s h k⟩
  | update a _ f k ih => intro Q R E F p s h k; exact ⟨h.1, ih () Q R E F p _ h.2 k.2⟩
  | loadIfAlive a k ih => intro Q R E F p s h k; exact ih _ Q R E F p s h k
  | point _ k ih => intro Q R E F p s h k; exact ih () Q R E F p s h k
  | register _ _ => intro Q R E F p s h _; exact h
  | alloc o k ih => intro Q R E F p s h k; exact ih _ Q R E F p _ h k
  | fresh k ih => intro Q R E F p s h k; exact ih _ Q R E F p _ h k
  | ask k ih => intro Q R E F p s h k; exact ih _ Q R E F p s h k
  | choose src m k ih => intro Q R E F p s h k; exact ⟨h.1, ih _ Q R E F p _ h.2 k.2⟩
  | os q _ k ih => intro Q R E F p s h k; exact ih _ Q R E F p _ h k
  | call c hd _ _ k ih => intro Q R E F p s h k; obtain ⟨r, s', hr, h⟩ := h; obtain ⟨r2, s2, hr2, k⟩ := k; obtain ⟨z, rfl⟩ := runs_det hr hr2; cases z; exact ⟨r, s', hr, ih r Q R E F p s' h k⟩
  | handled own k ih => intro Q R E F p s h k; exact ih _ Q R E F p s h k
  | genState g k ih => intro Q R E F p s h k; obtain ⟨st, hs, h⟩ := h; obtain ⟨st2, hs2, k⟩ := k; rw [hs] at hs2; cases hs2; exact ⟨st, hs, ih _ Q R E F p s h k⟩
  | newGen c k ih => intro Q R E F p s h k; exact ih _ Q R E F p _ h k
  | resume g r _ k ih => intro Q R E F p s h k; obtain ⟨res, s', hw, h⟩ := h; obtain ⟨r2, s2, hw2, k⟩ := k; obtain ⟨rfl, rfl⟩ := wakes_det hw hw2; exact ⟨res, s', hw, ih res Q R E F p s' h k⟩
  | yield _ _ _ _ => intro Q R E F p s h _; exact h
  | stack k ih => intro Q R E F p s h k; exact ih _ Q R E F p s h k
  | fork _ _ => intro Q R E F p s h _; exact h
  | thread k ih => intro Q R E F p s h k; exact ih _ Q R E F p s h k
  | await _ _ _ _ _ => intro Q R E F p s h _; exact h
/-- two facts of one run -/
theorem both {α : Type} {M : Model} {A : Around} {t : Sem α} {s : Shared} {Q R : α → Shared → Prop} {E F : Value → Shared → Prop} (h : wpAny M A t Q E s) (k : wpAny M A t R F s) :
    wpAny M A t (fun a s' => Q a s' ∧ R a s') (fun e s' => E e s' ∧ F e s') s := fun Γ p hΓ => wp_both M Γ t _ _ _ _ p s (h Γ p hΓ) (k Γ p hΓ)
end DrDet
/-! Texts with their tokens told: list(text), a told list that gives out its items, what is made of them. -/
namespace DrTk
open PySem
/-- the signs of a text as new texts, the tokens counted up from t -/
def signs : List Nat → Nat → List Value
  | [], _ => []
  | c :: l, t => .str ⟨#[c]⟩ t :: signs l (t + 1)
theorem signs_len : ∀ (l : List Nat) (t : Nat), (signs l t).length = l.length
  | [], _ => rfl
  | _ :: l, t => congrArg Nat.succ (signs_len l (t + 1))
section
variable {prog : Program} {w : World} {A : Around} {R : Result → Shared → Prop} {I S : Addr} {x : Str} {t : Tok}
/-- list.extend over a text's iterator, the tokens told -/
theorem ext_signs (hh : A.handled = none) (hn : x.cps.size ≤ sizeLine) (hne : S ≠ I) (res : Value) : ∀ (k i : Nat) (s : Shared) (acc : Array Value) (c : Nat), x.cps.size - i = k → i ≤ x.cps.size → acc.size = i →
    s.heap.IsStrIter I "str_ascii_iterator" x t i → s.heap.get? S = some { cls := .type "list", dict := none, data := .seq acc c, slots := #[] } →
    (∀ h' tk c', (∀ b o, b ≠ S → b ≠ I → s.heap.get? b = some o → h'.get? b = some o) → s.toks ≤ tk →
      h'.get? S = some { cls := .type "list", dict := none, data := .seq (acc ++ (signs (x.cps.toList.drop i) s.toks).toArray) c', slots := #[] } → R (.ok (.ret res)) { s with heap := h', toks := tk }) →
    codeAny (model prog w) A (.builtin "list.extend.loop" ⟨[.ref S, .ref I, res], []⟩) R s := by
  intro k
  induction k with
  | zero =>
    intro i s acc c hk hi ha hit hS hR
    have e : i = x.cps.size := by omega
    subst e
    refine codeAny_builtin F.entry_extend_loop ?_
    rw [Around.under_plainId F.plain_extend_loop _]
    refine wpAny_bind (wpAny_pyNext_ascii_end (t := t) (x := x) (i := x.cps.size) hh hit (by simp) fun h' he => wpAny_pure ?_)
    refine hR h' s.toks c (fun b o hb hc z => he b o hc z) (Nat.le_refl _) ?_
    have z : x.cps.toList.drop x.cps.size = [] := by simp
    rw [z]
    simpa [signs] using he S _ hne hS
  | succ k ih =>
    intro i s acc c hk hi ha hit hS hR
    have hlt : i < x.cps.size := by omega
    refine codeAny_builtin F.entry_extend_loop ?_
    rw [Around.under_plainId F.plain_extend_loop _]
    refine wpAny_bind (wpAny_pyNext_ascii_item hit (c := x.cps[i]) (by simp [hlt]) fun h' hit' hs => ?_)
    have hS' : h'.get? S = some { cls := .type "list", dict := none, data := .seq acc c, slots := #[] } := hs.extBut S _ hne hS
    refine wpAny_bind (wpAny_updateSeq hS' rfl (wpAny_pure ⟨plainId_quiet F.plain_extend_loop _, ?_⟩) (by omega) (by show (acc.push _).size ≤ sizeLine + 1; rw [Array.size_push]; omega))
    have hit2 : (h'.update S (Obj.mapSeq fun a => a.push (.str ⟨#[x.cps[i]]⟩ s.toks))).IsStrIter I "str_ascii_iterator" x t (i + 1) := by
      obtain ⟨o, ho, r⟩ := hit'
      exact ⟨o, (Heap.get?_update_other _ _ hne).trans ho, r⟩
    refine ih (i + 1) _ (acc.push (.str ⟨#[x.cps[i]]⟩ s.toks)) _ (by omega) hlt (by rw [Array.size_push, ha]) hit2 (Heap.get?_update_self _ hS' rfl) fun h2 tk c' hk2 ht h3 => ?_
    refine hR h2 tk c' (fun b o hb hc z => hk2 b o hb hc ((Heap.get?_update_other _ _ (Ne.symm hb)).trans (hs.extBut b o hc z))) (Nat.le_trans (Nat.le_succ _) ht) ?_
    rw [h3]
    have e : x.cps.toList.drop i = x.cps[i] :: x.cps.toList.drop (i + 1) := by
      rw [List.drop_eq_getElem_cons (by simpa using hlt)]
      simp
    rw [e]
    simp [signs]
theorem list_signs {E : Value → Shared → Prop} {s : Shared} {Q : Value → Shared → Prop} (hh : A.handled = none) (ha : x.cps.all (· < 128) = true) (hn : x.cps.size ≤ sizeLine)
    (hq : ∀ h' tk c', (∀ b o, s.heap.get? b = some o → h'.get? b = some o) → s.toks ≤ tk →
      h'.get? s.heap.objs.size = some { cls := .type "list", dict := none, data := .seq (signs x.cps.toList s.toks).toArray c', slots := #[] } → Q (.ref s.heap.objs.size) { s with heap := h', toks := tk }) :
    wpAny (model prog w) A (call (.type "list") [.str x t]) Q E s := by
  refine callType_codes (Q₁ := fun obj s1 => obj = .ref s.heap.objs.size ∧ s1 = { s with heap := s.heap.push { cls := .type "list", data := .seq #[] } }) F.called_list (F.typeCall_list_1 _) F.entry_list_init
    (code_list_new _ ⟨rfl, rfl⟩) fun obj s1 h1 => ?_
  obtain ⟨e1, e2⟩ := h1
  subst e1
  subst e2
  have hS : (s.heap.push { cls := .type "list", data := .seq #[] }).get? s.heap.objs.size = some { cls := .type "list", data := .seq #[] } := Heap.get?_push_size _ rfl
  refine ⟨⟨_, hS, rfl⟩, F.args_list_init_2 _ _, ?_⟩
  show wpAny _ _ (Builtin.List.listItems (.ref s.heap.objs.size) >>= fun old => Builtin.List.listUpdate (.ref s.heap.objs.size) (fun _ => #[]) >>= fun _ => letGo old.toList.reverse >>= fun _ => Builtin.List.listExtendWith (.ref s.heap.objs.size) (.str x t) .none) _ _ _
  refine wpAny_bind ?_
  unfold Builtin.List.listItems
  refine wpAny_bind (wpAny_seqItems hS rfl (wpAny_pure (wpAny_bind ?_)))
  refine wpAny_updateSeq hS rfl (wpAny_bind (wpAny_letGo ?_))
  generalize hS2 : (s.heap.push { cls := .type "list", data := .seq #[] }).update s.heap.objs.size (Obj.mapSeq fun _ => (#[] : Array Value)) = g
  have e2 := Heap.get?_update_self (Obj.mapSeq fun _ => (#[] : Array Value)) hS rfl
  rw [hS2] at e2
  obtain ⟨n2, e2⟩ : ∃ n, g.get? s.heap.objs.size = some { cls := .type "list", dict := none, data := .seq #[] n, slots := #[] } := ⟨_, e2⟩
  have oth : ∀ b o, s.heap.get? b = some o → g.get? b = some o := fun b o e => by
    rw [← hS2]
    exact (Heap.get?_update_other _ _ (Ne.symm (Nat.ne_of_lt (Heap.lt_size e)))).trans (Heap.get?_push_of_some _ e)
  have hgs : s.heap.objs.size < g.objs.size := Heap.lt_size e2
  unfold Builtin.List.listExtendWith
  refine wpAny_bind (wpAny_typeOf (T := "str") (v := .str x t) rfl ?_)
  have c1 : Builtin.List.listSameRef (.ref s.heap.objs.size) (.str x t) = false := rfl
  have c2 : (Value.type "str" == Value.type "list") = false := by decide
  have c3 : (Value.type "str" == Value.type "tuple") = false := by decide
  simp only [c1, c2, c3, Bool.or_false, Bool.false_eq_true, if_false]
  refine wpAny_bind (wpAny_pyIter_ascii ha (wpAny_bind (wpAny_holding ?_)))
  unfold Builtin.List.listLengthHint
  refine wpAny_bind (wpAny_specialOf (T := "str") (v := .str x t) rfl F.str_len ?_); wp_delta
  refine wpAny_bind (wpAny_isInstance (T := "str") (v := .str x t) (b := true) rfl (by rw [isSubtype_type]; kernel_rfl) ?_); show wpAny _ _ (typeOf (Value.str x t) >>= _) _ _ _
  refine wpAny_bind (wpAny_typeOf (T := "str") (v := .str x t) rfl (wpAny_pure ?_))
  rw [if_neg (by decide)]
  refine wpAny_pure ⟨plainId_quiet F.plain_extend_loop _, ?_⟩
  refine ext_signs (A := A.in1) (I := g.objs.size) (S := s.heap.objs.size) (x := x) (t := t) hh hn (Nat.ne_of_lt hgs) _ x.cps.size 0 _ #[] n2 rfl (Nat.zero_le _) rfl ?_ ?_ fun h' tk c' hk ht h3 => ?_
  · exact ⟨_, Heap.get?_push_size _ rfl, rfl, rfl⟩
  · exact Heap.get?_push_of_some _ e2
  refine ⟨rfl, hq h' tk c' (fun b o e => ?_) ht ?_⟩
  · have lt := Heap.lt_size e
    exact hk b o (Nat.ne_of_lt lt) (Nat.ne_of_lt (Nat.lt_trans lt hgs)) (Heap.get?_push_of_some _ (oth b o e))
  · rw [h3]
    simp
end
end DrTk
namespace Dr
open PySem L2
/-- a list whose items are told as they are, tokens and all -/
def TLst (a : Addr) (us : List Value) : HO := .ext fun h => ∃ n, h.get? a = some { cls := .type "list", data := .seq us.toArray n }
theorem tlst_ok {P : Program} {w : World} {H : Hp} {h : Heap} {a : Addr} {us : List Value} {n : Nat} (e : h.get? a = some { cls := .type "list", data := .seq us.toArray n }) : ObjOk P w H h a (TLst a us) :=
  ⟨⟨n, e⟩, ⟨_, e⟩, fun _ _ ⟨m, q⟩ k => ⟨m, k _ q⟩⟩
theorem tlst_at {P : Program} {w : World} {H : Hp} {h : Heap} {a : Addr} {us : List Value} (hok : HOk P w H h) (e : H a = some (TLst a us)) : ∃ n, h.get? a = some { cls := .type "list", data := .seq us.toArray n } :=
  (show ObjOk P w H h a (TLst a us) from hok a _ e).1
abbrev VQ := Value → Hp → Prop
abbrev TEV := L2.St → Hp → VQ → Prop
/-- an expression, its value told as it is -/
def PEV (X : Cx) (e : Expr) (t : TEV) : Prop := ∀ (pins : List (Addr × Obj)) (s : Shared) (σ : L2.St) (H : Hp) (Q : VQ), Inv X pins σ H s → t σ H Q →
  wpAny (model X.prog X.w) X.A (eval e X.env) (fun u s' => ∃ H', Inv X pins σ H' s' ∧ Q u H') X.xe s
section
variable {X : Cx}
theorem tl_more {pins : List (Addr × Obj)} {σ : L2.St} {H : Hp} {s : Shared} {E : Value → Shared → Prop} {D : Addr} {us : List Value} {u : Value} {Q : Value → Shared → Prop} (I : Inv X pins σ H s) (hD : H D = some (TLst D us)) (hz : us.length < sizeLine)
    (h : ∀ s', Inv X pins σ (upd H D (TLst D (us ++ [u]))) s' → Q .none s') : wpAny (model X.prog X.w) X.A (call (.builtin "list.append") [.ref D, u]) Q E s := by
  obtain ⟨n, e⟩ := tlst_at I.hok hD
  refine PyProof.Rows.append_at (hsz := by rw [List.size_toArray]; omega) e fun h' sb ho => h { s with heap := h' } ?_
  refine I.write (t' := s.toks) (by rw [hD]; trivial) (.inl rfl) (fun b o hb q => (sb.2 b hb).trans q) ⟨_, ho⟩ (tlst_ok (n := n + 1) ?_)
  rw [ho]
  simp
/-- [elt for target in iter if ..], each item told as it is -/
def tLcV (wi : TI) (g : TG) (tt : TT) (te : TEV) (vs : List Nat) : TE := fun σ H Q => wi σ H fun J H1 => ∀ D, H1 D = none → ∃ W : Nat → Nat → Hp → Prop, (∃ m, W 0 m (upd H1 D (TLst D []))) ∧ ∀ i m H, W i m H →
  (J.stop i H ∧ Q (.ref D) H) ∨ (J.go i H ∧ ∃ Nx : Hp → Prop, (∀ H', Nx H' → ∃ m', m' < m ∧ W (i + 1) m' H') ∧ ∀ x H', J.yld i H x H' → g x (wipe σ vs) H' fun σ2 H2 => wipe σ2 vs = wipe σ vs ∧ tt σ2 H2 fun b H3 =>
    if b = true then te σ2 H3 fun u H4 => ∃ us, H4 D = some (TLst D us) ∧ us.length < sizeLine ∧ Nx (upd H4 D (TLst D (us ++ [u]))) else Nx H3)
theorem lcv_core {pins : List (Addr × Obj)} {s : Shared} {σ : L2.St} {H : Hp} {Q : VK} {elt tg iter : Expr} {ifs : List Expr} {scope : Scope} {own : List (Str × Nat)} {pos pos' : Pos} {wi : TI} {g : TG} {tt : TT} {te : TEV} {use : Option (Value → Sem Unit)} {Qf : Value → Shared → Prop}
    (hc : X.calm = true) (hN : X.N.Nodup) (I : Inv X pins σ H s) (hi : PI X tg iter wi) (ok : BlkOk X.N X.env.scope scope own)
    (hg : ∀ (s : Shared) (H : Hp) (C : Addr) (cl : List (Str × Addr)) (fp : List Addr), PG (X.blk s H scope (compEnvC scope cl C X.env) fp) tg g) (ht : ∀ (s : Shared) (H : Hp) (C : Addr) (cl : List (Str × Addr)) (fp : List Addr), PTs (X.blk s H scope (compEnvC scope cl C X.env) fp) ifs tt)
    (he : ∀ (s : Shared) (H : Hp) (C : Addr) (cl : List (Str × Addr)) (fp : List Addr), PEV (X.blk s H scope (compEnvC scope cl C X.env) fp) elt te) (hs : ∀ x, foldedSetIterable iter X.env x = pure x)
    (h : tLcV wi g tt te (own.map (·.2)) σ H Q)
    (fin : ∀ D C s' m H', Inv X pins σ H' s' → Q (.ref D) H' → s'.heap.Ns C m → FpOk X pins H' C → compPost (model X.prog X.w) X.A X.xe use Qf (.ref D) C (.ok .next) s') :
    wpAny (model X.prog X.w) X.A (comprehension (.ListComp elt [⟨tg, iter, ifs, 0⟩] scope pos) scope X.env pos' (newList []) false (eval iter X.env) use) Qf X.xe s := by
  have fr : ∀ y ∈ scope.names, y.2 = .free → ∃ c, X.env.cells.lookup y.1 = some c := fun y hy e => (ok.free y hy e).elim (fun k => I.ok.has _ (.inl k)) fun k => I.ok.has _ (.inr k)
  refine wpAny_comprehension_free (use := use) rfl hs (closure_ok fr) ok.kind (fun y hy e => by rw [ok.uniq y hy, e]) (thn (hi.run pins s σ H _ I h) fun xv s1 hx => thn hx fun itv s2 h2 => ?_)
  obtain ⟨it, fp, tn, J, H2, rfl, I2, T, st2, f2, q⟩ := h2
  refine wpAny_newObj_type (newEnv_comp ?_) (by show 0 ≤ sizeLine; decide)
  obtain ⟨D, hD⟩ : ∃ D, s2.heap.objs.size = D := ⟨_, rfl⟩
  rw [hD]
  obtain ⟨W, ⟨m0, w0⟩, turn⟩ := q D (I2.hok.fresh (Nat.le_of_eq hD))
  obtain ⟨s3, e3⟩ : ∃ s3 : Shared, ({ s2 with heap := s2.heap.push { cls := .type "list", data := .seq ([] : List Value).toArray } } : Shared) = s3 := ⟨_, rfl⟩
  have h3 : s3.heap = s2.heap.push { cls := .type "list", data := .seq ([] : List Value).toArray } := by rw [← e3]
  have gD : (s2.heap.push { cls := .type "list", data := .seq ([] : List Value).toArray }).get? D = some { cls := .type "list", data := .seq ([] : List Value).toArray } := by rw [← hD]; exact Heap.get?_push_size _ rfl
  have I3 : Inv X pins σ (upd H2 D (TLst D [])) s3 := by
    rw [← e3]
    exact I2.laid (t' := s2.toks) (fun b o e => Heap.get?_push_of_some _ e) (Nat.le_of_eq hD) (tlst_ok gD)
  rw [e3]
  have below : ∀ b ∈ fp, b < s2.heap.objs.size := fun b hb => let ⟨_, z, _⟩ := T.obj _ _ st2 b hb; Heap.lt_size z
  have away : ∀ b ∈ fp, FpOk X pins (upd H2 D (TLst D [])) b ∧ b < s3.heap.objs.size := fun b hb => by
    have lt := below b hb
    refine ⟨⟨?_, (f2 b hb).2⟩, by rw [h3, Heap.size_push]; exact Nat.lt_succ_of_lt lt⟩
    rw [upd_ne (by rw [← hD]; exact Nat.ne_of_lt lt)]
    exact (f2 b hb).1
  have st3 : tn 0 s3.heap := T.keep _ _ _ st2 fun b _ o z => by rw [h3]; exact Heap.get?_push_of_some _ z
  have I4 := block_start I3 ok hN away
  have jg := hg s3 (upd H2 D (TLst D [])) s3.heap.objs.size (cellsFrom (s3.heap.objs.size + 1) scope.names (cloFrom X.env.cells scope.names [])) fp
  have jt := ht s3 (upd H2 D (TLst D [])) s3.heap.objs.size (cellsFrom (s3.heap.objs.size + 1) scope.names (cloFrom X.env.cells scope.names [])) fp
  have je := he s3 (upd H2 D (TLst D [])) s3.heap.objs.size (cellsFrom (s3.heap.objs.size + 1) scope.names (cloFrom X.env.cells scope.names [])) fp
  have no0 : ∀ b ∈ fp, (upd H2 D (TLst D [])) b = none := fun b hb => (away b hb).1.1
  show codeAny _ _ (.compStart (.ListComp elt [⟨tg, iter, ifs, 0⟩] scope pos) 0 (.ref it) (.ref D) (compEnvC scope (cellsFrom (s3.heap.objs.size + 1) scope.names (cloFrom X.env.cells scope.names [])) s3.heap.objs.size X.env)) (compPost (model X.prog X.w) X.A X.xe use Qf (.ref D) s3.heap.objs.size) { s3 with heap := pushCells (s3.heap.push { cls := .type "dict", data := .dict #[] }) scope.names }
  obtain ⟨ce, hce⟩ : ∃ ce, compEnvC scope (cellsFrom (s3.heap.objs.size + 1) scope.names (cloFrom X.env.cells scope.names [])) s3.heap.objs.size X.env = ce := ⟨_, rfl⟩
  rw [hce] at I4 jg jt je ⊢
  have eL : ce.locals = s3.heap.objs.size := by rw [← hce] <;> rfl
  obtain ⟨H3, hH⟩ : ∃ H3, upd H2 D (TLst D []) = H3 := ⟨_, rfl⟩
  rw [hH] at I3 I4 jg jt je w0 no0 away
  obtain ⟨s4, e4⟩ : ∃ s4 : Shared, ({ s3 with heap := pushCells (s3.heap.push { cls := .type "dict", data := .dict #[] }) scope.names } : Shared) = s4 := ⟨_, rfl⟩
  rw [e4] at I4 ⊢
  have st4 : tn 0 s4.heap := T.keep _ _ _ st3 fun b _ o z => by rw [← e4]; exact pushCells_keeps _ _ _ _ (Heap.get?_push_of_some _ z)
  have stay : ∀ {σ' : L2.St} {H' : Hp} {s' : Shared}, Inv (X.blk s3 H3 scope ce fp) [] σ' H' s' → (∀ b ∈ fp, H' b = none) → ∀ b ∈ fp, FpOk (X.blk s3 H3 scope ce fp) [] H' b := fun I' nn b hb =>
    ⟨nn b hb, (I'.ok.exf b hb).1, I'.ok.exfs b hb, .inl hb, fun x c z => (I'.ok.exf b hb).2 x c z, fun p hp => absurd (show p ∈ ([] : List (Addr × Obj)) ++ [] from hp) (by simp)⟩
  have loop : codeAny (model X.prog X.w) X.A (.compLoop (.ListComp elt [⟨tg, iter, ifs, 0⟩] scope pos) 0 (.ref it) (.ref D) ce) (compPost (model X.prog X.w) X.A X.xe use Qf (.ref D) s3.heap.objs.size) s4 := by
    refine compLoop_any (fun n s' => ∃ i H', Inv (X.blk s3 H3 scope ce fp) [] (wipe σ (own.map (·.2))) H' s' ∧ tn i s'.heap ∧ (∀ b ∈ fp, H' b = none) ∧ W i n H') ?_ m0 ⟨0, H3, I4, st4, no0, w0⟩
    intro n s5 hn5
    obtain ⟨i, H5, I5, st5, no5, w5⟩ := hn5
    rcases turn i n H5 w5 with ⟨halt, qq⟩ | ⟨go, Nx, hNx, step⟩
    · refine thnF (T.done (X.blk s3 H3 scope ce fp) rfl rfl rfl hc i [] s5 _ H5 (fun _ _ => False) I5 (stay I5 no5) st5 halt) fun r s6 hr6 => ?_
      obtain ⟨rfl, I6⟩ := hr6
      have I7 : Inv X pins σ H5 s6 := I3.call' (ch := fp) I6.os I6.base I6.hok I6.bare fun b hb => ⟨(away b hb).1.2.2.2.1, (away b hb).1.2.1, (away b hb).1.2.2.2.2.1, (away b hb).1.2.2.2.2.2⟩
      have noC : H5 s3.heap.objs.size = none := eL ▸ (show H5 ce.locals = none from I6.free)
      obtain ⟨m, hns, _⟩ := I6.loc
      exact fin D s3.heap.objs.size s6 m H5 I7 qq (eL ▸ (show s6.heap.Ns ce.locals m from hns)) (I3.fpOk (Nat.le_refl _) noC)
    · refine thnF (T.item (X.blk s3 H3 scope ce fp) rfl rfl rfl hc i [] s5 _ H5 (fun _ _ => False) I5 (stay I5 no5) st5 go) fun r s6 hr6 => ?_
      obtain ⟨u, rfl, h6⟩ := hr6
      refine thnF h6 fun _ s7 h7 => ?_
      obtain ⟨x, H7, I7, r7, y7, st7, no7⟩ := h7
      have I7p := I7.pinned (stay I7 no7) (T.obj _ _ st7)
      refine thnF (jg.run _ s7 _ H7 x u _ I7p r7 (step x H7 y7)) fun _ s8 h8 => ?_
      obtain ⟨σ8, H8, I8, ew, q8⟩ := h8
      refine thnF (jt.run _ s8 σ8 H8 _ I8 q8) fun b s9 h9 => ?_
      obtain ⟨H9, I9, q9⟩ := h9
      have next : ∀ {s' : Shared} {H' : Hp}, Inv (X.blk s3 H3 scope ce fp) ([] ++ pinsAt fp s7.heap) σ8 H' s' → Nx H' → ∃ m, m < n ∧ ∃ i H', Inv (X.blk s3 H3 scope ce fp) [] (wipe σ (own.map (·.2))) H' s' ∧ tn i s'.heap ∧ (∀ b ∈ fp, H' b = none) ∧ W i m H' := fun {s' H'} J' nx => by
        obtain ⟨m', lm, w'⟩ := hNx H' nx
        have at7 : ∀ b ∈ fp, ∀ o, s7.heap.get? b = some o → s'.heap.get? b = some o ∧ H' b = none := fun b hb o z =>
          let y := J'.pin (b, o) (List.mem_append_right _ (List.mem_append_right _ (mem_pinsAt hb z))); ⟨y.1, y.2.1⟩
        have sz : (wipe σ (own.map (·.2))).length = σ8.length := by rw [← ew, wipe_length]
        refine ⟨m', lm, i + 1, H', (J'.unpinned (pins := [])).weak sz (fun j v z => (wipe_some (ew.symm ▸ z)).1), T.keep _ _ _ st7 fun b hb o z => (at7 b hb o z).1, fun b hb => ?_, w'⟩
        obtain ⟨o, z, _⟩ := T.obj _ _ st7 b hb
        exact (at7 b hb o z).2
      match b, q9 with
      | false, q9 => exact (show ∃ m, m < n ∧ _ from next I9 q9)
      | true, q9 =>
        refine thnF (je _ s9 σ8 H9 _ I9 q9) fun z s10 h10 => ?_
        obtain ⟨H10, I10, us, hD10, hz10, nx⟩ := h10
        exact tl_more (X := X.blk s3 H3 scope ce fp) I10 hD10 hz10 fun s11 I11 => next I11 nx
  exact codeAny_compStart_list loop (T.self X.A 0 _ _ _ st4 loop)
theorem pe_lcV {elt tg iter : Expr} {ifs : List Expr} {scope : Scope} {own : List (Str × Nat)} {pos : Pos} {wi : TI} {g : TG} {tt : TT} {te : TEV} (hc : X.calm = true) (hN : X.N.Nodup) (hi : PI X tg iter wi) (ok : BlkOk X.N X.env.scope scope own)
    (hg : ∀ (s : Shared) (H : Hp) (C : Addr) (cl : List (Str × Addr)) (fp : List Addr), PG (X.blk s H scope (compEnvC scope cl C X.env) fp) tg g) (ht : ∀ (s : Shared) (H : Hp) (C : Addr) (cl : List (Str × Addr)) (fp : List Addr), PTs (X.blk s H scope (compEnvC scope cl C X.env) fp) ifs tt)
    (he : ∀ (s : Shared) (H : Hp) (C : Addr) (cl : List (Str × Addr)) (fp : List Addr), PEV (X.blk s H scope (compEnvC scope cl C X.env) fp) elt te) (hs : ∀ x, foldedSetIterable iter X.env x = pure x := by intro _; rfl) :
    PE X (.ListComp elt [⟨tg, iter, ifs, 0⟩] scope pos) (tLcV wi g tt te (own.map (·.2))) := by
  refine ⟨fun pins s σ H Q I h => ?_⟩
  rw [eval_ListComp]
  refine lcv_core hc hN I hi ok hg ht he hs h fun D C s' m H' I' q hn f => ⟨m, hn, fun h2 sb => ⟨.ref D, H', ?_, rfl, q⟩⟩
  obtain ⟨f0, f1, f2, f3, f4, f5⟩ := f
  exact I'.turned (t' := s'.toks) (fun b o hb z => (sb.2 b hb).trans z) f0 f1 f3 f4 f5
end
end Dr
/-! ### promises that want one token to be out -/
namespace Dr
open PySem PySem.Spec PyProof.Rows L2
structure FnT (P : Program) (w : World) (K : PySem.W.Frag) (mg : Str → Option Value) (base : Heap) (CX : CXT) (k : Nat) (f : Addr) (fd : FuncData) (ps : List Str) (sp : Sp) : Prop where
  len : ∀ vs H Q E, sp vs H Q E → vs.length = ps.length
  run : ∀ (A : Around) (outer : List Env) (s : Shared) (H : Hp) (args : Args) (us : List Value) (vs : List V) (Q : VK) (E : XK), Room k A → 1 ≤ s.toks →
    Env0 P w K mg base A outer s H → BindsTo s fd args (ps.zip us) → Vals vs us → sp vs H Q E → codeAny (model P w) A (.call (.ref f) args) (CR CX outer P w H s Q E) s
section
variable {P : Program} {w : World} {K : PySem.W.Frag} {mg : Str → Option Value} {base : Heap} {CX : CXT} {f : Addr} {fd : FuncData} {ps : List Str} {sp : Sp}
theorem FnT.of {k : Nat} (F : FnOk P w K mg base CX k f fd ps sp) : FnT P w K mg base CX k f fd ps sp :=
  ⟨F.len, fun A outer s H args us vs Q E hr _ e b r h => F.run A outer s H args us vs Q E hr e b r h⟩
theorem okT {x qual : Str} {st : Stmt} {N : List Str} {k : Nat} (F : L2.Fun K x qual st f fd) (S : FnScope N ps (defScope st)) (len : ∀ vs H Q E, sp vs H Q E → vs.length = ps.length)
    (body : ∀ (cdv : Value) (A : Around) (outer : List Env) (s : Shared) (H : Hp) (vs : List V) (Q : VK) (E : XK), Room k (A.deeper (envOfC qual (defScope st) s.heap.objs.size f cdv)) → sp vs H Q E →
      ∃ t, PSsT (cxOf CX P w K mg base N qual (defScope st) f cdv A outer s H E) (defBody st) t ∧ t { nx := fun _ H' => Q .non H', rt := Q } (L2.start N vs) H) :
    FnT P w K mg base CX (k + 1) f fd ps sp := by
  obtain ⟨oc, od, kV, doc, pm, an, cdv, ct, osl, rfl, lk, hcd⟩ := F.ex
  refine ⟨len, fun A outer s H args us vs Q E room h0 e0 binds rel want => ?_⟩
  have kin : K.In s.heap := e0.mod.kin.keeps fun b o e => (e0.bs b o e).1
  have lim : s.heap.NoLimit := e0.mod.nolimit.keeps fun b o e => (e0.bs b o e).1
  have kinds : ∀ y ∈ ps.zip us, (defScope st).names.lookup y.1 = some .local ∨ ((defScope st).names.lookup y.1 = some .cell ∧
      ((cellsFrom (s.heap.objs.size + 1) (defScope st).names []).lookup y.1).isSome = true) := by
    rintro ⟨n, v⟩ hy
    rcases S.par n (List.of_mem_zip hy).1 with q | q
    · exact .inl q
    · exact .inr ⟨q, PySem.W.cellsFrom_some _ _ _ (.inl q)⟩
  refine codeAny_call_function room.depth (kin _ _ lk) rfl S.co S.gen rfl (PySem.W.codeRec_of kin hcd) (binds _ _ _ _ (PySem.wpAny_with_toks h0 (wpAny_mono (wpAny_newFunctionEnv_cells S.kind kinds ?_) (fun _ _ z => z) fun _ _ z _ => z)))
  rintro env rfl s1 x h1
  refine ⟨lim.keeps x.toInCall.keep, codeAny_func ?_⟩
  obtain ⟨t, ht, hq⟩ := body cdv A outer s H vs Q E (room.deeper _) want
  have I := inv_start (CX := CX) (E := E) S room.hd e0 (len _ _ _ _ want) rel x
  refine wpAny_mono (ht [] s1 (L2.start N vs) H _ h1 I hq) (fun fl s' hs => ?_) fun e s' hs => hs
  cases fl with
  | ret u =>
    obtain ⟨v, σ', H', J, rv, q⟩ := hs
    exact ⟨v, H', J.os, J.bare, J.base, J.hok, rv, q⟩
  | next =>
    obtain ⟨σ', H', J, q⟩ := hs
    exact ⟨.non, H', J.os, J.bare, J.base, J.hok, rfl, q⟩
  | brk => exact hs.elim fun _ hs => hs.elim fun _ hs => hs.2.elim
  | cont => exact hs.elim fun _ hs => hs.elim fun _ hs => hs.2.elim
end
section
variable {X : Cx} {CX : CXT} {k : Nat} {f : Addr} {fd : FuncData} {ps : List Str} {sp : Sp} {E : XK} {x y z : Str} {p pos : Pos} {e : Expr} {te : TE}
theorem run_fnT {pins : List (Addr × Obj)} {σ : L2.St} {H : Hp} {s : Shared} {Q : VK} {us : List Value} {vs : List V} (F : FnT X.prog X.w X.K X.mg X.base CX k f fd ps sp) (room : Room k X.A) (hb : Binds X.K fd ps []) (hx : Passes CX X E)
    (h0 : 1 ≤ s.toks) (I : Inv X pins σ H s) (r : Vals vs us) (q : sp vs H Q E) : wpAny (model X.prog X.w) X.A (call (.ref f) us) (EP X pins σ Q) X.xe s := by
  have hl : us.length = ps.length := by rw [← r.length]; exact F.len _ _ _ _ q
  have b := hb s us I.kIn (by simpa using hl)
  rw [List.append_nil] at b
  refine wpAny_call (codeAny_mono (F.run X.A X.stack s H ⟨us, []⟩ us vs Q E room h0 I.env0 b r q) fun fin s' hq => ?_)
  cases fin with
  | error e => exact hx pins σ H s e s' I hq
  | ok fl =>
    cases fl with
    | ret u => exact I.after hq
    | _ => exact False.elim hq
/-- f(e, 'text'): a token is out behind the text -/
theorem pe_callTc {j : Nat} {cp : Pos} (F : FnT X.prog X.w X.K X.mg X.base CX k f fd ps sp) (room : Room k X.A) (hg : Gl X x) (hm : X.mg x = some (.ref f)) (hk : PySem.W.keepIn X.K (.ref f) = true)
    (hb : Binds X.K fd ps []) (hx : Passes CX X E) (ha : PE X e te) (d1 : (x == ("__debug__" : Str)) = false := by decide)
    (d2 : starEach [e, .Constant (.str z) j cp] X.env = (false, eval e X.env) :: starEach [.Constant (.str z) j cp] X.env := by rfl) :
    PE X (.Call (.Name x p) [e, .Constant (.str z) j cp] [] pos) (fun σ H Q => te σ H fun v H1 => sp [v, .str z] H1 Q E) := by
  refine ⟨fun pins s σ H Q I h => ?_⟩
  refine wpAny_Call_Name_kw (ld_glob I hg hm (PySem.W.callWith_K (h₀ := X.base) I.ok.mod.kin hk ?_ d2 rfl) d1)
  rw [d2]
  show wpAny _ _ (spliced ((false, eval e X.env) :: backTo pos (starEach [.Constant (.str z) j cp] X.env))) _ _ s
  refine Calls.spliced_cons (thn (ha.run pins s σ H _ I h) fun u s1 hu => ?_)
  obtain ⟨v, H1, I1, r1, q1⟩ := hu
  show wpAny _ _ (spliced ((false, eval (.Constant (.str z) j cp) X.env) :: backTo pos (starEach [] X.env))) _ _ s1
  refine Calls.spliced_cons (Calls.Constant_str (Calls.spliced_nil ?_))
  have I2 := I1.tok (s1.toks + 1)
  exact ⟨I2.kIn, run_fnT (vs := [v, .str z]) F room hb hx (Nat.le_add_left 1 s1.toks) I2 (.cons r1 (.cons ⟨s1.toks, rfl⟩ .nil)) q1⟩
/-- list(e) of a text, a token out -/
theorem pet_list (hc : X.calm = true) (hg : Gl X "list") (hm : X.mg "list" = none) (hb : bootBuiltins "list" = some (.type "list")) (ha : PE X e te) (d2 : starEach [e] X.env = (false, eval e X.env) :: starEach [] X.env := by rfl) :
    PET X (.Call (.Name "list" p) [e] [] pos) (fun σ H Q => te σ H fun v H1 => ∃ z : Str, v = .str z ∧ z.cps.all (· < 128) = true ∧ z.cps.size ≤ sizeLine ∧ ∀ (l : Addr) (t0 : Nat), H1 l = none → 1 ≤ t0 → Q (.ref l) (upd H1 l (TLst l (DrTk.signs z.cps.toList t0)))) := by
  intro pins s σ H Q h0 I h
  refine wpAny_Call_Name_kw (ld_blt I hg hm hb ?_ (by decide) (by decide))
  refine PyProof.Rows.callWith_type1 ?_ d2 (by rfl)
  rw [d2]
  show wpAny _ _ (spliced ((false, eval e X.env) :: backTo pos (starEach [] X.env))) _ _ s
  refine Calls.spliced_cons (wpAny_mono (PySem.wpAny_toks (ha.run pins s σ H _ I h)) (fun u s1 hu => ?_) fun _ _ y => y.2)
  obtain ⟨ht, v, H1, I1, r1, z, rfl, ha1, hz, q⟩ := hu
  obtain ⟨t, rfl⟩ := r1
  refine Calls.spliced_nil (DrTk.list_signs (I1.ok.hd hc) ha1 hz fun h' tk c' hk htk e => ?_)
  exact ⟨.ref s1.heap.objs.size, _, I1.laid (t' := tk) hk (Nat.le_refl _) (tlst_ok e), rfl, q _ _ (I1.hok.fresh (Nat.le_refl _)) (Nat.le_trans h0 ht)⟩
/-- list('text') -/
theorem pe_listc {j : Nat} {cp : Pos} (hc : X.calm = true) (hg : Gl X "list") (hm : X.mg "list" = none) (hb : bootBuiltins "list" = some (.type "list")) (d2 : starEach [.Constant (.str z) j cp] X.env = [(false, eval (.Constant (.str z) j cp) X.env)] := by rfl) :
    PE X (.Call (.Name "list" p) [.Constant (.str z) j cp] [] pos) (fun _ H Q => z.cps.all (· < 128) = true ∧ z.cps.size ≤ sizeLine ∧ ∀ (l : Addr) (t0 : Nat), H l = none → 1 ≤ t0 → Q (.ref l) (upd H l (TLst l (DrTk.signs z.cps.toList t0)))) := by
  refine ⟨fun pins s σ H Q I h => ?_⟩
  obtain ⟨ha1, hz, q⟩ := h
  refine wpAny_Call_Name_kw (ld_blt I hg hm hb ?_ (by decide) (by decide))
  refine PyProof.Rows.callWith_type1 ?_ d2 (by rfl)
  show wpAny _ _ (spliced ((false, eval (.Constant (.str z) j cp) X.env) :: backTo pos (starEach [] X.env))) _ _ s
  refine Calls.spliced_cons (Calls.Constant_str ?_)
  have I1 := I.tok (s.toks + 1)
  refine Calls.spliced_nil (DrTk.list_signs (I1.ok.hd hc) ha1 hz fun h' tk c' hk htk e => ?_)
  exact ⟨.ref s.heap.objs.size, _, I1.laid (t' := tk) hk (Nat.le_refl _) (tlst_ok e), rfl, q _ _ (I1.hok.fresh (Nat.le_refl _)) (Nat.le_add_left 1 s.toks)⟩
/-- x = e, a token out -/
theorem pst_set {i : Nat} {pos' : Pos} (hN : X.N.Nodup) (hi : X.N[i]? = some y) (hy : Loc X.env.scope y) (he : PET X e te) (hs : swapsWith e (some (.Name y pos')) pos.line X.env = pure false := by rfl)
    (hf : X.fn y = true ∨ X.env.scope.names.lookup y = some .local := by first | exact .inl rfl | exact .inr rfl | assumption) : PST X (.Assign [.Name y pos'] e pos) (tAsg te (gName i)) := by
  intro pins s σ H D h0 I h
  refine wpAny_Assign_Name (thn (he pins s σ H _ h0 I h) fun u s1 hu => ?_) hs
  obtain ⟨v, H1, I1, r1, q1⟩ := hu
  exact store_ok I1 hN hi hy r1 (fun s2 I2 => ⟨_, H1, I2, q1⟩) hf
end
end Dr
/-! Told lists: what is read, cut, given out; pairs of told texts in a tuple. -/
namespace Dr
open PySem PySem.Spec PyProof.Rows L2
/-- a text with its token -/
abbrev Tx := Str × Nat
abbrev tv (p : Tx) : Value := .str p.1 p.2
abbrev tV (p : Tx) : V := .str p.1
theorem tx_vals : ∀ ps : List Tx, Vals (ps.map tV) (ps.map tv)
  | [] => .nil
  | _ :: ps => .cons ⟨_, rfl⟩ (tx_vals ps)
/-- no token is 0, no two are the same -/
def Tks (ps : List Tx) : Prop := (ps.map (·.2)).Nodup ∧ ∀ p ∈ ps, p.2 ≠ 0
theorem Tks.sub {ps qs : List Tx} (h : Tks ps) (s : List.Sublist qs ps) : Tks qs := ⟨h.1.sublist (s.map _), fun p hp => h.2 p (s.subset hp)⟩
theorem Tks.perm {ps qs : List Tx} (h : Tks ps) (s : ps.Perm qs) : Tks qs := ⟨(s.map _).nodup_iff.mp h.1, fun p hp => h.2 p (s.mem_iff.mpr hp)⟩
/-- the signs of a text, their tokens counted up -/
def sgs : List Nat → Nat → List Tx
  | [], _ => []
  | c :: l, t => (sg c, t) :: sgs l (t + 1)
theorem sgs_signs : ∀ (l : List Nat) (t : Nat), DrTk.signs l t = (sgs l t).map tv
  | [], _ => rfl
  | _ :: l, t => congrArg _ (sgs_signs l (t + 1))
theorem sgs_fst : ∀ (l : List Nat) (t : Nat), (sgs l t).map (·.1) = l.map sg
  | [], _ => rfl
  | _ :: l, t => congrArg _ (sgs_fst l (t + 1))
theorem sgs_snd : ∀ (l : List Nat) (t : Nat), ∀ p ∈ sgs l t, t ≤ p.2
  | [], _, _, h => by cases h
  | c :: l, t, p, h => by
    rcases List.mem_cons.mp h with rfl | h
    · exact Nat.le_refl _
    · exact Nat.le_of_succ_le (sgs_snd l (t + 1) p h)
theorem sgs_tks : ∀ (l : List Nat) {t : Nat}, 1 ≤ t → Tks (sgs l t)
  | [], _, _ => ⟨List.nodup_nil, fun p h => by cases h⟩
  | c :: l, t, h => by
    have ih := sgs_tks l (t := t + 1) (Nat.le_add_left 1 t)
    refine ⟨List.nodup_cons.mpr ⟨fun hm => ?_, ih.1⟩, fun p hp => ?_⟩
    · obtain ⟨p, hp, e⟩ := List.mem_map.mp hm
      have := sgs_snd l (t + 1) p hp
      have e : p.2 = t := e
      omega
    · rcases List.mem_cons.mp hp with rfl | hp
      · show t ≠ 0
        omega
      · exact ih.2 p hp
/-- a told list that is read only -/
def TF (H : Hp) (a : Addr) (ps : List Tx) : Prop := ∃ (o : Obj) (n : Nat), H a = some (.frz o (.lst (ps.map tV))) ∧ o.cls = .type "list" ∧ o.data = .seq (ps.map tv).toArray n
theorem TF.same {H G : Hp} {a : Addr} {ps : List Tx} (h : TF H a ps) (S : Same H G) : TF G a ps := by
  obtain ⟨o, n, e, q⟩ := h
  exact ⟨o, n, S _ _ e, q⟩
theorem TF.sq {K : PySem.W.Frag} {H : Hp} {a : Addr} {ps : List Tx} (h : TF H a ps) : SqL K H a (ps.map tV) := by
  obtain ⟨o, n, e, q⟩ := h
  exact .inl (.inr ⟨o, e⟩)
section
variable {X : Cx} {K : PySem.W.Frag} {pins : List (Addr × Obj)} {σ : L2.St} {H : Hp} {s : Shared}
theorem TF.at (h : TF H a ps) (I : Inv X pins σ H s) : ∃ o n, s.heap.get? a = some o ∧ o.cls = .type "list" ∧ o.data = .seq (ps.map tv).toArray n ∧ (ps.map tV).length ≤ sizeLine := by
  obtain ⟨o, n, e, hc, hd⟩ := h
  have z : s.heap.get? a = some o ∧ ObjOk X.prog X.w H s.heap a (.lst (ps.map tV)) := I.hok a _ e
  exact ⟨o, n, z.1, hc, hd, z.2.1⟩
theorem TF.isL (h : TF H a ps) (I : Inv X pins σ H s) : s.heap.IsList a (ps.map tv).toArray := by
  obtain ⟨o, n, e, hc, hd, _⟩ := h.at I
  exact ⟨o, e, hc, n, hd⟩
/-- a new told list, read only -/
theorem tf_laid {h' : Heap} {t' n : Nat} {ps : List Tx} {p : Addr} (I : Inv X pins σ H s) (k : ∀ b u, s.heap.get? b = some u → h'.get? b = some u) (hp : s.heap.objs.size ≤ p) (hz : ps.length ≤ sizeLine)
    (e : h'.get? p = some { cls := .type "list", data := .seq (ps.map tv).toArray n }) : ∃ u, TF (upd H p u) p ps ∧ Inv X pins σ (upd H p u) { s with heap := h', toks := t' } :=
  ⟨.frz { cls := .type "list", data := .seq (ps.map tv).toArray n } (.lst (ps.map tV)), ⟨_, n, upd_same, rfl, rfl⟩, I.laid k hp ⟨e, by rw [List.length_map]; exact hz, _, n, tx_vals ps, e⟩⟩
/-- what is made told is read only from now on -/
theorem pe_frz {e : Expr} {te : TE} (he : PE X e te) : PE X e (fun σ H Q => te σ H fun v H1 => ∃ (a : Addr) (ps : List Tx), v = .ref a ∧ H1 a = some (TLst a (ps.map tv)) ∧ ps.length ≤ sizeLine ∧ ∀ u, TF (upd H1 a u) a ps → Q (.ref a) (upd H1 a u)) := by
  refine ⟨fun pins s σ H Q I h => thn (he.run pins s σ H _ I h) fun u s1 hu => ?_⟩
  obtain ⟨v, H1, I1, r1, a, ps, rfl, ha, hz, q⟩ := hu
  obtain ⟨n, e1⟩ := tlst_at I1.hok ha
  have I2 : Inv X pins σ (upd H1 a (.frz { cls := .type "list", data := .seq (ps.map tv).toArray n } (.lst (ps.map tV)))) s1 :=
    I1.write (t' := s1.toks) (h' := s1.heap) (by rw [ha]; trivial) (.inl rfl) (fun b u _ z => z) ⟨_, e1⟩ ⟨e1, by rw [List.length_map]; exact hz, _, n, tx_vals ps, e1⟩
  exact ⟨.ref a, _, I2, r1, q _ ⟨_, n, upd_same, rfl, rfl⟩⟩
/-- len of a told list -/
theorem call_lenT : CallR X (.builtin "len") (fun xs H Q => ∃ (p : Addr) (us : List Value), xs = [.ref p] ∧ H p = some (TLst p us) ∧ us.length ≤ sizeLine ∧ Q (.int us.length) H) := by
  intro pins s σ H xs us Q I r h
  obtain ⟨p, ws, rfl, hp, hz, q⟩ := h
  obtain ⟨u, rfl, rx⟩ := vals1 r
  cases rx
  obtain ⟨n, e⟩ := tlst_at I.hok hp
  have hn := line63
  exact Calls.call_len_list ⟨_, e, rfl, n, rfl⟩ (by simp only [List.size_toArray] <;> omega) ⟨.int ws.length, H, I.tok _, ⟨s.toks + 1, by rw [List.size_toArray]⟩, q⟩
/-- list(e) of a told list -/
theorem call_listF (K : PySem.W.Frag) : CallR X (.type "list") (fun xs H Q => ∃ (p : Addr) (ps : List Tx), xs = [.ref p] ∧ TF H p ps ∧ ∀ l, H l = none → Q (.ref l) (upd H l (TLst l (ps.map tv)))) := by
  intro pins s σ H xs us Q I r h
  obtain ⟨p, ps, rfl, hp, q⟩ := h
  obtain ⟨u, rfl, rx⟩ := vals1 r
  cases rx
  obtain ⟨o, n, e, hc, hd, hz⟩ := hp.at I
  rw [List.length_map] at hz
  exact call_list_seq p (.inl rfl) e hc hd (fun h' c' kp e' => ⟨.ref s.heap.objs.size, _, I.laid (t' := s.toks) kp (Nat.le_refl _) (tlst_ok e'), rfl, q _ (I.hok.fresh (Nat.le_refl _))⟩) (by rw [List.size_toArray, List.length_map]; exact hz)
/-- xs[lo:hi] of a told list -/
def cutT (ps : List Tx) (lo hi : Option Int) : List Tx := (ps.drop (HT.sIx ps.length 0 lo)).take (HT.sIx ps.length ps.length hi - HT.sIx ps.length 0 lo)
theorem sl_told : SlR X (fun x lo hi H Q => ∃ (a : Addr) (ps : List Tx), x = .ref a ∧ TF H a ps ∧ ∀ p u, H p = none → TF (upd H p u) p (cutT ps lo hi) → Q (.ref p) (upd H p u)) := by
  intro pins s σ H x v vl vu lo hi sl Q I rx hs pl pu h
  obtain ⟨a, ps, rfl, ha, q⟩ := h
  cases rx
  have L := ha.isL I
  obtain ⟨o, n, e, hc, hd, hz⟩ := ha.at I
  rw [List.length_map] at hz
  refine ⟨"list", _, slot_list_getitem.lookup, L.typeIs, wpAny_getItem_list_slice L hs pl pu .none (by simp) ?_ (by rw [List.size_toArray, List.length_map]; exact hz)⟩
  rw [slicePick_cut]
  have ec : ((ps.map tv).drop (HT.sIx (ps.map tv).length 0 lo)).take (HT.sIx (ps.map tv).length (ps.map tv).length hi - HT.sIx (ps.map tv).length 0 lo) = (cutT ps lo hi).map tv := by
    unfold cutT
    rw [List.length_map, List.map_take, List.map_drop]
  rw [ec]
  have hl : (cutT ps lo hi).length ≤ sizeLine := by
    unfold cutT
    rw [List.length_take, List.length_drop]
    omega
  obtain ⟨u, hT, J⟩ := tf_laid (t' := s.toks) (n := 0) (p := s.heap.objs.size) (ps := cutT ps lo hi) I (fun b ob z => Heap.get?_push_of_some _ z) (Nat.le_refl _) hl (Heap.get?_push_size _ rfl)
  exact ⟨.ref s.heap.objs.size, _, J, rfl, q _ u (I.hok.fresh (Nat.le_refl _)) hT⟩
/-- xs.pop(i) of a told list: the item as it is -/
def tPopV (to : TE) (ta : TA) : TEV := fun σ H Q => to σ H fun x H1 => ∃ (l : Addr) (us0 : List Value), x = .ref l ∧ H1 l = some (TLst l us0) ∧ ta σ H1 fun vs H2 => ∃ (i : Int) (k : Nat) (us : List Value) (u : Value), vs = [.int i] ∧ H2 l = some (TLst l us) ∧
  us.length ≤ sizeLine ∧ -(2 ^ 63) ≤ i ∧ i < 2 ^ 63 ∧ ixN us.length i = some k ∧ us[k]? = some u ∧ Q u (upd H2 l (TLst l (us.eraseIdx k)))
theorem pev_pop {o e : Expr} {to : TE} {ta : TA} {apos cpos : Pos} (ho : PE X o to) (ha : PA X [e] ta) (hbase : attributeBase o "pop" X.env (eval o X.env) = eval o X.env := by rfl)
    (hfew : ((backTo cpos (starEach [e] X.env)).all (fun x => !x.1) && (backToKw cpos (keywordEach [] X.env)).all (fun x => x.1.isSome) && decide ([e].length + ([] : List Keyword).length + (if ([] : List Keyword).isEmpty then 0 else 1) < 30)) = true := by rfl)
    (hline : (apos.endLine == cpos.line) = true := by rfl) (hs : starEach [e] X.env = (false, eval e X.env) :: starEach [] X.env := by rfl) : PEV X (.Call (.Attribute o "pop" apos) [e] [] cpos) (tPopV to ta) := by
  intro pins s σ H Q I h
  refine wpAny_Call_method_late hbase hfew hline rfl (thn (ho.run pins s σ H _ I h) fun v s1 hv => ?_)
  obtain ⟨x, H1, I1, r1, l, us0, rfl, hl, q1⟩ := hv
  obtain rfl : v = Value.ref l := r1
  obtain ⟨n0, e0⟩ := tlst_at I1.hok hl
  have hA := ha.run cpos pins s1 σ H1 _ I1 q1
  rw [hs] at hA ⊢
  refine ⟨"list", _, PySem.F.plainAttrs_list, PySem.F.slot_list_pop, PySem.F.type_list_pop, ⟨_, e0, rfl⟩, fun a z => ?_, Calls.callWith_builtin rfl (Calls.evalArgs_plain (thn hA fun us1 s2 h2 => ?_))⟩
  · cases z
    exact ⟨_, e0, rfl⟩
  obtain ⟨vs, H2, I2, r2, i, k, us, u, rfl, hl2, hz, h1, h3, hk, hu, q⟩ := h2
  obtain ⟨w, rfl, rw2⟩ := r2.one
  obtain ⟨t, rfl⟩ := rw2
  obtain ⟨n, e2⟩ := tlst_at I2.hok hl2
  refine call_meets PySem.F.slot_list_pop ⟨_, e2, rfl⟩ PySem.F.entry_list_pop (PySem.F.args_list_pop_2 _ _)
    (MeetsSeq.list_pop_at l us.toArray n i t k u (fitsIndex_both h1 h3) (by rw [List.size_toArray]; exact (ixN_seq hk).1) (by rw [← Array.getElem?_toList]; exact hu) (by rw [List.size_toArray]; exact hz)) ⟨e2, ?_⟩
  have z := Heap.get?_update_self (Obj.mapSeq fun xs : Array Value => xs.eraseIdxIfInBounds k) e2 rfl
  dsimp only [Obj.mapSeq] at z
  generalize (if (((fun xs : Array Value => xs.eraseIdxIfInBounds k) us.toArray).size == us.toArray.size) = true then n else n + 1) = n' at z
  rw [List.eraseIdxIfInBounds_toArray] at z
  exact ⟨upd H2 l (TLst l (us.eraseIdx k)), I2.write (t' := s2.toks) (by rw [hl2]; trivial) (.inl rfl) (fun b o hb y => (Heap.get?_update_other _ _ (Ne.symm hb)).trans y) ⟨_, z⟩ (tlst_ok z), q⟩
/-- (e, name[0], name[1]) of a told list: the tuple's texts are told -/
structure TPair (p : Addr) (u : HO) (v : V) (y z : Tx) : Prop where
  is : ∃ (o : Obj) (k : Value), u = .frz o (.tup [v, tV y, tV z]) ∧ o.cls = .type "tuple" ∧ o.dict = none ∧ o.data = .seq #[k, tv y, tv z] 0 ∧ RelV v k
theorem pe_tupF {ip : Nat} {px : Str} {e : Expr} {te : TE} {j0 j1 : Nat} {x1} {p2 p3 c0 c1 q0 q1 pos : Pos} (he : PE X e te) (hNp : X.N[ip]? = some px) (hvp : Vis X.env.scope px)
    (hst : starEach [e, .Subscript (.Name px p2) (.Constant (.int 0) j0 c0) q0, .Subscript (.Name px p3) (.Constant (.int 1) j1 c1) q1] X.env = (false, eval e X.env) :: starEach [.Subscript (.Name px p2) (.Constant (.int 0) j0 c0) q0, .Subscript (.Name px p3) (.Constant (.int 1) j1 c1) q1] X.env := by rfl)
    (hdp : (px == ("__debug__" : Str)) = false := by decide) (hcp : (px == ("__classdict__" : Str)) = false := by decide) :
    PE X (.Tuple [e, .Subscript (.Name px p2) (.Constant (.int 0) j0 c0) q0, .Subscript (.Name px p3) (.Constant (.int 1) j1 c1) q1] x1 pos) (fun σ H Q => te σ H fun v H1 => ∃ (a : Addr) (ps : List Tx) (y z : Tx), σ[ip]? = some (some (.ref a)) ∧ TF H1 a ps ∧
      ps[0]? = some y ∧ ps[1]? = some z ∧ ∀ p u, H1 p = none → TPair p u v y z → Q (.ref p) (upd H1 p u)) := by
  refine ⟨fun pins s σ H Q I h => ?_⟩
  refine wpAny_Tuple_spliced ?_
  rw [hst]
  show wpAny _ _ (spliced ((false, eval e X.env) :: backTo pos (starEach [.Subscript (.Name px p2) (.Constant (.int 0) j0 c0) q0, .Subscript (.Name px p3) (.Constant (.int 1) j1 c1) q1] X.env))) _ _ s
  refine Calls.spliced_cons (thn (he.run pins s σ H _ I h) fun k s1 hk => ?_)
  obtain ⟨v, H1, I1, r1, a, ps, y, z, hσ, hF, h0, h1, q⟩ := hk
  have hl := hF.isL I1
  refine Calls.spliced_cons (raw_ix hNp hvp I1 hσ hl (by omega) (by omega) (by simp [h0] : (ps.map tv).toArray[(0 : Int).toNat]? = some (tv y)) (fun k1 => ?_) (fun _ _ => rfl) hdp hcp)
  refine Calls.spliced_cons (raw_ix hNp hvp (I1.tok k1) hσ hl (by omega) (by omega) (by simp [h1] : (ps.map tv).toArray[(1 : Int).toNat]? = some (tv z)) (fun k2 => ?_) (fun _ _ => rfl) hdp hcp)
  refine Calls.spliced_nil ⟨by show 3 ≤ sizeLine; decide, ?_⟩
  have I2 := I1.tok k2
  refine ⟨.ref s1.heap.objs.size, upd H1 s1.heap.objs.size (.frz { cls := .type "tuple", data := .seq #[k, tv y, tv z] 0 } (.tup [v, tV y, tV z])), I2.laid (t' := k2) (fun b u e => Heap.get?_push_of_some _ e) (Nat.le_refl _) ?_, rfl, q _ _ (I2.hok.fresh (Nat.le_refl _)) ⟨_, k, rfl, rfl, rfl, rfl, r1⟩⟩
  exact ⟨Heap.get?_push_size _ rfl, by show 3 ≤ sizeLine; decide, [k, tv y, tv z], .cons r1 (.cons ⟨_, rfl⟩ (.cons ⟨_, rfl⟩ .nil)), ⟨_, Heap.get?_push_size _ rfl, rfl, _, rfl⟩⟩
end
end Dr
/-! A call to everyone: a pair of told texts read from a tuple by names, then handed to str.replace. -/
namespace Dr
open PySem PySem.Spec PyProof.Rows L2
section
variable {X : Cx} {pins : List (Addr × Obj)} {σ : L2.St} {H : Hp} {s : Shared}
/-- a store to a local name: what is held, and what stands in the frame -/
theorem store_m {i : Nat} {x : Str} {v : V} {u : Value} {m : Str → Option Value} {Q : Unit → Shared → Prop} (I : Inv X pins σ H s) (hN : X.N.Nodup) (hi : X.N[i]? = some x) (hk : X.env.scope.names.lookup x = some .local) (r : RelV v u) (hm : s.heap.Ns X.env.locals m)
    (h : ∀ s', Inv X pins (σ.set i (some v)) H s' → s'.heap.Ns X.env.locals (fun y => if y = x then some u else m y) → Q () s') : wpAny (model X.prog X.w) X.A (storeName X.env x u) Q X.xe s := by
  have hcls : (X.env.scope.kind == .class || (X.env.scope.kind == .module && X.env.locals != X.env.globals)) = false := by rw [I.ok.kind]; rfl
  refine wpAny_mono (DrDet.both (store_ok2 (Q := fun _ s' => Inv X pins (σ.set i (some v)) H s') (E := X.xe) I hN hi (.inl hk) r (fun s' I' _ => I') (.inr hk))
    (wpAny_storeName_local (Q := fun _ s' => s'.heap.Ns X.env.locals (fun y => if y = x then some u else m y)) (E := X.xe) hk hm (fun h' hn' _ => hn') hcls)) (fun _ s' z => h s' z.1 z.2) fun _ _ z => z.1
theorem name_m {x : Str} {u : Value} {m : Str → Option Value} {pos : Pos} {Q : Value → Shared → Prop} {E : Value → Shared → Prop} (I : Inv X pins σ H s) (hk : X.env.scope.names.lookup x = some .local) (hm : s.heap.Ns X.env.locals m) (hx : m x = some u) (q : Q u s)
    (hd : (x == ("__debug__" : Str)) = false := by decide) : wpAny (model X.prog X.w) X.A (eval (.Name x pos) X.env) Q E s := wpAny_Name (wpAny_loadName_local I.ok.kind hk hm hx q) hd
/-- a tuple that holds a kind and two told texts -/
structure TCall (H : Hp) (a : Addr) (v : V) (y z : Tx) : Prop where
  is : ∃ (o : Obj) (k : Value) (n : Nat), H a = some (.frz o (.tup [v, tV y, tV z])) ∧ o.cls = .type "tuple" ∧ o.data = .seq #[k, tv y, tv z] n ∧ RelV v k
/-- kind, source, target = call; if kind == 'all': return row.replace(source, target) -/
def tAll (ic ir ik is it : Nat) (lit : Str) : TS := fun D σ H => ∃ (a : Addr) (y z : Tx) (x : Str), σ[ic]? = some (some (.ref a)) ∧ TCall H a (.str lit) y z ∧ σ[ir]? = some (some (.str x)) ∧ y.2 ≠ 0 ∧ z.2 ≠ 0 ∧ y.2 ≠ z.2 ∧ (y.1 == z.1) = false ∧
  x.length + (x.length + 1) * z.1.length ≤ 16777216 ∧ D.rt (.str (Txt.replace x y.1 z.1)) H
theorem pss_runall {ic ir ik is it : Nat} {xc xr xk xs xt lit : Str} {rest els : List Stmt} {p1 p2 p3 p4 p5 p6 p7 p8 p9 pa pc pd pe pf : Pos} {x1} {j : Nat} {tv' : TS} (hN : X.N.Nodup) (hc : X.calm = true)
    (hc1 : X.N[ic]? = some xc) (hr1 : X.N[ir]? = some xr) (hk1 : X.N[ik]? = some xk) (hs1 : X.N[is]? = some xs) (ht1 : X.N[it]? = some xt) (vc : Vis X.env.scope xc) (vr : Vis X.env.scope xr)
    (lk : X.env.scope.names.lookup xk = some .local) (ls : X.env.scope.names.lookup xs = some .local) (lt : X.env.scope.names.lookup xt = some .local) (nks : xk ≠ xs) (nkt : xk ≠ xt) (nst : xs ≠ xt) (irk : ir ≠ ik) (irs : ir ≠ is) (irt : ir ≠ it)
    (hv : PSs X (.Assign [.Tuple [.Name xk p1, .Name xs p2, .Name xt p3] x1 p4] (.Name xc p5) p6 :: .If (.Compare (.Name xk p7) [.Eq] [.Constant (.str lit) j p8] p9) [.Return (some (.Call (.Attribute (.Name xr pa) "replace" pc) [.Name xs pd, .Name xt pe] [] pf)) p1'] els p2' :: rest) tv')
    (dc : (xc == ("__debug__" : Str)) = false := by decide) (cc : (xc == ("__classdict__" : Str)) = false := by decide) (dr : (xr == ("__debug__" : Str)) = false := by decide) (cr : (xr == ("__classdict__" : Str)) = false := by decide)
    (dk : (xk == ("__debug__" : Str)) = false := by decide) (ds : (xs == ("__debug__" : Str)) = false := by decide) (dt : (xt == ("__debug__" : Str)) = false := by decide)
    (hs : swapsWithSole [.Tuple [.Name xk p1, .Name xs p2, .Name xt p3] x1 p4] (.Name xc p5) p6.line X.env = pure false := by rfl) (hw : swappedStores [.Tuple [.Name xk p1, .Name xs p2, .Name xt p3] x1 p4] (.Name xc p5) X.env = pure none := by rfl)
    (h1 : (assignEach [.Tuple [.Name xk p1, .Name xs p2, .Name xt p3] x1 p4] X.env).map (·.2) = [assign (.Tuple [.Name xk p1, .Name xs p2, .Name xt p3] x1 p4) X.env] := by rfl)
    (h2 : (assignEach [.Name xk p1, .Name xs p2, .Name xt p3] X.env).map (·.2) = [assign (.Name xk p1) X.env, assign (.Name xs p2) X.env, assign (.Name xt p3) X.env] := by rfl)
    (h3 : (assignEach [.Name xk p1, .Name xs p2, .Name xt p3] X.env).length = 3 := by rfl) (h4 : (assignEach [.Name xk p1, .Name xs p2, .Name xt p3] X.env).findIdx? (·.1) = none := by rfl)
    (hst : starEach [.Name xs pd, .Name xt pe] X.env = [(false, eval (.Name xs pd) X.env), (false, eval (.Name xt pe) X.env)] := by rfl) (hbase : attributeBase (.Name xr pa) "replace" X.env (eval (.Name xr pa) X.env) = eval (.Name xr pa) X.env := by rfl)
    (hline : (pc.endLine == pf.line) = true := by rfl) :
    PSs X (.Assign [.Tuple [.Name xk p1, .Name xs p2, .Name xt p3] x1 p4] (.Name xc p5) p6 :: .If (.Compare (.Name xk p7) [.Eq] [.Constant (.str lit) j p8] p9) [.Return (some (.Call (.Attribute (.Name xr pa) "replace" pc) [.Name xs pd, .Name xt pe] [] pf)) p1'] els p2' :: rest)
      (fun D σ H => tAll ic ir ik is it lit D σ H ∨ tv' D σ H) := by
  refine ⟨fun pins s σ H D I h => ?_⟩
  rcases h with h | h
  rotate_left
  · exact hv.run pins s σ H D I h
  obtain ⟨a, y, z, x, e1, ⟨o, k, n, hT, ocl, od, rk⟩, e2, y0, z0, yz, yz2, hlen, q⟩ := h
  have hOk : s.heap.get? a = some o ∧ ObjOk X.prog X.w H s.heap a (.tup [V.str lit, tV y, tV z]) := I.hok a _ hT
  obtain ⟨tk, rfl⟩ := rk
  refine wpAny_execs_cons (wpAny_Assign_stores (raw_name hc1 vc I e1 (fun w hw' => ?_) dc cc) hs hw)
  obtain rfl : w = Value.ref a := hw'
  rw [h1]
  refine (?_ : wpAny _ _ (assign (.Tuple [.Name xk p1, .Name xs p2, .Name xt p3] x1 p4) X.env (.ref a)) _ _ _)
  refine assign_Tuple_tuple (I.ok.hd hc) (items := #[.str lit tk, tv y, tv z]) ⟨o, hOk.1, ocl, n, od⟩ (by rw [h3]; rfl) h4 fun h' hx => ?_
  rw [h2]
  have I1 : Inv X pins σ H { s with heap := h' } := I.kept (t' := s.toks) fun b o e => hx b o (Nat.ne_of_lt (Heap.lt_size e)) e
  obtain ⟨m, hm, _⟩ := id I1.loc
  refine assignInOrder_cons (wpAny_assign_Name (store_m I1 hN hk1 lk (v := .str lit) ⟨tk, rfl⟩ hm fun s2 I2 m2 => ?_))
  refine assignInOrder_cons (wpAny_assign_Name (store_m I2 hN hs1 ls (v := tV y) ⟨_, rfl⟩ m2 fun s3 I3 m3 => ?_))
  refine assignInOrder_cons (wpAny_assign_Name (store_m I3 hN ht1 lt (v := tV z) ⟨_, rfl⟩ m3 fun s4 I4 m4 => ?_))
  refine assignInOrder_nil ?_
  have hmk : ∀ w, (fun b => if b = xt then some (tv z) else if b = xs then some (tv y) else if b = xk then some (Value.str lit tk) else m b) xk = w → w = some (Value.str lit tk) := fun w e => by
    rw [← e]
    simp [nks, nkt]
  refine wpAny_execs_cons (wpAny_If (wpAny_isTrue_Compare1 (name_m I4 lk m4 (u := .str lit tk) (by simp [nks, nkt]) ?_ dk) (by rfl)))
  refine Calls.Constant_str (PyProof.Rows.eq_str ?_)
  rw [show (lit == lit) = true from by simp]
  refine wpAny_truthy_bool ?_
  have I5 := I4.tok (s4.toks + 1)
  have m5 : ({ s4 with toks := s4.toks + 1 } : Shared).heap.Ns X.env.locals _ := m4
  refine wpAny_execs_cons (wpAny_Return_some (PySem.Call_method2 hbase hst hline (raw_name hr1 vr I5 (v := .str x) (by rw [List.getElem?_set_ne (Ne.symm irt), List.getElem?_set_ne (Ne.symm irs), List.getElem?_set_ne (Ne.symm irk)]; exact e2) (fun w hw' => ?_) dr cr)))
  obtain ⟨tx, rfl⟩ := hw'
  refine ⟨"str", _, F.plainAttrs_str, F.slot_str_replace, F.type_str_replace, typeIs_str _ _ _, (fun _ e => nomatch e), Calls.callWith_builtin rfl (Calls.evalArgs_plain (Calls.spliced_cons ?_))⟩
  refine name_m I5 ls m5 (u := tv y) (by simp [nst]) ?_ ds
  refine Calls.spliced_cons (name_m I5 lt m5 (u := tv z) (by simp) ?_ dt)
  refine Calls.spliced_nil (PySem.SC.replace y0 z0 yz yz2 hlen fun t' kk => ?_)
  exact ⟨.str (Txt.replace x y.1 z.1), _, H, I5.tok kk, ⟨t', rfl⟩, q⟩
end
end Dr
/-! What one call does to a row, place by place; text.find of one sign; text.replace of one sign by one. -/
namespace Dr
open PySem L2
/-! ### places -/
theorem setAll_get {b : Nat} : ∀ {ps l : List Nat} {i : Nat}, i < l.length → (setAll b l ps)[i]? = if i ∈ ps then some b else l[i]?
  | [], l, i, _ => by simp [setAll]
  | p :: ps, l, i, h => by
    show (setAll b (l.set p b) ps)[i]? = _
    rw [setAll_get (by simpa using h)]
    by_cases h1 : i ∈ ps
    · rw [if_pos h1, if_pos (List.mem_cons_of_mem _ h1)]
    · rw [if_neg h1]
      by_cases h2 : i = p
      · subst h2
        rw [if_pos List.mem_cons_self, List.getElem?_set_self h]
      · rw [if_neg (by simp [h1, h2]), List.getElem?_set_ne (Ne.symm h2)]
def sw (a b y : Nat) : Nat := if y = a then b else if y = b then a else y
theorem run_all {c : Cl} (h : c.k = .s "all") (l : List Nat) : run1 c l = l.map fun y => if y = cc c.a then cc c.b else y := by
  apply List.ext_getElem?
  intro i
  unfold run1
  rw [h]
  show (if ("all" : Str) = "swap" then _ else setAll (cc c.b) l (posN (cc c.a) l))[i]? = _
  rw [if_neg (by decide)]
  by_cases hi : i < l.length
  · rw [setAll_get hi, List.getElem?_map]
    obtain ⟨y, hy⟩ := get_of_lt hi
    by_cases e : i ∈ posN (cc c.a) l
    · rw [if_pos e, hy]
      have := posN_iff.mp e
      rw [hy] at this
      cases this
      simp
    · rw [if_neg e, hy]
      have : y ≠ cc c.a := fun z => e (posN_iff.mpr (by rw [hy, z]))
      simp [this]
  · rw [List.getElem?_eq_none (by rw [setAll_len]; omega), List.getElem?_eq_none (by rw [List.length_map]; omega)]
theorem run_swap {c : Cl} (h : c.k = .s "swap") (l : List Nat) : run1 c l = l.map (sw (cc c.a) (cc c.b)) := by
  apply List.ext_getElem?
  intro i
  unfold run1
  rw [h]
  show (if ("swap" : Str) = "swap" then setAll (cc c.b) (l.map fun y => if y = cc c.b then cc c.a else y) (posN (cc c.a) l) else _)[i]? = _
  rw [if_pos rfl]
  by_cases hi : i < l.length
  · rw [setAll_get (by rw [List.length_map]; exact hi), List.getElem?_map, List.getElem?_map]
    obtain ⟨y, hy⟩ := get_of_lt hi
    by_cases e : i ∈ posN (cc c.a) l
    · rw [if_pos e, hy]
      have := posN_iff.mp e
      rw [hy] at this
      cases this
      simp [sw]
    · rw [if_neg e, hy]
      have : y ≠ cc c.a := fun z => e (posN_iff.mpr (by rw [hy, z]))
      simp [sw, this]
  · rw [List.getElem?_eq_none (by rw [setAll_len, List.length_map]; omega), List.getElem?_eq_none (by rw [List.length_map]; omega)]
theorem run_num {c : Cl} {n : Int} (h : c.k = .m n) (l : List Nat) : run1 c l = match (posN (cc c.a) l)[(n - 1).toNat]? with | some p => l.set p (cc c.b) | none => l := by
  unfold run1
  rw [h]
  show setAll (cc c.b) l (((posN (cc c.a) l).drop (n - 1).toNat).take 1) = _
  cases e : (posN (cc c.a) l)[(n - 1).toNat]? with
  | none =>
    have : (posN (cc c.a) l).drop (n - 1).toNat = [] := by
      rw [List.drop_eq_nil_iff]
      exact List.getElem?_eq_none_iff.mp e
    rw [this]
    rfl
  | some p =>
    have h2 := List.getElem?_eq_some_iff.mp e
    obtain ⟨h3, h4⟩ := h2
    rw [List.drop_eq_getElem_cons h3, h4]
    rfl
/-! ### find -/
section
variable {s sub : Str} {hi : Nat}
theorem occ_kept : ∀ (l : List Nat) (st : Array Nat × Nat), 1 ≤ st.fst.size → (forIn l st (StrLaws.occBody s sub hi 1)).run.fst = st.fst
  | [], _, _ => rfl
  | a :: l, st, h => by
    rw [List.forIn_cons]
    unfold StrLaws.occBody
    rw [if_neg (fun z => absurd z.1.1.1 (by omega))]
    exact occ_kept l _ h
theorem occ_first : ∀ (l : List Nat) (free : Nat), (∀ i ∈ l, free ≤ i) → (forIn l ((#[] : Array Nat), free) (StrLaws.occBody s sub hi 1)).run.fst.toList = (l.find? fun i => decide (i + sub.length ≤ hi ∧ Builtin.Str.subAt s sub i = true)).toList
  | [], _, _ => rfl
  | a :: l, free, hf => by
    rw [List.forIn_cons, List.find?_cons]
    unfold StrLaws.occBody
    have ha := hf a List.mem_cons_self
    by_cases hc : a + sub.length ≤ hi ∧ Builtin.Str.subAt s sub a = true
    · rw [if_pos ⟨⟨⟨by simp, ha⟩, hc.1⟩, hc.2⟩, decide_eq_true hc]
      have := occ_kept (s := s) (sub := sub) (hi := hi) l ((#[] : Array Nat).push a, a + sub.length) (by simp)
      show (forIn l ((#[] : Array Nat).push a, a + sub.length) (StrLaws.occBody s sub hi 1)).run.fst.toList = _
      rw [this]
      rfl
    · rw [if_neg (fun z => hc ⟨z.1.2, z.2⟩), decide_eq_false hc]
      exact occ_first l free fun i h => hf i (List.mem_cons_of_mem _ h)
end
/-- the first place from lo on at which c stands, or -1 -/
def firstAt (c : Nat) (l : List Nat) (lo : Nat) : Int := match (List.range' lo (l.length + 1 - lo)).find? (fun i => decide (l[i]? = some c)) with
  | some p => (p : Int)
  | none => -1
theorem find_sg (z : Str) (c lo : Nat) : Txt.find3 z (sg c) (lo : Int) = firstAt c z.cps.toList lo := by
  unfold Txt.find3
  have e : fromIndex z.length (lo : Int) = lo := by
    unfold fromIndex
    rw [if_neg (by omega)]
    omega
  rw [e, StrLaws.occ_eq]
  have h := occ_first (s := z) (sub := sg c) (hi := z.length) (List.range' lo (z.length + 1 - lo)) lo fun i hi => (List.mem_range'_1.mp hi).1
  rw [h]
  have ez : z.length = z.cps.toList.length := by show z.cps.size = _; simp
  have e2 : (fun i => decide (i + (sg c).length ≤ z.length ∧ Builtin.Str.subAt z (sg c) i = true)) = fun i => decide (z.cps.toList[i]? = some c) := by
    funext i
    exact decide_eq_decide.mpr (StrLaws.subAt_one z c i)
  rw [e2]
  unfold firstAt
  rw [← ez]
  cases (List.range' lo (z.length + 1 - lo)).find? (fun i => decide (z.cps.toList[i]? = some c)) <;> rfl
/-- the wearers from lo on, one after the other -/
theorem rest_find {c : Nat} {l : List Nat} {lo : Nat} (h : lo ≤ l.length) : firstAt c l lo = match ((List.range' lo (l.length - lo)).filter fun p => decide (l[p]? = some c)).head? with | some p => (p : Int) | none => -1 := by
  unfold firstAt
  rw [List.head?_filter]
  have e : List.range' lo (l.length + 1 - lo) = List.range' lo (l.length - lo) ++ [l.length] := by
    rw [show l.length + 1 - lo = (l.length - lo) + 1 from by omega, List.range'_concat]
    congr 1
    simp
    omega
  rw [e, List.find?_append]
  have e2 : [l.length].find? (fun i => decide (l[i]? = some c)) = none := by simp
  rw [e2, Option.or_none]
theorem rest_tail {p : Nat → Bool} {q : Nat} {t : List Nat} : ∀ {n lo : Nat}, (List.range' lo n).filter p = q :: t → lo ≤ q ∧ q < lo + n ∧ (List.range' (q + 1) (lo + n - (q + 1))).filter p = t
  | 0, lo, h => by simp at h
  | n + 1, lo, h => by
    rw [List.range'_succ, List.filter_cons] at h
    by_cases e : p lo = true
    · rw [if_pos e] at h
      obtain ⟨rfl, rfl⟩ := List.cons.inj h
      refine ⟨Nat.le_refl _, by omega, ?_⟩
      rw [show lo + (n + 1) - (lo + 1) = n from by omega]
    · rw [if_neg e] at h
      obtain ⟨h1, h2, h3⟩ := rest_tail h
      refine ⟨by omega, by omega, ?_⟩
      rw [← h3, show lo + (n + 1) - (q + 1) = lo + 1 + n - (q + 1) from by omega]
theorem posN_range (c : Nat) (l : List Nat) : posN c l = (List.range' 0 (l.length - 0)).filter fun p => decide (l[p]? = some c) := by
  unfold posN
  rw [List.range_eq_range', Nat.sub_zero]
/-- the index of the wearer of that number, or -1 -/
def wearer (c : Nat) (l : List Nat) (n : Nat) : Int := match (posN c l)[n]? with
  | some p => (p : Int)
  | none => -1
/-! ### replace -/
theorem repl_one (a b : Nat) : ∀ l : List Nat, StrLaws.replL [a] [b] l = l.map fun y => if y = a then b else y
  | [] => StrLaws.replL_nil
  | c :: r => by
    by_cases e : c = a
    · subst e
      rw [StrLaws.replL_hit (by simp) rfl, List.map_cons, if_pos rfl]
      show [b] ++ StrLaws.replL [c] [b] r = _
      rw [repl_one]
      rfl
    · rw [StrLaws.replL_miss (fun z => e (by simpa using z)), List.map_cons, if_neg e, repl_one]
theorem replace_sg (z : Str) (a b : Nat) : Txt.replace z (sg a) (sg b) = ⟨(z.cps.toList.map fun y => if y = a then b else y).toArray⟩ := by
  have h := StrLaws.replace_list (x := z) (y := sg a) (z := sg b) (by show 1 ≤ 1; decide)
  rw [show (sg a).cps.toList = [a] from rfl, show (sg b).cps.toList = [b] from rfl, repl_one] at h
  rw [← h]
end Dr
namespace Dr
open PySem L2
def sp_find_wearer (_ : PySem.W.Frag) : Sp := fun vs H Q _ => ∃ (z : Str) (n : Int) (a : Nat), vs = [.str z, .int n, .str (sg a)] ∧ z.cps.size ≤ 1000 ∧ 1 ≤ n ∧ n < 2 ^ 62 ∧ ∀ H', Same H H' → Q (.int (wearer a z.cps.toList (n - 1).toNat)) H'
def sp_recolour_one (_ : PySem.W.Frag) : Sp := fun vs H Q _ => ∃ (z : Str) (n : Int) (a b : Nat), vs = [.str z, .int n, .str (sg a), .str (sg b)] ∧ z.cps.size ≤ 1000 ∧ 1 ≤ n ∧ n < 2 ^ 62 ∧
  ∀ H', Same H H' → Q (.str ⟨(match (posN a z.cps.toList)[(n - 1).toNat]? with | some p => z.cps.toList.set p b | none => z.cps.toList).toArray⟩) H'
def sp_swap_colours (_ : PySem.W.Frag) : Sp := fun vs H Q _ => ∃ (z : Str) (a b : Nat), vs = [.str z, .str (sg a), .str (sg b)] ∧ z.cps.size ≤ 1000 ∧ a ≠ b ∧ ∀ H', Same H H' → Q (.str ⟨(z.cps.toList.map (sw a b)).toArray⟩) H'
/-- a valid call, its texts told where it is one to everyone -/
def TCl (K : PySem.W.Frag) (H : Hp) (t : Addr) (c : Cl) : Prop := SqT K H t c.vs ∧ (c.k = .s "all" → ∃ y z : Tx, TCall H t (.str "all") y z ∧ y.1 = c.a ∧ z.1 = c.b ∧ y.2 ≠ 0 ∧ z.2 ≠ 0 ∧ y.2 ≠ z.2)
theorem TCall.same {H G : Hp} {a : Addr} {v : V} {y z : Tx} (h : TCall H a v y z) (S : Same H G) : TCall G a v y z := by
  obtain ⟨o, k, n, e, q⟩ := h.is
  exact ⟨o, k, n, S _ _ e, q⟩
theorem TCl.same {K : PySem.W.Frag} {H G : Hp} {t : Addr} {c : Cl} (h : TCl K H t c) (S : Same H G) : TCl K G t c :=
  ⟨Same.sqT S h.1, fun e => let ⟨y, z, q, r⟩ := h.2 e; ⟨y, z, q.same S, r⟩⟩
def DrillT (K : PySem.W.Frag) (H : Hp) (a : Addr) (D : List Cl) : Prop :=
  ∃ ts : List Addr, SqL K H a (ts.map V.ref) ∧ ts.length = D.length ∧ ∀ (i : Nat) (t : Addr) (c : Cl), ts[i]? = some t → D[i]? = some c → TCl K H t c
theorem DrillT.drill {K : PySem.W.Frag} {H : Hp} {a : Addr} {D : List Cl} (h : DrillT K H a D) : Drill K H a D := by
  obtain ⟨ts, h1, h2, h3⟩ := h
  exact ⟨ts, h1, h2, fun i t c a b => (h3 i t c a b).1⟩
theorem DrillT.same {K : PySem.W.Frag} {H G : Hp} {a : Addr} {D : List Cl} (h : DrillT K H a D) (S : Same H G) : DrillT K G a D := by
  obtain ⟨ts, h1, h2, h3⟩ := h
  exact ⟨ts, S.seq h1, h2, fun i t c a b => (h3 i t c a b).same S⟩
def rowOf (l : List Nat) : Str := ⟨l.toArray⟩
def sp_run_call (K : PySem.W.Frag) : Sp := fun vs H Q _ => ∃ (t : Addr) (c : Cl) (z : Str), vs = [.ref t, .str z] ∧ TCl K H t c ∧ c.ok = true ∧ Cl.le (2 ^ 60) c ∧ z.cps.size ≤ 1000 ∧ ∀ H', Same H H' → Q (.str (rowOf (run1 c z.cps.toList))) H'
def sp_run_calls (K : PySem.W.Frag) : Sp := fun vs H Q _ => ∃ (d : Addr) (D : List Cl) (z : Str), vs = [.ref d, .str z] ∧ DrillT K H d D ∧ (∀ c ∈ D, c.ok = true) ∧ (∀ c ∈ D, Cl.le (2 ^ 60) c) ∧ z.cps.size ≤ 1000 ∧ ∀ H', Same H H' → Q (.str (rowOf (runs D z.cps.toList))) H'
def sp_run_drill (K : PySem.W.Frag) : Sp := fun vs H Q _ => ∃ (d : Addr) (D : List Cl) (z : Str), vs = [.ref d, .str z] ∧ DrillT K H d D ∧ (∀ c ∈ D, c.ok = true) ∧ (∀ c ∈ D, Cl.le (2 ^ 60) c) ∧ z.cps.size ≤ 1000 ∧
  (∀ x ∈ z.cps.toList, x ∈ colN) ∧ ∀ H', Same H H' → Q (.str (rowOf (runs D z.cps.toList))) H'
end Dr
namespace Dr
open PySem L2
theorem str_is {x y : Str} (h : x.cps.toList = y.cps.toList) : x = y := by
  obtain ⟨⟨l⟩⟩ := x
  obtain ⟨⟨m⟩⟩ := y
  have e : l = m := h
  rw [e]
theorem cutS_after (z : Str) (k : Nat) : (cutS z (some (k : Int)) none).cps.toList = z.cps.toList.drop k := by
  unfold cutS
  rw [HT.sIx_nat, HT.sIx_none]
  have e : z.length = z.cps.toList.length := by show z.cps.size = _; simp
  show (z.cps.toList.drop (min k z.length)).take (z.length - min k z.length) = _
  rw [e]
  by_cases h : k ≤ z.cps.toList.length
  · rw [Nat.min_eq_left h, List.take_of_length_le (by rw [List.length_drop]; omega)]
  · rw [Nat.min_eq_right (by omega), List.drop_eq_nil_of_le (by omega : z.cps.toList.length ≤ z.cps.toList.length), List.drop_eq_nil_of_le (by omega : z.cps.toList.length ≤ k), List.take_nil]
theorem set_cut {l : List Nat} {p b : Nat} (h : p < l.length) : (l.take p ++ [b]) ++ l.drop (p + 1) = l.set p b := by
  rw [List.set_eq_take_append_cons_drop, if_pos h, List.append_assoc]
  rfl
end Dr
namespace Dr
open PySem L2
theorem sw_get {a b : Nat} (hab : a ≠ b) (y : Nat) : (valV (mergeK [] [(Sum.inr (sg a), V.str (sg b)), (Sum.inr (sg b), V.str (sg a))]) (Sum.inr (sg y))).getD (.str (sg y)) = .str (sg (sw a b y)) := by
  have e1 : ∀ x y : Nat, ((Sum.inr (sg x) : Key) = Sum.inr (sg y)) ↔ x = y := fun x y => ⟨fun h => sg_inj (Sum.inr.inj h), fun h => by rw [h]⟩
  unfold mergeK sw
  by_cases h1 : y = a
  · subst h1
    simp [putK, valV, e1, hab, Ne.symm hab]
  · by_cases h2 : y = b
    · subst h2
      simp [putK, valV, e1, hab, Ne.symm hab, h1]
    · simp [putK, valV, e1, hab, Ne.symm hab, h1, h2, Ne.symm h1, Ne.symm h2]
end Dr
/-! A heap without some of its objects; the draws that hold a list of digits. -/
namespace Dr
open PySem L2
def hidL (rs : List Addr) (H : Hp) : Hp := fun b => if b ∈ rs then none else H b
section
variable {rs : List Addr} {b p : Addr} {H H' G : Hp} {o : HO}
theorem hidL_ne (h : b ∉ rs) : hidL rs H b = H b := if_neg h
theorem hidL_same : Same (hidL rs H) H := fun b o e => by
  unfold hidL at e
  split at e
  · cases e
  · exact e
theorem hidL_some (e : hidL rs H b = some o) : b ∉ rs := fun h => by
  unfold hidL at e
  rw [if_pos h] at e
  cases e
theorem hidL_mono (s : Same H H') : Same (hidL rs H) (hidL rs H') := fun b o e => by
  have h := hidL_some e
  rw [hidL_ne h] at e ⊢
  exact s b o e
theorem hidL_new (h : H p = none) : Same (hidL rs H) (hidL rs (upd H p o)) := hidL_mono (Same.new h)
theorem hidL_upd (h : p ∈ rs) : Same (hidL rs H) (hidL rs (upd H p o)) := fun b u e => by
  have hb := hidL_some e
  rw [hidL_ne hb] at e ⊢
  rw [upd_ne (fun z : b = p => hb (by rw [z]; exact h))]
  exact e
theorem extL_get (S : Same (hidL rs H) (hidL rs H')) (hp : p ∉ rs) (h : H p = some o) : H' p = some o := by
  have := S p o (by rw [hidL_ne hp]; exact h)
  rw [hidL_ne hp] at this
  exact this
theorem extL_free (S : Same (hidL rs H) (hidL rs H')) (hp : p ∉ rs) (h : H' p = none) : H p = none := by
  cases e : H p with
  | none => rfl
  | some o => rw [extL_get S hp e] at h; cases h
theorem hidL_get (hp : p ∉ rs) (h : H p = some o) : hidL rs H p = some o := by rw [hidL_ne hp]; exact h
theorem extL_upd (S : Same (hidL rs H) (hidL rs H')) (hp : p ∉ rs) (h : H p = none) : Same (hidL rs H) (hidL rs (upd H' p o)) := fun b u e => by
  have hb := hidL_some e
  have e' := S b u e
  rw [hidL_ne hb] at e e' ⊢
  rw [upd_ne (ne_of_none e h)]
  exact e'
/-- the draws: a list of digits at q, what is left of one, the mix, the turn -/
def Src (H : Hp) (r q : Addr) (c : Nat) : Prop := q ≠ r ∧ ∃ (ds : List Int) (a m n : Int), H r = some (.lst [.ref q, .int a, .int m, .int n]) ∧ H q = some (.lst (ds.map V.int)) ∧ ds.length ≤ 1000 ∧ (∀ d ∈ ds, 0 ≤ d) ∧ 0 ≤ a ∧ 0 ≤ m ∧ m < 2305843009213693951 ∧ 0 ≤ n ∧ n ≤ c
theorem Src.mono {r q : Addr} {c d : Nat} (h : Src H r q c) (l : c ≤ d) : Src H r q d := by
  obtain ⟨z, ds, a, m, n, h1, h2, h3, h4, h5, h6, h7, h8, h9⟩ := h
  exact ⟨z, ds, a, m, n, h1, h2, h3, h4, h5, h6, h7, h8, by omega⟩
theorem Src.same {r q : Addr} {c : Nat} (S : Same H H') (h : Src H r q c) : Src H' r q c := by
  obtain ⟨z, ds, a, m, n, h1, h2, h3⟩ := h
  exact ⟨z, ds, a, m, n, S _ _ h1, S _ _ h2, h3⟩
theorem Src.new {r q : Addr} {c : Nat} (h : Src H r q c) (hp : H p = none) : Src (upd H p o) r q c := h.same (Same.new hp)
theorem Src.nin {r q : Addr} {c : Nat} (h : Src H r q c) (hp : H p = none) : p ∉ [r, q] := fun z => by
  obtain ⟨_, ds, a, m, n, h1, h2, h3⟩ := h
  simp only [List.mem_cons, List.not_mem_nil, or_false] at z
  rcases z with rfl | rfl
  · rw [h1] at hp; cases hp
  · rw [h2] at hp; cases hp
theorem Src.upd {r q : Addr} {c : Nat} (h : Src H r q c) (hp : p ∉ [r, q]) : Src (L2.upd H p o) r q c := by
  obtain ⟨z, ds, a, m, n, h1, h2, h3⟩ := h
  simp only [List.mem_cons, List.not_mem_nil, or_false, not_or] at hp
  exact ⟨z, ds, a, m, n, by rw [upd_ne (Ne.symm hp.1)]; exact h1, by rw [upd_ne (Ne.symm hp.2)]; exact h2, h3⟩
end
def sp_law_source (K : PySem.W.Frag) : Sp := fun vs H Q _ => ∃ (a : Addr) (ns : List Int), vs = [.ref a] ∧ SqL K H a (ns.map V.int) ∧ ns.length ≤ 1000 ∧ ∀ H' r q, Same H H' → H r = none → H q = none → Src H' r q 0 → Q (.ref r) H'
def sp_law_drawS (_ : PySem.W.Frag) : Sp := fun vs H Q _ => ∃ (r q : Addr) (lim : Int) (c : Nat), vs = [.ref r, .int lim] ∧ Src H r q c ∧ c < 1000000000 ∧ 0 < lim ∧ lim ≤ 1000000000000000 ∧
  ∀ H' n, Same (hidL [r, q] H) (hidL [r, q] H') → Src H' r q (c + 1) → 0 ≤ n → n < lim → Q (.int n) H'
end Dr
namespace Dr
theorem pow5_ok {i : Int} (h : i.natAbs < 2 ^ 200) : CPowW i 5 := by
  refine ⟨by decide, ?_⟩
  have h1 : i.natAbs.log2 < 200 := by
    by_cases e : i.natAbs = 0
    · rw [e]; decide
    · exact (Nat.log2_lt e).mpr h
  omega
end Dr
namespace Dr
open PySem L2
theorem lcv_it {J : It} {n : Nat} {G : Hp → Prop} {Y : Nat → Hp → V → Hp → Prop} (w : Walk J n G Y) {g : TG} {tt : TT} {te : TEV} {vs : List Nat} {σ : L2.St} {H1 : Hp} {D : Addr} {Qd : Hp → Prop} (Pv : Nat → Hp → Prop) (h0 : Pv 0 (upd H1 D (TLst D []))) (hG : ∀ i H, i ≤ n → Pv i H → G H)
    (turn : ∀ i x H H', i < n → Pv i H → Y i H x H' → g x (wipe σ vs) H' fun σ2 H2 => wipe σ2 vs = wipe σ vs ∧ tt σ2 H2 fun b H3 =>
      if b = true then te σ2 H3 fun u H4 => ∃ us, H4 D = some (TLst D us) ∧ us.length < sizeLine ∧ Pv (i + 1) (upd H4 D (TLst D (us ++ [u]))) else Pv (i + 1) H3) (fin : ∀ H, Pv n H → Qd H) :
    ∃ W : Nat → Nat → Hp → Prop, (∃ m, W 0 m (upd H1 D (TLst D []))) ∧ ∀ i m H, W i m H →
      (J.stop i H ∧ Qd H) ∨ (J.go i H ∧ ∃ Nx : Hp → Prop, (∀ H', Nx H' → ∃ m', m' < m ∧ W (i + 1) m' H') ∧ ∀ x H', J.yld i H x H' → g x (wipe σ vs) H' fun σ2 H2 => wipe σ2 vs = wipe σ vs ∧ tt σ2 H2 fun b H3 =>
        if b = true then te σ2 H3 fun u H4 => ∃ us, H4 D = some (TLst D us) ∧ us.length < sizeLine ∧ Nx (upd H4 D (TLst D (us ++ [u]))) else Nx H3) := by
  refine ⟨fun i m H => i ≤ n ∧ m = n - i ∧ Pv i H, ⟨n - 0, Nat.zero_le _, rfl, h0⟩, fun i m H h => ?_⟩
  obtain ⟨hi, rfl, p⟩ := h
  have q := hG i H hi p
  rcases Nat.lt_or_ge i n with lt | ge
  · exact .inr ⟨w.goes i H lt q, Pv (i + 1), fun H' p' => ⟨n - (i + 1), by omega, lt, rfl, p'⟩, fun x H' y => turn i x H H' lt p (w.yields i H x H' lt q y)⟩
  · obtain rfl : i = n := Nat.le_antisymm hi ge
    exact .inl ⟨w.stops H q, fin H p⟩
end Dr
namespace Dr
open PySem L2
def sp_shufF (K : PySem.W.Frag) : Sp := fun vs H Q _ => ∃ (r q a : Addr) (qs : List Tx) (c : Nat), vs = [.ref r, .ref a] ∧ Src H r q c ∧ c < 900000000 ∧ TF H a qs ∧ Tks qs ∧ qs.length ≤ 1000 ∧
  ∀ (H' : Hp) (p : Addr) (ps : List Tx), Same (hidL [r, q] H) (hidL [r, q] H') → Src H' r q (c + 1000) → H p = none → p ∉ [r, q] → TF H' p ps → Tks ps → ps.Perm qs → Q (.ref p) H'
def sp_shufT (K : PySem.W.Frag) : Sp := fun vs H Q _ => ∃ (r q : Addr) (z : Str) (c : Nat), vs = [.ref r, .str z] ∧ Src H r q c ∧ c < 900000000 ∧ z.cps.all (· < 128) = true ∧ z.cps.size ≤ 1000 ∧
  ∀ (H' : Hp) (p : Addr) (ps : List Tx), Same (hidL [r, q] H) (hidL [r, q] H') → Src H' r q (c + 1000) → H p = none → p ∉ [r, q] → TF H' p ps → Tks ps → (ps.map (·.1)).Perm (z.cps.toList.map sg) → Q (.ref p) H'
theorem pop_perm {got rest : List Tx} {k : Nat} {x : Tx} {all : List Tx} (h : (got ++ rest).Perm all) (hx : rest[k]? = some x) : ((got ++ [x]) ++ rest.eraseIdx k).Perm all := by
  rw [List.append_assoc]
  refine (List.Perm.append_left got ?_).trans h
  have e : rest = rest.take k ++ x :: rest.drop (k + 1) := by
    obtain ⟨h1, h2⟩ := List.getElem?_eq_some_iff.mp hx
    rw [← h2, ← List.drop_eq_getElem_cons h1, List.take_append_drop]
  have e2 : rest.eraseIdx k = rest.take k ++ rest.drop (k + 1) := List.eraseIdx_eq_take_drop_succ ..
  rw [e2]
  refine List.Perm.trans ?_ (List.Perm.of_eq e.symm)
  exact (List.perm_middle (a := x) (l₁ := rest.take k) (l₂ := rest.drop (k + 1))).symm
end Dr
namespace Dr
open PySem L2
theorem tpair_tcl {K : PySem.W.Frag} {H : Hp} {rs : List Addr} {p : Addr} {u : HO} {k : Kd} {y z : Tx} (h : TPair p u k.v y z) (hp : p ∉ rs) (y0 : y.2 ≠ 0) (z0 : z.2 ≠ 0) (yz : y.2 ≠ z.2) : TCl K (hidL rs (upd H p u)) p ⟨k, y.1, z.1⟩ := by
  obtain ⟨o, w, rfl, hc, hd, he, hr⟩ := h.is
  have e : hidL rs (upd H p (.frz o (.tup [k.v, tV y, tV z]))) p = some (.frz o (.tup [k.v, tV y, tV z])) := hidL_get hp upd_same
  refine ⟨.inl (.inr ⟨o, e⟩), fun hk => ⟨y, z, ⟨o, w, 0, ?_, hc, he, ?_⟩, rfl, rfl, y0, z0, yz⟩⟩
  · have hk' : k = .s "all" := hk
    rw [e, hk']
    rfl
  · have hk' : k = .s "all" := hk
    rw [hk'] at hr
    exact hr
theorem kind_menu2 {n m : Int} (hn : 0 ≤ n) (hn2 : n < 3) (hm : 0 ≤ m) (hm2 : m < 20) {v : V} (h : v ∈ [V.int 1, V.int 1, V.int (1 + n), V.int (1 + m), V.str "all", V.str "swap"]) : ∃ k : Kd, k.v = v ∧ k.ok = true ∧ Kd.le 20 k := by
  have num : ∀ i : Int, 1 ≤ i → i ≤ 20 → ∃ k : Kd, k.v = V.int i ∧ k.ok = true ∧ Kd.le 20 k := fun i h1 h2 =>
    ⟨.m i, rfl, by show decide (1 ≤ i) = true; exact decide_eq_true h1, fun j e => by cases e; exact h2⟩
  simp only [List.mem_cons, List.not_mem_nil, or_false] at h
  rcases h with rfl | rfl | rfl | rfl | rfl | rfl
  · exact num 1 (by decide) (by decide)
  · exact num 1 (by decide) (by decide)
  · exact num _ (by omega) (by omega)
  · exact num _ (by omega) (by omega)
  · exact ⟨.s "all", rfl, by decide, fun j e => by cases e⟩
  · exact ⟨.s "swap", rfl, by decide, fun j e => by cases e⟩
def sp_lineS (_ : PySem.W.Frag) : Sp := fun vs H Q _ => ∃ (r q : Addr) (most : Int) (c : Nat), vs = [.ref r, .int most] ∧ Src H r q c ∧ c < 900000000 ∧ 0 ≤ most ∧ most ≤ 1000 ∧
  ∀ H' z, Same (hidL [r, q] H) (hidL [r, q] H') → Src H' r q (c + 3000) → (∀ x ∈ z.cps.toList, x ∈ colN) → (z.cps.size : Int) ≤ most → Q (.str z) H'
/-- told letters, all of them colours, none twice -/
structure LettT (qs : List Tx) : Prop where
  tk : Tks qs
  nd : (qs.map (·.1)).Nodup
  col : ∀ p ∈ qs, isC p.1 = true
  pos : 1 ≤ qs.length
  six : qs.length ≤ 6
def sp_one_callS (K : PySem.W.Frag) : Sp := fun vs H Q _ => ∃ (r q a : Addr) (qs : List Tx) (c : Nat), vs = [.ref r, .ref a] ∧ Src H r q c ∧ c < 890000000 ∧ TF H a qs ∧ LettT qs ∧ 2 ≤ qs.length ∧
  ∀ (H' : Hp) (t : Addr) (cl : Cl), Same (hidL [r, q] H) (hidL [r, q] H') → Src H' r q (c + 1010) → t ∉ [r, q] → (∃ o vs, H' t = some (.frz o (.tup vs))) → TCl K (hidL [r, q] H') t cl → cl.ok = true → Cl.le 20 cl → Q (.ref t) H'
def sp_ordersS (K : PySem.W.Frag) : Sp := fun vs H Q _ => ∃ (r q : Addr) (most : Int) (c : Nat), vs = [.ref r, .int most] ∧ Src H r q c ∧ c < 800000000 ∧ 0 ≤ most ∧ most ≤ 60 ∧
  ∀ (H' : Hp) (a : Addr) (D : List Cl), Same (hidL [r, q] H) (hidL [r, q] H') → Src H' r q (c + 100000) → H a = none → a ∉ [r, q] → DrillT K (hidL [r, q] H') a D → (∀ cl ∈ D, cl.ok = true) → (∀ cl ∈ D, Cl.le 20 cl) → (D.length : Int) ≤ most → Q (.ref a) H'
theorem lett_abc {ps : List Tx} (hT : Tks ps) (hp : (ps.map (·.1)).Perm colS) {n : Nat} (h1 : 1 ≤ n) (h6 : n ≤ 6) : LettT (ps.take n) ∧ (ps.take n).length = n := by
  have hl : ps.length = 6 := by
    have := hp.length_eq
    rw [List.length_map] at this
    exact this
  have hn : (ps.take n).length = n := by rw [List.length_take]; omega
  refine ⟨⟨hT.sub (List.take_sublist _ _), ?_, fun p hp' => ?_, by omega, by omega⟩, hn⟩
  · have : (ps.map (·.1)).Nodup := hp.nodup_iff.mpr colS_nd
    exact this.sublist ((List.take_sublist _ _).map _)
  · have : p.1 ∈ ps.map (·.1) := List.mem_map_of_mem (List.mem_of_mem_take hp')
    exact decide_eq_true (hp.mem_iff.mp this)
theorem cutT_upto (ps : List Tx) (k : Nat) : cutT ps none (some (k : Int)) = ps.take k := by
  unfold cutT
  rw [HT.sIx_nat, HT.sIx_none, List.drop_zero, Nat.sub_zero]
  by_cases h : k ≤ ps.length
  · rw [Nat.min_eq_left h]
  · rw [Nat.min_eq_right (by omega), List.take_of_length_le (Nat.le_refl _), List.take_of_length_le (by omega)]
theorem abc_sg : ("abcdef" : Str).cps.toList.map sg = colS := by decide +kernel
end Dr
namespace Dr
open PySem L2
theorem TF.ext {rs : List Addr} {H H' : Hp} {a : Addr} {ps : List Tx} (h : TF H a ps) (S : Same (hidL rs H) (hidL rs H')) (n : a ∉ rs) : TF H' a ps := by
  obtain ⟨o, k, e, q⟩ := h
  exact ⟨o, k, extL_get S n e, q⟩
theorem pick_T {ps : List Tx} {n : Int} (h0 : 0 ≤ n) (h1 : n < ps.length) : ∃ p, p ∈ ps ∧ atI (ps.map tV) n = some (tV p) := by
  obtain ⟨j, x, rfl, hj, hx, e, hm⟩ := pick (xs := ps) h0 h1
  exact ⟨x, hm, at_of rfl (by rw [List.getElem?_map, hx]; rfl)⟩
end Dr
namespace Dr
open PySem L2
theorem TCl.at {K : PySem.W.Frag} {H G : Hp} {t : Addr} {c : Cl} (h : TCl K H t c) (e : ∀ o, H t = some o → G t = some o) : TCl K G t c := by
  refine ⟨?_, fun k => ?_⟩
  · rcases h.1 with (h | ⟨o, h⟩) | h
    · exact .inl (.inl (e _ h))
    · exact .inl (.inr ⟨o, e _ h⟩)
    · exact .inr h
  · obtain ⟨y, z, q, r⟩ := h.2 k
    obtain ⟨o, k', n, e', q'⟩ := q.is
    exact ⟨y, z, ⟨o, k', n, e _ e', q'⟩, r⟩
theorem hidL_upd_at {rs : List Addr} {H : Hp} {t D : Addr} {u : HO} (n : t ≠ D) : ∀ o, hidL rs H t = some o → hidL rs (upd H D u) t = some o := fun o e => by
  have h := hidL_some e
  rw [hidL_ne h] at e ⊢
  rw [upd_ne n]
  exact e
end Dr
/-! Rows of unlike order, rows with one person more. -/
namespace Dr
open PySem L2
theorem run1_perm {c : Cl} (hv : c.ok = true) {l m : List Nat} (h : l.Perm m) : (run1 c l).Perm (run1 c m) := List.perm_iff_count.mpr fun x => by
  have a := run1_count hv l x
  have b := run1_count hv m x
  unfold moved at a b
  rw [h.count_eq, h.count_eq, h.count_eq] at a
  exact Int.ofNat.inj (a.trans b.symm)
theorem runs_perm {D : List Cl} (hv : ∀ c ∈ D, c.ok = true) : ∀ {l m : List Nat}, l.Perm m → (runs D l).Perm (runs D m) := by
  induction D with
  | nil => intro l m h; exact h
  | cons c D ih =>
    intro l m h
    exact ih (fun x hx => hv x (List.mem_cons_of_mem _ hx)) (run1_perm (hv c List.mem_cons_self) h)
theorem runs_snoc {D : List Cl} (hv : ∀ c ∈ D, c.ok = true) (l : List Nat) (y : Nat) : ∃ z, runs D (l ++ [y]) = runs D l ++ [z] := by
  have h1 : (runs D (l ++ [y])).take l.length = runs D l := by rw [runs_take hv, List.take_left]
  have h2 : ((runs D (l ++ [y])).drop l.length).length = 1 := by rw [List.length_drop, runs_len, List.length_append, List.length_singleton]; omega
  obtain ⟨z, hz⟩ := List.length_eq_one_iff.mp h2
  exact ⟨z, by rw [← h1, ← hz, List.take_append_drop]⟩
/-- w is l and one person more, behind the first s -/
structure Wider (s : Nat) (l w : List Nat) : Prop where
  len : w.length = l.length + 1
  le : s ≤ l.length
  pre : w.take s = l.take s
  more : ∀ e, s ≤ e → e ≤ l.length → ∃ y, (w.take (e + 1)).Perm (l.take e ++ [y])
theorem Wider.start {l : List Nat} {s : Nat} (h : s ≤ l.length) (x : Nat) : Wider s l (l.take s ++ x :: l.drop s) := by
  refine ⟨?_, h, ?_, fun e h1 h2 => ⟨x, ?_⟩⟩
  · rw [List.length_append, List.length_cons, List.length_take, List.length_drop]; omega
  · rw [List.take_append_of_le_length (by rw [List.length_take]; omega), List.take_take, Nat.min_self]
  · have e1 : (l.take s ++ x :: l.drop s).take (e + 1) = l.take s ++ x :: (l.drop s).take (e - s) := by
      rw [List.take_append, List.length_take, Nat.min_eq_left h, List.take_of_length_le (by rw [List.length_take]; omega), show e + 1 - s = (e - s) + 1 by omega, List.take_succ_cons]
    have e2 : l.take e = l.take s ++ (l.drop s).take (e - s) := by
      have := List.take_add (l := l) (i := s) (j := e - s)
      rw [show s + (e - s) = e by omega] at this
      exact this
    rw [e1, e2, List.append_assoc]
    exact List.Perm.append_left _ (List.perm_append_singleton _ _).symm
theorem Wider.runs {l w : List Nat} {s : Nat} (h : Wider s l w) {D : List Cl} (hv : ∀ c ∈ D, c.ok = true) : Wider s (runs D l) (Dr.runs D w) := by
  refine ⟨by rw [runs_len, runs_len]; exact h.len, by rw [runs_len]; exact h.le, by rw [runs_take hv, runs_take hv, h.pre], fun e h1 h2 => ?_⟩
  rw [runs_len] at h2
  obtain ⟨y, hy⟩ := h.more e h1 h2
  obtain ⟨z, hz⟩ := runs_snoc hv (l.take e) y
  exact ⟨z, by rw [runs_take hv, runs_take hv, ← hz]; exact runs_perm hv hy⟩
theorem sorted_eq {xs ys : List Int} (h : xs.Perm ys) (hx : xs.Pairwise (· ≤ ·)) (hy : ys.Pairwise (· ≤ ·)) : xs = ys :=
  h.eq_of_pairwise (fun a b _ _ h1 h2 => Int.le_antisymm h1 h2) hx hy
theorem one_more {f m : List Nat} {y : Nat} (hy : y ∈ colN) (h : m.Perm (f ++ [y])) : (colN.map fun x => ((m.count x : Nat) : Int) - (f.count x : Nat)).Perm [0, 0, 0, 0, 0, 1] := by
  have e : ∀ x, ((m.count x : Nat) : Int) - (f.count x : Nat) = if y = x then 1 else 0 := fun x => by
    rw [h.count_eq, List.count_append, List.count_singleton]
    by_cases q : y = x
    · rw [if_pos q, q]; simp; omega
    · rw [if_neg q, if_neg (by simpa using q)]; omega
  rw [List.map_congr_left (fun x _ => e x)]
  have : ∀ y ∈ colN, (colN.map fun x => if y = x then (1 : Int) else 0).Perm [0, 0, 0, 0, 0, 1] := by decide +kernel
  exact this y hy
def sp_one_more (_ : PySem.W.Frag) : Sp := fun vs H Q _ => ∃ (f m : Str) (y : Nat), vs = [.str f, .str m] ∧ f.cps.size ≤ 1000 ∧ m.cps.size ≤ 1000 ∧ y ∈ colN ∧ m.cps.toList.Perm (f.cps.toList ++ [y]) ∧
  ∀ H', Same H H' → Q (.bl true) H'
end Dr
/-! sorted(text). -/
namespace DrTk
open PySem
section
variable {prog : Program} {w : World} {A : Around} {E : Value → Shared → Prop} {s : Shared} {x : Str} {t : Tok}
theorem collect_signs {Q : List Value → Shared → Prop} (hh : A.handled = none) (ha : x.cps.all (· < 128) = true) (hn : x.cps.size ≤ sizeLine)
    (hQ : ∀ h' tk, (∀ b o, s.heap.get? b = some o → h'.get? b = some o) → s.toks ≤ tk → Q (signs x.cps.toList s.toks) { s with heap := h', toks := tk }) :
    wpAny (model prog w) A (collect (.str x t)) Q E s := by
  unfold collect
  refine wpAny_bind (wpAny_runValue (codeAny_builtin F.entry_proto_collect ?_))
  rw [Around.under_plainId F.plain_proto_collect _]
  show wpAny _ A.in1 (newList [] >>= fun l => again (.builtin "list.__iadd__" ⟨[l, .str x t], []⟩)) _ _ s
  refine wpAny_bind (wpAny_newObj_type ?_)
  refine wpAny_pure ⟨plainId_quiet F.plain_list_iadd _, codeAny_builtin F.entry_list_iadd ?_⟩
  rw [Around.under_plainId F.plain_list_iadd _]
  show wpAny _ A.in1 (Builtin.List.listExtendWith (.ref s.heap.objs.size) (.str x t) (.ref s.heap.objs.size)) _ _ _
  have hS : (s.heap.push { cls := .type "list", data := .seq ([] : List Value).toArray }).get? s.heap.objs.size = some { cls := .type "list", data := .seq #[] 0 } := Heap.get?_push_size _ rfl
  have oth : ∀ b o, s.heap.get? b = some o → (s.heap.push { cls := .type "list", data := .seq ([] : List Value).toArray }).get? b = some o := fun b o e => Heap.get?_push_of_some _ e
  generalize s.heap.push { cls := .type "list", data := .seq ([] : List Value).toArray } = g at hS oth ⊢
  have hgs : s.heap.objs.size < g.objs.size := Heap.lt_size hS
  unfold Builtin.List.listExtendWith
  refine wpAny_bind (wpAny_typeOf (T := "str") (v := .str x t) rfl ?_)
  have c1 : Builtin.List.listSameRef (.ref s.heap.objs.size) (.str x t) = false := rfl
  have c2 : (Value.type "str" == Value.type "list") = false := by decide
  have c3 : (Value.type "str" == Value.type "tuple") = false := by decide
  simp only [c1, c2, c3, Bool.or_false, Bool.false_eq_true, if_false]
  refine wpAny_bind (wpAny_pyIter_ascii ha (wpAny_bind (wpAny_holding ?_)))
  unfold Builtin.List.listLengthHint
  refine wpAny_bind (wpAny_specialOf (T := "str") (v := .str x t) rfl F.str_len ?_); wp_delta
  refine wpAny_bind (wpAny_isInstance (T := "str") (v := .str x t) (b := true) rfl (by rw [isSubtype_type]; kernel_rfl) ?_); show wpAny _ _ (typeOf (Value.str x t) >>= _) _ _ _
  refine wpAny_bind (wpAny_typeOf (T := "str") (v := .str x t) rfl (wpAny_pure ?_))
  rw [if_neg (by decide)]
  refine wpAny_pure ⟨plainId_quiet F.plain_extend_loop _, ?_⟩
  refine ext_signs (A := A) (I := g.objs.size) (S := s.heap.objs.size) (x := x) (t := t) hh hn (Nat.ne_of_lt hgs) _ x.cps.size 0 _ #[] 0 rfl (Nat.zero_le _) rfl ?_ ?_ fun h' tk c' hk ht h3 => ?_
  · exact ⟨_, Heap.get?_push_size _ rfl, rfl, rfl⟩
  · exact Heap.get?_push_of_some _ hS
  have h4 : h'.get? s.heap.objs.size = some { cls := .type "list", dict := none, data := .seq (signs x.cps.toList s.toks).toArray c', slots := #[] } := by
    rw [h3]
    simp
  show wpAny _ A (load s.heap.objs.size >>= _) _ _ _
  refine wpAny_bind (wpAny_load h4 (wpAny_pure ?_))
  simp only [List.toList_toArray]
  exact hQ h' tk (fun b o e => hk b o (Nat.ne_of_lt (Heap.lt_size e)) (Nat.ne_of_lt (Nat.lt_trans (Heap.lt_size e) hgs)) (Heap.get?_push_of_some _ (oth b o e))) ht
end
end DrTk

namespace Dr
open PySem L2 PyProof.Rows
theorem strs_signs : ∀ (l : List Nat) (t : Nat), StrsAre (DrTk.signs l t) (l.map sg)
  | [], _ => .nil
  | c :: l, t => .cons _ _ (strs_signs l (t + 1))
section
variable {X : Cx}
/-- sorted(text), fewer than 64 signs -/
theorem call_sortedT (hcalm : X.calm = true) : CallR X (.builtin "sorted") (fun xs H Q => ∃ z : Str, xs = [.str z] ∧ z.cps.all (· < 128) = true ∧ z.cps.toList.length < 64 ∧
    ∀ (ys : List Str) (p : Addr), ys.Perm (z.cps.toList.map sg) → sortedS ys = true → H p = none → Q (.ref p) (upd H p (.lst (ys.map V.str)))) := by
  intro pins s σ H xs us Q I r q
  obtain ⟨z, ex, ha, h64, q⟩ := q
  subst ex
  obtain ⟨u, eu, rx⟩ := vals1 r
  subst eu
  obtain ⟨t, rfl⟩ := rx
  have hz : z.cps.size = z.cps.toList.length := by simp
  refine Calls.call_function_entry PyProof.Rows.kind_sorted PyProof.Rows.plain_sorted PyProof.Rows.entry_sorted (PyProof.Rows.args_sorted1 _) ?_
  unfold Builtin.«sorted»
  refine wpAny_bind (m := checkCount "sorted" 1 1 _) (wpAny_pure ?_)
  refine wpAny_bind (DrTk.collect_signs (A := X.A.in1) (I.ok.hd hcalm) ha (by rw [hz, sizeLine_eq]; omega) fun h' tk hk htk => ?_)
  have hS := strs_signs z.cps.toList s.toks
  have hal : (DrTk.signs z.cps.toList s.toks).length = z.cps.toList.length := DrTk.signs_len _ _
  generalize DrTk.signs z.cps.toList s.toks = its at hS hal ⊢
  have I1 : Inv X pins σ H { s with heap := h', toks := tk } := I.kept hk
  refine wpAny_bind (wpAny_newList ?_ (by rw [hal, sizeLine_eq]; omega))
  have hoL : (h'.push (seqObj "list" its.toArray 0)).get? h'.objs.size = some (seqObj "list" its.toArray 0) := Heap.get?_push_size _ rfl
  show wpAny _ _ _ _ _ { s with heap := h'.push (seqObj "list" its.toArray 0), toks := tk }
  refine wpAny_bind (wpAny_holding (wpAny_call_entry PyProof.Rows.slot_list_sort ⟨_, hoL, rfl⟩ PyProof.Rows.entry_list_sort
    (list_sort_treeK strKind_oneLt (s := { s with heap := h'.push (seqObj "list" its.toArray 0), toks := tk }) hoL hS.keysOf (fun v₁ v₂ rest e => keyKind_strs (by rw [← e]; exact hS)) (by rw [hal]; exact h64) fun st' hp hs => ⟨_, rfl, ?_⟩)
    (PyProof.Rows.args_list_sort _)))
  obtain ⟨ys, g1, g2, g3⟩ := sorted_out_str hS hp hs
  obtain ⟨e', he'⟩ := PyProof.Rows.sortedHeap_at (vs := its) (out := (arrOf st').map (·.2)) hoL
  have hlen : (ys.map V.str).length ≤ sizeLine := by
    rw [List.length_map, g2.length_eq, List.length_map]
    exact Nat.le_trans (Nat.le_of_lt h64) (by decide)
  refine wpAny_pure ⟨_, rfl, .ref h'.objs.size, upd H h'.objs.size (.lst (ys.map V.str)), I1.laid (t' := tk) (fun b u e => ?_) (Nat.le_refl _)
    (show ObjOk X.prog X.w _ _ _ (.lst (ys.map V.str)) from ⟨hlen, ((arrOf st').map (·.2)).toList, e', vals_of_strs g1, by rw [Array.toArray_toList]; exact he'⟩), rfl, q ys _ g2 g3 (I1.hok.fresh (Nat.le_refl _))⟩
  have hb : b < h'.objs.size := Heap.lt_size e
  rw [PyProof.Rows.sortedHeap_old (Nat.ne_of_lt hb) (by rw [size_push']; exact Nat.lt_succ_of_lt hb)]
  exact Heap.get?_push_of_some _ e
end
end Dr

namespace Dr
open PySem L2 PyProof.Rows
theorem rising_pw : ∀ (l : List Nat) (p : Nat), risingS (sg p) (l.map sg) = true → (p :: l).Pairwise (· ≤ ·)
  | [], p, _ => List.pairwise_singleton _ _
  | x :: r, p, h => by
    rw [List.map_cons] at h
    unfold risingS at h
    rw [Bool.and_eq_true] at h
    have ih := rising_pw r x h.2
    have px : p ≤ x := by
      have h1 : PySem.Spec.ltCps [x] [p] = false := by
        have := h.1
        rwa [Bool.not_eq_true'] at this
      simp [PySem.Spec.ltCps] at h1
      exact h1
    refine List.pairwise_cons.mpr ⟨fun y hy => ?_, ih⟩
    rcases List.mem_cons.mp hy with e | hy
    · rw [e]; exact px
    · exact Nat.le_trans px ((List.pairwise_cons.mp ih).1 y hy)
theorem sortedS_pw : ∀ (l : List Nat), sortedS (l.map sg) = true → l.Pairwise (· ≤ ·)
  | [], _ => List.Pairwise.nil
  | x :: r, h => rising_pw r x h
theorem of_perm {ys : List Str} {l : List Nat} (h : ys.Perm (l.map sg)) : ∃ m : List Nat, ys = m.map sg ∧ m.Perm l := by
  refine ⟨ys.map cc, ?_, ?_⟩
  · rw [List.map_map]
    refine (List.map_id ys).symm.trans (List.map_congr_left fun y hy => ?_)
    obtain ⟨c, _, rfl⟩ := List.mem_map.mp (h.mem_iff.mp hy)
    rfl
  · have := h.map cc
    rw [List.map_map] at this
    refine this.trans (List.Perm.of_eq ?_)
    exact (List.map_congr_left fun y _ => rfl).trans (List.map_id l)
theorem sorted_same {ys ws : List Str} {a b : List Nat} (h1 : ys.Perm (a.map sg)) (h2 : ws.Perm (b.map sg)) (s1 : sortedS ys = true) (s2 : sortedS ws = true) (h : a.Perm b) : ys = ws := by
  obtain ⟨m, rfl, hm⟩ := of_perm h1
  obtain ⟨n, rfl, hn⟩ := of_perm h2
  rw [(hm.trans (h.trans hn.symm)).eq_of_pairwise (fun x y _ _ p q => Nat.le_antisymm p q) (sortedS_pw _ s1) (sortedS_pw _ s2)]
def sp_shufP (_ : PySem.W.Frag) : Sp := fun vs H Q _ => ∃ (r q : Addr) (z : Str) (c : Nat), vs = [.ref r, .str z] ∧ Src H r q c ∧ c < 900000000 ∧ z.cps.size ≤ 1000 ∧
  ∀ (H' : Hp) (p : Addr) (ps : List Str), Same (hidL [r, q] H) (hidL [r, q] H') → Src H' r q (c + 1000) → H p = none → p ∉ [r, q] → H' p = some (.lst (ps.map V.str)) → ps.Perm (z.cps.toList.map sg) → Q (.ref p) H'
def reps (n : Nat) (D : List Cl) : List Cl := (List.replicate n D).flatten
theorem reps_ok {n : Nat} {D : List Cl} (h : ∀ c ∈ D, c.ok = true) : ∀ c ∈ reps n D, c.ok = true := fun c hc => by
  obtain ⟨l, hl, hc⟩ := List.mem_flatten.mp hc
  rw [(List.mem_replicate.mp hl).2] at hc
  exact h c hc
theorem reps_more {n : Nat} {D : List Cl} (l : List Nat) : runs (reps (n + 1) D) l = runs D (runs (reps n D) l) := by
  unfold reps
  rw [List.replicate_succ', List.flatten_append]
  simp [runs]
def sp_law_repeated (K : PySem.W.Frag) : Sp := fun vs H Q _ => ∃ (d : Addr) (D : List Cl) (z : Str) (t : Int) (n : Nat), vs = [.ref d, .str z, .int t] ∧ t = (n : Int) ∧ DrillT K H d D ∧ (∀ c ∈ D, c.ok = true) ∧ (∀ c ∈ D, Cl.le (2 ^ 60) c) ∧ z.cps.size ≤ 1000 ∧
  (∀ x ∈ z.cps.toList, x ∈ colN) ∧ n ≤ 1000 ∧ ∀ H', Same H H' → Q (.str (rowOf (runs (reps n D) z.cps.toList))) H'
end Dr

namespace Dr
theorem pop_permA {α : Type} {got rest : List α} {k : Nat} {x : α} {all : List α} (h : (got ++ rest).Perm all) (hx : rest[k]? = some x) : ((got ++ [x]) ++ rest.eraseIdx k).Perm all := by
  rw [List.append_assoc]
  refine (List.Perm.append_left got ?_).trans h
  have e : rest = rest.take k ++ x :: rest.drop (k + 1) := by
    obtain ⟨h1, h2⟩ := List.getElem?_eq_some_iff.mp hx
    rw [← h2, ← List.drop_eq_getElem_cons h1, List.take_append_drop]
  rw [List.eraseIdx_eq_take_drop_succ]
  refine List.Perm.trans ?_ (List.Perm.of_eq e.symm)
  exact (List.perm_middle (a := x) (l₁ := rest.take k) (l₂ := rest.drop (k + 1))).symm
end Dr

namespace Dr
open PySem L2
theorem asc {z : Str} (h : ∀ y ∈ z.cps.toList, y ∈ colN) : z.cps.all (· < 128) = true := by
  rw [← Array.all_toList, List.all_eq_true]
  intro y hy
  have e : ∀ y ∈ colN, y < 128 := by decide
  exact decide_eq_true (e y (h y hy))
theorem cols_of {ys : List Str} {l : List Nat} (h : ys.Perm (l.map sg)) (hl : ∀ y ∈ l, y ∈ colN) : ∀ y ∈ ys, isC y = true := fun y hy => by
  obtain ⟨c, hc, rfl⟩ := List.mem_map.mp (h.mem_iff.mp hy)
  exact isC_iff.mpr ⟨c, hl c hc, rfl⟩
end Dr
/-! Drills led by hand. -/
namespace Dr
open PySem L2
def sp_law_led (K : PySem.W.Frag) : Sp := fun vs H Q _ => ∃ (p t : Addr) (l : List Nat) (c : Cl), vs = [.ref p, .ref t] ∧ SqL K H p ((l.map sg).map V.str) ∧ SqT K H t c.vs ∧ c.ok = true ∧ Cl.le (2 ^ 60) c ∧ l.length ≤ 1000 ∧
  ∀ H' q, Same H H' → H q = none → H' q = some (.lst (((run1 c l).map sg).map V.str)) → Q (.ref q) H'
def sp_led_by_all (K : PySem.W.Frag) : Sp := fun vs H Q _ => ∃ (d : Addr) (D : List Cl) (z : Str), vs = [.ref d, .str z] ∧ Drill K H d D ∧ (∀ c ∈ D, c.ok = true) ∧ (∀ c ∈ D, Cl.le (2 ^ 60) c) ∧ z.cps.size ≤ 1000 ∧
  ∀ H', Same H H' → Q (.str (rowOf (runs D z.cps.toList))) H'
def sp_same_text (_ : PySem.W.Frag) : Sp := fun vs H Q _ => ∃ z : Str, vs = [.str z, .str z] ∧ Q (.bl true) H

/-- is it this person's turn: n wear the call's colour ahead -/
def chos (c : Cl) (n : Int) (x : Nat) : Bool := decide (x = cc c.a) && (match c.k with
  | .s _ => true
  | .m m => decide (n = m - 1))
theorem stp_chos {c : Cl} {n : Int} {x : Nat} (hv : c.ok = true) (h : chos c n x = true) : sg (stp c n x) = c.b := by
  unfold chos at h
  rw [Bool.and_eq_true, decide_eq_true_eq] at h
  have hx := h.1
  subst hx
  have ne : cc c.a ≠ cc c.b := cc_ne (Cl.ok_a hv) (Cl.ok_b hv) (Cl.ok_ne hv)
  unfold stp
  rw [if_neg (fun z => ne z.2), if_pos rfl]
  have h2 := h.2
  cases hk : c.k with
  | s z => exact sg_cc (Cl.ok_b hv)
  | m m =>
    rw [hk] at h2
    dsimp only at h2 ⊢
    rw [if_pos (of_decide_eq_true h2)]
    exact sg_cc (Cl.ok_b hv)
theorem stp_swap {c : Cl} {n : Int} {x : Nat} (hv : c.ok = true) (hk : c.k = .s "swap") (hx : x = cc c.b) : sg (stp c n x) = c.a := by
  unfold stp
  rw [if_pos ⟨by rw [hk]; decide, hx⟩]
  exact sg_cc (Cl.ok_a hv)
theorem stp_stay {c : Cl} {n : Int} {x : Nat} (h : chos c n x = false) (h2 : ¬ (c.k = .s "swap" ∧ x = cc c.b)) : stp c n x = x := by
  have hs : ¬ (c.k.swap = true ∧ x = cc c.b) := fun z => by
    refine h2 ⟨?_, z.2⟩
    have z1 := z.1
    cases hk : c.k with
    | s w =>
      rw [hk] at z1
      have e : w = "swap" := of_decide_eq_true z1
      rw [e]
    | m m => rw [hk] at z1; cases z1
  unfold stp
  rw [if_neg hs]
  by_cases hx : x = cc c.a
  · rw [if_pos hx]
    unfold chos at h
    rw [decide_eq_true hx, Bool.true_and] at h
    cases hk : c.k with
    | s w => rw [hk] at h; cases h
    | m m =>
      rw [hk] at h
      dsimp only at h ⊢
      rw [if_neg (of_decide_eq_false h)]
  · rw [if_neg hx]
end Dr
namespace Dr
open PySem L2
section
variable {X : Cx}
/-- a tuple of three texts written out: the tokens are new -/
theorem pe_tupC {xa xb xc : Str} {j0 j1 j2 : Nat} {x1} {c0 c1 c2 pos : Pos}
    (hst : starEach [.Constant (.str xa) j0 c0, .Constant (.str xb) j1 c1, .Constant (.str xc) j2 c2] X.env = (false, eval (.Constant (.str xa) j0 c0) X.env) :: starEach [.Constant (.str xb) j1 c1, .Constant (.str xc) j2 c2] X.env := by rfl) :
    PE X (.Tuple [.Constant (.str xa) j0 c0, .Constant (.str xb) j1 c1, .Constant (.str xc) j2 c2] x1 pos) (fun _ H Q => ∀ (p : Addr) (u : HO) (y z : Tx), y.1 = xb → z.1 = xc → y.2 ≠ 0 → z.2 ≠ 0 → y.2 ≠ z.2 → H p = none →
      TPair p u (.str xa) y z → Q (.ref p) (upd H p u)) := by
  refine ⟨fun pins s σ H Q I h => ?_⟩
  refine wpAny_Tuple_spliced ?_
  rw [hst]
  show wpAny _ _ (spliced ((false, eval (.Constant (.str xa) j0 c0) X.env) :: backTo pos (starEach [.Constant (.str xb) j1 c1, .Constant (.str xc) j2 c2] X.env))) _ _ s
  refine Calls.spliced_cons (Calls.Constant_str (k := j0) (pos := c0) ?_)
  refine Calls.spliced_cons (Calls.Constant_str (k := j1) (pos := c1) ?_)
  refine Calls.spliced_cons (Calls.Constant_str (k := j2) (pos := c2) ?_)
  refine Calls.spliced_nil ⟨by show 3 ≤ sizeLine; decide, ?_⟩
  have I2 := I.tok (s.toks + 1 + 1 + 1)
  refine ⟨.ref s.heap.objs.size, upd H s.heap.objs.size (.frz { cls := .type "tuple", data := .seq #[.str xa s.toks, .str xb (s.toks + 1), .str xc (s.toks + 1 + 1)] 0 } (.tup [.str xa, .str xb, .str xc])),
    I2.laid (t' := s.toks + 1 + 1 + 1) (fun b u e => Heap.get?_push_of_some _ e) (Nat.le_refl _) ?_, rfl, h _ _ (xb, s.toks + 1) (xc, s.toks + 1 + 1) rfl rfl (Nat.succ_ne_zero _) (Nat.succ_ne_zero _) (by show s.toks + 1 ≠ s.toks + 1 + 1; omega) (I2.hok.fresh (Nat.le_refl _)) ⟨_, .str xa s.toks, rfl, rfl, rfl, rfl, ⟨_, rfl⟩⟩⟩
  exact ⟨Heap.get?_push_size _ rfl, by show 3 ≤ sizeLine; decide, [.str xa s.toks, .str xb (s.toks + 1), .str xc (s.toks + 1 + 1)], .cons ⟨_, rfl⟩ (.cons ⟨_, rfl⟩ (.cons ⟨_, rfl⟩ .nil)), ⟨_, Heap.get?_push_size _ rfl, rfl, _, rfl⟩⟩
end
def sx_run_drill (K : PySem.W.Frag) (C1 C2 : Addr) : Sp := fun vs H Q E => ∃ (d : Addr) (D : List Cl) (z : Str), vs = [.ref d, .str z] ∧ DrillT K H d D ∧
  (∀ i, badD D = some i → Out H E C1 (.int (i : Nat))) ∧ (badD D = none → ∀ i, badZ z = some i → Out H E C2 (.int (i : Nat))) ∧
  (badD D = none → badZ z = none → (∀ c ∈ D, Cl.le (2 ^ 60) c) ∧ z.cps.size ≤ 1000 ∧ ∀ H', Same H H' → Q (.str (rowOf (runs D z.cps.toList))) H')
def sp_changed (K : PySem.W.Frag) : Sp := fun vs H Q _ => ∃ (d : Addr) (D : List Cl) (z : Str), vs = [.ref d, .str z] ∧ DrillT K H d D ∧ (∀ c ∈ D, c.ok = true) ∧ (∀ c ∈ D, Cl.le (2 ^ 60) c) ∧ D.length ≤ 100 ∧ z.cps.size ≤ 1000 ∧
  (∀ x ∈ z.cps.toList, x ∈ colN) ∧ ∀ H', Same H H' → Q (.bl true) H'
end Dr
namespace Dr
open PySem L2
theorem lay_cl {c : Cl} (h : c.ok = true) : PyData.canLay0 (dCl c) = true := by
  have ha := ok_col (Cl.ok_a h)
  have hb := ok_col (Cl.ok_b h)
  have hk : PyData.canLay0 (dK c.k) = true := by
    rcases Cl.kinds h with e | e | ⟨m, e, _⟩
    · rw [e]; decide +kernel
    · rw [e]; decide +kernel
    · rw [e]; rfl
  simp [dCl, PyData.canLay0, PyData.canLayAll0, ha, hb, hk]
theorem dep_cl (c : Cl) : PyData.depth (dCl c) ≤ 1 := by
  cases h : c.k <;> simp [dCl, dK, h, PyData.depth, PyData.depthAll]
theorem lay_cls : ∀ D : List Cl, (∀ c ∈ D, c.ok = true) → PyData.canLayAll0 (D.map dCl) = true
  | [], _ => rfl
  | c :: D, h => by
    show (PyData.canLay0 (dCl c) && PyData.canLayAll0 (D.map dCl)) = true
    rw [lay_cls D fun x hx => h x (List.mem_cons_of_mem _ hx), lay_cl (h c List.mem_cons_self)]
    rfl
theorem dep_cls : ∀ D : List Cl, PyData.depthAll (D.map dCl) ≤ 1
  | [] => by decide
  | c :: D => by
    show max (PyData.depth (dCl c)) (PyData.depthAll (D.map dCl)) ≤ 1
    have h1 := dep_cl c
    have h2 := dep_cls D
    omega
theorem shaped_D {D : List Cl} (h : ∀ c ∈ D, c.ok = true) : SeqAt.shaped (.list (D.map dCl)) = true := by
  unfold SeqAt.shaped
  rw [Bool.and_eq_true]
  refine ⟨by simp only [PyData.canLay0]; exact lay_cls D h, decide_eq_true ?_⟩
  have := dep_cls D
  simp only [PyData.depth]
  omega
theorem eqv_D {D : List Cl} (h : ∀ c ∈ D, c.ok = true) : PyData.eqv (.list (D.map dCl)) (.list (D.map dCl)) = true := SeqAt.eqv_refl _ (SeqAt.canLay_of_shaped (shaped_D h))
theorem DrillT.part {K : PySem.W.Frag} {H : Hp} {p : Addr} {ts : List Addr} {D : List Cl} (hl : ts.length = D.length) (hT : ∀ (i : Nat) (t : Addr) (c : Cl), ts[i]? = some t → D[i]? = some c → TCl K H t c) (k : Nat)
    (hp : SqL K H p ((ts.map V.ref).take k)) : DrillT K H p (D.take k) :=
  ⟨ts.take k, by rw [List.map_take]; exact hp, by rw [List.length_take, List.length_take, hl], fun j t c a b => by
    have hj := lt_of_get a
    rw [List.length_take] at hj
    rw [List.getElem?_take, if_pos (by omega)] at a b
    exact hT j t c a b⟩
theorem DrillT.rest {K : PySem.W.Frag} {H : Hp} {p : Addr} {ts : List Addr} {D : List Cl} (hl : ts.length = D.length) (hT : ∀ (i : Nat) (t : Addr) (c : Cl), ts[i]? = some t → D[i]? = some c → TCl K H t c) (k : Nat)
    (hp : SqL K H p ((ts.map V.ref).drop k)) : DrillT K H p (D.drop k) :=
  ⟨ts.drop k, by rw [List.map_drop]; exact hp, by rw [List.length_drop, List.length_drop, hl], fun j t c a b => hT (k + j) t c (by rw [← List.getElem?_drop]; exact a) (by rw [← List.getElem?_drop]; exact b)⟩
theorem runs_cut (D : List Cl) (k : Nat) (l : List Nat) : runs (D.drop k) (runs (D.take k) l) = runs D l := by
  have e := List.foldl_append (f := fun l c => run1 c l) (b := l) (l := D.take k) (l' := D.drop k)
  rw [List.take_append_drop] at e
  exact e.symm
end Dr
/-! Numbers, calls and counts as texts; data that are told equal, part by part. -/
namespace Dr
open PySem L2
abbrev tl (z : Str) : List Nat := z.cps.toList
/-- the text of a number -/
abbrev num (n : Nat) : Str := Str.ofString (toString ((n : Nat) : Int))
/-- is_number -/
def numT (z : Str) : Bool := Txt.isascii z && (Txt.isdigit z && (!decide ((30 : Int) < z.length) && (decide (z = "0") || !Txt.startswith z "0")))
theorem ascii_digit : ∀ c : Nat, c < 128 → Unicode.isDigit c = true → 48 ≤ c ∧ c ≤ 57 := by decide +kernel
theorem digit_ascii {c : Nat} (h1 : 48 ≤ c) (h2 : c ≤ 57) : Unicode.isDigit c = true := by
  have : ∀ c : Nat, c < 58 → 48 ≤ c → Unicode.isDigit c = true := by decide +kernel
  exact this c (by omega) h1
theorem isascii_tl {z : Str} : Txt.isascii z = true ↔ ∀ c ∈ tl z, c < 128 := by
  show z.cps.all (fun c => decide (c < 128)) = true ↔ _
  rw [← Array.all_toList, List.all_eq_true]
  exact ⟨fun h c hc => of_decide_eq_true (h c hc), fun h c hc => decide_eq_true (h c hc)⟩
theorem len_tl (z : Str) : z.length = (tl z).length := by
  show z.cps.size = _
  simp
theorem isdigit_tl {z : Str} : Txt.isdigit z = true ↔ tl z ≠ [] ∧ ∀ c ∈ tl z, Unicode.isDigit c = true := by
  show (decide (z.length > 0) && z.cps.all Unicode.isDigit) = true ↔ _
  rw [Bool.and_eq_true, ← Array.all_toList, List.all_eq_true]
  refine ⟨fun h => ⟨fun e => ?_, h.2⟩, fun h => ⟨?_, h.2⟩⟩
  · have h1 := of_decide_eq_true h.1
    rw [len_tl, e] at h1
    exact absurd h1 (by decide)
  · refine decide_eq_true ?_
    rw [len_tl]
    exact List.length_pos_iff.mpr h.1
theorem starts_zero {z : Str} : Txt.startswith z "0" = true ↔ ∃ r, tl z = 48 :: r := by
  show (decide (0 + ("0" : Str).length ≤ z.length) && Builtin.Str.subAt z "0" 0) = true ↔ _
  have e : ("0" : Str).cps.toList = [48] := by decide +kernel
  have l : ("0" : Str).length = 1 := by decide +kernel
  rw [l, PySem.StrLaws.subAt_eq, e, l, len_tl, Bool.and_eq_true, List.drop_zero]
  constructor
  · intro h
    have h2 := eq_of_beq h.2
    cases ez : tl z with
    | nil => rw [show z.cps.toList = [] from ez] at h2; cases h2
    | cons c r =>
      rw [show z.cps.toList = c :: r from ez] at h2
      have h2' : [c] = [48] := h2
      cases h2'
      exact ⟨r, rfl⟩
  · rintro ⟨r, h⟩
    refine ⟨decide_eq_true (by rw [h, List.length_cons]; omega), ?_⟩
    rw [show z.cps.toList = 48 :: r from h]
    rfl
theorem tl_num (n : Nat) : tl (num n) = TL.numL n := TL.tl_num n
theorem num_digits {n : Nat} : ∀ c ∈ TL.numL n, 48 ≤ c ∧ c ≤ 57 := fun c hc => TL.numL_digits n c hc
theorem numL_zero {n : Nat} {r : List Nat} (h : TL.numL n = 48 :: r) : n = 0 := by
  induction n using Nat.strongRecOn generalizing r with
  | _ n ih =>
    by_cases h10 : n < 10
    · rw [TL.numL_lt h10] at h
      have := (List.cons.inj h).1
      omega
    · have h10' : 10 ≤ n := by omega
      rw [TL.numL_step h10'] at h
      cases e : TL.numL (n / 10) with
      | nil => exact absurd e (TL.numL_ne _)
      | cons c s =>
        rw [e, List.cons_append] at h
        have hc := (List.cons.inj h).1
        have := ih (n / 10) (by omega) (r := s) (by rw [e, hc])
        omega
theorem num_eq_zero {n : Nat} : num n = "0" ↔ n = 0 := by
  constructor
  · intro h
    have e : tl (num n) = [48] := by rw [h]; decide +kernel
    rw [tl_num] at e
    exact numL_zero e
  · rintro rfl
    decide +kernel
/-- the texts of numbers are numbers -/
theorem numT_num {n : Nat} (h : n < 10 ^ 30) : numT (num n) = true := by
  have h1 : Txt.isascii (num n) = true := isascii_tl.mpr fun c hc => by
    rw [tl_num] at hc
    have := num_digits c hc
    omega
  have h2 : Txt.isdigit (num n) = true := isdigit_tl.mpr ⟨by rw [tl_num]; exact TL.numL_ne n, fun c hc => by
    rw [tl_num] at hc
    have := num_digits c hc
    exact digit_ascii this.1 this.2⟩
  have h3 : ¬ (30 : Int) < (num n).length := by
    rw [len_tl, tl_num]
    have := TL.numL_len (n := n) (k := 30) (by decide) h
    omega
  unfold numT
  rw [h1, h2, decide_eq_false h3]
  by_cases e : num n = "0"
  · rw [decide_eq_true e]; rfl
  · have h4 : Txt.startswith (num n) "0" = false := by
      cases q : Txt.startswith (num n) "0" with
      | false => rfl
      | true =>
        obtain ⟨r, hr⟩ := starts_zero.mp q
        rw [tl_num] at hr
        exact absurd (num_eq_zero.mpr (numL_zero hr)) e
    rw [decide_eq_false e, h4]; rfl
theorem snoc_ind {α : Type} {P : List α → Prop} (h0 : P []) (h1 : ∀ l a, P l → P (l ++ [a])) (l : List α) : P l := by
  have key : ∀ m : List α, P m.reverse := fun m => by
    induction m with
    | nil => exact h0
    | cons a m ih => rw [List.reverse_cons]; exact h1 _ _ ih
  have := key l.reverse
  rwa [List.reverse_reverse] at this
/-- digits without a leading zero are the text of their number -/
theorem numL_of_digits : ∀ {l : List Nat}, NumText.AllDigits l → l ≠ [] → (l = [48] ∨ ∀ r, l ≠ 48 :: r) → TL.numL (NumText.digitsVal l) = l := by
  intro l
  refine snoc_ind (P := fun l => NumText.AllDigits l → l ≠ [] → (l = [48] ∨ ∀ r, l ≠ 48 :: r) → TL.numL (NumText.digitsVal l) = l) ?_ ?_ l
  · intro _ h; exact absurd rfl h
  · intro l c ih hd _ hz
    have hc := hd c (by simp)
    have hl : NumText.AllDigits l := fun x hx => hd x (List.mem_append_left _ hx)
    have hv : NumText.digitsVal (l ++ [c]) = NumText.digitsVal l * 10 + (c - 48) := by
      unfold NumText.digitsVal
      rw [List.foldl_append]
      rfl
    by_cases e : l = []
    · subst e
      have hv0 : NumText.digitsVal ([] ++ [c]) = c - 48 := by rw [hv]; show 0 * 10 + (c - 48) = _; omega
      rw [hv0, TL.numL_lt (by omega)]
      show [48 + (c - 48)] = [c]
      congr 1
      omega
    · have hz' : ∀ r, l ≠ 48 :: r := fun r q => by
        rcases hz with h | h
        · have := congrArg List.length h
          rw [List.length_append] at this
          have : l.length = 0 := by simpa using this
          exact e (List.eq_nil_of_length_eq_zero this)
        · exact h (r ++ [c]) (by rw [q]; rfl)
      have hi := ih hl e (.inr hz')
      have hpos : 1 ≤ NumText.digitsVal l := by
        rcases Nat.eq_zero_or_pos (NumText.digitsVal l) with q | q
        · rw [q] at hi
          exact absurd (hi.symm.trans (by decide +kernel)) (hz' [])
        · exact q
      rw [hv, TL.numL_step (by omega)]
      have e1 : (NumText.digitsVal l * 10 + (c - 48)) / 10 = NumText.digitsVal l := by omega
      have e2 : (NumText.digitsVal l * 10 + (c - 48)) % 10 = c - 48 := by omega
      rw [e1, e2, hi]
      congr 2
      omega
theorem digitsVal_lt : ∀ {l : List Nat}, NumText.AllDigits l → NumText.digitsVal l < 10 ^ l.length := by
  intro l
  refine snoc_ind (P := fun l => NumText.AllDigits l → NumText.digitsVal l < 10 ^ l.length) ?_ ?_ l
  · intro _; decide
  · intro l c ih hd
    have hc := hd c (by simp)
    have hl : NumText.AllDigits l := fun x hx => hd x (List.mem_append_left _ hx)
    have hv : NumText.digitsVal (l ++ [c]) = NumText.digitsVal l * 10 + (c - 48) := by
      unfold NumText.digitsVal
      rw [List.foldl_append]
      rfl
    have := ih hl
    rw [hv, List.length_append, List.length_singleton, Nat.pow_succ]
    omega
theorem numT_parts {z : Str} (h : numT z = true) : NumText.AllDigits (tl z) ∧ tl z ≠ [] ∧ (tl z).length ≤ 30 ∧ (tl z = [48] ∨ ∀ r, tl z ≠ 48 :: r) := by
  unfold numT at h
  simp only [Bool.and_eq_true] at h
  obtain ⟨h1, h2, h3, h4⟩ := h
  have a := isascii_tl.mp h1
  have b := isdigit_tl.mp h2
  refine ⟨fun c hc => ascii_digit c (a c hc) (b.2 c hc), b.1, ?_, ?_⟩
  · have : ¬ (30 : Int) < z.length := of_decide_eq_false (by simpa using h3)
    rw [len_tl] at this
    omega
  · rcases (Bool.or_eq_true _ _).mp h4 with q | q
    · left
      rw [of_decide_eq_true q]
      decide +kernel
    · right
      intro r e
      have : Txt.startswith z "0" = true := starts_zero.mpr ⟨r, e⟩
      rw [this] at q
      cases q
theorem numT_of {z : Str} (h : numT z = true) : ∃ n, z = num n ∧ n < 10 ^ 30 := by
  obtain ⟨h1, h2, h3, h4⟩ := numT_parts h
  refine ⟨NumText.digitsVal (tl z), ?_, ?_⟩
  · refine TL.ext_tl ?_
    show tl z = tl (num _)
    rw [tl_num, numL_of_digits h1 h2 h4]
  · exact Nat.lt_of_lt_of_le (digitsVal_lt h1) (Nat.pow_le_pow_right (by decide) h3)
theorem num_inj {m n : Nat} (h : num m = num n) : m = n := TL.numL_inj (by rw [← tl_num, ← tl_num, h])
theorem num_len {n : Nat} (h : n < 10 ^ 30) : (num n).length ≤ 30 := by
  rw [len_tl, tl_num]
  exact TL.numL_len (by decide) h
theorem num_int {n : Nat} (h : n < 10 ^ 30) : intText? (num n) = some (n : Int) := TL.int_num (Nat.le_trans (TL.numL_len (k := 30) (by decide) h) (by decide))
theorem num_log {n : Nat} (h : n < 10 ^ 30) : ((n : Nat) : Int).natAbs.log2 < 1920 := by
  have h2 : n < 2 ^ 100 := Nat.lt_trans h (by decide)
  have := PySem.Flt.log2_lt_of (n := n) (k := 100) (by decide) h2
  show n.log2 < 1920
  omega
/-! ### counts -/
def goodC (z : Str) : Bool := decide ((Txt.split z ",").length = 6) && (Txt.split z ",").all numT
def valN (w : Str) : Int := (intText? w).getD 0
theorem valN_num {n : Nat} (h : n < 10 ^ 30) : valN (num n) = n := by unfold valN; rw [num_int h]; rfl
/-- counts as a text -/
def showC (ns : List Nat) : Str := Txt.join "," (ns.map num)
theorem num_free {s n : Nat} (h : s < 48 ∨ 57 < s) : s ∉ tl (num n) := by rw [tl_num]; exact TL.numL_free h
theorem split_showC {ns : List Nat} (h : ns ≠ []) : Txt.split (showC ns) "," = ns.map num :=
  TL.split_join (s := 44) (S := []) (by decide +kernel) (by decide +kernel) (by simpa using h) fun p hp => by
    obtain ⟨n, _, rfl⟩ := List.mem_map.mp hp
    exact num_free (.inl (by decide))
theorem goodC_show {ns : List Nat} (h6 : ns.length = 6) (h : ∀ n ∈ ns, n < 10 ^ 30) : goodC (showC ns) = true := by
  unfold goodC
  rw [split_showC (by intro e; rw [e] at h6; cases h6), List.length_map, decide_eq_true h6, Bool.true_and, List.all_eq_true]
  intro z hz
  obtain ⟨n, hn, rfl⟩ := List.mem_map.mp hz
  exact numT_num (h n hn)
theorem vals_show {ns : List Nat} (h0 : ns ≠ []) (h : ∀ n ∈ ns, n < 10 ^ 30) : (Txt.split (showC ns) ",").map valN = ns.map Int.ofNat := by
  rw [split_showC h0, List.map_map]
  exact List.map_congr_left fun n hn => valN_num (h n hn)
theorem goodC_of {z : Str} (h : goodC z = true) : ∃ ns : List Nat, ns.length = 6 ∧ (∀ n ∈ ns, n < 10 ^ 30) ∧ z = showC ns := by
  unfold goodC at h
  rw [Bool.and_eq_true, List.all_eq_true] at h
  have h6 := of_decide_eq_true h.1
  have ex : ∀ ws : List Str, (∀ w ∈ ws, numT w = true) → ∃ ns : List Nat, ws = ns.map num ∧ ∀ n ∈ ns, n < 10 ^ 30 := by
    intro ws
    induction ws with
    | nil => intro _; exact ⟨[], rfl, by simp⟩
    | cons w ws ih =>
      intro hw
      obtain ⟨ns, e, hn⟩ := ih fun x hx => hw x (List.mem_cons_of_mem _ hx)
      obtain ⟨n, e1, h1⟩ := numT_of (hw w List.mem_cons_self)
      exact ⟨n :: ns, by rw [e, e1]; rfl, fun m hm => by
        rcases List.mem_cons.mp hm with q | q
        · rw [q]; exact h1
        · exact hn m q⟩
  obtain ⟨ns, e, hn⟩ := ex _ h.2
  refine ⟨ns, by rw [e, List.length_map] at h6; exact h6, hn, ?_⟩
  unfold showC
  rw [← e, TL.join_eq, PySem.StrLaws.join_split]
def sp_is_number (_ : PySem.W.Frag) : Sp := fun vs H Q _ => ∃ z : Str, vs = [.str z] ∧ z.length ≤ sizeLine ∧ Q (.bl (numT z)) H
def sx_read_counts (_ : PySem.W.Frag) (C : Addr) : Sp := fun vs H Q E => ∃ z : Str, vs = [.str z] ∧ z.length ≤ 100000 ∧ (goodC z = false → Out H E C (.str z)) ∧ (goodC z = true → NewInts H ((Txt.split z ",").map valN) Q)
def sp_show_counts (K : PySem.W.Frag) : Sp := fun vs H Q _ => ∃ (a : Addr) (ns : List Nat), vs = [.ref a] ∧ SqL K H a (ns.map fun n => V.int (n : Nat)) ∧ ns.length ≤ 1000 ∧ (∀ n ∈ ns, n < 10 ^ 30) ∧ ∀ H', Same H H' → Q (.str (showC ns)) H'
theorem sum_len_num : ∀ {ns : List Nat}, (∀ n ∈ ns, n < 10 ^ 30) → ((ns.map num).map (·.length)).sum ≤ 30 * ns.length
  | [], _ => Nat.le_refl _
  | n :: ns, h => by
    have h1 := num_len (h n List.mem_cons_self)
    have h2 := sum_len_num (ns := ns) fun m hm => h m (List.mem_cons_of_mem _ hm)
    rw [List.map_cons, List.map_cons, List.sum_cons, List.length_cons]
    omega
/-! ### data, part by part -/
/-- nested below n, no list of more than 100000 -/
def Sml : Nat → PyData → Prop
  | 0, _ => False
  | n + 1, d => match d with
    | .list l => l.length ≤ 100000 ∧ ∀ e ∈ l, Sml n e
    | .tuple l => l.length ≤ 100000 ∧ ∀ e ∈ l, Sml n e
    | .dict _ => False
    | _ => True
def sp_same (K : PySem.W.Frag) (n : Nat) : Sp := fun vs H Q _ => ∃ (x y : V) (d : PyData), vs = [x, y] ∧ Dp K H x d ∧ Dp K H y d ∧ Sml n d ∧ ∀ H', Same H H' → Q (.bl true) H'
theorem ok_same_zero {P : Program} {w : World} {K : PySem.W.Frag} {mg : Str → Option Value} {base : Heap} {f : Addr} {fd : FuncData} {ps : List Str} {k : Nat} : FnOk P w K mg base CX0 k f fd ps (sp_same K 0) :=
  ⟨fun _ _ _ _ ⟨_, _, _, _, _, _, h, _⟩ => h.elim, fun _ _ _ _ _ _ _ _ _ _ _ _ _ ⟨_, _, _, _, _, _, h, _⟩ => h.elim⟩
theorem Dp.same' {K : PySem.W.Frag} {H H' : Hp} (S : Same H H') : ∀ {d : PyData} {v : V}, Dp K H v d → Dp K H' v d := by
  intro d v h
  refine Dp.rec (motive_1 := fun v d _ => Dp K H' v d) (motive_2 := fun vs ds _ => DpAll K H' vs ds) ?_ ?_ ?_ ?_ ?_ ?_ ?_ ?_ h
  · exact .non
  · exact .bl
  · exact .int
  · exact .str
  · intro a xs ds h _ ih; exact .lst (S.seq h) ih
  · intro a xs ds h _ ih; exact .tup (Same.sqT S h) ih
  · exact .nil
  · intro v vs d ds _ _ a b; exact .cons a b
theorem DpAll.get {K : PySem.W.Frag} {H : Hp} : ∀ {vs : List V} {ds : List PyData} {i : Nat} {v : V}, DpAll K H vs ds → vs[i]? = some v → ∃ d, ds[i]? = some d ∧ Dp K H v d
  | _, _, 0, _, .cons (d := d) h _, e => by
    cases e
    exact ⟨d, rfl, h⟩
  | _, _, i + 1, v, .cons _ t, e => by
    obtain ⟨d, h1, h2⟩ := DpAll.get (i := i) t (by simpa using e)
    exact ⟨d, by simpa using h1, h2⟩
  | _, _, i, _, .nil, e => by simp at e
theorem DpAll.len {K : PySem.W.Frag} {H : Hp} : ∀ {vs : List V} {ds : List PyData}, DpAll K H vs ds → vs.length = ds.length
  | _, _, .nil => rfl
  | _, _, .cons _ t => congrArg Nat.succ (DpAll.len t)
theorem tyL {K : PySem.W.Frag} {H : Hp} {a : Addr} {xs : List V} (h : SqL K H a xs) : TyX K H (.ref a) (.type "list") := by
  rcases h with (h | ⟨o, h⟩) | ⟨o, its, n, h1, h2, _⟩
  · exact .base (.lst h)
  · exact .base (.frz h)
  · exact .kList h1 h2
theorem tyT {K : PySem.W.Frag} {H : Hp} {a : Addr} {xs : List V} (h : SqT K H a xs) : TyX K H (.ref a) (.type "tuple") := by
  rcases h with (h | ⟨o, h⟩) | ⟨o, its, n, h1, h2, _⟩
  · exact .base (.tup h)
  · exact .fTuple h
  · exact .kTuple h1 h2
end Dr
namespace Dr
open PySem L2
def sp_law_long (_ : PySem.W.Frag) : Sp := fun vs H Q _ => ∃ (r q : Addr) (c : Nat), vs = [.ref r] ∧ Src H r q c ∧ c < 900000000 ∧
  ∀ (H' : Hp) (n : Nat), Same (hidL [r, q] H) (hidL [r, q] H') → Src H' r q (c + 2) → n < 10 ^ 30 → Q (.int (n : Nat)) H'
def sp_numbersF1 (_ : PySem.W.Frag) : Sp := fun vs H Q _ => ∃ (r q : Addr) (c : Nat), vs = [.ref r] ∧ Src H r q c ∧ c < 800000000 ∧
  ∀ (H' : Hp) (p : Addr) (ns : List Nat), Same (hidL [r, q] H) (hidL [r, q] H') → Src H' r q (c + 100) → H p = none → p ∉ [r, q] → H' p = some (.lst (ns.map fun n => V.int (n : Nat))) → ns.length = 6 → (∀ n ∈ ns, n < 10 ^ 30) → Q (.ref p) H'
theorem natV (ns : List Nat) : (ns.map fun n => V.int (n : Nat)) = (ns.map Int.ofNat).map V.int := by
  rw [List.map_map]; rfl
theorem map_get' {α β : Type} {f : α → β} {l : List α} {i : Nat} {x : α} (h : l[i]? = some x) : (l.map f)[i]? = some (f x) := by rw [List.getElem?_map, h]; rfl
end Dr
namespace Dr
open PySem L2
theorem spl_le {s : Nat} : ∀ (l acc : List Nat), ∀ p ∈ TL.spl [s] 0 acc l, p.length ≤ acc.length + l.length := by
  intro l
  induction l with
  | nil =>
    intro acc p hp
    rw [TL.spl_nil] at hp
    rw [List.mem_singleton.mp hp]
    exact Nat.le_refl _
  | cons c l ih =>
    intro acc p hp
    cases h : TL.pre [s] (c :: l) with
    | true =>
      rw [TL.spl_hit h] at hp
      rcases List.mem_cons.mp hp with q | q
      · rw [q, List.length_cons]; omega
      · have := ih [] p q
        rw [List.length_nil] at this
        rw [List.length_cons]; omega
    | false =>
      rw [TL.spl_miss h] at hp
      have := ih (acc ++ [c]) p hp
      rw [List.length_append, List.length_singleton] at this
      rw [List.length_cons]; omega
theorem split_map (z : Str) : (Txt.split z ",").map tl = TL.spl [44] 0 [] (tl z) := TL.split_spl z "," (by decide +kernel) (TL.kind_ok (by decide +kernel))
theorem split_le {z w : Str} (h : w ∈ Txt.split z ",") : w.length ≤ z.length := by
  have h1 : tl w ∈ (Txt.split z ",").map tl := List.mem_map_of_mem h
  rw [split_map] at h1
  have := spl_le _ _ _ h1
  rw [len_tl, len_tl]
  simpa using this
end Dr
namespace Dr
open PySem L2
theorem cut_le (xs : List V) (k : Nat) : (cutV xs none (some (k : Int))).length ≤ k := by
  unfold cutV
  rw [HT.sIx_none, HT.sIx_nat]
  simp
  omega
theorem joinL_len (S : List Nat) : ∀ ps : List (List Nat), (TL.joinL S ps).length ≤ (ps.map List.length).sum + ps.length * S.length
  | [] => by simp [TL.joinL]
  | [p] => by simp [TL.joinL]
  | p :: q :: r => by
    have ih := joinL_len S (q :: r)
    show (p ++ (S ++ TL.joinL S (q :: r))).length ≤ _
    rw [List.length_append, List.length_append, List.map_cons, List.sum_cons]
    have e : (p :: q :: r).length * S.length = S.length + (q :: r).length * S.length := by
      rw [List.length_cons, Nat.succ_mul]; omega
    rw [e]
    omega
theorem join_len (y : Str) (ps : List Str) : (Txt.join y ps).length ≤ (ps.map (·.length)).sum + ps.length * y.length := by
  rw [TL.join_eq, len_tl]
  have h := joinL_len (tl y) (ps.map tl)
  rw [← TL.tl_join, List.map_map, List.length_map, ← len_tl y] at h
  have e : ps.map (List.length ∘ tl) = ps.map (·.length) := List.map_congr_left fun z _ => (len_tl z).symm
  rw [e] at h
  exact h
theorem showC_len {ns : List Nat} (h : ∀ n ∈ ns, n < 10 ^ 30) : (showC ns).length ≤ 31 * ns.length := by
  have h1 := join_len "," (ns.map num)
  have h2 := sum_len_num h
  rw [List.length_map, show ("," : Str).length = 1 by decide +kernel] at h1
  show (Txt.join "," (ns.map num)).length ≤ _
  omega
theorem sml_strs {n : Nat} {l : List Str} (h : l.length ≤ 100000) : Sml (n + 2) (.list (l.map PyData.str)) := by
  refine ⟨by rw [List.length_map]; exact h, fun e he => ?_⟩
  obtain ⟨z, _, rfl⟩ := List.mem_map.mp he
  exact True.intro
theorem sml_ints {n : Nat} {l : List Int} (h : l.length ≤ 100000) : Sml (n + 2) (dIs l) := by
  refine ⟨by rw [List.length_map]; exact h, fun e he => ?_⟩
  obtain ⟨z, _, rfl⟩ := List.mem_map.mp he
  exact True.intro
theorem sml_two {n : Nat} {a b : PyData} (ha : Sml n a) (hb : Sml n b) : Sml (n + 1) (.list [a, b]) := ⟨by show 2 ≤ 100000; decide, fun e he => by
  simp only [List.mem_cons, List.not_mem_nil, or_false] at he
  rcases he with rfl | rfl
  · exact ha
  · exact hb⟩
/-- [x, y], laid as [v, w] -/
theorem dp_two {K : PySem.W.Frag} {H : Hp} {a : Addr} {v w : V} {d e : PyData} (h : H a = some (.lst [v, w])) (p : Dp K H v d) (q : Dp K H w e) : Dp K H (.ref a) (.list [d, e]) := .lst (SqL.of h) (.cons p (.cons q .nil))
end Dr
/-! Drills as texts. -/
namespace Dr
open PySem L2
theorem sIx_neg (n d k : Nat) (hk : 0 < k) : HT.sIx n d (some (-(k : Int))) = n - k := by
  unfold HT.sIx
  show (if -(k : Int) < 0 then (-(k : Int) + (n : Int)).toNat else min (-(k : Int)).toNat n) = _
  rw [if_pos (by omega)]
  omega
theorem cutS_head (z : Str) (k : Nat) (hk : 0 < k) : tl (cutS z none (some (-(k : Int)))) = (tl z).take ((tl z).length - k) := by
  unfold cutS
  rw [HT.sIx_none]
  have e : z.length = (tl z).length := len_tl z
  have h : HT.sIx z.length z.length (some (-(k : Int))) = z.length - k := sIx_neg _ _ k hk
  rw [h]
  show ((tl z).drop 0).take (z.length - k - 0) = _
  rw [List.drop_zero, Nat.sub_zero, e]
theorem cutS_tail (z : Str) (k : Nat) (hk : 0 < k) : tl (cutS z (some (-(k : Int))) none) = (tl z).drop ((tl z).length - k) := by
  unfold cutS
  rw [HT.sIx_none]
  have e : z.length = (tl z).length := len_tl z
  have h : HT.sIx z.length 0 (some (-(k : Int))) = z.length - k := sIx_neg _ _ k hk
  rw [h]
  show ((tl z).drop (z.length - k)).take (z.length - (z.length - k)) = _
  rw [e]
  exact List.take_of_length_le (by rw [List.length_drop]; omega)
theorem cutS_mid (z : Str) : tl (cutS z (some (-2)) (some (-1))) = ((tl z).drop ((tl z).length - 2)).take ((tl z).length - 1 - ((tl z).length - 2)) := by
  unfold cutS
  have e : z.length = (tl z).length := len_tl z
  have h1 : HT.sIx z.length 0 (some (-2)) = z.length - 2 := sIx_neg _ _ 2 (by decide)
  have h2 : HT.sIx z.length z.length (some (-1)) = z.length - 1 := sIx_neg _ _ 1 (by decide)
  rw [h1, h2]
  show ((tl z).drop (z.length - 2)).take (z.length - 1 - (z.length - 2)) = _
  rw [e]
/-- the kind of a word, before the last two signs -/
def kdOf (z : Str) : Kd := if numT z = true then .m (valN z) else .s z
def clOf (w : Str) : Cl := ⟨kdOf (cutS w none (some (-2))), cutS w (some (-2)) (some (-1)), cutS w (some (-1)) none⟩
/-- kinds, calls, drills as texts -/
def showK : Kd → Str
  | .m n => Str.ofString (toString n)
  | .s z => z
def showCl (c : Cl) : Str := showK c.k ++ c.a ++ c.b
def showD (D : List Cl) : Str := if D = [] then "-" else Txt.join " " (D.map showCl)
def goodD (z : Str) : Bool := decide (z = "-") || (Txt.split z " ").all fun w => (clOf w).ok
def drillOf (z : Str) : List Cl := if z = "-" then [] else (Txt.split z " ").map clOf
/-- a call that may be written: a valid one, its number of at most 30 digits -/
structure Wr (c : Cl) : Prop where
  ok : c.ok = true
  le : Cl.le (10 ^ 30 - 1) c
theorem Wr.kind {c : Cl} (h : Wr c) : c.k = .s "all" ∨ c.k = .s "swap" ∨ ∃ n : Nat, c.k = .m (n : Int) ∧ 1 ≤ n ∧ n < 10 ^ 30 := by
  have hk := Cl.ok_k h.ok
  cases e : c.k with
  | s z =>
    rw [e] at hk
    rcases Kd.ok_s hk with q | q
    · exact .inl (by rw [q])
    · exact .inr (.inl (by rw [q]))
  | m n =>
    rw [e] at hk
    have h1 : 1 ≤ n := of_decide_eq_true hk
    have h2 := h.le n e
    refine .inr (.inr ⟨n.toNat, by congr 1; omega, by omega, ?_⟩)
    have e1 : (10 : Int) ^ 30 = 1000000000000000000000000000000 := by decide
    have e2 : (10 : Nat) ^ 30 = 1000000000000000000000000000000 := by decide
    rw [e1] at h2
    rw [e2]
    omega
theorem showK_m (n : Nat) : showK (.m (n : Int)) = num n := rfl
theorem kdOf_show {c : Cl} (h : Wr c) : kdOf (showK c.k) = c.k := by
  rcases h.kind with e | e | ⟨n, e, h1, h2⟩
  · rw [e]; show kdOf "all" = _; unfold kdOf; rw [show numT "all" = false by decide +kernel]; rfl
  · rw [e]; show kdOf "swap" = _; unfold kdOf; rw [show numT "swap" = false by decide +kernel]; rfl
  · rw [e, showK_m]
    unfold kdOf
    rw [if_pos (numT_num h2), valN_num h2]
theorem showK_tl {c : Cl} (h : Wr c) : (tl (showK c.k)).length ≤ 30 ∧ tl (showK c.k) ≠ [] ∧ 32 ∉ tl (showK c.k) := by
  rcases h.kind with e | e | ⟨n, e, h1, h2⟩
  · rw [e]; show (tl "all").length ≤ 30 ∧ tl "all" ≠ [] ∧ 32 ∉ tl "all"; decide +kernel
  · rw [e]; show (tl "swap").length ≤ 30 ∧ tl "swap" ≠ [] ∧ 32 ∉ tl "swap"; decide +kernel
  · rw [e, showK_m, tl_num]
    exact ⟨TL.numL_len (by decide) h2, TL.numL_ne n, TL.numL_free (.inl (by decide))⟩
theorem isC_tl {z : Str} (h : isC z = true) : ∃ c, c ∈ colN ∧ tl z = [c] := by
  obtain ⟨c, hc, rfl⟩ := isC_iff.mp h
  exact ⟨c, hc, rfl⟩
theorem tl_showCl {c : Cl} (h : c.ok = true) : ∃ x y, x ∈ colN ∧ y ∈ colN ∧ c.a = sg x ∧ c.b = sg y ∧ tl (showCl c) = tl (showK c.k) ++ [x, y] := by
  obtain ⟨x, hx, ex⟩ := isC_tl (Cl.ok_a h)
  obtain ⟨y, hy, ey⟩ := isC_tl (Cl.ok_b h)
  refine ⟨x, y, hx, hy, TL.ext_tl ex, TL.ext_tl ey, ?_⟩
  unfold showCl
  show (showK c.k ++ c.a ++ c.b).cps.toList = _
  rw [str_app, str_app, show c.a.cps.toList = [x] from ex, show c.b.cps.toList = [y] from ey, List.append_assoc]
  rfl
theorem clOf_show {c : Cl} (h : Wr c) : clOf (showCl c) = c := by
  obtain ⟨x, y, _, _, ea, eb, e⟩ := tl_showCl h.ok
  have l : (tl (showCl c)).length = (tl (showK c.k)).length + 2 := by rw [e, List.length_append]; rfl
  have e1 : cutS (showCl c) none (some (-2)) = showK c.k := TL.ext_tl (by
    have := cutS_head (showCl c) 2 (by decide)
    show tl _ = tl _
    rw [show (-(2 : Nat) : Int) = -2 from rfl] at this
    rw [this, l, e, Nat.add_sub_cancel, List.take_left])
  have e2 : cutS (showCl c) (some (-2)) (some (-1)) = c.a := TL.ext_tl (by
    show tl _ = tl _
    rw [cutS_mid, l, e, Nat.add_sub_cancel, List.drop_left, ea]
    have : (tl (showK c.k)).length + 2 - 1 - (tl (showK c.k)).length = 1 := by omega
    rw [this]
    rfl)
  have e3 : cutS (showCl c) (some (-1)) none = c.b := TL.ext_tl (by
    have := cutS_tail (showCl c) 1 (by decide)
    show tl _ = tl _
    rw [show (-(1 : Nat) : Int) = -1 from rfl] at this
    have l2 : (tl (showK c.k)).length + 2 - 1 = (tl (showK c.k)).length + 1 := by omega
    rw [this, l, e, eb, l2, List.drop_append, List.drop_eq_nil_of_le (by omega)]
    have : (tl (showK c.k)).length + 1 - (tl (showK c.k)).length = 1 := by omega
    rw [this]
    rfl)
  unfold clOf
  rw [e1, e2, e3, kdOf_show h]
theorem showCl_free {c : Cl} (h : Wr c) : 32 ∉ tl (showCl c) := by
  obtain ⟨x, y, hx, hy, _, _, e⟩ := tl_showCl h.ok
  have hc : ∀ z ∈ colN, z ≠ 32 := by decide
  rw [e]
  simp only [List.mem_append, List.mem_cons, List.not_mem_nil, or_false, not_or]
  exact ⟨(showK_tl h).2.2, fun q => hc x hx q.symm, fun q => hc y hy q.symm⟩
theorem showCl_len {c : Cl} (h : Wr c) : 3 ≤ (showCl c).length ∧ (showCl c).length ≤ 32 := by
  obtain ⟨x, y, hx, hy, _, _, e⟩ := tl_showCl h.ok
  have h1 := (showK_tl h).1
  have h2 := List.length_pos_iff.mpr (showK_tl h).2.1
  rw [len_tl, e, List.length_append]
  show 3 ≤ _ + 2 ∧ _ + 2 ≤ 32
  omega
theorem split_showD {D : List Cl} (h0 : D ≠ []) (h : ∀ c ∈ D, Wr c) : Txt.split (showD D) " " = D.map showCl := by
  unfold showD
  rw [if_neg h0]
  exact TL.split_join (s := 32) (S := []) (by decide +kernel) (by decide +kernel) (by simpa using h0) fun p hp => by
    obtain ⟨c, hc, rfl⟩ := List.mem_map.mp hp
    exact showCl_free (h c hc)
theorem join_ge {y : Str} : ∀ {ps : List Str} {z : Str}, z ∈ ps → z.length ≤ (Txt.join y ps).length := by
  have key : ∀ (S : List Nat) (ps : List (List Nat)) (z : List Nat), z ∈ ps → z.length ≤ (TL.joinL S ps).length := by
    intro S ps
    induction ps with
    | nil => intro z h; cases h
    | cons p ps ih =>
      intro z h
      cases ps with
      | nil =>
        rw [List.mem_singleton.mp h]
        exact Nat.le_refl _
      | cons q r =>
        show z.length ≤ (p ++ (S ++ TL.joinL S (q :: r))).length
        rw [List.length_append, List.length_append]
        rcases List.mem_cons.mp h with e | e
        · rw [e]; omega
        · have := ih z e
          omega
  intro ps z h
  rw [TL.join_eq, len_tl, len_tl]
  have := key (tl y) (ps.map tl) (tl z) (List.mem_map_of_mem h)
  rw [← TL.tl_join] at this
  exact this
theorem showD_ne {D : List Cl} (h0 : D ≠ []) (h : ∀ c ∈ D, Wr c) : showD D ≠ "-" := fun e => by
  unfold showD at e
  rw [if_neg h0] at e
  obtain ⟨c, r, rfl⟩ := List.exists_cons_of_ne_nil h0
  have h1 := join_ge (y := " ") (ps := (c :: r).map showCl) (z := showCl c) (by simp)
  have h2 := (showCl_len (h c List.mem_cons_self)).1
  rw [e, show ("-" : Str).length = 1 by decide +kernel] at h1
  omega
theorem drillOf_show {D : List Cl} (h : ∀ c ∈ D, Wr c) : drillOf (showD D) = D := by
  by_cases h0 : D = []
  · subst h0; decide +kernel
  · unfold drillOf
    rw [if_neg (showD_ne h0 h), split_showD h0 h, List.map_map]
    have : D.map (clOf ∘ showCl) = D.map id := List.map_congr_left fun c hc => clOf_show (h c hc)
    rw [this, List.map_id]
theorem goodD_show {D : List Cl} (h : ∀ c ∈ D, Wr c) : goodD (showD D) = true := by
  by_cases h0 : D = []
  · subst h0; decide +kernel
  · unfold goodD
    rw [split_showD h0 h, (Bool.or_eq_true _ _)]
    right
    rw [List.all_map, List.all_eq_true]
    intro c hc
    show (clOf (showCl c)).ok = true
    rw [clOf_show (h c hc)]
    exact (h c hc).ok
theorem showD_len {D : List Cl} (h : ∀ c ∈ D, Wr c) : (showD D).length ≤ 33 * D.length + 1 := by
  by_cases h0 : D = []
  · subst h0; decide +kernel
  · unfold showD
    rw [if_neg h0]
    have h1 := join_len " " (D.map showCl)
    have h2 : ∀ D : List Cl, (∀ c ∈ D, Wr c) → ((D.map showCl).map (·.length)).sum ≤ 32 * D.length := by
      intro D
      induction D with
      | nil => intro _; exact Nat.le_refl _
      | cons c D ih =>
        intro h
        have := (showCl_len (h c List.mem_cons_self)).2
        have := ih fun x hx => h x (List.mem_cons_of_mem _ hx)
        rw [List.map_cons, List.map_cons, List.sum_cons, List.length_cons]
        omega
    have h3 := h2 D h
    rw [List.length_map, show (" " : Str).length = 1 by decide +kernel] at h1
    omega
/-- a kind that may be written out -/
def KdS : Kd → Prop
  | .m n => n.natAbs.log2 < 1920
  | .s z => z.length ≤ 1000
theorem Wr.kds {c : Cl} (h : Wr c) : KdS c.k := by
  rcases h.kind with e | e | ⟨n, e, h1, h2⟩
  · rw [e]; show ("all" : Str).length ≤ 1000; decide +kernel
  · rw [e]; show ("swap" : Str).length ≤ 1000; decide +kernel
  · rw [e]; exact num_log h2
theorem Wr.lenK {c : Cl} (h : Wr c) : (showK c.k).length ≤ 30 := by rw [len_tl]; exact (showK_tl h).1
theorem isC_len {z : Str} (h : isC z = true) : z.length = 1 := by
  obtain ⟨c, _, e⟩ := isC_tl h
  rw [len_tl, e]; rfl
def sp_show_call (K : PySem.W.Frag) : Sp := fun vs H Q _ => ∃ (t : Addr) (c : Cl), vs = [.ref t] ∧ SqT K H t c.vs ∧ Wr c ∧ Q (.str (showCl c)) H
def sp_show_drill (K : PySem.W.Frag) : Sp := fun vs H Q _ => ∃ (d : Addr) (D : List Cl), vs = [.ref d] ∧ Drill K H d D ∧ (∀ c ∈ D, Wr c) ∧ D.length ≤ 2000 ∧ ∀ H', Same H H' → Q (.str (showD D)) H'
def sp_split_call (_ : PySem.W.Frag) : Sp := fun vs H Q _ => ∃ w : Str, vs = [.str w] ∧ w.length ≤ 100000 ∧ ∀ t, H t = none → Q (.ref t) (upd H t (.tup (clOf w).vs))
def sx_read_drill (_ : PySem.W.Frag) (C : Addr) : Sp := fun vs H Q E => ∃ z : Str, vs = [.str z] ∧ z.length ≤ 100000 ∧ (goodD z = false → Out H E C (.str z)) ∧
  (goodD z = true → ∀ (H' : Hp) (p : Addr) (ts : List Addr), Same H H' → H p = none → H' p = some (.lst (ts.map V.ref)) → ts.length = (drillOf z).length → (∀ (i : Nat) (t : Addr) (c : Cl), ts[i]? = some t → (drillOf z)[i]? = some c → H' t = some (.tup c.vs) ∧ t ≠ p ∧ H t = none) → Q (.ref p) H')
theorem split_count (z : Str) : (Txt.split z " ").length ≤ z.length + 1 := by
  have key : ∀ (l acc : List Nat), (TL.spl [32] 0 acc l).length ≤ l.length + 1 := by
    intro l
    induction l with
    | nil => intro acc; rw [TL.spl_nil]; exact Nat.le_refl _
    | cons c l ih =>
      intro acc
      cases h : TL.pre [32] (c :: l) with
      | true =>
        rw [TL.spl_hit h, List.length_cons]
        have := ih []
        show (TL.spl [32] 0 [] l).length + 1 ≤ _
        rw [List.length_cons]; omega
      | false =>
        rw [TL.spl_miss h]
        have := ih (acc ++ [c])
        rw [List.length_cons]; omega
  have e : (Txt.split z " ").map tl = TL.spl [32] 0 [] (tl z) := TL.split_spl z " " (by decide +kernel) (TL.kind_ok (by decide +kernel))
  have := key (tl z) []
  rw [← e, List.length_map, ← len_tl] at this
  exact this
theorem split_leS {z w : Str} (h : w ∈ Txt.split z " ") : w.length ≤ z.length := by
  have e : (Txt.split z " ").map tl = TL.spl [32] 0 [] (tl z) := TL.split_spl z " " (by decide +kernel) (TL.kind_ok (by decide +kernel))
  have h1 : tl w ∈ (Txt.split z " ").map tl := List.mem_map_of_mem h
  rw [e] at h1
  have := spl_le _ _ _ h1
  rw [len_tl, len_tl]
  simpa using this
theorem kdOf_m {z : Str} (h : numT z = true) : ∃ n : Nat, z = num n ∧ n < 10 ^ 30 ∧ kdOf z = .m (n : Int) := by
  obtain ⟨n, e, hn⟩ := numT_of h
  refine ⟨n, e, hn, ?_⟩
  unfold kdOf
  rw [if_pos h, e, valN_num hn]
theorem kdOf_s {z : Str} (h : numT z = false) : kdOf z = .s z := by
  unfold kdOf
  rw [if_neg (by rw [h]; decide)]
end Dr
namespace Dr
open PySem L2
/-- a list at p of calls that are laid apart from rs -/
def DrL (rs : List Addr) (H : Hp) (p : Addr) (D : List Cl) : Prop := ∃ ts : List Addr, H p = some (.lst (ts.map V.ref)) ∧ ts.length = D.length ∧ ∀ (i : Nat) (t : Addr) (c : Cl), ts[i]? = some t → D[i]? = some c → t ∉ rs ∧ t ≠ p ∧ H t = some (.tup c.vs)
theorem DrL.drill {K : PySem.W.Frag} {rs : List Addr} {H : Hp} {p : Addr} {D : List Cl} (h : DrL rs H p D) : Drill K H p D := by
  obtain ⟨ts, h1, h2, h3⟩ := h
  exact ⟨ts, SqL.of h1, h2, fun i t c a b => SqT.of (h3 i t c a b).2.2⟩
theorem DrL.ext {rs : List Addr} {H H' : Hp} {p : Addr} {D : List Cl} (h : DrL rs H p D) (S : Same (hidL rs H) (hidL rs H')) (hp : p ∉ rs) : DrL rs H' p D := by
  obtain ⟨ts, h1, h2, h3⟩ := h
  exact ⟨ts, extL_get S hp h1, h2, fun i t c a b => let ⟨x, y, z⟩ := h3 i t c a b; ⟨x, y, extL_get S x z⟩⟩
theorem DrL.same {rs : List Addr} {H H' : Hp} {p : Addr} {D : List Cl} (h : DrL rs H p D) (S : Same H H') : DrL rs H' p D := by
  obtain ⟨ts, h1, h2, h3⟩ := h
  exact ⟨ts, S _ _ h1, h2, fun i t c a b => let ⟨x, y, z⟩ := h3 i t c a b; ⟨x, y, S _ _ z⟩⟩
theorem DrL.nil {rs : List Addr} {H : Hp} {p : Addr} (h : H p = some (.lst [])) : DrL rs H p [] := ⟨[], h, rfl, fun i t c a _ => by simp at a⟩
/-- one call more: t is laid, and put behind -/
theorem DrL.snoc {rs : List Addr} {H : Hp} {p : Addr} {D : List Cl} (h : DrL rs H p D) {t : Addr} {c : Cl} (ht : H t = some (.tup c.vs)) (hr : t ∉ rs) : ∃ xs : List V, H p = some (.lst xs) ∧ xs.length = D.length ∧ DrL rs (upd H p (.lst (xs ++ [.ref t]))) p (D ++ [c]) := by
  obtain ⟨ts, h1, h2, h3⟩ := h
  have ntp : t ≠ p := fun e => by rw [e, h1] at ht; cases ht
  refine ⟨ts.map V.ref, h1, by rw [List.length_map, h2], ts ++ [t], by rw [upd_same, List.map_append]; rfl, by rw [List.length_append, List.length_append, h2]; rfl, fun i t' c' a b => ?_⟩
  by_cases hi : i < ts.length
  · rw [List.getElem?_append_left hi] at a
    rw [List.getElem?_append_left (by omega)] at b
    obtain ⟨x, y, z⟩ := h3 i t' c' a b
    exact ⟨x, y, by rw [upd_ne y]; exact z⟩
  · have hb := lt_of_get a
    rw [List.length_append, List.length_singleton] at hb
    have hi' : i = ts.length := by omega
    subst hi'
    rw [List.getElem?_append_right (Nat.le_refl _), Nat.sub_self] at a
    rw [List.getElem?_append_right (by omega), h2, Nat.sub_self] at b
    cases a
    cases b
    exact ⟨hr, ntp, by rw [upd_ne ntp]; exact ht⟩
theorem DrL.len {rs : List Addr} {H : Hp} {p : Addr} {D : List Cl} (h : DrL rs H p D) : ∃ xs : List V, H p = some (.lst xs) ∧ xs.length = D.length := by
  obtain ⟨ts, h1, h2, _⟩ := h
  exact ⟨_, h1, by rw [List.length_map, h2]⟩
def sp_long_orders (_ : PySem.W.Frag) : Sp := fun vs H Q _ => ∃ (r q : Addr) (most : Int) (c : Nat), vs = [.ref r, .int most] ∧ Src H r q c ∧ c < 800000000 ∧ 0 ≤ most ∧ most ≤ 1000 ∧
  ∀ (H' : Hp) (p : Addr) (D : List Cl), Same (hidL [r, q] H) (hidL [r, q] H') → Src H' r q (c + 12000) → H p = none → p ∉ [r, q] → DrL [r, q] H' p D → (∀ cl ∈ D, Wr cl) → (D.length : Int) ≤ most → Q (.ref p) H'
def sp_written (K : PySem.W.Frag) : Sp := fun vs H Q _ => ∃ (d : Addr) (D : List Cl), vs = [.ref d] ∧ Drill K H d D ∧ (∀ c ∈ D, Wr c) ∧ D.length ≤ 2000 ∧ ∀ H', Same H H' → Q (.str (showD D)) H'
theorem sum_showCl : ∀ {D : List Cl}, (∀ c ∈ D, Wr c) → ((D.map showCl).map (·.length)).sum ≤ 32 * D.length := by
  intro D
  induction D with
  | nil => intro _; exact Nat.le_refl _
  | cons c D ih =>
    intro h
    have := (showCl_len (h c List.mem_cons_self)).2
    have := ih fun x hx => h x (List.mem_cons_of_mem _ hx)
    rw [List.map_cons, List.map_cons, List.sum_cons, List.length_cons]
    omega
theorem lay_okS : ∀ zs : List Str, (∀ z ∈ zs, PyData.strOk z = true) → PyData.canLayAll0 (zs.map .str) = true
  | [], _ => rfl
  | z :: zs, h => by
    show (PyData.canLay0 (.str z) && PyData.canLayAll0 (zs.map .str)) = true
    rw [lay_okS zs fun x hx => h x (List.mem_cons_of_mem _ hx)]
    simp only [PyData.canLay0, Bool.and_true]
    exact h z List.mem_cons_self
theorem shaped_okS {zs : List Str} (h : ∀ z ∈ zs, PyData.strOk z = true) : SeqAt.shaped (dSs zs) = true := by
  unfold SeqAt.shaped dSs
  rw [Bool.and_eq_true]
  refine ⟨by simp only [PyData.canLay0]; exact lay_okS zs h, decide_eq_true ?_⟩
  simp only [PyData.depth]
  rw [dep_strs]
  decide
theorem strOk_tl {z : Str} (h : ∀ c ∈ tl z, c < 128) : PyData.strOk z = true := by
  show z.cps.all (fun c => decide (c < 1114112)) = true
  rw [← Array.all_toList, List.all_eq_true]
  intro c hc
  have := h c hc
  exact decide_eq_true (by omega)
theorem showCl_ascii {c : Cl} (h : Wr c) : ∀ x ∈ tl (showCl c), x < 128 := by
  obtain ⟨x, y, hx, hy, _, _, e⟩ := tl_showCl h.ok
  have hc : ∀ z ∈ colN, z < 128 := by decide
  rw [e]
  intro z hz
  simp only [List.mem_append, List.mem_cons, List.not_mem_nil, or_false] at hz
  rcases hz with hz | hz | hz
  · rcases h.kind with e | e | ⟨n, e, h1, h2⟩
    · rw [e] at hz
      have : ∀ z ∈ tl "all", z < 128 := by decide +kernel
      exact this z hz
    · rw [e] at hz
      have : ∀ z ∈ tl "swap", z < 128 := by decide +kernel
      exact this z hz
    · rw [e, showK_m, tl_num] at hz
      have := num_digits z hz
      omega
  · rw [hz]; exact hc x hx
  · rw [hz]; exact hc y hy
theorem eqv_ne_nil {zs : List Str} (h : zs ≠ []) : PyData.eqv (dSs zs) (.list []) = false := by
  obtain ⟨z, r, rfl⟩ := List.exists_cons_of_ne_nil h
  exact eqv_no _ _
theorem kd_show (k : Kd) (h : KdS k) : (∃ i, k.v = V.int i ∧ i.natAbs.log2 < 1920 ∧ showK k = Str.ofString (toString i)) ∨ ∃ z, k.v = V.str z ∧ showK k = z := by
  cases k with
  | m n => exact .inl ⟨n, rfl, h, rfl⟩
  | s z => exact .inr ⟨z, rfl, rfl⟩
end Dr
namespace Dr
open PySem L2
/-- the data of a drill, for _law_same -/
theorem sml_D {n : Nat} {D : List Cl} (h : D.length ≤ 100000) : Sml (n + 3) (.list (D.map dCl)) := by
  refine ⟨by rw [List.length_map]; exact h, fun e he => ?_⟩
  obtain ⟨c, _, rfl⟩ := List.mem_map.mp he
  refine ⟨by show 3 ≤ 100000; decide, fun x hx => ?_⟩
  simp only [List.mem_cons, List.not_mem_nil, or_false] at hx
  rcases hx with rfl | rfl | rfl
  · cases c.k <;> exact True.intro
  · exact True.intro
  · exact True.intro
end Dr
namespace Dr
open PySem L2
/-- a text joined of words without blanks, one of them no call -/
theorem goodD_bad {ws : List Str} {w : Str} (h0 : ∀ x ∈ ws, 32 ∉ tl x) (hw : w ∈ ws) (hb : (clOf w).ok = false) (hn : w ≠ "-") : goodD (Txt.join " " ws) = false := by
  have hne : ws ≠ [] := fun e => by rw [e] at hw; cases hw
  have hs : Txt.split (Txt.join " " ws) " " = ws := TL.split_join (s := 32) (S := []) (by decide +kernel) (by decide +kernel) hne h0
  have h1 : Txt.join " " ws ≠ "-" := fun e => by
    rw [e, show Txt.split "-" " " = (["-"] : List Str) by decide +kernel] at hs
    rw [← hs] at hw
    exact hn (List.mem_singleton.mp hw)
  unfold goodD
  rw [hs, decide_eq_false h1, Bool.false_or]
  cases q : ws.all fun w => (clOf w).ok with
  | false => rfl
  | true =>
    have := List.all_eq_true.mp q w hw
    rw [hb] at this
    cases this
theorem bad_clOf : ∀ w ∈ (["1aa", "0ab", "02ab", "1ag", "1000000000000000000000000000000ab"] : List Str), (clOf w).ok = false ∧ w ≠ "-" ∧ 32 ∉ tl w ∧ w.length ≤ 40 := by
  intro w hw
  simp only [List.mem_cons, List.not_mem_nil, or_false] at hw
  rcases hw with rfl | rfl | rfl | rfl | rfl <;> decide +kernel
/-- a text so many times -/
theorem op_mul_str {X : Cx} : OpR X (binaryOp .Mult) (fun x y H Q => ∃ (a : Str) (k : Int), x = .str a ∧ y = .int k ∧ a.length ≤ 100 ∧ 0 ≤ k ∧ k ≤ 100000 ∧ Q (.str (Txt.mul a k)) H) := by
  intro pins s σ H x y v u Q I rx ry h
  obtain ⟨a, k, rfl, rfl, ha, k0, k1, q⟩ := h
  obtain ⟨t, rfl⟩ := rx
  obtain ⟨t', rfl⟩ := ry
  exact SB.mul (PyProof.Rows.mulOk_of 100 100000 ha (by omega) (by omega) (by decide) (by decide)) fun t2 k2 => ⟨.str _, H, I.tok _, ⟨_, rfl⟩, q⟩
/-- all the same call -/
theorem DrL.rep {rs : List Addr} {H : Hp} {p : Addr} {c : Cl} {t : Addr} (ht : H t = some (.tup c.vs)) (hr : t ∉ rs) (np : t ≠ p) {n : Nat} (hp : H p = some (.lst (List.replicate n (V.ref t)))) : DrL rs H p (List.replicate n c) := by
  refine ⟨List.replicate n t, by rw [hp, List.map_replicate], by simp, fun i t' c' a b => ?_⟩
  have h1 := List.eq_of_mem_replicate (List.mem_of_getElem? a)
  have h2 := List.eq_of_mem_replicate (List.mem_of_getElem? b)
  subst h1 h2
  exact ⟨hr, np, ht⟩
end Dr

namespace Dr
theorem flat_rep {α : Type} (n : Nat) (x : α) : (List.replicate n [x]).flatten = List.replicate n x := by
  induction n with
  | zero => rfl
  | succ n ih => rw [List.replicate_succ, List.flatten_cons, ih]; rfl
end Dr

namespace Dr
open PySem L2
theorem lens_le {k : Nat} : ∀ {ws : List Str}, (∀ x ∈ ws, x.length ≤ k) → (ws.map (·.length)).sum ≤ k * ws.length := by
  intro ws
  induction ws with
  | nil => intro _; exact Nat.le_refl _
  | cons c D ih =>
    intro h
    have := h c List.mem_cons_self
    have := ih fun x hx => h x (List.mem_cons_of_mem _ hx)
    rw [List.map_cons, List.sum_cons, List.length_cons, Nat.mul_succ]
    omega
end Dr
/-! The draws that a dict holds. -/
namespace Dr
open PySem L2
theorem hu1 {n : Nat} (h : n + 64 < cLine) : n + 1 < cLine := by omega
section
variable {X : Cx}
/-- an item of a dict, for a place that is no less than 0 -/
def rGetD : V → V → Hp → VK → Prop := fun o i H Q => ∃ (a : Addr) (v : V), o = .ref a ∧ DGet H a i (some v) ∧ Q v H
theorem get_dict (hu : X.A.units + 1 < cLine) : PGet X rGetD := by
  intro pins s σ H o i ov iv Q I ro ri h
  obtain ⟨a, v, rfl, g, q⟩ := h
  cases (show ov = Value.ref a from ro)
  exact d_getItem hu I g ri fun w' s3 I3 rw' => ⟨v, H, I3, rw', q⟩
end
def bagK (q : Addr) (l t f : Int) : List (Key × V) := [(.inr "great", .ref q), (.inr "left", .int l), (.inr "turn", .int t), (.inr "fold", .int f)]
/-- the draws: a dict at b, its list of great numbers at q; so many numbers were mixed at most -/
def Bag (H : Hp) (b q : Addr) (c : Nat) : Prop := q ≠ b ∧ ∃ (ds : List Int) (l t f : Int), H b = some (.dK (bagK q l t f)) ∧ H q = some (.lst (ds.map V.int)) ∧ ds.length ≤ 1000 ∧ (∀ d ∈ ds, 0 ≤ d) ∧ 0 ≤ l ∧ 0 ≤ t ∧ t ≤ c ∧ 0 ≤ f ∧ f < 2305843009213693951
section
variable {H H' : Hp} {b q p : Addr} {c d : Nat} {o : HO}
theorem Bag.mono (h : Bag H b q c) (l : c ≤ d) : Bag H b q d := by
  obtain ⟨z, ds, l', t, f, h1, h2, h3, h4, h5, h6, h7, h8, h9⟩ := h
  exact ⟨z, ds, l', t, f, h1, h2, h3, h4, h5, h6, by omega, h8, h9⟩
theorem Bag.same (S : Same H H') (h : Bag H b q c) : Bag H' b q c := by
  obtain ⟨z, ds, l', t, f, h1, h2, h3⟩ := h
  exact ⟨z, ds, l', t, f, S _ _ h1, S _ _ h2, h3⟩
theorem Bag.new (h : Bag H b q c) (hp : H p = none) : Bag (upd H p o) b q c := h.same (Same.new hp)
theorem Bag.nin (h : Bag H b q c) (hp : H p = none) : p ∉ [b, q] := fun z => by
  obtain ⟨_, ds, l', t, f, h1, h2, h3⟩ := h
  simp only [List.mem_cons, List.not_mem_nil, or_false] at z
  rcases z with rfl | rfl
  · rw [h1] at hp; cases hp
  · rw [h2] at hp; cases hp
theorem Bag.upd (h : Bag H b q c) (hp : p ∉ [b, q]) : Bag (L2.upd H p o) b q c := by
  obtain ⟨z, ds, l', t, f, h1, h2, h3⟩ := h
  simp only [List.mem_cons, List.not_mem_nil, or_false, not_or] at hp
  exact ⟨z, ds, l', t, f, by rw [upd_ne (Ne.symm hp.1)]; exact h1, by rw [upd_ne (Ne.symm hp.2)]; exact h2, h3⟩
end
theorem bag_great {H : Hp} {b q : Addr} {l t f : Int} (h : H b = some (.dK (bagK q l t f))) : DGet H b (.str "great") (some (.ref q)) := DGet.k (k := .inr "great") h
theorem bag_left {H : Hp} {b q : Addr} {l t f : Int} (h : H b = some (.dK (bagK q l t f))) : DGet H b (.str "left") (some (.int l)) := DGet.k (k := .inr "left") h
theorem bag_turn {H : Hp} {b q : Addr} {l t f : Int} (h : H b = some (.dK (bagK q l t f))) : DGet H b (.str "turn") (some (.int t)) := DGet.k (k := .inr "turn") h
theorem bag_fold {H : Hp} {b q : Addr} {l t f : Int} (h : H b = some (.dK (bagK q l t f))) : DGet H b (.str "fold") (some (.int f)) := DGet.k (k := .inr "fold") h
theorem put_left {H : Hp} {b q : Addr} {l t f m : Int} (h : H b = some (.dK (bagK q l t f))) : DPut H b (.str "left") (.int m) (upd H b (.dK (bagK q m t f))) := DPut.k (k := .inr "left") h (by show 4 < sizeLine; decide)
theorem put_turn {H : Hp} {b q : Addr} {l t f m : Int} (h : H b = some (.dK (bagK q l t f))) : DPut H b (.str "turn") (.int m) (upd H b (.dK (bagK q l m f))) := DPut.k (k := .inr "turn") h (by show 4 < sizeLine; decide)
def sp_law_bag (K : PySem.W.Frag) : Sp := fun vs H Q _ => ∃ (a : Addr) (ns : List Int), vs = [.ref a] ∧ SqL K H a (ns.map V.int) ∧ ns.length ≤ 1000 ∧ ∀ H' r q, Same H H' → H r = none → H q = none → Bag H' r q 0 → Q (.ref r) H'
def sp_bag_draw (_ : PySem.W.Frag) : Sp := fun vs H Q _ => ∃ (r q : Addr) (lim : Int) (c : Nat), vs = [.ref r, .int lim] ∧ Bag H r q c ∧ c < 1000000000 ∧ 0 < lim ∧ lim ≤ 1000000000000000 ∧
  ∀ H' n, Same (hidL [r, q] H) (hidL [r, q] H') → Bag H' r q (c + 1) → 0 ≤ n → n < lim → Q (.int n) H'
end Dr

namespace Dr
open PySem L2
def sp_bag_colours (_ : PySem.W.Frag) : Sp := fun vs H Q _ => ∃ (r q : Addr) (most : Int) (c : Nat), vs = [.ref r, .int most] ∧ Bag H r q c ∧ c < 900000000 ∧ 2 ≤ most ∧ most ≤ 6 ∧
  ∀ (H' : Hp) (p : Addr) (qs : List Tx), Same (hidL [r, q] H) (hidL [r, q] H') → Bag H' r q (c + 10) → H p = none → p ∉ [r, q] → TF H' p qs → LettT qs → 2 ≤ qs.length → (qs.length : Int) ≤ most → Q (.ref p) H'
def sp_bag_row (_ : PySem.W.Frag) : Sp := fun vs H Q _ => ∃ (r q a : Addr) (n : Int) (qs : List Tx) (c : Nat), vs = [.ref r, .ref a, .int n] ∧ Bag H r q c ∧ c < 900000000 ∧ TF H a qs ∧ LettT qs ∧ 0 ≤ n ∧ n ≤ 500 ∧
  ∀ (H' : Hp) (l : List Nat), Same (hidL [r, q] H) (hidL [r, q] H') → Bag H' r q (c + 1000) → (∀ x ∈ l, x ∈ colN) → (∀ x ∈ l, sg x ∈ qs.map (·.1)) → (l.length : Int) = n → Q (.str (rowOf l)) H'
end Dr
/-! Names that hold their values as they are (tokens and all): what keeps the frame, what stores into it. -/
namespace Dr
open PySem PySem.Spec PyProof.Rows L2
/-- what a name holds, as it is -/
def At (X : Cx) (s : Shared) (x : Str) (u : Value) : Prop := ∃ m, s.heap.Ns X.env.locals m ∧ Look X.env s.heap m x u
/-- all names hold what they held -/
def Kp (X : Cx) (s s' : Shared) : Prop := ∀ x u, At X s x u → At X s' x u
section
variable {X : Cx} {pins : List (Addr × Obj)} {σ : L2.St} {H H' : Hp} {s s' s2 : Shared}
theorem Kp.refl : Kp X s s := fun _ _ h => h
theorem Kp.trans (a : Kp X s s') (b : Kp X s' s2) : Kp X s s2 := fun x u h => b x u (a x u h)
theorem Kp.heap (h : s'.heap = s.heap) : Kp X s s' := fun x u k => by
  unfold At at k ⊢
  rw [h]
  exact k
/-- the frame's object up to its slots, the cells: kept -/
theorem Kp.objs (L : ∀ o, s.heap.get? X.env.locals = some o → ∃ sl, s'.heap.get? X.env.locals = some { o with slots := sl })
    (C : ∀ x c o, X.env.cells.lookup x = some c → s.heap.get? c = some o → ∃ sl, s'.heap.get? c = some { o with slots := sl }) : Kp X s s' := by
  rintro x u ⟨m, ⟨o, es, ep, ho, r⟩, l⟩
  obtain ⟨sl, hL⟩ := L o ho
  refine ⟨m, ⟨_, es, ep, hL, r⟩, ?_⟩
  rcases l with l | ⟨k, c, hc, ob, h1, h2⟩
  · exact .inl l
  · obtain ⟨sl2, q⟩ := C x c ob hc h1
    exact .inr ⟨k, c, hc, _, q, h2⟩
theorem Kp.un {fs : List Addr} (I : Inv X pins σ H s) (U : Un fs [] H H' s.heap s'.heap) : Kp X s s' :=
  Kp.objs (fun o e => U.any e I.free List.not_mem_nil) fun x c o hc e => U.any e (I.freeC x c hc) List.not_mem_nil
theorem Kp.all (k : ∀ b o, s.heap.get? b = some o → s'.heap.get? b = some o) : Kp X s s' :=
  Kp.objs (fun o e => ⟨o.slots, k _ o e⟩) fun _ c o _ e => ⟨o.slots, k c o e⟩
/-- one object beside the frame was changed -/
theorem Kp.but {b : Addr} {ob : HO} (I : Inv X pins σ H s) (hb : H b = some ob) (k : ∀ c o, c ≠ b → s.heap.get? c = some o → s'.heap.get? c = some o) : Kp X s s' :=
  Kp.objs (fun o e => ⟨o.slots, k _ o (fun z => by have := I.free; rw [z, hb] at this; cases this) e⟩) fun x c o hc e => ⟨o.slots, k c o (fun z => by have := I.freeC x c hc; rw [z, hb] at this; cases this) e⟩
end
/-! ### the judgements -/
def PEK (X : Cx) (e : Expr) (t : TE) : Prop := ∀ (pins : List (Addr × Obj)) (s : Shared) (σ : L2.St) (H : Hp) (Q : VK), Inv X pins σ H s → t σ H Q →
  wpAny (model X.prog X.w) X.A (eval e X.env) (fun u s' => EP X pins σ Q u s' ∧ Kp X s s') X.xe s
def PAK (X : Cx) (es : List Expr) (t : TA) : Prop := ∀ (pos : Pos) (pins : List (Addr × Obj)) (s : Shared) (σ : L2.St) (H : Hp) (Q : List V → Hp → Prop), Inv X pins σ H s → t σ H Q →
  wpAny (model X.prog X.w) X.A (spliced (backTo pos (starEach es X.env))) (fun us s' => AP X pins σ Q us s' ∧ Kp X s s') X.xe s
def PTK (X : Cx) (e : Expr) (t : TT) : Prop := ∀ (pins : List (Addr × Obj)) (s : Shared) (σ : L2.St) (H : Hp) (Q : Bool → Hp → Prop), Inv X pins σ H s → t σ H Q →
  wpAny (model X.prog X.w) X.A (isTrue e X.env (eval e X.env)) (fun b s' => TP X pins σ Q b s' ∧ Kp X s s') X.xe s
def PWK (X : Cx) (e : Expr) (t : TT) : Prop := ∀ (whole : Sem Value) (pins : List (Addr × Obj)) (s : Shared) (σ : L2.St) (H : Hp) (Q : Bool → Hp → Prop), Inv X pins σ H s → t σ H Q →
  wpAny (model X.prog X.w) X.A (isTrue e X.env whole) (fun b s' => TP X pins σ Q b s' ∧ Kp X s s') X.xe s
theorem PWK.pt {X : Cx} {e : Expr} {t : TT} (h : PWK X e t) : PTK X e t := h _
/-- an expression, its value told as it is, the frame kept -/
def PVK (X : Cx) (e : Expr) (t : TEV) : Prop := ∀ (pins : List (Addr × Obj)) (s : Shared) (σ : L2.St) (H : Hp) (Q : VQ), Inv X pins σ H s → t σ H Q →
  wpAny (model X.prog X.w) X.A (eval e X.env) (fun u s' => (∃ H', Inv X pins σ H' s' ∧ Q u H') ∧ Kp X s s') X.xe s
def OpK (X : Cx) (f : Value → Value → Sem Value) (r : R2) : Prop := ∀ (pins : List (Addr × Obj)) (s : Shared) (σ : L2.St) (H : Hp) (x y : V) (v u : Value) (Q : VK), Inv X pins σ H s → RelV x v → RelV y u → r x y H Q →
  wpAny (model X.prog X.w) X.A (f v u) (fun w s' => EP X pins σ Q w s' ∧ Kp X s s') X.xe s
def CallK (X : Cx) (f : Value) (r : List V → Hp → VK → Prop) : Prop := ∀ (pins : List (Addr × Obj)) (s : Shared) (σ : L2.St) (H : Hp) (xs : List V) (us : List Value) (Q : VK), Inv X pins σ H s → Vals xs us → r xs H Q →
  wpAny (model X.prog X.w) X.A (call f us) (fun w s' => EP X pins σ Q w s' ∧ Kp X s s') X.xe s
def IxK (X : Cx) (r : R2) : Prop := ∀ (a b : Expr) (pins : List (Addr × Obj)) (s : Shared) (σ : L2.St) (H : Hp) (x y : V) (v u : Value) (Q : VK), Inv X pins σ H s → RelV x v → RelV y u → r x y H Q →
  subscripted b false v u = operate [v, u] (getItem v u) → wpAny (model X.prog X.w) X.A (subscriptTail a b v u) (fun w s' => EP X pins σ Q w s' ∧ Kp X s s') X.xe s
section
variable {X : Cx} {e a b : Expr} {es rest : List Expr} {te ta tb : TE} {t : TA} {pos : Pos} {x : Str}
/-- a rule, and that the frame stays -/
theorem kBoth {α : Type} {f : Sem α} {s : Shared} {Q : α → Shared → Prop} {E : Value → Shared → Prop} (h : wpAny (model X.prog X.w) X.A f Q E s) (k : wpAny (model X.prog X.w) X.A f (fun _ s' => Kp X s s') (fun _ _ => True) s) :
    wpAny (model X.prog X.w) X.A f (fun a s' => Q a s' ∧ Kp X s s') E s := wpAny_mono (DrDet.both h k) (fun _ _ z => z) fun _ _ z => z.1
theorem PEK.pe (h : PEK X e te) : PE X e te := ⟨fun pins s σ H Q I q => thn (h pins s σ H Q I q) fun _ _ z => z.1⟩
theorem PTK.pt {tt : TT} (h : PTK X e tt) : PT X e tt := ⟨fun pins s σ H Q I q => thn (h pins s σ H Q I q) fun _ _ z => z.1⟩
theorem look_of (I : Inv X pins σ H s) {i : Nat} {v : V} (hN : X.N[i]? = some x) (hv : Vis X.env.scope x) (e : σ[i]? = some (some v)) : ∃ u, RelV v u ∧ At X s x u :=
  let ⟨m, hn, hl⟩ := I.loc
  let ⟨u, r, l⟩ := hl i x v hN e hv
  ⟨u, r, m, hn, l⟩
/-- a name is read as it is -/
theorem read_at {E : Value → Shared → Prop} {s : Shared} {u : Value} {Q : Value → Shared → Prop} (ok : X.Ok) (h : At X s x u) (q : Q u s)
    (hd : (x == ("__debug__" : Str)) = false := by decide) (hc : (x == ("__classdict__" : Str)) = false := by decide) : wpAny (model X.prog X.w) X.A (eval (.Name x pos) X.env) Q E s := by
  rcases h with ⟨m, hn, ⟨k, e⟩ | ⟨k | k, c, ec, z⟩⟩
  · exact wpAny_Name (wpAny_loadName_local ok.kind k hn e q) hd
  · exact wpAny_Name (wpAny_loadName_cell ok.kind k ec z q) hd
  · exact wpAny_Name (wpAny_loadName_free ok.kind k ec z q hc) hd
theorem kv {i : Nat} (hN : X.N[i]? = some x) (hv : Vis X.env.scope x) (hd : (x == ("__debug__" : Str)) = false := by decide) (hc : (x == ("__classdict__" : Str)) = false := by decide) : PEK X (.Name x pos) (tVar i) := fun pins s σ H Q I h =>
  kBoth ((pe_var hN hv hd hc).run pins s σ H Q I h) (let ⟨_, e, _⟩ := h; let ⟨_, _, l⟩ := look_of I hN hv e; read_at I.ok l Kp.refl hd hc)
theorem kint {i j pos} : PEK X (.Constant (.int i) j pos) (tC (.int i)) := fun pins s σ H Q I h => kBoth (pe_int.run pins s σ H Q I h) (wpAny_Constant_int (Kp.heap rfl))
theorem kstr {z j pos} : PEK X (.Constant (.str z) j pos) (tC (.str z)) := fun pins s σ H Q I h => kBoth (pe_str.run pins s σ H Q I h) (Calls.Constant_str (Kp.heap rfl))
theorem ka_nil : PAK X [] tNil := fun _ _ _ _ H Q I h => Calls.spliced_nil ⟨⟨[], H, I, .nil, h⟩, Kp.refl⟩
theorem ka_cons (ha : PEK X e te) (hr : PAK X es t) (hs : starEach (e :: es) X.env = (false, eval e X.env) :: starEach es X.env := by rfl) : PAK X (e :: es) (tCons te t) := fun ps pins s σ H Q I h => by
  rw [hs]
  refine Calls.spliced_cons (thn (ha pins s σ H _ I h) fun u s1 hu => ?_)
  obtain ⟨⟨x, H1, I1, r1, q1⟩, k1⟩ := hu
  refine thn (hr ps pins s1 σ H1 _ I1 q1) fun us s2 hus => ?_
  obtain ⟨⟨xs, H2, I2, r2, q2⟩, k2⟩ := hus
  exact ⟨⟨x :: xs, H2, I2, .cons r1 r2, q2⟩, k1.trans k2⟩
theorem PAK.pa (h : PAK X es t) : PA X es t := ⟨fun pos pins s σ H Q I q => thn (h pos pins s σ H Q I q) fun _ _ z => z.1⟩
theorem klst (h : PAK X es t) : PEK X (.List es pos) (tLst t) := fun pins s σ H Q I hq => by
  refine wpAny_List_spliced (thn (h pos pins s σ H _ I hq) fun us s1 hu => ?_)
  obtain ⟨⟨xs, H1, I1, r, z, q⟩, k⟩ := hu
  refine ⟨by rw [← r.length]; exact z, ?_⟩
  have keep : ∀ b o, s1.heap.get? b = some o → (s1.heap.push { cls := .type "list", data := .seq us.toArray }).get? b = some o := fun b o e => Heap.get?_push_of_some _ e
  exact ⟨⟨.ref s1.heap.objs.size, _, I1.laid (t' := s1.toks) keep (Nat.le_refl _) (o := .lst xs) ⟨z, us, 0, r, Heap.get?_push_size _ rfl⟩, rfl, q _ (I1.hok.fresh (Nat.le_refl _))⟩, k.trans (Kp.all keep)⟩
theorem ktup {x1} (h : PAK X es t) : PEK X (.Tuple es x1 pos) (tTup t) := fun pins s σ H Q I hq => by
  refine wpAny_Tuple_spliced (thn (h pos pins s σ H _ I hq) fun us s1 hu => ?_)
  obtain ⟨⟨xs, H1, I1, r, z, q⟩, k⟩ := hu
  refine ⟨by rw [← r.length]; exact z, ?_⟩
  have keep : ∀ b o, s1.heap.get? b = some o → (s1.heap.push { cls := .type "tuple", data := .seq us.toArray }).get? b = some o := fun b o e => Heap.get?_push_of_some _ e
  exact ⟨⟨.ref s1.heap.objs.size, _, I1.laid (t' := s1.toks) keep (Nat.le_refl _) (o := .tup xs) ⟨z, us, r, ⟨_, Heap.get?_push_size _ rfl, rfl, _, rfl⟩⟩, rfl, q _ (I1.hok.fresh (Nat.le_refl _))⟩, k.trans (Kp.all keep)⟩
/-- two expressions in a row -/
theorem kbin (ha : PEK X a ta) (hb : PEK X b tb) {pins : List (Addr × Obj)} {s : Shared} {σ : L2.St} {H : Hp} {R : V → V → Hp → Prop} (I : Inv X pins σ H s) (h : ta σ H fun x H1 => tb σ H1 fun y H2 => R x y H2) {α : Type} {Q : α → Shared → Prop} {f : Value → Value → Sem α}
    (hf : ∀ v u s2 x y H2, Inv X pins σ H2 s2 → Kp X s s2 → RelV x v → RelV y u → R x y H2 → wpAny (model X.prog X.w) X.A (f v u) Q X.xe s2) :
    wpAny (model X.prog X.w) X.A (eval a X.env) (fun v s₁ => wpAny (model X.prog X.w) X.A (eval b X.env) (fun u s₂ => wpAny (model X.prog X.w) X.A (f v u) Q X.xe s₂) X.xe s₁) X.xe s :=
  thn (ha pins s σ H _ I h) fun v s1 ⟨⟨x, H1, I1, r1, q1⟩, k1⟩ => thn (hb pins s1 σ H1 _ I1 q1) fun u s2 ⟨⟨y, H2, I2, r2, q2⟩, k2⟩ => hf v u s2 x y H2 I2 (k1.trans k2) r1 r2 q2
theorem kop {op : Operator} {r : R2} (ho : OpK X (binaryOp op) r) (ha : PEK X a ta) (hb : PEK X b tb) : PEK X (.BinOp a op b pos) (tOp r ta tb) := fun pins s σ H Q I h =>
  wpAny_BinOp (kbin ha hb I h fun v u s2 x y H2 I2 k rx ry q => thn (ho pins s2 σ H2 x y v u Q I2 rx ry q) fun _ _ z => ⟨z.1, k.trans z.2⟩)
theorem kix {r : R2} (hr : IxK X r) (ha : PEK X a ta) (hb : PEK X b tb) (hs : PlainIx b) : PEK X (.Subscript a b pos) (tOp r ta tb) := fun pins s σ H Q I h =>
  Subscript_ (kbin ha hb I h fun v u s2 x y H2 I2 k rx ry q => thn (hr a b pins s2 σ H2 x y v u Q I2 rx ry q (hs _ _)) fun _ _ z => ⟨z.1, k.trans z.2⟩)
theorem ktcmp {op : CmpOp} {r : R2} (ho : OpK X (compareOp op) r) (ha : PEK X a ta) (hb : PEK X b tb) (hm : behindInMarks op b = false) : PTK X (.Compare a [op] [b] pos) (tTest (tOp r ta tb)) := fun pins s σ H Q I h =>
  wpAny_isTrue_Compare1 (kbin ha hb I h fun v u s2 x y H2 I2 k rx ry q => thn (ho pins s2 σ H2 x y v u _ I2 rx ry q) fun c s3 hc => by
    obtain ⟨⟨z, H3, I3, r3, kb, e, q3⟩, k3⟩ := hc
    subst e
    cases r3
    exact wpAny_truthy_bool ⟨⟨H3, I3, q3⟩, k.trans k3⟩) hm
theorem kw_and1 {tA : TT} (ha : PTK X a tA) : PWK X (.BoolOp .And [a] pos) tA := fun wh pins s σ H Q I h =>
  isTrue_and (thn (ha pins s σ H Q I h) fun c s1 z => match c, z with
    | true, z => isTrue_and_nil z
    | false, z => z)
theorem kw_and {tA tB' : TT} (ha : PTK X a tA) (hb : PWK X (.BoolOp .And (b :: rest) pos) tB') : PWK X (.BoolOp .And (a :: b :: rest) pos) (tAnd tA tB') := fun wh pins s σ H Q I h =>
  isTrue_and (thn (ha pins s σ H _ I h) fun c s1 hc => match c, hc with
    | true, ⟨⟨H1, I1, q1⟩, k1⟩ => thn (hb wh pins s1 σ H1 Q I1 q1) fun _ _ z => ⟨z.1, k1.trans z.2⟩
    | false, ⟨⟨H1, I1, q1⟩, k1⟩ => ⟨⟨H1, I1, q1⟩, k1⟩)
theorem kw_or1 {tA : TT} (ha : PTK X a tA) : PWK X (.BoolOp .Or [a] pos) tA := fun wh pins s σ H Q I h =>
  isTrue_or (thn (ha pins s σ H Q I h) fun c s1 z => match c, z with
    | false, z => isTrue_or_nil z
    | true, z => z)
theorem kw_or {tA tB' : TT} (ha : PTK X a tA) (hb : PWK X (.BoolOp .Or (b :: rest) pos) tB') : PWK X (.BoolOp .Or (a :: b :: rest) pos) (tOr tA tB') := fun wh pins s σ H Q I h =>
  isTrue_or (thn (ha pins s σ H _ I h) fun c s1 hc => match c, hc with
    | false, ⟨⟨H1, I1, q1⟩, k1⟩ => thn (hb wh pins s1 σ H1 Q I1 q1) fun _ _ z => ⟨z.1, k1.trans z.2⟩
    | true, ⟨⟨H1, I1, q1⟩, k1⟩ => ⟨⟨H1, I1, q1⟩, k1⟩)
/-- a def's call -/
theorem kcall {CX : CXT} {k : Nat} {f : Addr} {fd : FuncData} {ps : List Str} {sp : Sp} {E : XK} {p : Pos} (F : FnOk X.prog X.w X.K X.mg X.base CX k f fd ps sp) (hr : Room k X.A) (hg : Gl X x) (hm : X.mg x = some (.ref f)) (hk : PySem.W.keepIn X.K (.ref f) = true) (hb : Binds X.K fd ps [])
    (hx : Passes CX X E) (ha : PAK X (e :: es) t) (hdb : (x == ("__debug__" : Str)) = false := by decide) (he : starEach (e :: es) X.env = (false, eval e X.env) :: starEach es X.env := by rfl) (hpl : (backTo pos (starEach es X.env)).any (·.1) = false := by rfl) :
    PEK X (.Call (.Name x p) (e :: es) [] pos) (tCall sp [] E t) := fun pins s σ H Q I h => by
  refine wpAny_Call_Name_kw (ld_glob I hg hm ?_ hdb)
  refine PySem.W.callWith_K (h₀ := X.base) I.ok.mod.kin hk (thn (ha pos pins s σ H _ I h) fun us s1 hu => ?_) he hpl
  obtain ⟨⟨vs, H1, I1, r, q⟩, k1⟩ := hu
  rw [List.append_nil] at q
  have hl : us.length = ps.length := by rw [← r.length]; exact F.len _ _ _ _ q
  have bs := hb s1 us I1.kIn (by simpa using hl)
  rw [List.append_nil] at bs
  refine ⟨I1.kIn, wpAny_call (codeAny_mono (F.run X.A X.stack s1 H1 ⟨us, []⟩ us vs Q E hr I1.env0 bs r q) fun fin s' hq => ?_)⟩
  match fin, hq with
  | .error e, hq => exact hx pins σ H1 s1 e s' I1 hq
  | .ok (.ret u), hq =>
    obtain ⟨_, _, _, _, un, _⟩ := id hq
    exact ⟨I1.after hq, k1.trans (Kp.un I1 un)⟩
  | .ok .next, hq => exact hq.elim
  | .ok .brk, hq => exact hq.elim
  | .ok .cont, hq => exact hq.elim
/-- a builtin's call by its name -/
theorem kcallB {id : String} {r : List V → Hp → VK → Prop} {p : Pos} (hc : CallK X (.builtin id) r) (hg : Gl X x) (hm : X.mg x = none) (hv : bootBuiltins x = some (.builtin id)) (ha : PAK X (e :: es) t) (hn : x ≠ "__name__" := by decide) (hdb : (x == ("__debug__" : Str)) = false := by decide)
    (he : starEach (e :: es) X.env = (false, eval e X.env) :: starEach es X.env := by rfl) (hpl : (backTo pos (starEach es X.env)).any (·.1) = false := by rfl) : PEK X (.Call (.Name x p) (e :: es) [] pos) (tCB r t) := fun pins s σ H Q I h => by
  refine wpAny_Call_Name_kw (ld_blt I hg hm hv ?_ hn hdb)
  refine PyProof.Rows.callWith_builtin1 (thn (ha pos pins s σ H _ I h) fun us s1 hu => ?_) he hpl
  obtain ⟨⟨vs, H1, I1, r1, q1⟩, k1⟩ := hu
  exact thn (hc pins s1 σ H1 vs us Q I1 r1 q1) fun _ _ z => ⟨z.1, k1.trans z.2⟩
/-! ### what does not touch the heap -/
theorem callK_of {f : Value} {r : List V → Hp → VK → Prop} (h : CallR X f r) (k : ∀ (pins : List (Addr × Obj)) (s : Shared) (σ : L2.St) (H : Hp) (xs : List V) (us : List Value) (Q : VK), Inv X pins σ H s → Vals xs us → r xs H Q →
    wpAny (model X.prog X.w) X.A (call f us) (fun _ s' => s'.heap = s.heap) (fun _ _ => True) s) : CallK X f r := fun pins s σ H xs us Q I rr q =>
  kBoth (h pins s σ H xs us Q I rr q) (wpAny_mono (k pins s σ H xs us Q I rr q) (fun _ _ z => Kp.heap z) fun _ _ z => z)
theorem opK_of {f : Value → Value → Sem Value} {r : R2} (h : OpR X f r) (k : ∀ (pins : List (Addr × Obj)) (s : Shared) (σ : L2.St) (H : Hp) (x y : V) (v u : Value) (Q : VK), Inv X pins σ H s → RelV x v → RelV y u → r x y H Q →
    wpAny (model X.prog X.w) X.A (f v u) (fun _ s' => s'.heap = s.heap) (fun _ _ => True) s) : OpK X f r := fun pins s σ H x y v u Q I rx ry q =>
  kBoth (h pins s σ H x y v u Q I rx ry q) (wpAny_mono (k pins s σ H x y v u Q I rx ry q) (fun _ _ z => Kp.heap z) fun _ _ z => z)
theorem kadd : OpK X (binaryOp .Add) (rI0 fun i j => .int (i + j)) := opK_of op_add fun pins s σ H x y v u Q I rx ry q => by
  obtain ⟨i, j, rfl, rfl, _⟩ := q
  obtain ⟨t, rfl⟩ := rx
  obtain ⟨t', rfl⟩ := ry
  exact add_int rfl
theorem ksub : OpK X (binaryOp .Sub) (rI0 fun i j => .int (i - j)) := opK_of op_sub fun pins s σ H x y v u Q I rx ry q => by
  obtain ⟨i, j, rfl, rfl, _⟩ := q
  obtain ⟨t, rfl⟩ := rx
  obtain ⟨t', rfl⟩ := ry
  exact sub_int rfl
/-- two texts, two ints: unlike -/
def rNeS : R2 := fun x y H Q => ∃ a b : Str, x = .str a ∧ y = .str b ∧ Q (.bl (!decide (V.str a = V.str b))) H
theorem kneS : OpK X (compareOp .NotEq) rNeS := opK_of (fun pins s σ H x y v u Q I rx ry h => by
  obtain ⟨a, b, rfl, rfl, q⟩ := h
  exact op_ne pins s σ H _ _ v u Q I rx ry ⟨rfl, q⟩) fun pins s σ H x y v u Q I rx ry h => by
  obtain ⟨a, b, rfl, rfl, _⟩ := h
  obtain ⟨t, rfl⟩ := rx
  obtain ⟨t', rfl⟩ := ry
  exact ne_str rfl
theorem kgt : OpK X (compareOp .Gt) (rI0 fun i j => .bl (decide (j < i))) := opK_of op_gt fun pins s σ H x y v u Q I rx ry q => by
  obtain ⟨i, j, rfl, rfl, _⟩ := q
  obtain ⟨t, rfl⟩ := rx
  obtain ⟨t', rfl⟩ := ry
  exact PyProof.Rows.gt_int rfl
/-- len of a list or a tuple -/
theorem klen {K : PySem.W.Frag} (h : X.K = K) : CallK X (.builtin "len") (fun xs H Q => ∃ p ys, xs = [.ref p] ∧ (SqL K H p ys ∨ SqT K H p ys) ∧ Q (.int ys.length) H) := callK_of (call_len_seqK h) fun pins s σ H xs us Q I r q => by
  subst h
  obtain ⟨p, ys, rfl, hq, _⟩ := q
  obtain ⟨u, rfl, rx⟩ := vals1 r
  cases rx
  have hn := line63
  rcases hq with hq | hq
  · obtain ⟨its, rv, pl, hz⟩ := I.list hq
    have := rv.length
    exact Calls.call_len_list pl.isList (by simp only [List.size_toArray] <;> omega) rfl
  · obtain ⟨its, rv, pl, hz⟩ := I.tuple hq
    have := rv.length
    exact len_tuple pl (by simp only [List.size_toArray] <;> omega) rfl
theorem klenT : CallK X (.builtin "len") (fun xs H Q => ∃ (p : Addr) (us : List Value), xs = [.ref p] ∧ H p = some (TLst p us) ∧ us.length ≤ sizeLine ∧ Q (.int us.length) H) := callK_of call_lenT fun pins s σ H xs us Q I r q => by
  obtain ⟨p, ws, rfl, hp, hz, _⟩ := q
  obtain ⟨u, rfl, rx⟩ := vals1 r
  cases rx
  obtain ⟨n, e⟩ := tlst_at I.hok hp
  have hn := line63
  exact Calls.call_len_list ⟨_, e, rfl, n, rfl⟩ (by simp only [List.size_toArray] <;> omega) rfl
end
end Dr
/-! ### told slots: stores, statements -/
namespace Dr
open PySem PySem.Spec PyProof.Rows L2
abbrev Tau := List (Nat × Value)
def Told' (X : Cx) (τ : Tau) (s : Shared) : Prop := ∀ p ∈ τ, ∃ x, X.N[p.1]? = some x ∧ At X s x p.2
section
variable {X : Cx} {pins : List (Addr × Obj)} {σ : L2.St} {τ : Tau} {H : Hp} {s s' : Shared} {x : Str} {pos : Pos}
theorem Told'.kp (h : Told' X τ s) (k : Kp X s s') : Told' X τ s' := fun p hp => let ⟨x, e, a⟩ := h p hp; ⟨x, e, k x _ a⟩
theorem ns_inj {h : Heap} {a : Addr} {m m' : Str → Option Value} (p : h.Ns a m) (q : h.Ns a m') : m = m' := by
  obtain ⟨o, es, ep, h1, h2, _, h3⟩ := p
  obtain ⟨o', es', ep', g1, g2, _, g3⟩ := q
  rw [h1] at g1
  cases g1
  rw [h2] at g2
  cases g2
  funext y
  rw [← h3, ← g3]
/-- a store: the name holds the value as it is, the other names what they held -/
theorem store_at {i : Nat} {v : V} {u : Value} (I : Inv X pins σ H s) (hN : X.N.Nodup) (hi : X.N[i]? = some x) (hx : Loc X.env.scope x) (r : RelV v u) (hf : X.fn x = true ∨ X.env.scope.names.lookup x = some .local) {M : Model} {A : Around} :
    wpAny M A (storeName X.env x u) (fun _ s' => Inv X pins (σ.set i (some v)) H s' ∧ At X s' x u ∧ ∀ y w, y ≠ x → At X s y w → At X s' y w) (fun _ _ => False) s := by
  refine wpAny_mono (DrDet.both (store_ok (Q := fun _ s' => Inv X pins (σ.set i (some v)) H s') (E := fun _ _ => False) I hN hi hx r (fun _ z => z) hf) ?_ (Q := fun _ s' => Inv X pins (σ.set i (some v)) H s') (R := fun _ s' => At X s' x u ∧ ∀ y w, y ≠ x → At X s y w → At X s' y w) (F := fun _ _ => False)) (fun _ _ z => ⟨z.1, z.2⟩) fun _ _ z => z.1
  obtain ⟨m, hn, _⟩ := id I.loc
  rcases hx with hk | hk
  · refine wpAny_storeName_local hk hn (fun h' hn' sb => ?_) (by rw [I.ok.kind]; rfl)
    refine ⟨⟨_, hn', .inl ⟨hk, if_pos rfl⟩⟩, fun y w ny a => ?_⟩
    obtain ⟨m2, hn2, l⟩ := a
    have em := ns_inj hn2 hn
    subst em
    refine ⟨_, hn', ?_⟩
    rcases l with ⟨k, e⟩ | ⟨k, c, ec, z⟩
    · exact .inl ⟨k, by show (if y = x then some u else m2 y) = some w; rw [if_neg ny]; exact e⟩
    · exact .inr ⟨k, c, ec, z.sameBut sb (I.cne y c ec)⟩
  · obtain ⟨c, hc⟩ := I.ok.has x (.inl hk)
    obtain ⟨w0, z0⟩ := I.cell x c hc
    refine wpAny_storeName_cell I.ok.kind hk hc z0 fun h' hc' sb => ?_
    have hn' := hn.sameBut sb (Ne.symm (I.cne x c hc))
    refine ⟨⟨_, hn', .inr ⟨.inl hk, c, hc, hc'⟩⟩, fun y w ny a => ?_⟩
    obtain ⟨m2, hn2, l⟩ := a
    have em := ns_inj hn2 hn
    subst em
    refine ⟨_, hn', ?_⟩
    rcases l with ⟨k, e⟩ | ⟨k, c2, ec, z⟩
    · exact .inl ⟨k, e⟩
    · exact .inr ⟨k, c2, ec, z.sameBut sb (fun e => ny (I.ok.inj _ _ _ ec (e ▸ hc)))⟩
def forget (i : Nat) (τ : Tau) : Tau := τ.filter fun p => !decide (p.1 = i)
theorem Told'.store {i : Nat} {u : Value} (h : Told' X τ s) (hi : X.N[i]? = some x) (hN : X.N.Nodup) (k : ∀ y w, y ≠ x → At X s y w → At X s' y w) : Told' X (forget i τ) s' := fun p hp => by
  obtain ⟨h1, h2⟩ := List.mem_filter.mp hp
  obtain ⟨y, e, a⟩ := h p h1
  refine ⟨y, e, k y _ (fun q => ?_) a⟩
  subst q
  have := nodup_ix hN e hi
  rw [this] at h2
  simp at h2
structure EndsT where
  nx : L2.St → Tau → Hp → Prop
  rt : VK
def SPT (X : Cx) (pins : List (Addr × Obj)) (D : EndsT) (f : Flow) (s' : Shared) : Prop := match f with
  | .next => ∃ σ' τ' H', Inv X pins σ' H' s' ∧ Told' X τ' s' ∧ D.nx σ' τ' H'
  | .ret u => ∃ v σ' H', Inv X pins σ' H' s' ∧ RelV v u ∧ D.rt v H'
  | _ => False
abbrev TSK := EndsT → L2.St → Tau → Hp → Prop
def PSK (X : Cx) (st : Stmt) (t : TSK) : Prop := ∀ (pins : List (Addr × Obj)) (s : Shared) (σ : L2.St) (τ : Tau) (H : Hp) (D : EndsT), Inv X pins σ H s → Told' X τ s → t D σ τ H → wpAny (model X.prog X.w) X.A (exec st X.env) (SPT X pins D) X.xe s
def PSsK (X : Cx) (st : List Stmt) (t : TSK) : Prop := ∀ (pins : List (Addr × Obj)) (s : Shared) (σ : L2.St) (τ : Tau) (H : Hp) (D : EndsT), Inv X pins σ H s → Told' X τ s → t D σ τ H → wpAny (model X.prog X.w) X.A (execs st X.env) (SPT X pins D) X.xe s
variable {st : Stmt} {rest body : List Stmt} {t u : TSK} {e : Expr} {te : TE}
def kSeq (t u : TSK) : TSK := fun D σ τ H => t { D with nx := u D } σ τ H
theorem kss_nil : PSsK X [] (fun D σ τ H => D.nx σ τ H) := fun _ _ σ τ H _ I T h => wpAny_execs_nil ⟨σ, τ, H, I, T, h⟩
theorem kss_cons (h1 : PSK X st t) (h2 : PSsK X rest u) : PSsK X (st :: rest) (kSeq t u) := fun pins s σ τ H D I T h =>
  wpAny_execs_cons (thn (h1 pins s σ τ H { D with nx := u D } I T h) fun f s1 q => match f, q with
    | .next, ⟨σ', τ', H', I', T', q⟩ => h2 pins s1 σ' τ' H' D I' T' q
    | .ret _, q => q
    | .brk, q => q.elim
    | .cont, q => q.elim)
def tKof (t : TSK) : TS := fun D σ H => t ⟨fun σ' _ H' => D.nx σ' H', D.rt⟩ σ [] H
/-- a block with told slots of its own -/
theorem kss_of (h : PSsK X body t) : PSs X body (tKof t) := ⟨fun pins s σ H D I q =>
  thn (h pins s σ [] H _ I (fun _ hp => absurd hp List.not_mem_nil) q) fun f s1 q => match f, q with
    | .next, ⟨σ', _, H', I', _, q⟩ => ⟨σ', H', I', q⟩
    | .ret _, q => q
    | .brk, q => q.elim
    | .cont, q => q.elim⟩
/-- x = e -/
theorem ks_set {i : Nat} {pos' : Pos} (hN : X.N.Nodup) (hi : X.N[i]? = some x) (hx : Loc X.env.scope x) (he : PEK X e te) (hs : swapsWith e (some (.Name x pos')) pos.line X.env = pure false := by rfl)
    (hf : X.fn x = true ∨ X.env.scope.names.lookup x = some .local := by first | exact .inl rfl | exact .inr rfl | assumption) : PSK X (.Assign [.Name x pos'] e pos) (fun D σ τ H => te σ H fun v H1 => D.nx (σ.set i (some v)) (forget i τ) H1) := fun pins s σ τ H D I T h => by
  refine wpAny_Assign_Name (thn (he pins s σ H _ I h) fun w s1 hw => ?_) hs
  obtain ⟨⟨v, H1, I1, r1, q1⟩, k1⟩ := hw
  exact wpAny_mono (store_at I1 hN hi hx r1 hf) (fun _ s2 z => ⟨_, _, H1, z.1, (T.kp k1).store (u := w) hi hN z.2.2, q1⟩) fun _ _ z => z.elim
/-- x = e, the value told -/
theorem ks_setV {i : Nat} {pos' : Pos} {tv : TEV} (hN : X.N.Nodup) (hi : X.N[i]? = some x) (hx : Loc X.env.scope x) (he : PVK X e tv) (hs : swapsWith e (some (.Name x pos')) pos.line X.env = pure false := by rfl)
    (hf : X.fn x = true ∨ X.env.scope.names.lookup x = some .local := by first | exact .inl rfl | exact .inr rfl | assumption) : PSK X (.Assign [.Name x pos'] e pos) (fun D σ τ H => tv σ H fun w H1 => ∃ v, RelV v w ∧ D.nx (σ.set i (some v)) ((i, w) :: forget i τ) H1) := fun pins s σ τ H D I T h => by
  refine wpAny_Assign_Name (thn (he pins s σ H _ I h) fun w s1 hw => ?_) hs
  obtain ⟨⟨H1, I1, v, r1, q1⟩, k1⟩ := hw
  refine wpAny_mono (store_at I1 hN hi hx r1 hf) (fun _ s2 z => ⟨_, _, H1, z.1, fun p hp => ?_, q1⟩) fun _ _ z => z.elim
  rcases List.mem_cons.mp hp with q | q
  · subst q
    exact ⟨x, hi, z.2.1⟩
  · exact (T.kp k1).store (u := w) hi hN z.2.2 p q
theorem ks_if {c : Expr} {a b : List Stmt} {tc : TT} (hc : PTK X c tc) (ha : PSsK X a t) (hb : PSsK X b u) : PSK X (.If c a b pos) (fun D σ τ H => tc σ H fun d H1 => if d = true then t D σ τ H1 else u D σ τ H1) := fun pins s σ τ H D I T h =>
  wpAny_If (thn (hc pins s σ H _ I h) fun d s1 hd => match d, hd with
    | true, ⟨⟨H1, I1, q1⟩, k1⟩ => ha pins s1 σ τ H1 D I1 (T.kp k1) q1
    | false, ⟨⟨H1, I1, q1⟩, k1⟩ => hb pins s1 σ τ H1 D I1 (T.kp k1) q1)
/-- an expression where told slots may be read: its value, and as it is -/
def PVT (X : Cx) (e : Expr) (t : L2.St → Tau → Hp → VQ → Prop) : Prop := ∀ (pins : List (Addr × Obj)) (s : Shared) (σ : L2.St) (τ : Tau) (H : Hp) (Q : VQ), Inv X pins σ H s → Told' X τ s → t σ τ H Q →
  wpAny (model X.prog X.w) X.A (eval e X.env) (fun w s' => (∃ H', Inv X pins σ H' s' ∧ Q w H') ∧ Kp X s s') X.xe s
theorem kt_name {i : Nat} (hN : X.N[i]? = some x) (hd : (x == ("__debug__" : Str)) = false := by decide) (hc : (x == ("__classdict__" : Str)) = false := by decide) : PVT X (.Name x pos) (fun _ τ H Q => ∃ w, (i, w) ∈ τ ∧ Q w H) := fun pins s σ τ H Q I T h => by
  obtain ⟨w, hw, q⟩ := h
  obtain ⟨y, e, a⟩ := T _ hw
  rw [hN] at e
  cases e
  exact read_at I.ok a ⟨⟨H, I, q⟩, Kp.refl⟩ hd hc
theorem kt_of {tv : TEV} (h : PVK X e tv) : PVT X e (fun σ _ H Q => tv σ H Q) := fun pins s σ τ H Q I _ q => h pins s σ H Q I q
theorem kt_any (h : PEK X e te) : PVT X e (fun σ _ H Q => te σ H fun v H1 => ∀ w, RelV v w → Q w H1) := fun pins s σ τ H Q I _ q =>
  thn (h pins s σ H _ I q) fun w s1 hw => let ⟨⟨_, H1, I1, r1, q1⟩, k1⟩ := hw; ⟨⟨H1, I1, q1 w r1⟩, k1⟩
/-- (a, b, c), told: a tuple whose texts are told -/
def PXT (X : Cx) (e : Expr) (t : L2.St → Tau → Hp → VK → Prop) : Prop := ∀ (pins : List (Addr × Obj)) (s : Shared) (σ : L2.St) (τ : Tau) (H : Hp) (Q : VK), Inv X pins σ H s → Told' X τ s → t σ τ H Q →
  wpAny (model X.prog X.w) X.A (eval e X.env) (fun w s' => EP X pins σ Q w s' ∧ Kp X s s') X.xe s
theorem kt_tup3 {a b c : Expr} {ta tb tc : L2.St → Tau → Hp → VQ → Prop} {x1} (ha : PVT X a ta) (hb : PVT X b tb) (hc : PVT X c tc) (hst : starEach [a, b, c] X.env = [(false, eval a X.env), (false, eval b X.env), (false, eval c X.env)] := by rfl) :
    PXT X (.Tuple [a, b, c] x1 pos) (fun σ τ H Q => ta σ τ H fun k H1 => tb σ τ H1 fun y H2 => tc σ τ H2 fun z H3 => ∃ (v : V) (p q : Tx), RelV v k ∧ y = Dr.tv p ∧ z = Dr.tv q ∧ ∀ t w, H3 t = none → TPair t w v p q → Q (.ref t) (upd H3 t w)) := fun pins s σ τ H Q I T h => by
  refine wpAny_Tuple_spliced ?_
  rw [hst]
  refine Calls.spliced_cons (thn (ha pins s σ τ H _ I T h) fun k s1 hk => ?_)
  obtain ⟨⟨H1, I1, q1⟩, k1⟩ := hk
  refine Calls.spliced_cons (thn (hb pins s1 σ τ H1 _ I1 (T.kp k1) q1) fun y s2 hy => ?_)
  obtain ⟨⟨H2, I2, q2⟩, k2⟩ := hy
  refine Calls.spliced_cons (thn (hc pins s2 σ τ H2 _ I2 ((T.kp k1).kp k2) q2) fun z s3 hz => ?_)
  obtain ⟨⟨H3, I3, v, p, q, rv, rfl, rfl, q3⟩, k3⟩ := hz
  refine Calls.spliced_nil ⟨by show 3 ≤ sizeLine; decide, ?_⟩
  have keep : ∀ b o, s3.heap.get? b = some o → (s3.heap.push { cls := .type "tuple", data := .seq #[k, Dr.tv p, Dr.tv q] 0 }).get? b = some o := fun b o e => Heap.get?_push_of_some _ e
  refine ⟨⟨.ref s3.heap.objs.size, upd H3 s3.heap.objs.size (.frz { cls := .type "tuple", data := .seq #[k, Dr.tv p, Dr.tv q] 0 } (.tup [v, tV p, tV q])), I3.laid (t' := s3.toks) keep (Nat.le_refl _) ?_, rfl, q3 _ _ (I3.hok.fresh (Nat.le_refl _)) ⟨_, k, rfl, rfl, rfl, rfl, rv⟩⟩, (k1.trans k2).trans (k3.trans (Kp.all keep))⟩
  exact ⟨Heap.get?_push_size _ rfl, by show 3 ≤ sizeLine; decide, [k, Dr.tv p, Dr.tv q], .cons rv (.cons ⟨_, rfl⟩ (.cons ⟨_, rfl⟩ .nil)), ⟨_, Heap.get?_push_size _ rfl, rfl, _, rfl⟩⟩
theorem ks_ret {tx : L2.St → Tau → Hp → VK → Prop} (he : PXT X e tx) : PSK X (.Return (some e) pos) (fun D σ τ H => tx σ τ H D.rt) := fun pins s σ τ H D I T h =>
  wpAny_Return_some (thn (he pins s σ τ H _ I T h) fun _ _ hv => let ⟨⟨x, H1, I1, r1, q1⟩, _⟩ := hv; ⟨x, σ, H1, I1, r1, q1⟩)
/-- o.append(e), e told; the slots are told no more -/
theorem ks_append {o : Expr} {to : TE} {tx : L2.St → Tau → Hp → VK → Prop} {apos cpos : Pos} (ho : PEK X o to) (he : PXT X e tx) (hbase : attributeBase o "append" X.env (eval o X.env) = eval o X.env := by rfl)
    (hfew : ((backTo cpos (starEach [e] X.env)).all (fun x => !x.1) && (backToKw cpos (keywordEach [] X.env)).all (fun x => x.1.isSome) && decide ([e].length + ([] : List Keyword).length + (if ([] : List Keyword).isEmpty then 0 else 1) < 30)) = true := by rfl)
    (hline : (apos.endLine == cpos.line) = true := by rfl) (hs : starEach [e] X.env = (false, eval e X.env) :: starEach [] X.env := by rfl) (hsw : swapsWith (.Call (.Attribute o "append" apos) [e] [] cpos) none pos.line X.env = pure false := by rfl) :
    PSK X (.Expr (.Call (.Attribute o "append" apos) [e] [] cpos) pos) (fun D σ τ H => to σ H fun x H1 => ∃ (l : Addr) (xs0 : List V), x = .ref l ∧ H1 l = some (.lst xs0) ∧ tx σ τ H1 fun v H2 => ∃ xs, H2 l = some (.lst xs) ∧ xs.length < sizeLine ∧ D.nx σ [] (upd H2 l (.lst (xs ++ [v])))) := fun pins s σ τ H D I T h => by
  refine wpAny_Expr_any (Q := SPT X pins D) ?_ I.quiet hsw
  refine wpAny_Call_method_late hbase hfew hline rfl (thn (ho pins s σ H _ I h) fun v s1 hv => ?_)
  obtain ⟨⟨x, H1, I1, r1, l, xs0, rfl, hl, q1⟩, k1⟩ := hv
  obtain rfl : v = Value.ref l := r1
  obtain ⟨_, its0, n0, _, e0⟩ := (show ObjOk X.prog X.w H1 s1.heap l (.lst xs0) from I1.hok l _ hl)
  rw [hs]
  refine ⟨"list", _, PySem.F.plainAttrs_list, PySem.F.slot_list_append, PySem.F.type_list_append, ⟨_, e0, rfl⟩, fun a z => ?_, Calls.callWith_builtin rfl (Calls.evalArgs_plain (Calls.spliced_cons (thn (he pins s1 σ τ H1 _ I1 (T.kp k1) q1) fun w s2 hw => Calls.spliced_nil ?_)))⟩
  · cases z
    exact ⟨_, e0, rfl⟩
  obtain ⟨⟨v, H2, I2, rv, xs, hx, hz, q2⟩, _⟩ := hw
  exact thn (mt_append pins s2 σ H2 (.ref l) [v] (.ref l) [w] (fun _ H3 => H3 = upd H2 l (.lst (xs ++ [v]))) I2 rfl (.cons rv .nil) ⟨l, xs, v, rfl, rfl, hx, hz, rfl⟩) fun w3 s3 h3 => by
    obtain ⟨_, H3, I3, _, e3⟩ := h3
    subst e3
    exact ⟨σ, [], _, I3, fun _ hp => absurd hp List.not_mem_nil, q2⟩
end
end Dr
/-! ### items -/
namespace Dr
open PySem PySem.Spec PyProof.Rows L2
section
variable {X : Cx} {pos : Pos}
/-- an item of a list or a tuple, by a place that is not below 0 -/
def rIxN (K : PySem.W.Frag) : R2 := fun x y H Q => ∃ (p : Addr) (xs : List V) (j : Nat) (v : V), x = .ref p ∧ y = .int (j : Int) ∧ (SqL K H p xs ∨ SqT K H p xs) ∧ xs[j]? = some v ∧ Q v H
theorem kixN {K : PySem.W.Frag} (hK : X.K = K) : IxK X (rIxN K) := fun a b pins s σ H x y v u Q I rx ry h hs => by
  subst hK
  obtain ⟨p, xs, j, z, rfl, rfl, hq, hz, q⟩ := h
  cases rx
  obtain ⟨t, rfl⟩ := ry
  have hj := (List.getElem?_eq_some_iff.mp hz).1
  have hn := line63
  rcases hq with hq | hq
  · obtain ⟨its, rv, pl, hl⟩ := I.list hq
    obtain ⟨w, ew, rw'⟩ := rv.get hz
    exact item_listR pl.isList (by omega) (by have := rv.length; omega) (by simpa using ew) ⟨⟨z, H, I, rw', q⟩, Kp.refl⟩ hs
  · obtain ⟨its, rv, pl, hl⟩ := I.tuple hq
    obtain ⟨w, ew, rw'⟩ := rv.get hz
    have hln := rv.length
    exact subscriptTail_builtinR (x := w) pl.typeIs slot_tuple_getitem.lookup
      (getItem_tuple (j := j) (Q := fun r s' => r = w ∧ (EP X pins σ Q r s' ∧ Kp X s s')) pl (by omega) (by omega) ((ixN_seq (ixN_nat (by rw [List.size_toArray]; omega))).1) (by simpa using ew) ⟨rfl, ⟨z, H, I, rw', q⟩, Kp.refl⟩) hs
/-- an item of a told list -/
theorem kvix {a b : Expr} {ta tb : TE} (ha : PEK X a ta) (hb : PEK X b tb) (hs : PlainIx b) : PVK X (.Subscript a b pos) (fun σ H Q => ta σ H fun x H1 => tb σ H1 fun y H2 => ∃ (p : Addr) (ps : List Tx) (j : Nat) (z : Tx), x = .ref p ∧ y = .int (j : Int) ∧ (TF H2 p ps ∨ (H2 p = some (TLst p (ps.map tv)) ∧ ps.length ≤ sizeLine)) ∧ ps[j]? = some z ∧ Q (tv z) H2) := fun pins s σ H Q I h =>
  Subscript_ (kbin ha hb I h fun v u s2 x y H2 I2 k rx ry q => by
    obtain ⟨p, ps, j, z, rfl, rfl, hF, hz, q⟩ := q
    cases rx
    obtain ⟨t, rfl⟩ := ry
    have hj := (List.getElem?_eq_some_iff.mp hz).1
    have hn := line63
    have hx : (ps.map tv).toArray[((j : Nat) : Int).toNat]? = some (tv z) := by simp [hz]
    rcases hF with hF | ⟨hF, hl⟩
    · obtain ⟨o, n, e, hc, hd, hl⟩ := hF.at I2
      rw [List.length_map] at hl
      exact item_listR (hF.isL I2) (by omega) (by omega) hx ⟨⟨H2, I2, q⟩, k⟩ (hs _ _)
    · obtain ⟨n, e⟩ := tlst_at I2.hok hF
      exact item_listR ⟨_, e, rfl, n, rfl⟩ (by omega) (by omega) hx ⟨⟨H2, I2, q⟩, k⟩ (hs _ _))
/-- xs.pop(i) of a told list -/
theorem kvpop {o e : Expr} {to : TE} {ta : TA} {apos cpos : Pos} (ho : PEK X o to) (ha : PAK X [e] ta) (hbase : attributeBase o "pop" X.env (eval o X.env) = eval o X.env := by rfl)
    (hfew : ((backTo cpos (starEach [e] X.env)).all (fun x => !x.1) && (backToKw cpos (keywordEach [] X.env)).all (fun x => x.1.isSome) && decide ([e].length + ([] : List Keyword).length + (if ([] : List Keyword).isEmpty then 0 else 1) < 30)) = true := by rfl)
    (hline : (apos.endLine == cpos.line) = true := by rfl) (hs : starEach [e] X.env = (false, eval e X.env) :: starEach [] X.env := by rfl) : PVK X (.Call (.Attribute o "pop" apos) [e] [] cpos) (tPopV to ta) := fun pins s σ H Q I h => by
  refine wpAny_Call_method_late hbase hfew hline rfl (thn (ho pins s σ H _ I h) fun v s1 hv => ?_)
  obtain ⟨⟨x, H1, I1, r1, l, us0, rfl, hl, q1⟩, k1⟩ := hv
  obtain rfl : v = Value.ref l := r1
  obtain ⟨n0, e0⟩ := tlst_at I1.hok hl
  have hA := ha cpos pins s1 σ H1 _ I1 q1
  rw [hs] at hA ⊢
  refine ⟨"list", _, PySem.F.plainAttrs_list, PySem.F.slot_list_pop, PySem.F.type_list_pop, ⟨_, e0, rfl⟩, fun a z => ?_, Calls.callWith_builtin rfl (Calls.evalArgs_plain (thn hA fun us1 s2 h2 => ?_))⟩
  · cases z
    exact ⟨_, e0, rfl⟩
  obtain ⟨⟨vs, H2, I2, r2, i, k, us, u, rfl, hl2, hz, h1, h3, hk, hu, q⟩, k2⟩ := h2
  obtain ⟨w, rfl, rw2⟩ := r2.one
  obtain ⟨t, rfl⟩ := rw2
  obtain ⟨n, e2⟩ := tlst_at I2.hok hl2
  refine call_meets PySem.F.slot_list_pop ⟨_, e2, rfl⟩ PySem.F.entry_list_pop (PySem.F.args_list_pop_2 _ _)
    (MeetsSeq.list_pop_at l us.toArray n i t k u (fitsIndex_both h1 h3) (by rw [List.size_toArray]; exact (ixN_seq hk).1) (by rw [← Array.getElem?_toList]; exact hu) (by rw [List.size_toArray]; exact hz)) ⟨e2, ?_⟩
  have z := Heap.get?_update_self (Obj.mapSeq fun xs : Array Value => xs.eraseIdxIfInBounds k) e2 rfl
  dsimp only [Obj.mapSeq] at z
  generalize (if (((fun xs : Array Value => xs.eraseIdxIfInBounds k) us.toArray).size == us.toArray.size) = true then n else n + 1) = n' at z
  rw [List.eraseIdxIfInBounds_toArray] at z
  have keep : ∀ (b : Addr) (o : Obj), b ≠ l → s2.heap.get? b = some o → (s2.heap.update l (Obj.mapSeq fun xs : Array Value => xs.eraseIdxIfInBounds k)).get? b = some o := fun b o hb y => (Heap.get?_update_other _ _ (Ne.symm hb)).trans y
  exact ⟨⟨upd H2 l (TLst l (us.eraseIdx k)), I2.write (t' := s2.toks) (by rw [hl2]; trivial) (.inl rfl) keep ⟨_, z⟩ (tlst_ok z), q⟩, (k1.trans k2).trans (Kp.but I2 hl2 keep)⟩
end
end Dr
namespace Dr
open PySem PySem.Spec PyProof.Rows L2
/-- any statement: nothing is told behind it -/
theorem ks_plain {X : Cx} {st : Stmt} {t : TS} (h : PS X st t) : PSK X st (fun D σ _ H => t { nx := fun σ' H' => D.nx σ' [] H', rt := D.rt } σ H) := fun pins s σ τ H D I _ q =>
  thn (h.run pins s σ H _ I q) fun f s1 q => match f, q with
    | .next, ⟨σ', H', I', q⟩ => ⟨σ', [], H', I', fun _ hp => absurd hp List.not_mem_nil, q⟩
    | .ret _, q => q
    | .brk, q => q.elim fun _ q => q.elim fun _ q => q.2.elim
    | .cont, q => q.elim fun _ q => q.elim fun _ q => q.2.elim
end Dr
/-! The draws of the laws with _law_pool. -/
namespace Dr
open PySem L2
/-- the draws at r: digits, a number to mix, how many were mixed -/
def Pool (H : Hp) (r : Addr) (c : Nat) : Prop := ∃ d s n : Int, H r = some (.lst [.int d, .int s, .int n]) ∧ 0 ≤ d ∧ 0 ≤ s ∧ s < 4611686018427387904 ∧ 0 ≤ n ∧ n ≤ c
section
variable {H H' : Hp} {r p : Addr} {c d : Nat} {o : HO}
theorem Pool.mono (h : Pool H r c) (l : c ≤ d) : Pool H r d := by
  obtain ⟨d, s, n, h1, h2, h3, h4, h5, h6⟩ := h
  exact ⟨d, s, n, h1, h2, h3, h4, h5, by omega⟩
theorem Pool.same (S : Same H H') (h : Pool H r c) : Pool H' r c := by
  obtain ⟨d, s, n, h1, h2⟩ := h
  exact ⟨d, s, n, S _ _ h1, h2⟩
theorem Pool.new (h : Pool H r c) (hp : H p = none) : Pool (upd H p o) r c := h.same (Same.new hp)
theorem Pool.nin (h : Pool H r c) (hp : H p = none) : p ∉ [r] := fun z => by
  obtain ⟨d, s, n, h1, h2⟩ := h
  rw [List.mem_singleton.mp z, h1] at hp
  cases hp
theorem Pool.upd (h : Pool H r c) (hp : p ∉ [r]) : Pool (L2.upd H p o) r c := by
  obtain ⟨d, s, n, h1, h2⟩ := h
  have : r ≠ p := fun e => hp (by rw [e]; exact List.mem_singleton_self _)
  exact ⟨d, s, n, by rw [upd_ne this]; exact h1, h2⟩
end
def sp_law_pool (K : PySem.W.Frag) : Sp := fun vs H Q _ => ∃ (a : Addr) (ns : List Int) (k : Nat), vs = [.ref a, .int (k : Int)] ∧ SqL K H a (ns.map V.int) ∧ ns.length ≤ 1000 ∧ k ≤ 1000 ∧ ∀ H' r, Same H H' → H r = none → Pool H' r 0 → Q (.ref r) H'
def sp_pool_draw (_ : PySem.W.Frag) : Sp := fun vs H Q _ => ∃ (r : Addr) (lim : Int) (c : Nat), vs = [.ref r, .int lim] ∧ Pool H r c ∧ c < 1000000000 ∧ 0 < lim ∧ lim < 2 ^ 200 ∧
  ∀ H' n, Same (hidL [r] H) (hidL [r] H') → Pool H' r (c + 1) → 0 ≤ n → n < lim → Q (.int n) H'
def sp_pool_letters (_ : PySem.W.Frag) : Sp := fun vs H Q _ => ∃ (r : Addr) (c : Nat), vs = [.ref r] ∧ Pool H r c ∧ c < 900000000 ∧
  ∀ (H' : Hp) (p : Addr) (qs : List Tx), Same (hidL [r] H) (hidL [r] H') → Pool H' r (c + 10) → H p = none → p ∉ [r] → TF H' p qs → LettT qs → 2 ≤ qs.length → Q (.ref p) H'
def sp_pool_moves (K : PySem.W.Frag) : Sp := fun vs H Q _ => ∃ (r l : Addr) (most : Int) (qs : List Tx) (c : Nat), vs = [.ref r, .ref l, .int most] ∧ Pool H r c ∧ c < 800000000 ∧ l ∉ [r] ∧ TF H l qs ∧ LettT qs ∧ 2 ≤ qs.length ∧ 0 ≤ most ∧ most ≤ 60 ∧
  ∀ (H' : Hp) (a : Addr) (D : List Cl), Same (hidL [r] H) (hidL [r] H') → Pool H' r (c + 1000) → H a = none → a ∉ [r] → DrillT K (hidL [r] H') a D → (∀ cl ∈ D, cl.ok = true) → (∀ cl ∈ D, Cl.le 20 cl) → (D.length : Int) ≤ most → Q (.ref a) H'
end Dr
/-! Every repeated drill reaches a cycle whose period divides 60: counts of people as vectors, maps that send one more to one more. -/
namespace Cyc
abbrev Vec := Fin 6 → Nat
def zero : Vec := fun _ => 0
def add (v : Vec) (x : Fin 6) : Vec := fun z => if z = x then v z + 1 else v z
def mn (v w : Vec) : Vec := fun z => min (v z) (w z)
def sz (v : Vec) : Nat := v 0 + v 1 + v 2 + v 3 + v 4 + v 5
def le (v w : Vec) : Prop := ∀ z, v z ≤ w z
theorem six (P : Fin 6 → Prop) (h0 : P 0) (h1 : P 1) (h2 : P 2) (h3 : P 3) (h4 : P 4) (h5 : P 5) : ∀ x, P x
  | ⟨0, _⟩ => h0 | ⟨1, _⟩ => h1 | ⟨2, _⟩ => h2 | ⟨3, _⟩ => h3 | ⟨4, _⟩ => h4 | ⟨5, _⟩ => h5
theorem add_same (v : Vec) (x : Fin 6) : add v x x = v x + 1 := if_pos rfl
theorem add_ne (v : Vec) {x z : Fin 6} (h : z ≠ x) : add v x z = v z := if_neg h
theorem sz_add (v : Vec) : ∀ x, sz (add v x) = sz v + 1 := by
  refine six _ ?_ ?_ ?_ ?_ ?_ ?_ <;> simp [sz, add] <;> omega
theorem add_inj {v : Vec} {x y : Fin 6} (h : add v x = add v y) : x = y := by
  have := congrFun h x
  rw [add_same] at this
  by_cases e : x = y
  · exact e
  · rw [add_ne v e] at this; omega
theorem sz_le {v w : Vec} (h : le v w) : sz v ≤ sz w := by
  have h0 := h 0; have h1 := h 1; have h2 := h 2; have h3 := h 3; have h4 := h 4; have h5 := h 5
  unfold sz; omega
theorem le_refl (v : Vec) : le v v := fun _ => Nat.le_refl _
theorem le_trans {u v w : Vec} (a : le u v) (b : le v w) : le u w := fun z => Nat.le_trans (a z) (b z)
theorem eq_of_sz {v w : Vec} (h : le v w) (e : sz w ≤ sz v) : v = w := by
  have h0 := h 0; have h1 := h 1; have h2 := h 2; have h3 := h 3; have h4 := h 4; have h5 := h 5
  unfold sz at e
  funext x
  revert x
  refine six _ ?_ ?_ ?_ ?_ ?_ ?_ <;> omega
theorem step_le {v w : Vec} (h : le v w) (n : v ≠ w) : ∃ x, le (add v x) w := by
  by_cases q : ∃ x, v x < w x
  · obtain ⟨x, hx⟩ := q
    refine ⟨x, fun z => ?_⟩
    unfold add
    split
    · rename_i e; subst e; exact hx
    · exact h z
  · exact absurd (funext fun z => Nat.le_antisymm (h z) (Nat.not_lt.mp fun k => q ⟨z, k⟩)) n
/-- one more stays one more -/
structure Hop (T : Vec → Vec) : Prop where
  zero : T zero = zero
  one : ∀ v x, ∃ y, T (add v x) = add (T v) y
def it (T : Vec → Vec) : Nat → Vec → Vec
  | 0, v => v
  | n + 1, v => T (it T n v)
section
variable {T : Vec → Vec}
theorem it_add (m n : Nat) (v : Vec) : it T (m + n) v = it T m (it T n v) := by
  induction m with
  | zero => rw [Nat.zero_add]; rfl
  | succ m ih => rw [Nat.succ_add]; show T _ = T _; rw [ih]
theorem it_comm (m n : Nat) (v : Vec) : it T m (it T n v) = it T n (it T m v) := by rw [← it_add, ← it_add, Nat.add_comm]
theorem Hop.it (h : Hop T) : ∀ n, Hop (it T n)
  | 0 => ⟨rfl, fun _ x => ⟨x, rfl⟩⟩
  | n + 1 => ⟨by show T (Cyc.it T n Cyc.zero) = _; rw [(h.it n).zero, h.zero], fun v x => by
      obtain ⟨y, e⟩ := (h.it n).one v x
      obtain ⟨z, e2⟩ := h.one (Cyc.it T n v) y
      exact ⟨z, by show T (Cyc.it T n (add v x)) = _; rw [e, e2]; rfl⟩⟩
theorem Hop.mono (h : Hop T) : ∀ (k : Nat) {v w : Vec}, sz w - sz v = k → le v w → le (T v) (T w) ∧ sz (T w) + sz v = sz (T v) + sz w
  | 0, v, w, e, l => by
    have := eq_of_sz l (by omega)
    subst this
    exact ⟨le_refl _, rfl⟩
  | k + 1, v, w, e, l => by
    have n : v ≠ w := fun q => by subst q; omega
    obtain ⟨x, hx⟩ := step_le l n
    obtain ⟨y, hy⟩ := h.one v x
    have s := sz_add v x
    have q := h.mono k (v := add v x) (w := w) (by omega) hx
    rw [hy] at q
    have s2 := sz_add (T v) y
    refine ⟨le_trans (fun z => ?_) q.1, by omega⟩
    unfold add
    split <;> omega
theorem Hop.le (h : Hop T) {v w : Vec} (l : le v w) : Cyc.le (T v) (T w) := (h.mono _ rfl l).1
theorem Hop.sz (h : Hop T) (v : Vec) : sz (T v) = sz v := by
  have := (h.mono _ rfl (v := Cyc.zero) (w := v) (fun _ => Nat.zero_le _)).2
  rw [h.zero] at this
  omega
/-- v comes back -/
def Rec (T : Vec → Vec) (v : Vec) : Prop := ∃ p, 0 < p ∧ it T p v = v
theorem it_mul {p : Nat} {v : Vec} (e : it T p v = v) : ∀ k, it T (p * k) v = v
  | 0 => rfl
  | k + 1 => by rw [Nat.mul_succ, it_add, e, it_mul e k]
theorem Rec.it {v : Vec} (h : Rec T v) (n : Nat) : Rec T (Cyc.it T n v) := by
  obtain ⟨p, hp, e⟩ := h
  exact ⟨p, hp, by rw [it_comm, e]⟩
theorem Rec.pow {v : Vec} {n : Nat} (h : Rec T v) : Rec (Cyc.it T n) v := by
  obtain ⟨p, hp, e⟩ := h
  refine ⟨p, hp, ?_⟩
  have key : ∀ k w, Cyc.it (Cyc.it T n) k w = Cyc.it T (n * k) w := by
    intro k
    induction k with
    | zero => intro w; rfl
    | succ k ih => intro w; show Cyc.it T n (Cyc.it (Cyc.it T n) k w) = _; rw [ih, ← it_add, Nat.mul_succ, Nat.add_comm]
  rw [key, Nat.mul_comm]
  exact it_mul e n
/-- two that come back: so does their minimum, and T of it is the minimum -/
theorem both_back {v w : Vec} (hv : Rec T v) (hw : Rec T w) : ∃ p, 0 < p ∧ it T p v = v ∧ it T p w = w := by
  obtain ⟨p, hp, e⟩ := hv
  obtain ⟨q, hq, f⟩ := hw
  refine ⟨p * q, Nat.mul_pos hp hq, it_mul e q, ?_⟩
  rw [Nat.mul_comm]
  exact it_mul f p
theorem mn_le_l (v w : Vec) : le (mn v w) v := fun z => Nat.min_le_left _ _
theorem mn_le_r (v w : Vec) : le (mn v w) w := fun z => Nat.min_le_right _ _
theorem le_mn {u v w : Vec} (a : le u v) (b : le u w) : le u (mn v w) := fun z => Nat.le_min.mpr ⟨a z, b z⟩
theorem Hop.mn_le (h : Hop T) (n : Nat) (v w : Vec) : Cyc.le (Cyc.it T n (mn v w)) (mn (Cyc.it T n v) (Cyc.it T n w)) :=
  le_mn ((h.it n).le (mn_le_l v w)) ((h.it n).le (mn_le_r v w))
theorem Hop.mn_it (h : Hop T) {v w : Vec} (hv : Rec T v) (hw : Rec T w) (n : Nat) : Cyc.it T n (mn v w) = mn (Cyc.it T n v) (Cyc.it T n w) := by
  obtain ⟨p, hp, e, f⟩ := both_back hv hw
  have l1 := h.mn_le n v w
  refine eq_of_sz l1 ?_
  rw [(h.it n).sz]
  obtain ⟨k, hk⟩ : ∃ k, n + k = p * (n + 1) := ⟨p * (n + 1) - n, by
    have : n + 1 ≤ p * (n + 1) := Nat.le_mul_of_pos_left _ hp
    omega⟩
  have l2 := h.mn_le k (Cyc.it T n v) (Cyc.it T n w)
  rw [← it_add, ← it_add, show k + n = p * (n + 1) by omega, it_mul e, it_mul f] at l2
  have := sz_le l2
  rw [(h.it k).sz] at this
  exact this
theorem Hop.mn_rec (h : Hop T) {v w : Vec} (hv : Rec T v) (hw : Rec T w) : Rec T (mn v w) := by
  obtain ⟨p, hp, e, f⟩ := both_back hv hw
  exact ⟨p, hp, by rw [h.mn_it hv hw, e, f]⟩
theorem mn_add {c d : Vec} {x : Fin 6} (e : c x = d x) : add (mn c d) x = mn (add c x) (add d x) := by
  funext w
  show (if w = x then min (c w) (d w) + 1 else min (c w) (d w)) = min (if w = x then c w + 1 else c w) (if w = x then d w + 1 else d w)
  by_cases q : w = x
  · subst q
    rw [if_pos rfl, if_pos rfl, if_pos rfl]
    omega
  · rw [if_neg q, if_neg q, if_neg q]
/-- where the one more goes: the same above a smaller one with the same seat -/
theorem Hop.below (h : Hop T) {m c : Vec} {x y z : Fin 6} (l : Cyc.le m c) (e : m x = c x) (hc : Rec T c) (hm : Rec T (add m x)) (hz : T (add m x) = add (T m) z) (hy : T (add c x) = add (T c) y) : y = z ∧ T c z = T m z := by
  have em : m = mn c (add m x) := by
    funext w
    have lw := l w
    unfold mn add
    split
    · rename_i q; subst q; omega
    · omega
  have e1 := h.mn_it hc hm 1
  have e1' : T (mn c (add m x)) = mn (T c) (T (add m x)) := e1
  rw [← em, hz] at e1'
  have q := congrFun e1' z
  unfold mn at q
  rw [add_same] at q
  have q2 : T c z = T m z := by omega
  refine ⟨?_, q2⟩
  have l2 : Cyc.le (add m x) (add c x) := fun w => by
    have := l w
    unfold add
    split <;> omega
  have l3 := h.le l2 z
  rw [hz, hy, add_same] at l3
  by_cases ey : z = y
  · exact ey.symm
  · rw [add_ne _ ey] at l3
    omega
/-- where the one more goes depends on its seat alone -/
theorem Hop.seat (h : Hop T) {c d : Vec} {x y y' : Fin 6} (hc : Rec T c) (hc' : Rec T (add c x)) (hd : Rec T d) (hd' : Rec T (add d x)) (e : c x = d x) (hy : T (add c x) = add (T c) y) (hy' : T (add d x) = add (T d) y') : y = y' ∧ T c y = T d y' := by
  obtain ⟨z, hz⟩ := h.one (mn c d) x
  have em := mn_add e
  have hm : Rec T (add (mn c d) x) := by rw [em]; exact h.mn_rec hc' hd'
  have a := h.below (mn_le_l c d) (by unfold mn; omega) hc hm hz hy
  have b := h.below (mn_le_r c d) (by unfold mn; omega) hd hm hz hy'
  refine ⟨a.1.trans b.1.symm, ?_⟩
  rw [a.1, b.1]
  exact a.2.trans b.2.symm
/-- a ring has no colour twice: who comes back to a colour comes back to the seat -/
theorem Hop.level (h : Hop T) {c : Vec} {x : Fin 6} (hc : Rec T c) (hc' : Rec T (add c x)) (hx : T (add c x) = add (T c) x) : ¬ c x < T c x := by
  intro lt
  -- the smallest with this seat
  have least : ∀ n, ∀ u : Vec, Cyc.sz u = n → Rec T u → Rec T (add u x) → u x = c x → False := by
    intro n
    induction n using Nat.strongRecOn with
    | _ n ih =>
      intro u hn hu hu' eu
      obtain ⟨y', hy'⟩ := h.one u x
      have s := h.seat hc hc' hu hu' eu.symm hx hy'
      have ey : y' = x := s.1.symm
      subst ey
      -- w = min of u + x and T (u + x), without x: min of u and T (u + x)
      have hT' : Rec T (T (add u y')) := hu'.it 1
      have hw : Rec T (mn u (T (add u y'))) := h.mn_rec hu hT'
      have ew : (mn u (T (add u y'))) y' = c y' := by
        unfold mn
        rw [hy', add_same]
        omega
      have ew' : add (mn u (T (add u y'))) y' = mn (add u y') (T (add u y')) := by
        funext w
        show (if w = y' then min (u w) (T (add u y') w) + 1 else min (u w) (T (add u y') w)) = min (if w = y' then u w + 1 else u w) (T (add u y') w)
        by_cases q : w = y'
        · subst q
          rw [if_pos rfl, if_pos rfl, hy', add_same]
          omega
        · rw [if_neg q, if_neg q]
      have hw' : Rec T (add (mn u (T (add u y'))) y') := by rw [ew']; exact h.mn_rec hu' hT'
      by_cases q : Cyc.sz (mn u (T (add u y'))) < n
      · exact ih _ q _ rfl hw hw' ew
      · have e1 : mn u (T (add u y')) = u := eq_of_sz (mn_le_l _ _) (by omega)
        have e2 : mn (add u y') (T (add u y')) = add u y' := by rw [← ew', e1]
        have l : Cyc.le (add u y') (T (add u y')) := fun w => by
          have := congrFun e2 w
          unfold mn at this
          omega
        have e3 := eq_of_sz l (by rw [h.sz]; exact Nat.le_refl _)
        have q3 := congrFun e3 y'
        rw [hy', add_same, add_same] at q3
        omega
  exact least _ c rfl hc hc' rfl
end
end Cyc
namespace Cyc
theorem len_count (l : List (Fin 6)) : l.length = l.count 0 + l.count 1 + l.count 2 + l.count 3 + l.count 4 + l.count 5 := by
  induction l with
  | nil => rfl
  | cons a l ih =>
    rw [List.length_cons, ih]
    revert a
    refine six _ ?_ ?_ ?_ ?_ ?_ ?_ <;> simp [List.count_cons] <;> omega
theorem pigeon (f : Nat → Fin 6) : ∃ i j, i < j ∧ j ≤ 6 ∧ f i = f j := by
  by_cases q : ∃ i j, i < j ∧ j ≤ 6 ∧ f i = f j
  · exact q
  · exfalso
    have nd : ((List.range 7).map f).Nodup := by
      rw [List.Nodup, List.pairwise_map]
      refine List.Pairwise.imp_of_mem (fun {a b} ha hb hab => fun e => q ⟨a, b, hab, ?_, e⟩) List.pairwise_lt_range
      have := List.mem_range.mp hb
      omega
    have h := len_count ((List.range 7).map f)
    rw [List.length_map, List.length_range] at h
    have c : ∀ x, ((List.range 7).map f).count x ≤ 1 := fun x => by
      rw [nd.count]
      split <;> omega
    have := c 0; have := c 1; have := c 2; have := c 3; have := c 4; have := c 5
    omega
section
variable {T : Vec → Vec}
/-- the ring of a person who comes back: at most six long, so 60 runs lead once around it, or more often -/
theorem Hop.ring (h : Hop T) {c : Vec} {x : Fin 6} (hc : Rec T c) (hc' : Rec T (add c x)) : Cyc.it T 60 (add c x) = add (Cyc.it T 60 c) x := by
  have ex : ∀ j, ∃ y, Cyc.it T j (add c x) = add (Cyc.it T j c) y := fun j => (h.it j).one c x
  obtain ⟨Y, hY⟩ : ∃ Y : Nat → Fin 6, ∀ j, Cyc.it T j (add c x) = add (Cyc.it T j c) (Y j) := ⟨fun j => Classical.choose (ex j), fun j => Classical.choose_spec (ex j)⟩
  obtain ⟨P, hP, e, f⟩ := both_back hc hc'
  have recA : ∀ j, Rec T (Cyc.it T j c) := fun j => hc.it j
  have recB : ∀ j, Rec T (add (Cyc.it T j c) (Y j)) := fun j => by rw [← hY]; exact hc'.it j
  have lev1 : ∀ i j, Y i = Y j → ¬ Cyc.it T i c (Y i) < Cyc.it T j c (Y j) := by
    intro i j eY
    obtain ⟨n, hn⟩ : ∃ n, n + i = j + P * (i + 1) := ⟨j + P * (i + 1) - i, by
      have : i + 1 ≤ P * (i + 1) := Nat.le_mul_of_pos_left _ hP
      omega⟩
    have sa : Cyc.it T n (Cyc.it T i c) = Cyc.it T j c := by rw [← it_add, hn, it_add, it_mul e]
    have sb : Cyc.it T n (add (Cyc.it T i c) (Y i)) = add (Cyc.it T n (Cyc.it T i c)) (Y i) := by
      rw [← hY, ← it_add, hn, it_add, it_mul f, hY, sa, eY]
    have := (h.it n).level (recA i).pow (recB i).pow sb
    rw [sa] at this
    rw [← eY]
    exact this
  have lev : ∀ i j, Y i = Y j → Cyc.it T i c (Y i) = Cyc.it T j c (Y j) := fun i j eY => by
    have a := lev1 i j eY
    have b := lev1 j i eY.symm
    omega
  have go : ∀ i j, Y i = Y j → ∀ n, Y (n + i) = Y (n + j) := by
    intro i j eY n
    induction n with
    | zero => rw [Nat.zero_add, Nat.zero_add]; exact eY
    | succ n ih =>
      have l := lev _ _ ih
      have a := hY (n + 1 + i)
      have b := hY (n + 1 + j)
      rw [show n + 1 + i = (n + i) + 1 by omega] at a
      rw [show n + 1 + j = (n + j) + 1 by omega] at b
      have a' : T (add (Cyc.it T (n + i) c) (Y (n + i))) = add (T (Cyc.it T (n + i) c)) (Y (n + i + 1)) := by rw [← hY]; exact a
      have b' : T (add (Cyc.it T (n + j) c) (Y (n + j))) = add (T (Cyc.it T (n + j) c)) (Y (n + j + 1)) := by rw [← hY]; exact b
      rw [ih] at a' l
      have r1 := recB (n + i)
      rw [ih] at r1
      have s := h.seat (recA (n + i)) r1 (recA (n + j)) (recB (n + j)) l a' b'
      rw [show n + 1 + i = n + i + 1 by omega, show n + 1 + j = n + j + 1 by omega]
      exact s.1
  have y0 : Y 0 = x := (add_inj (hY 0)).symm
  obtain ⟨i, j, hij, hj, eY⟩ := pigeon Y
  obtain ⟨n, hn⟩ : ∃ n, n + i = P * (i + 1) := ⟨P * (i + 1) - i, by
    have : i + 1 ≤ P * (i + 1) := Nat.le_mul_of_pos_left _ hP
    omega⟩
  have back : ∀ m, Y (m + P * (i + 1)) = Y m := fun m => by
    have a := hY (m + P * (i + 1))
    rw [it_add, it_add, it_mul e, it_mul f, hY] at a
    exact (add_inj a).symm
  have g := go i j eY n
  rw [show n + j = (j - i) + P * (i + 1) by omega, back] at g
  rw [show n + i = 0 + P * (i + 1) by omega, back] at g
  have rep : ∀ m, Y ((j - i) * m) = x := by
    intro m
    induction m with
    | zero => exact y0
    | succ m ih =>
      have q := go 0 (j - i) g ((j - i) * m)
      rw [Nat.mul_succ, ← q]
      exact ih
  have d60 : ∃ m, 60 = (j - i) * m := by
    have h1 : 1 ≤ j - i := by omega
    have h6 : j - i ≤ 6 := by omega
    generalize j - i = q at h1 h6
    have : q = 1 ∨ q = 2 ∨ q = 3 ∨ q = 4 ∨ q = 5 ∨ q = 6 := by omega
    rcases this with rfl | rfl | rfl | rfl | rfl | rfl
    · exact ⟨60, rfl⟩
    · exact ⟨30, rfl⟩
    · exact ⟨20, rfl⟩
    · exact ⟨15, rfl⟩
    · exact ⟨12, rfl⟩
    · exact ⟨10, rfl⟩
  obtain ⟨m, hm⟩ := d60
  rw [hY, hm, rep]
/-- behind people who come back after 60 runs a person is there too after 360 runs at most -/
theorem Hop.person (h : Hop T) {c : Vec} (x : Fin 6) (hc : Cyc.it T 60 c = c) : Cyc.it T 60 (Cyc.it T 360 (add c x)) = Cyc.it T 360 (add c x) := by
  have ex : ∀ j, ∃ y, Cyc.it T j (add c x) = add (Cyc.it T j c) y := fun j => (h.it j).one c x
  obtain ⟨Y, hY⟩ : ∃ Y : Nat → Fin 6, ∀ j, Cyc.it T j (add c x) = add (Cyc.it T j c) (Y j) := ⟨fun j => Classical.choose (ex j), fun j => Classical.choose_spec (ex j)⟩
  obtain ⟨a, b, hab, hb, eY⟩ := pigeon fun j => Y (60 * j)
  have va : Cyc.it T (60 * a) (add c x) = add c (Y (60 * a)) := by rw [hY, it_mul hc]
  have vb : Cyc.it T (60 * b) (add c x) = add c (Y (60 * a)) := by rw [hY, it_mul hc]; exact congrArg _ eY.symm
  have hrec : Rec T (add c (Y (60 * a))) := ⟨60 * (b - a), by omega, by
    rw [← va, ← it_add, show 60 * (b - a) + 60 * a = 60 * b by omega, vb, va]⟩
  have r := h.ring ⟨60, by decide, hc⟩ hrec
  rw [hc, ← va] at r
  rw [show (360 : Nat) = (360 - 60 * a) + 60 * a by omega, it_add, it_comm, r]
def vec (xs : List (Fin 6)) : Vec := xs.foldl add zero
theorem vec_snoc (xs : List (Fin 6)) (x : Fin 6) : vec (xs ++ [x]) = add (vec xs) x := by
  unfold vec
  rw [List.foldl_append]
  rfl
theorem snocI {α : Type} {P : List α → Prop} (h0 : P []) (h1 : ∀ l a, P l → P (l ++ [a])) (l : List α) : P l := by
  have key : ∀ m : List α, P m.reverse := fun m => by
    induction m with
    | nil => exact h0
    | cons a m ih => rw [List.reverse_cons]; exact h1 _ _ ih
  have := key l.reverse
  rwa [List.reverse_reverse] at this
theorem Hop.chain (h : Hop T) : ∀ xs : List (Fin 6), Cyc.it T 60 (Cyc.it T (360 * xs.length) (vec xs)) = Cyc.it T (360 * xs.length) (vec xs) := by
  refine snocI ?_ fun xs x ih => ?_
  · show Cyc.it T 60 Cyc.zero = Cyc.zero
    exact (h.it 60).zero
  · rw [vec_snoc, List.length_append, List.length_singleton, Nat.mul_add, Nat.mul_one, Nat.add_comm, it_add]
    obtain ⟨y, hy⟩ := (h.it (360 * xs.length)).one (vec xs) x
    rw [hy]
    exact h.person y ih
end
end Cyc
/-! ### rows -/
namespace Dr
open Cyc
def ix (x : Nat) : Fin 6 := ⟨(x - 97) % 6, Nat.mod_lt _ (by decide)⟩
def cnt (l : List Nat) : Vec := fun i => l.count (97 + i.val)
theorem colN_iff {x : Nat} : x ∈ colN ↔ 97 ≤ x ∧ x ≤ 102 := by
  constructor
  · have : ∀ x ∈ colN, 97 ≤ x ∧ x ≤ 102 := by decide
    exact this x
  · intro h
    have : x = 97 ∨ x = 98 ∨ x = 99 ∨ x = 100 ∨ x = 101 ∨ x = 102 := by omega
    rcases this with rfl | rfl | rfl | rfl | rfl | rfl <;> decide
theorem ix_val {x : Nat} (h : x ∈ colN) : 97 + (ix x).val = x := by
  have := colN_iff.mp h
  show 97 + (x - 97) % 6 = x
  omega
theorem cnt_snoc {l : List Nat} {x : Nat} (h : x ∈ colN) : cnt (l ++ [x]) = add (cnt l) (ix x) := by
  funext i
  show (l ++ [x]).count (97 + i.val) = if i = ix x then l.count (97 + i.val) + 1 else l.count (97 + i.val)
  rw [List.count_append, List.count_singleton]
  have := ix_val h
  by_cases e : i = ix x
  · subst e
    rw [if_pos rfl, this, beq_self_eq_true, if_pos rfl]
  · rw [if_neg e]
    have : ¬ x = 97 + i.val := fun q => e (Fin.ext (by omega))
    simp [this]
def rowv (v : Vec) : List Nat := List.replicate (v 0) 97 ++ (List.replicate (v 1) 98 ++ (List.replicate (v 2) 99 ++ (List.replicate (v 3) 100 ++ (List.replicate (v 4) 101 ++ List.replicate (v 5) 102))))
theorem cnt_rowv (v : Vec) : cnt (rowv v) = v := by
  funext i
  revert i
  have k : ∀ x y n : Nat, (List.replicate n x).count y = if x = y then n else 0 := fun x y n => by rw [List.count_replicate]; simp
  have key : ∀ y, (rowv v).count y = (if 97 = y then v 0 else 0) + ((if 98 = y then v 1 else 0) + ((if 99 = y then v 2 else 0) + ((if 100 = y then v 3 else 0) + ((if 101 = y then v 4 else 0) + if 102 = y then v 5 else 0)))) := fun y => by
    unfold rowv
    simp only [List.count_append, k]
  refine six _ ?_ ?_ ?_ ?_ ?_ ?_
  · show (rowv v).count 97 = v 0; rw [key]; simp
  · show (rowv v).count 98 = v 1; rw [key]; simp
  · show (rowv v).count 99 = v 2; rw [key]; simp
  · show (rowv v).count 100 = v 3; rw [key]; simp
  · show (rowv v).count 101 = v 4; rw [key]; simp
  · show (rowv v).count 102 = v 5; rw [key]; simp
theorem rowv_col (v : Vec) : ∀ x ∈ rowv v, x ∈ colN := by
  intro x hx
  simp only [rowv, List.mem_append, List.mem_replicate] at hx
  rw [colN_iff]
  omega
theorem perm_cnt {l m : List Nat} (hl : ∀ x ∈ l, x ∈ colN) (hm : ∀ x ∈ m, x ∈ colN) (h : cnt l = cnt m) : l.Perm m := List.perm_iff_count.mpr fun x => by
  by_cases hx : x ∈ colN
  · have := congrFun h (ix x)
    have e : l.count (97 + (ix x).val) = m.count (97 + (ix x).val) := this
    rw [ix_val hx] at e
    exact e
  · rw [List.count_eq_zero.mpr fun q => hx (hl x q), List.count_eq_zero.mpr fun q => hx (hm x q)]
theorem cnt_perm {l m : List Nat} (h : l.Perm m) : cnt l = cnt m := funext fun i => h.count_eq _
/-- a drill, on counts -/
def drillV (D : List Cl) (v : Vec) : Vec := cnt (runs D (rowv v))
theorem drillV_cnt {D : List Cl} (hv : ∀ c ∈ D, c.ok = true) {l : List Nat} (hl : ∀ x ∈ l, x ∈ colN) : drillV D (cnt l) = cnt (runs D l) :=
  cnt_perm (runs_perm hv (perm_cnt (rowv_col _) hl (cnt_rowv _)))
theorem drillV_hop {D : List Cl} (hv : ∀ c ∈ D, c.ok = true) : Hop (drillV D) := by
  refine ⟨?_, fun v x => ?_⟩
  · have : rowv Cyc.zero = [] := rfl
    unfold drillV
    rw [this, List.eq_nil_of_length_eq_zero (runs_len D [])]
    rfl
  · have hx : 97 + x.val ∈ colN := colN_iff.mpr (by have := x.isLt; omega)
    have ei : ix (97 + x.val) = x := Fin.ext (by have := ix_val hx; omega)
    have e1 : cnt (rowv v ++ [97 + x.val]) = add v x := by rw [cnt_snoc hx, cnt_rowv, ei]
    have hcol : ∀ y ∈ rowv v ++ [97 + x.val], y ∈ colN := fun y hy => by
      rcases List.mem_append.mp hy with q | q
      · exact rowv_col v y q
      · rw [List.mem_singleton.mp q]; exact hx
    obtain ⟨z, hz⟩ := runs_snoc hv (rowv v) (97 + x.val)
    have hzc : z ∈ colN := runs_col hv hcol z (by rw [hz]; simp)
    refine ⟨ix z, ?_⟩
    rw [← e1, drillV_cnt hv hcol, hz, cnt_snoc hzc]
    rfl
/-- so many runs -/
def itr (D : List Cl) : Nat → List Nat → List Nat
  | 0, l => l
  | n + 1, l => runs D (itr D n l)
theorem itr_add (D : List Cl) (m n : Nat) (l : List Nat) : itr D (m + n) l = itr D m (itr D n l) := by
  induction m with
  | zero => rw [Nat.zero_add]; rfl
  | succ m ih => rw [Nat.succ_add]; show runs D _ = runs D _; rw [ih]
theorem itr_len (D : List Cl) (l : List Nat) : ∀ n, (itr D n l).length = l.length
  | 0 => rfl
  | n + 1 => by show (runs D _).length = _; rw [runs_len, itr_len D l n]
theorem itr_col {D : List Cl} (hv : ∀ c ∈ D, c.ok = true) {l : List Nat} (hl : ∀ x ∈ l, x ∈ colN) : ∀ n, ∀ x ∈ itr D n l, x ∈ colN
  | 0 => hl
  | n + 1 => runs_col hv (itr_col hv hl n)
theorem itr_take {D : List Cl} (hv : ∀ c ∈ D, c.ok = true) (l : List Nat) (p : Nat) : ∀ n, (itr D n l).take p = itr D n (l.take p)
  | 0 => rfl
  | n + 1 => by show (runs D _).take p = runs D _; rw [runs_take hv, itr_take hv l p n]
theorem itr_cnt {D : List Cl} (hv : ∀ c ∈ D, c.ok = true) {l : List Nat} (hl : ∀ x ∈ l, x ∈ colN) : ∀ n, cnt (itr D n l) = Cyc.it (drillV D) n (cnt l)
  | 0 => rfl
  | n + 1 => by
    show cnt (runs D _) = drillV D _
    rw [← drillV_cnt hv (itr_col hv hl n), itr_cnt hv hl n]
theorem cnt_vec {l : List Nat} (hl : ∀ x ∈ l, x ∈ colN) : cnt l = vec (l.map ix) := by
  revert hl
  refine snocI (P := fun l => (∀ x ∈ l, x ∈ colN) → cnt l = vec (l.map ix)) (fun _ => rfl) (fun l a ih h => ?_) l
  rw [cnt_snoc (h a (by simp)), ih fun x hx => h x (List.mem_append_left _ hx), List.map_append]
  exact (vec_snoc _ _).symm
/-- two rows whose beginnings have the same counts -/
theorem rows_eq {l m : List Nat} (hl : ∀ x ∈ l, x ∈ colN) (hm : ∀ x ∈ m, x ∈ colN) (e : l.length = m.length) (h : ∀ p, cnt (l.take p) = cnt (m.take p)) : l = m := by
  refine List.ext_getElem? fun i => ?_
  by_cases hi : i < l.length
  · obtain ⟨x, hx⟩ := get_of_lt hi
    obtain ⟨y, hy⟩ := get_of_lt (l := m) (i := i) (by omega)
    have q := h (i + 1)
    have cx := hl x (List.mem_of_getElem? hx)
    have cy := hm y (List.mem_of_getElem? hy)
    rw [take_one hx, take_one hy, cnt_snoc cx, cnt_snoc cy, h i] at q
    have := add_inj q
    have e1 := ix_val cx
    have e2 := ix_val cy
    rw [hx, hy]
    rw [this] at e1
    congr 1
    omega
  · rw [List.getElem?_eq_none (by omega), List.getElem?_eq_none (by omega)]
/-- behind 360 runs a person the row comes back every 60 runs -/
theorem itr_back {D : List Cl} (hv : ∀ c ∈ D, c.ok = true) {l : List Nat} (hl : ∀ x ∈ l, x ∈ colN) {t : Nat} (ht : 360 * l.length ≤ t) : itr D (60 + t) l = itr D t l := by
  refine rows_eq (itr_col hv hl _) (itr_col hv hl _) (by rw [itr_len, itr_len]) fun p => ?_
  have hp : ∀ x ∈ l.take p, x ∈ colN := fun x hx => hl x (List.mem_of_mem_take hx)
  rw [itr_take hv, itr_take hv, itr_cnt hv hp, itr_cnt hv hp, it_add, cnt_vec hp]
  have c := (drillV_hop hv).chain ((l.take p).map ix)
  rw [List.length_map] at c
  have hle : 360 * (l.take p).length ≤ t := Nat.le_trans (Nat.mul_le_mul_left _ (by rw [List.length_take]; exact Nat.min_le_right _ _)) ht
  generalize hn : 360 * (l.take p).length = n at c hle
  rw [show t = (t - n) + n by omega, it_add, it_comm, c]
end Dr
/-! Repeated drills: the rows up to the first that comes again. -/
namespace Dr
open PySem L2
theorem rowOf_inj {l m : List Nat} (h : rowOf l = rowOf m) : l = m := by
  have : (rowOf l).cps.toList = (rowOf m).cps.toList := by rw [h]
  exact this
theorem rowOf_tl (z : Str) : rowOf z.cps.toList = z := TL.ext_tl rfl
def wkey (D : List Cl) (l : List Nat) (j : Nat) : Key × V := (.inr (rowOf (itr D j l)), .int (j : Int))
def dictW (D : List Cl) (l : List Nat) (k : Nat) : List (Key × V) := (List.range k).map (wkey D l)
/-- no row twice among the first k -/
def Apart (D : List Cl) (l : List Nat) (k : Nat) : Prop := ∀ a b, a < b → b < k → itr D a l ≠ itr D b l
theorem dictW_none {D : List Cl} {l : List Nat} {k : Nat} {z : Str} (h : ∀ j, j < k → rowOf (itr D j l) ≠ z) : valV (dictW D l k) (.inr z) = none := by
  unfold valV dictW
  rw [List.find?_eq_none.mpr]
  · rfl
  · intro p hp
    obtain ⟨j, hj, rfl⟩ := List.mem_map.mp hp
    have := h j (List.mem_range.mp hj)
    simp only [decide_eq_true_eq]
    exact fun e => this (Sum.inr.inj e)
theorem dictW_some {D : List Cl} {l : List Nat} : ∀ {k s : Nat}, Apart D l k → s < k → valV (dictW D l k) (.inr (rowOf (itr D s l))) = some (.int (s : Int)) := by
  intro k
  induction k with
  | zero => intro s _ h; exact absurd h (Nat.not_lt_zero _)
  | succ k ih =>
    intro s ap hs
    have e : dictW D l (k + 1) = dictW D l k ++ [wkey D l k] := by
      unfold dictW
      rw [List.range_succ, List.map_append]
      rfl
    have hn : valV (dictW D l k) (.inr (rowOf (itr D k l))) = none := dictW_none fun j hj q => ap j k hj (by omega) (rowOf_inj q)
    rw [e]
    show valV (dictW D l k ++ [(Sum.inr (rowOf (itr D k l)), V.int (k : Int))]) _ = _
    rw [valV_snoc _ _ _ _ hn]
    by_cases q : s = k
    · subst q
      rw [if_pos rfl]
    · have hs' : s < k := by omega
      rw [if_neg (fun z => ap s k hs' (by omega) (rowOf_inj (Sum.inr.inj z)))]
      exact ih (fun a b h1 h2 => ap a b h1 (by omega)) hs'
theorem dictW_more {D : List Cl} {l : List Nat} {k : Nat} (h : valV (dictW D l k) (.inr (rowOf (itr D k l))) = none) : putK (dictW D l k) (.inr (rowOf (itr D k l))) (.int (k : Int)) = dictW D l (k + 1) := by
  rw [putK_new _ h]
  unfold dictW
  rw [List.range_succ, List.map_append]
  rfl
theorem dictW_len (D : List Cl) (l : List Nat) (k : Nat) : (dictW D l k).length = k := by unfold dictW; rw [List.length_map, List.length_range]
/-- at most so many rows before one comes again -/
theorem apart_le {D : List Cl} (hv : ∀ c ∈ D, c.ok = true) {l : List Nat} (hl : ∀ x ∈ l, x ∈ colN) {k : Nat} (h : Apart D l k) : k ≤ 360 * l.length + 60 := by
  by_cases q : k ≤ 360 * l.length + 60
  · exact q
  · exact absurd (itr_back hv hl (Nat.le_refl _)).symm (h (360 * l.length) (60 + 360 * l.length) (by omega) (by omega))
/-- the walk into the cycle: m rows, then the row at s again -/
structure Walked (D : List Cl) (l : List Nat) (m s : Nat) : Prop where
  ap : Apart D l m
  lt : s < m
  back : itr D m l = itr D s l
theorem Walked.at {D : List Cl} {l : List Nat} {m s : Nat} (h : Walked D l m s) (n : Nat) : itr D (s + n) l = itr D (s + n % (m - s)) l := by
  have hp : 0 < m - s := by have := h.lt; omega
  have step : ∀ k, itr D (s + (m - s) + k) l = itr D (s + k) l := fun k => by
    rw [show s + (m - s) + k = k + m by have := h.lt; omega, itr_add, h.back, ← itr_add, Nat.add_comm]
  have key : ∀ q r, itr D (s + (r + (m - s) * q)) l = itr D (s + r) l := by
    intro q
    induction q with
    | zero => intro r; rfl
    | succ q ih =>
      intro r
      rw [show s + (r + (m - s) * (q + 1)) = s + (m - s) + (r + (m - s) * q) by rw [Nat.mul_succ]; omega, step, ih]
  have e := Nat.mod_add_div n (m - s)
  calc itr D (s + n) l = itr D (s + (n % (m - s) + (m - s) * (n / (m - s)))) l := by rw [e]
    _ = _ := key _ _
/-- the rows, as a list of texts -/
def rowsW (D : List Cl) (l : List Nat) (m : Nat) : List V := (List.range m).map fun j => V.str (rowOf (itr D j l))
theorem rowsW_len (D : List Cl) (l : List Nat) (m : Nat) : (rowsW D l m).length = m := by unfold rowsW; rw [List.length_map, List.length_range]
theorem rowsW_at {D : List Cl} {l : List Nat} {m j : Nat} (h : j < m) : (rowsW D l m)[j]? = some (V.str (rowOf (itr D j l))) := by
  unfold rowsW
  rw [List.getElem?_map, List.getElem?_range h]
  rfl
theorem rowsW_keys (D : List Cl) (l : List Nat) (m : Nat) : ((dictW D l m).map fun kv => kV kv.1) = rowsW D l m := by
  unfold dictW rowsW
  rw [List.map_map]
  rfl
def sp_walk (K : PySem.W.Frag) : Sp := fun vs H Q _ => ∃ (d : Addr) (D : List Cl) (z : Str), vs = [.ref d, .str z] ∧ DrillT K H d D ∧ (∀ c ∈ D, c.ok = true) ∧ (∀ c ∈ D, Cl.le (2 ^ 60) c) ∧ z.cps.size ≤ 1000 ∧ (∀ x ∈ z.cps.toList, x ∈ colN) ∧
  ∀ (H' : Hp) (p q : Addr) (m s : Nat), Same H H' → H p = none → H q = none → p ≠ q → H' p = some (.tup [.ref q, .int (s : Int)]) → H' q = some (.lst (rowsW D z.cps.toList m)) → Walked D z.cps.toList m s → Q (.ref p) H'
def sp_check_times (_ : PySem.W.Frag) : Sp := fun vs H Q _ => ∃ n : Int, vs = [.int n] ∧ 0 ≤ n ∧ Q .non H
def sp_repeat_drill (K : PySem.W.Frag) : Sp := fun vs H Q _ => ∃ (d : Addr) (D : List Cl) (z : Str) (n : Nat), vs = [.ref d, .str z, .int (n : Int)] ∧ DrillT K H d D ∧ (∀ c ∈ D, c.ok = true) ∧ (∀ c ∈ D, Cl.le (2 ^ 60) c) ∧ z.cps.size ≤ 1000 ∧ (∀ x ∈ z.cps.toList, x ∈ colN) ∧
  ∀ H', Same H H' → Q (.str (rowOf (itr D n z.cps.toList))) H'
end Dr
/-! The people of the laws with _law_pool, and their own walk of a drill. -/
namespace Dr
open PySem L2
theorem LettT.take {qs : List Tx} (h : LettT qs) {k : Nat} (hk : 1 ≤ k) : LettT (qs.take k) := by
  have sub := List.take_sublist k qs
  exact ⟨h.tk.sub sub, h.nd.sublist (sub.map _), fun p hp => h.col p (sub.subset hp), by rw [List.length_take]; have := h.pos; omega, Nat.le_trans (List.length_take_le' _ _) h.six⟩
def sp_pool_people (K : PySem.W.Frag) : Sp := fun vs H Q _ => ∃ (r l : Addr) (most : Int) (qs : List Tx) (c : Nat), vs = [.ref r, .ref l, .int most] ∧ Pool H r c ∧ c < 800000000 ∧ l ∉ [r] ∧ TF H l qs ∧ LettT qs ∧ 0 ≤ most ∧ most ≤ 60 ∧
  ∀ (H' : Hp) (z : Str), Same (hidL [r] H) (hidL [r] H') → Pool H' r (c + 1000) → (∀ x ∈ z.cps.toList, x ∈ colN) → (z.cps.size : Int) ≤ most → Q (.str z) H'
def sp_pool_called (K : PySem.W.Frag) : Sp := fun vs H Q _ => ∃ (t : Addr) (cl : Cl) (z : Str), vs = [.ref t, .str z] ∧ TCl K H t cl ∧ cl.ok = true ∧ Cl.le 20 cl ∧ z.cps.size ≤ 1000 ∧ ∀ H', Same H H' → Q (.str (rowOf (run1 cl z.cps.toList))) H'
def sp_pool_run (K : PySem.W.Frag) : Sp := fun vs H Q _ => ∃ (d : Addr) (D : List Cl) (z : Str), vs = [.ref d, .str z] ∧ DrillT K H d D ∧ (∀ c ∈ D, c.ok = true) ∧ (∀ c ∈ D, Cl.le 20 c) ∧ z.cps.size ≤ 1000 ∧ ∀ H', Same H H' → Q (.str (rowOf (runs D z.cps.toList))) H'
def sp_pool_right (_ : PySem.W.Frag) : Sp := fun vs H Q _ => ∃ (r : Addr) (c : Nat), vs = [.ref r] ∧ Pool H r c ∧ c < 700000000 ∧ ∀ H', Same (hidL [r] H) (hidL [r] H') → Pool H' r (c + 10000) → Q (.bl true) H'
end Dr
/-! The walk that the laws take themselves; the cycle. -/
namespace Dr
open PySem L2
theorem Walked.uniq {D : List Cl} {l : List Nat} {m s n t : Nat} (h : Walked D l m s) (g : Walked D l n t) : m = n ∧ s = t := by
  have a : ∀ {m s n t : Nat}, Walked D l m s → Walked D l n t → ¬ m < n := fun {m s n t} h g q => g.ap s m h.lt q h.back.symm
  have e : m = n := by
    have := a h g
    have := a g h
    omega
  subst e
  refine ⟨rfl, ?_⟩
  have b : ∀ {s t : Nat}, Walked D l m s → Walked D l m t → ¬ s < t := fun {s t} h g q => g.ap s t q g.lt (h.back.symm.trans g.back)
  have := b h g
  have := b g h
  omega
def sp_pool_history (K : PySem.W.Frag) : Sp := fun vs H Q _ => ∃ (d : Addr) (D : List Cl) (z : Str), vs = [.ref d, .str z] ∧ DrillT K H d D ∧ (∀ c ∈ D, c.ok = true) ∧ (∀ c ∈ D, Cl.le 20 c) ∧ z.cps.size ≤ 1000 ∧ (∀ x ∈ z.cps.toList, x ∈ colN) ∧
  (∀ H', Same H H' → Q .non H') ∧
  ∀ (H' : Hp) (p q : Addr) (m s : Nat), Same H H' → H p = none → H q = none → p ≠ q → H' p = some (.tup [.ref q, .int (s : Int)]) → H' q = some (.lst (rowsW D z.cps.toList m)) → Walked D z.cps.toList m s → Q (.ref p) H'
def sp_find_cycle (K : PySem.W.Frag) : Sp := fun vs H Q _ => ∃ (d : Addr) (D : List Cl) (z : Str), vs = [.ref d, .str z] ∧ DrillT K H d D ∧ (∀ c ∈ D, c.ok = true) ∧ (∀ c ∈ D, Cl.le (2 ^ 60) c) ∧ z.cps.size ≤ 1000 ∧ (∀ x ∈ z.cps.toList, x ∈ colN) ∧
  ∀ (H' : Hp) (p : Addr) (m s : Nat), Same H H' → H p = none → H' p = some (.tup [.int (s : Int), .int ((m : Int) - (s : Int))]) → Walked D z.cps.toList m s → Q (.ref p) H'
end Dr
/-! Data that are equal part by part: ints, texts, lists, tuples; zip of tuples. -/
namespace Dr
open PySem L2
theorem walk_zipT {K : PySem.W.Frag} {a b : Addr} {xs ys : List V} {n : Nat} (hn : n = min xs.length ys.length) : Walk (RZ.ItzT K a b) n (fun H => SqT K H a xs ∧ SqT K H b ys) (YPair (fun i => xs[i]?) fun i => ys[i]?) := by
  subst hn
  refine ⟨fun i _ hi q => ?_, fun _ q => ⟨xs, ys, q.1, q.2, by omega⟩, fun i H v H' _ q y => ?_⟩
  · have h1 : i < xs.length := by omega
    have h2 : i < ys.length := by omega
    exact ⟨xs, ys, xs[i], ys[i], q.1, q.2, by simp [h1], by simp [h2]⟩
  · obtain ⟨T, x, z, h1, h2, h3, h4, h5⟩ := y
    exact ⟨T, x, z, h1, h2, h3, h4 xs q.1, h5 ys q.2⟩
/-- ints, texts, lists and tuples of them, not deep -/
def SmI : Nat → PyData → Prop
  | 0, _ => False
  | n + 1, d => match d with
    | .int _ => True
    | .str _ => True
    | .list l => l.length ≤ 100000 ∧ ∀ e ∈ l, SmI n e
    | .tuple l => l.length ≤ 100000 ∧ ∀ e ∈ l, SmI n e
    | _ => False
def sp_sameI (K : PySem.W.Frag) (n : Nat) : Sp := fun vs H Q _ => ∃ (x y : V) (d : PyData), vs = [x, y] ∧ Dp K H x d ∧ Dp K H y d ∧ SmI n d ∧ ∀ H', Same H H' → Q (.bl true) H'
theorem ok_sameI_zero {P : Program} {w : World} {K : PySem.W.Frag} {mg : Str → Option Value} {base : Heap} {f : Addr} {fd : FuncData} {ps : List Str} {k : Nat} : FnOk P w K mg base CX0 k f fd ps (sp_sameI K 0) :=
  ⟨fun vs H Q E ⟨_, _, _, _, _, _, h, _⟩ => h.elim, fun _ _ _ _ _ _ _ _ _ _ _ _ _ ⟨_, _, _, _, _, _, h, _⟩ => h.elim⟩
end Dr
/-! Rows of the front, after many runs. -/
namespace Dr
open PySem L2
theorem itr_reps {D : List Cl} (l : List Nat) : ∀ n, itr D n l = runs (reps n D) l
  | 0 => rfl
  | n + 1 => by rw [reps_more, ← itr_reps l n]; rfl
theorem last_same {D : List Cl} (hv : ∀ c ∈ D, c.ok = true) {l m : List Nat} {x : Nat} (h : l.Perm m) : ∃ w, (runs D (l ++ [x]))[l.length]? = some w ∧ (runs D (m ++ [x]))[m.length]? = some w := by
  have g : ∀ k : List Nat, (k ++ [x])[k.length]? = some x := fun k => by simp
  obtain ⟨w1, h1, e1⟩ := ones_runs hv (g l)
  obtain ⟨w2, h2, e2⟩ := ones_runs hv (g m)
  have et : tally ((l ++ [x]).take l.length) = tally ((m ++ [x]).take m.length) := by
    rw [List.take_left, List.take_left]
    unfold tally
    exact List.map_congr_left fun c _ => by rw [h.count_eq]
  rw [et] at e1
  have := sg_inj (e1.symm.trans e2)
  exact ⟨w1, h1, by rw [this]; exact h2⟩
theorem cutS_at (z : Str) (k : Nat) (h : k < z.cps.toList.length) : (cutS z (some (k : Int)) (some ((k + 1 : Nat) : Int))).cps.toList = (z.cps.toList.drop k).take 1 := by
  unfold cutS
  rw [HT.sIx_nat, HT.sIx_nat]
  have e : z.length = z.cps.toList.length := by show z.cps.size = _; simp
  show (z.cps.toList.drop (min k z.length)).take (min (k + 1) z.length - min k z.length) = _
  rw [e, Nat.min_eq_left (by omega), Nat.min_eq_left (by omega), show k + 1 - k = 1 by omega]
def sp_pool_mixed (_ : PySem.W.Frag) : Sp := fun vs H Q _ => ∃ (r : Addr) (c : Nat) (z : Str), vs = [.ref r, .str z] ∧ Pool H r c ∧ c < 800000000 ∧ z.cps.size ≤ 1000 ∧
  ∀ (H' : Hp) (w : Str), Same (hidL [r] H) (hidL [r] H') → Pool H' r (c + 1000) → w.cps.toList.Perm z.cps.toList → Q (.str w) H'
def sp_more21 (_ : PySem.W.Frag) : Sp := fun vs H Q _ => ∃ (W L : Str) (p : Nat), vs = [.str W, .str L, .int (p : Int)] ∧ L.cps.size ≤ 1000 ∧ W.cps.size ≤ 1001 ∧ p ≤ L.cps.toList.length ∧
  (∀ e, p ≤ e → e ≤ L.cps.toList.length → ∃ g, g ∈ colN ∧ (W.cps.toList.take (e + 1)).Perm (L.cps.toList.take e ++ [g])) ∧ ∀ H', Same H H' → Q (.bl true) H'
end Dr
/-! [x for x in a told list if ..]: the items as they are. -/
namespace Dr
open PySem PySem.Spec PyProof.Rows L2
def tLcF (ta : TE) (tt : TT) (vs : List Nat) (ix : Nat) : TE := fun σ H Q => ta σ H fun v H1 => ∃ (a : Addr) (ps : List Tx) (keep : Tx → Bool), v = .ref a ∧ TF H1 a ps ∧
  (∀ p ∈ ps, wipe ((wipe σ vs).set ix (some (tV p))) vs = wipe σ vs ∧ ∀ H2, tt ((wipe σ vs).set ix (some (tV p))) H2 fun b H3 => H3 = H2 ∧ b = keep p) ∧
  ∀ D, H1 D = none → Q (.ref D) (upd H1 D (TLst D ((ps.filter keep).map tv)))
section
variable {X : Cx}
theorem filter_more {α : Type} {p : α → Bool} {l : List α} {i : Nat} {x : α} (h : l[i]? = some x) : (l.take (i + 1)).filter p = if p x = true then (l.take i).filter p ++ [x] else (l.take i).filter p := by
  rw [take_one h, List.filter_append]
  by_cases q : p x = true
  · rw [if_pos q, List.filter_cons_of_pos q]; rfl
  · rw [if_neg q, List.filter_cons_of_neg (by simpa using q)]; simp
theorem lcf_core {pins : List (Addr × Obj)} {s : Shared} {σ : L2.St} {H : Hp} {Q : VK} {iter cond : Expr} {x : Str} {scope : Scope} {own : List (Str × Nat)} {ix : Nat} {pos pos' p1 p2 : Pos} {ta : TE} {tt : TT} {use : Option (Value → Sem Unit)} {Qf : Value → Shared → Prop}
    (hc : X.calm = true) (hN : X.N.Nodup) (I : Inv X pins σ H s) (ha : PEK X iter ta) (ok : BlkOk X.N X.env.scope scope own) (hi : X.N[ix]? = some x)
    (hx : ∀ (s : Shared) (H : Hp) (C : Addr) (cl : List (Str × Addr)) (fp : List Addr), Loc (X.blk s H scope (compEnvC scope cl C X.env) fp).env.scope x ∧ ((X.blk s H scope (compEnvC scope cl C X.env) fp).fn x = true ∨ (X.blk s H scope (compEnvC scope cl C X.env) fp).env.scope.names.lookup x = some .local))
    (ht : ∀ (s : Shared) (H : Hp) (C : Addr) (cl : List (Str × Addr)) (fp : List Addr), PTK (X.blk s H scope (compEnvC scope cl C X.env) fp) cond tt)
    (hd : (x == ("__debug__" : Str)) = false) (hcd : (x == ("__classdict__" : Str)) = false)
    (hs : ∀ x, foldedSetIterable iter X.env x = pure x)
    (h : tLcF ta tt (own.map (·.2)) ix σ H Q)
    (fin : ∀ D C s' m H', Inv X pins σ H' s' → Kp X s s' → Q (.ref D) H' → s'.heap.Ns C m → FpOk X pins H' C → compPost (model X.prog X.w) X.A X.xe use Qf (.ref D) C (.ok .next) s') :
    wpAny (model X.prog X.w) X.A (comprehension (.ListComp (.Name x p1) [⟨.Name x p2, iter, [cond], 0⟩] scope pos) scope X.env pos' (newList []) false (eval iter X.env) use) Qf X.xe s := by
  have fr : ∀ y ∈ scope.names, y.2 = .free → ∃ c, X.env.cells.lookup y.1 = some c := fun y hy e => (ok.free y hy e).elim (fun k => I.ok.has _ (.inl k)) fun k => I.ok.has _ (.inr k)
  refine wpAny_comprehension_free (use := use) rfl hs (closure_ok fr) ok.kind (fun y hy e => by rw [ok.uniq y hy, e]) (thn (ha pins s σ H _ I h) fun xv s1 hx1 => ?_)
  obtain ⟨⟨v1, H2, I1, r1, q1⟩, k01⟩ := hx1
  obtain ⟨a, ps, keep, rfl, hF, hk, q⟩ := q1
  cases r1
  refine wpAny_pyIter_list (hF.isL I1) ?_
  obtain ⟨it, hit⟩ : ∃ it, s1.heap.objs.size = it := ⟨_, rfl⟩
  rw [hit]
  obtain ⟨s2, e2⟩ : ∃ s2 : Shared, ({ s1 with heap := s1.heap.push { cls := .type "list_iterator", data := .fields #[.ref a, .int 0 0] } } : Shared) = s2 := ⟨_, rfl⟩
  rw [e2]
  have I2 : Inv X pins σ H2 s2 := by rw [← e2]; exact I1.kept (t' := s1.toks) fun b o e => Heap.get?_push_of_some _ e
  have st2 : s2.heap.IsListIter it a 0 := by rw [← e2, ← hit]; exact ⟨_, Heap.get?_push_size _ rfl, rfl, rfl⟩
  have f2 : ∀ b ∈ [it], FpOk X pins H2 b := fun b hb => by
    rw [List.mem_singleton.mp hb, ← hit]
    exact I1.fpOk (Nat.le_refl _) (I1.hok.fresh (Nat.le_refl _))
  have T := turn_list (P := X.prog) (w := X.w) (K := X.K) (tg := .Name x p2) a it
  have k12 : Kp X s1 s2 := by rw [← e2]; exact Kp.all fun b o e => Heap.get?_push_of_some _ e
  clear e2 hit
  refine wpAny_newObj_type (newEnv_comp ?_) (by show 0 ≤ sizeLine; decide)
  obtain ⟨D, hD⟩ : ∃ D, s2.heap.objs.size = D := ⟨_, rfl⟩
  rw [hD]
  have nD : H2 D = none := I2.hok.fresh (Nat.le_of_eq hD)
  obtain ⟨s3, e3⟩ : ∃ s3 : Shared, ({ s2 with heap := s2.heap.push { cls := .type "list", data := .seq ([] : List Value).toArray } } : Shared) = s3 := ⟨_, rfl⟩
  have h3 : s3.heap = s2.heap.push { cls := .type "list", data := .seq ([] : List Value).toArray } := by rw [← e3]
  have gD : (s2.heap.push { cls := .type "list", data := .seq ([] : List Value).toArray }).get? D = some { cls := .type "list", data := .seq ([] : List Value).toArray } := by rw [← hD]; exact Heap.get?_push_size _ rfl
  have I3 : Inv X pins σ (upd H2 D (TLst D [])) s3 := by
    rw [← e3]
    exact I2.laid (t' := s2.toks) (fun b o e => Heap.get?_push_of_some _ e) (Nat.le_of_eq hD) (tlst_ok gD)
  have k23 : Kp X s2 s3 := by rw [← e3]; exact Kp.all fun b o e => Heap.get?_push_of_some _ e
  rw [e3]
  have below : ∀ b ∈ [it], b < s2.heap.objs.size := fun b hb => let ⟨_, z, _⟩ := T.obj _ _ st2 b hb; Heap.lt_size z
  have away : ∀ b ∈ [it], FpOk X pins (upd H2 D (TLst D [])) b ∧ b < s3.heap.objs.size := fun b hb => by
    have lt := below b hb
    refine ⟨⟨?_, (f2 b hb).2⟩, by rw [h3, Heap.size_push]; exact Nat.lt_succ_of_lt lt⟩
    rw [upd_ne (by rw [← hD]; exact Nat.ne_of_lt lt)]
    exact (f2 b hb).1
  have st3 : s3.heap.IsListIter it a 0 := T.keep _ _ _ st2 fun b _ o z => by rw [h3]; exact Heap.get?_push_of_some _ z
  have I4 := block_start I3 ok hN away
  have jx := hx s3 (upd H2 D (TLst D [])) s3.heap.objs.size (cellsFrom (s3.heap.objs.size + 1) scope.names (cloFrom X.env.cells scope.names [])) [it]
  have jt := ht s3 (upd H2 D (TLst D [])) s3.heap.objs.size (cellsFrom (s3.heap.objs.size + 1) scope.names (cloFrom X.env.cells scope.names [])) [it]
  have no0 : ∀ b ∈ [it], (upd H2 D (TLst D [])) b = none := fun b hb => (away b hb).1.1
  show codeAny _ _ (.compStart (.ListComp (.Name x p1) [⟨.Name x p2, iter, [cond], 0⟩] scope pos) 0 (.ref it) (.ref D) (compEnvC scope (cellsFrom (s3.heap.objs.size + 1) scope.names (cloFrom X.env.cells scope.names [])) s3.heap.objs.size X.env)) (compPost (model X.prog X.w) X.A X.xe use Qf (.ref D) s3.heap.objs.size) { s3 with heap := pushCells (s3.heap.push { cls := .type "dict", data := .dict #[] }) scope.names }
  obtain ⟨ce, hce⟩ : ∃ ce, compEnvC scope (cellsFrom (s3.heap.objs.size + 1) scope.names (cloFrom X.env.cells scope.names [])) s3.heap.objs.size X.env = ce := ⟨_, rfl⟩
  rw [hce] at I4 jx jt ⊢
  have eL : ce.locals = s3.heap.objs.size := by rw [← hce] <;> rfl
  have hFD : TF (upd H2 D (TLst D [])) a ps := hF.same (Same.new nD)
  obtain ⟨H3, hH⟩ : ∃ H3, upd H2 D (TLst D []) = H3 := ⟨_, rfl⟩
  have hne : D ≠ a := fun e => by
    obtain ⟨o, n, z, _⟩ := hF
    rw [← e, nD] at z
    cases z
  have hHk : ∀ k : Nat, upd H2 D (TLst D ((((ps.take k).filter keep)).map tv)) = upd H3 D (TLst D ((((ps.take k).filter keep)).map tv)) := fun k => by rw [← hH, upd_upd]
  have hFk : ∀ us, TF (upd H3 D (TLst D us)) a ps := fun us => by
    obtain ⟨o, n, z, r⟩ := hFD
    refine ⟨o, n, ?_, r⟩
    rw [upd_ne (Ne.symm hne), ← hH]
    exact z
  have h30 : H3 = upd H3 D (TLst D (((ps.take 0).filter keep).map tv)) := by rw [← hH, upd_upd]; rfl
  rw [hH] at I3 I4 jx jt no0 away
  have noK : ∀ us, ∀ b ∈ [it], (upd H3 D (TLst D us)) b = none := fun us b hb => by
    rw [upd_ne (by rw [← hD]; exact Nat.ne_of_lt (below b hb))]
    exact no0 b hb
  have hps : (ps.map tV).length ≤ sizeLine := by
    obtain ⟨o, n, _, _, _, z⟩ := hF.at I1
    exact z
  rw [List.length_map] at hps
  obtain ⟨s4, e4⟩ : ∃ s4 : Shared, ({ s3 with heap := pushCells (s3.heap.push { cls := .type "dict", data := .dict #[] }) scope.names } : Shared) = s4 := ⟨_, rfl⟩
  rw [e4] at I4 ⊢
  have st4 : s4.heap.IsListIter it a 0 := T.keep _ _ _ st3 fun b _ o z => by rw [← e4]; exact pushCells_keeps _ _ _ _ (Heap.get?_push_of_some _ z)
  have stay : ∀ {σ' : L2.St} {H' : Hp} {s' : Shared}, Inv (X.blk s3 H3 scope ce [it]) [] σ' H' s' → (∀ b ∈ [it], H' b = none) → ∀ b ∈ [it], FpOk (X.blk s3 H3 scope ce [it]) [] H' b := fun I' nn b hb =>
    ⟨nn b hb, (I'.ok.exf b hb).1, I'.ok.exfs b hb, .inl hb, fun x c z => (I'.ok.exf b hb).2 x c z, fun p hp => absurd (show p ∈ ([] : List (Addr × Obj)) ++ [] from hp) (by simp)⟩
  have loop : codeAny (model X.prog X.w) X.A (.compLoop (.ListComp (.Name x p1) [⟨.Name x p2, iter, [cond], 0⟩] scope pos) 0 (.ref it) (.ref D) ce) (compPost (model X.prog X.w) X.A X.xe use Qf (.ref D) s3.heap.objs.size) s4 := by
    refine compLoop_any (fun n s' => ∃ i, i ≤ ps.length ∧ n = ps.length - i ∧ Inv (X.blk s3 H3 scope ce [it]) [] (wipe σ (own.map (·.2))) (upd H3 D (TLst D (((ps.take i).filter keep).map tv))) s' ∧ s'.heap.IsListIter it a i) ?_ ps.length ⟨0, Nat.zero_le _, rfl, by rw [← h30]; exact I4, st4⟩
    intro n s5 hn5
    obtain ⟨i, hi5, rfl, I5, st5⟩ := hn5
    rcases Nat.lt_or_ge i ps.length with lt | ge
    · obtain ⟨p, hp⟩ := get_of_lt lt
      obtain ⟨ew, hk2⟩ := hk p (List.mem_of_getElem? hp)
      have nn5 := noK (((ps.take i).filter keep).map tv)
      obtain ⟨f0, f1, f2', f3, f4, f5⟩ := stay I5 nn5 it (by simp)
      refine wpAny_pyNext_list_item st5 ((hFk _).isL I5) (x := tv p) (by simp [hp]) fun h' st6 sb => ?_
      obtain ⟨o6, g6, c6, d6⟩ := id st6
      have I6 : Inv (X.blk s3 H3 scope ce [it]) [] (wipe σ (own.map (·.2))) (upd H3 D (TLst D (((ps.take i).filter keep).map tv))) { s5 with heap := h' } := I5.turned (t' := s5.toks) (fun b o hb e => (sb.2 b hb).trans e) f0 f1 f3 f4 f5
      refine go_of (s := { s5 with heap := h' }) g6 c6 d6 (by decide) ?_
      obtain ⟨s6, e6⟩ : ∃ s6 : Shared, ({ s5 with heap := h' } : Shared) = s6 := ⟨_, rfl⟩
      have h6 : s6.heap = h' := by rw [← e6]
      rw [e6] at I6 ⊢
      rw [← h6] at st6 g6
      have I6p := I6.pinned (stay I6 nn5) (T.obj _ _ st6)
      refine wpAny_assign_Name (wpAny_mono (store_at I6p hN hi jx.1 (show RelV (tV p) (tv p) from ⟨_, rfl⟩) jx.2) (fun _ s7 h7 => ?_) fun _ _ z => z.elim)
      obtain ⟨I7, at7, _⟩ := h7
      have q7 := hk2 (upd H3 D (TLst D (((ps.take i).filter keep).map tv)))
      refine wpAny_tests_one (wpAny_mono (jt _ s7 _ _ _ I7 q7) (fun b s8 h8 => ?_) fun _ _ z => (show False from z).elim)
      obtain ⟨⟨H8, I8, rfl, rfl⟩, k8⟩ := h8
      have at8 := k8 _ _ at7
      have next : ∀ {s' : Shared}, Inv (X.blk s3 H3 scope ce [it]) ([] ++ pinsAt [it] s6.heap) ((wipe σ (own.map (·.2))).set ix (some (tV p))) (upd H3 D (TLst D (((ps.take (i + 1)).filter keep).map tv))) s' →
          ∃ m, m < ps.length - i ∧ ∃ i, i ≤ ps.length ∧ m = ps.length - i ∧ Inv (X.blk s3 H3 scope ce [it]) [] (wipe σ (own.map (·.2))) (upd H3 D (TLst D (((ps.take i).filter keep).map tv))) s' ∧ s'.heap.IsListIter it a i := fun {s'} J' => by
        have at7 : ∀ b ∈ [it], ∀ o, s6.heap.get? b = some o → s'.heap.get? b = some o ∧ _ = none := fun b hb o z =>
          let y := J'.pin (b, o) (List.mem_append_right _ (List.mem_append_right _ (mem_pinsAt hb z))); ⟨y.1, y.2.1⟩
        have sz : (wipe σ (own.map (·.2))).length = ((wipe σ (own.map (·.2))).set ix (some (tV p))).length := by rw [List.length_set]
        refine ⟨ps.length - (i + 1), by omega, i + 1, lt, rfl, (J'.unpinned (pins := [])).weak sz (fun j v z => (wipe_some (ew.symm ▸ z)).1), T.keep _ _ _ st6 fun b hb o z => (at7 b hb o z).1⟩
      cases hb : keep p with
      | false =>
        refine next ?_
        rw [filter_more hp, if_neg (by rw [hb]; decide)]
        exact I8
      | true =>
        refine read_at I8.ok at8 ?_ hd hcd
        refine tl_more (X := X.blk s3 H3 scope ce [it]) I8 upd_same (Nat.lt_of_le_of_lt (by rw [List.length_map]; exact Nat.le_trans (List.length_filter_le _ _) (by rw [List.length_take]; omega : _ ≤ i)) (Nat.lt_of_lt_of_le lt hps)) fun s11 I11 => next ?_
        rw [filter_more hp, if_pos hb, List.map_append]
        rw [upd_upd] at I11
        exact I11
    · have ei : i = ps.length := Nat.le_antisymm hi5 ge
      subst ei
      have nn5 := noK (((ps.take ps.length).filter keep).map tv)
      refine thnF (T.done (X.blk s3 H3 scope ce [it]) rfl rfl rfl hc _ [] s5 _ _ (fun _ _ => False) I5 (stay I5 nn5) st5 ⟨_, (hFk _).sq, by rw [List.length_map]; exact Nat.le_refl _⟩) fun r s6 hr6 => ?_
      obtain ⟨rfl, I6⟩ := hr6
      have I7 : Inv X pins σ _ s6 := I3.call' (ch := [it]) I6.os I6.base I6.hok I6.bare fun b hb => ⟨(away b hb).1.2.2.2.1, (away b hb).1.2.1, (away b hb).1.2.2.2.2.1, (away b hb).1.2.2.2.2.2⟩
      have k36 : Kp X s3 s6 := Kp.objs (fun o e => I6.base.any e I3.free (fun z => (away it (by simp)).1.2.1 (List.mem_singleton.mp z).symm)) fun x c o hc e => I6.base.any e (I3.freeC x c hc) (fun z => (away it (by simp)).1.2.2.2.2.1 x c hc (List.mem_singleton.mp z))
      have noC : (upd H3 D (TLst D (((ps.take ps.length).filter keep).map tv))) s3.heap.objs.size = none := eL ▸ (show (upd H3 D (TLst D (((ps.take ps.length).filter keep).map tv))) ce.locals = none from I6.free)
      obtain ⟨m, hns, _⟩ := I6.loc
      have qq := q D nD
      rw [← List.take_length (l := ps), hHk] at qq
      exact fin D s3.heap.objs.size s6 m _ I7 (k01.trans (k12.trans (k23.trans k36))) qq (eL ▸ (show s6.heap.Ns ce.locals m from hns)) (I3.fpOk (Nat.le_refl _) noC)
  exact codeAny_compStart_list loop (T.self X.A 0 _ _ _ st4 loop)
theorem pe_lcF {iter cond : Expr} {x : Str} {scope : Scope} {own : List (Str × Nat)} {ix : Nat} {pos p1 p2 : Pos} {ta : TE} {tt : TT} (hc : X.calm = true) (hN : X.N.Nodup) (ha : PEK X iter ta) (ok : BlkOk X.N X.env.scope scope own) (hi : X.N[ix]? = some x)
    (hx : ∀ (s : Shared) (H : Hp) (C : Addr) (cl : List (Str × Addr)) (fp : List Addr), Loc (X.blk s H scope (compEnvC scope cl C X.env) fp).env.scope x ∧ ((X.blk s H scope (compEnvC scope cl C X.env) fp).fn x = true ∨ (X.blk s H scope (compEnvC scope cl C X.env) fp).env.scope.names.lookup x = some .local))
    (ht : ∀ (s : Shared) (H : Hp) (C : Addr) (cl : List (Str × Addr)) (fp : List Addr), PTK (X.blk s H scope (compEnvC scope cl C X.env) fp) cond tt)
    (hd : (x == ("__debug__" : Str)) = false := by decide) (hcd : (x == ("__classdict__" : Str)) = false := by decide) (hs : ∀ x, foldedSetIterable iter X.env x = pure x := by intro _; rfl) :
    PEK X (.ListComp (.Name x p1) [⟨.Name x p2, iter, [cond], 0⟩] scope pos) (tLcF ta tt (own.map (·.2)) ix) := by
  intro pins s σ H Q I h
  rw [eval_ListComp]
  refine lcf_core hc hN I ha ok hi hx ht hd hcd hs h fun D C s' m H' I' k q hn f => ⟨m, hn, fun h2 sb => ⟨⟨.ref D, H', ?_, rfl, q⟩, k.trans ?_⟩⟩
  all_goals obtain ⟨f0, f1, f2, f3, f4, f5⟩ := f
  · exact I'.turned (t' := s'.toks) (fun b o hb z => (sb.2 b hb).trans z) f0 f1 f3 f4 f5
  · exact Kp.objs (fun o e => ⟨o.slots, (sb.2 _ (Ne.symm f1)).trans e⟩) fun x c o hc e => ⟨o.slots, (sb.2 _ (f4 x c hc)).trans e⟩
/-- what is made told is read only from now on; the frame is kept -/
theorem pek_frz {e : Expr} {te : TE} (he : PEK X e te) : PEK X e (fun σ H Q => te σ H fun v H1 => ∃ (a : Addr) (ps : List Tx), v = .ref a ∧ H1 a = some (TLst a (ps.map tv)) ∧ ps.length ≤ sizeLine ∧ ∀ u, TF (upd H1 a u) a ps → Q (.ref a) (upd H1 a u)) := by
  refine fun pins s σ H Q I h => thn (he pins s σ H _ I h) fun u s1 hu => ?_
  obtain ⟨⟨v, H1, I1, r1, a, ps, rfl, ha, hz, q⟩, k⟩ := hu
  refine ⟨?_, k⟩
  obtain ⟨n, e1⟩ := tlst_at I1.hok ha
  have I2 : Inv X pins σ (upd H1 a (.frz { cls := .type "list", data := .seq (ps.map tv).toArray n } (.lst (ps.map tV)))) s1 :=
    I1.write (t' := s1.toks) (h' := s1.heap) (by rw [ha]; trivial) (.inl rfl) (fun b u _ z => z) ⟨_, e1⟩ ⟨e1, by rw [List.length_map]; exact hz, _, n, tx_vals ps, e1⟩
  exact ⟨.ref a, _, I2, r1, q _ ⟨_, n, upd_same, rfl, rfl⟩⟩
/-- y = [x for x in a told list if ..], read only from then on; what other names hold is told as before -/
theorem ks_setLcF {i : Nat} {y : Str} {py : Pos} {iter cond : Expr} {x : Str} {scope : Scope} {own : List (Str × Nat)} {ix : Nat} {pos p1 p2 spos : Pos} {ta : TE} {tt : TT} (hc : X.calm = true) (hN : X.N.Nodup) (hy : X.N[i]? = some y) (hyl : X.env.scope.names.lookup y = some .local)
    (hsw : swapsWith (.ListComp (.Name x p1) [⟨.Name x p2, iter, [cond], 0⟩] scope pos) (some (.Name y py)) spos.line X.env = pure true) (ha : PEK X iter ta) (ok : BlkOk X.N X.env.scope scope own) (hi : X.N[ix]? = some x)
    (hx : ∀ (s : Shared) (H : Hp) (C : Addr) (cl : List (Str × Addr)) (fp : List Addr), Loc (X.blk s H scope (compEnvC scope cl C X.env) fp).env.scope x ∧ ((X.blk s H scope (compEnvC scope cl C X.env) fp).fn x = true ∨ (X.blk s H scope (compEnvC scope cl C X.env) fp).env.scope.names.lookup x = some .local))
    (ht : ∀ (s : Shared) (H : Hp) (C : Addr) (cl : List (Str × Addr)) (fp : List Addr), PTK (X.blk s H scope (compEnvC scope cl C X.env) fp) cond tt)
    (hd : (x == ("__debug__" : Str)) = false := by decide) (hcd : (x == ("__classdict__" : Str)) = false := by decide) (hs : ∀ x, foldedSetIterable iter X.env x = pure x := by intro _; rfl) :
    PSK X (.Assign [.Name y py] (.ListComp (.Name x p1) [⟨.Name x p2, iter, [cond], 0⟩] scope pos) spos) (fun D σ τ H => tLcF ta tt (own.map (·.2)) ix σ H fun v H1 => ∃ (a : Addr) (ps : List Tx), v = .ref a ∧ H1 a = some (TLst a (ps.map tv)) ∧ ps.length ≤ sizeLine ∧ ∀ u, TF (upd H1 a u) a ps → D.nx (σ.set i (some (.ref a))) (forget i τ) (upd H1 a u)) := by
  intro pins s σ τ H D I T h
  rw [exec_Assign_Name_used _ _ _ _ hsw]
  refine wpAny_bind (wpAny_standAt (wpAny_bind ?_))
  show wpAny _ X.A (do let _ ← comprehension (.ListComp (.Name x p1) [⟨.Name x p2, iter, [cond], 0⟩] scope pos) scope X.env (firstIterPos [⟨.Name x p2, iter, [cond], 0⟩] pos) (newList []) false (eval iter X.env) (some (assign (.Name y py) X.env))) _ _ s
  refine wpAny_bind (thn (lcf_core (Qf := fun _ s' => SPT X pins D .next s') hc hN I ha ok hi hx ht hd hcd hs h fun L C s' m H' I' k q hn f => ?_) fun _ s' hq => wpAny_pure (wpAny_pure hq))
  show wpAny _ _ (assign (.Name y py) X.env (.ref L)) _ _ _
  obtain ⟨a, ps, ea, hL, hz, q⟩ := q
  cases ea
  obtain ⟨n, e1⟩ := tlst_at I'.hok hL
  have I1 : Inv X pins σ (upd H' L (.frz { cls := .type "list", data := .seq (ps.map tv).toArray n } (.lst (ps.map tV)))) s' :=
    I'.write (t' := s'.toks) (h' := s'.heap) (by rw [hL]; trivial) (.inl rfl) (fun b u _ z => z) ⟨_, e1⟩ ⟨e1, by rw [List.length_map]; exact hz, _, n, tx_vals ps, e1⟩
  have qq := q (.frz { cls := .type "list", data := .seq (ps.map tv).toArray n } (.lst (ps.map tV))) ⟨{ cls := .type "list", data := .seq (ps.map tv).toArray n }, n, upd_same, rfl, rfl⟩
  obtain ⟨H1, eH⟩ : ∃ H1, upd H' L (.frz { cls := .type "list", data := .seq (ps.map tv).toArray n } (.lst (ps.map tV))) = H1 := ⟨_, rfl⟩
  have nC : H1 C = none := by
    rw [← eH]
    by_cases e : C = L
    · rw [e] at f
      have := f.1
      rw [hL] at this
      cases this
    · rw [upd_ne e]; exact f.1
  rw [eH] at I1 qq
  refine wpAny_assign_Name (wpAny_mono (DrDet.both (store_ok2 (v := V.ref L) (Q := fun _ s2 => Inv X pins (σ.set i (some (.ref L))) H1 s2 ∧ ∃ m, s2.heap.Ns C m) (E := fun _ _ => False) I1 hN hy (.inl hyl) rfl (fun s2 I2 ⟨a, sb, ha⟩ => ?_) (.inr hyl)) (store_at (v := V.ref L) I1 hN hy (.inl hyl) rfl (.inr hyl))) (fun _ s2 z => ?_) fun _ _ z => z.1.elim)
  · obtain ⟨f0, f1, f2, f3, f4, f5⟩ := f
    have haC : C ≠ a := by
      rcases ha with z | z
      · rw [z]; exact f1
      · exact fun e => f4 y a z e.symm
    exact ⟨I2, m, hn.sameBut sb haC⟩
  · obtain ⟨⟨I2, m2, hn2⟩, _, _, k2⟩ := z
    refine ⟨m2, hn2, fun h3 sb3 => ?_⟩
    obtain ⟨f0, f1, f2, f3, f4, f5⟩ := f
    have k3 : Kp X s2 { s2 with heap := h3 } := Kp.objs (fun o e => ⟨o.slots, (sb3.2 _ (Ne.symm f1)).trans e⟩) fun x c o hc e => ⟨o.slots, (sb3.2 _ (f4 x c hc)).trans e⟩
    exact ⟨_, _, H1, I2.turned (t' := s2.toks) (fun b o hb e => (sb3.2 b hb).trans e) nC f1 f3 f4 f5, ((T.kp k).store (u := .ref L) hy hN k2).kp k3, qq⟩
end
end Dr
/-! Calls and drills of the laws with _law_bag. -/
namespace Dr
open PySem L2
theorem Bag.ndsame {H : Hp} {r q a : Addr} {c : Nat} {ps : List Tx} (h : Bag H r q c) (hF : TF H a ps) : a ∉ [r, q] := fun z => by
  obtain ⟨o, k, e, _⟩ := hF
  obtain ⟨_, ds, l', t, f, h1, h2, h3⟩ := h
  simp only [List.mem_cons, List.not_mem_nil, or_false] at z
  rcases z with rfl | rfl
  · rw [e] at h1; cases h1
  · rw [e] at h2; cases h2
def oth (x : Tx) (y : Tx) : Bool := !decide (V.str y.1 = V.str x.1)
theorem oth_iff {x y : Tx} : oth x y = true ↔ y.1 ≠ x.1 := by
  unfold oth
  by_cases h : y.1 = x.1
  · simp [h]
  · simp [h]
theorem LettT.oth {qs : List Tx} (h : LettT qs) (h2 : 2 ≤ qs.length) (x : Tx) : LettT (qs.filter (Dr.oth x)) := by
  have sub : (qs.filter (Dr.oth x)).Sublist qs := List.filter_sublist
  refine ⟨h.tk.sub sub, h.nd.sublist (sub.map _), fun p hp => h.col p (sub.subset hp), ?_, Nat.le_trans (List.length_filter_le _ _) h.six⟩
  obtain ⟨a, ha⟩ := get_of_lt (l := qs) (i := 0) (by omega)
  obtain ⟨b, hb⟩ := get_of_lt (l := qs) (i := 1) (by omega)
  have ab : a.1 ≠ b.1 := fun e => by
    have nd := h.nd
    have := (List.getElem?_inj (by rw [List.length_map]; omega : 0 < (qs.map (·.1)).length) nd (j := 1)).mp (by rw [List.getElem?_map, List.getElem?_map, ha, hb]; simp [e])
    cases this
  have : ∃ y ∈ qs, Dr.oth x y = true := by
    by_cases e : a.1 = x.1
    · exact ⟨b, List.mem_of_getElem? hb, oth_iff.mpr fun z => ab (e.trans z.symm)⟩
    · exact ⟨a, List.mem_of_getElem? ha, oth_iff.mpr e⟩
  obtain ⟨y, hy, e⟩ := this
  exact List.length_pos_of_mem (List.mem_filter.mpr ⟨hy, e⟩)
theorem Tks.tok_ne {qs : List Tx} (h : Tks qs) {x z : Tx} (hx : x ∈ qs) (hz : z ∈ qs) (ne : x.1 ≠ z.1) : x.2 ≠ z.2 := fun e => by
  obtain ⟨i, hi⟩ := List.getElem?_of_mem hx
  obtain ⟨j, hj⟩ := List.getElem?_of_mem hz
  have := (List.getElem?_inj (by rw [List.length_map]; exact lt_of_get hi : i < (qs.map (·.2)).length) h.1 (j := j)).mp (by rw [List.getElem?_map, List.getElem?_map, hi, hj]; simp [e])
  subst this
  rw [hi] at hj
  cases hj
  exact ne rfl
/-- a call between colours of qs -/
def Among (qs : List Tx) (cl : Cl) : Prop := cl.a ∈ qs.map (·.1) ∧ cl.b ∈ qs.map (·.1)
def sp_bag_call (K : PySem.W.Frag) : Sp := fun vs H Q _ => ∃ (r q a : Addr) (most : Int) (qs : List Tx) (c : Nat), vs = [.ref r, .ref a, .int most] ∧ Bag H r q c ∧ c < 900000000 ∧ TF H a qs ∧ LettT qs ∧ 2 ≤ qs.length ∧ 1 ≤ most ∧ most ≤ 20 ∧
  ∀ (H' : Hp) (t : Addr) (cl : Cl), Same (hidL [r, q] H) (hidL [r, q] H') → Bag H' r q (c + 10) → t ∉ [r, q] → (∃ o vs, H' t = some (.frz o (.tup vs))) → TCl K (hidL [r, q] H') t cl → cl.ok = true → Cl.le most cl → Among qs cl → Q (.ref t) H'
def sp_bag_drill (K : PySem.W.Frag) : Sp := fun vs H Q _ => ∃ (r q a : Addr) (len most : Int) (qs : List Tx) (c : Nat), vs = [.ref r, .ref a, .int len, .int most] ∧ Bag H r q c ∧ c < 800000000 ∧ TF H a qs ∧ LettT qs ∧ 2 ≤ qs.length ∧ 0 ≤ len ∧ len ≤ 60 ∧ 1 ≤ most ∧ most ≤ 20 ∧
  ∀ (H' : Hp) (d : Addr) (D : List Cl), Same (hidL [r, q] H) (hidL [r, q] H') → Bag H' r q (c + 1000) → H d = none → d ∉ [r, q] → DrillT K (hidL [r, q] H') d D → (∀ cl ∈ D, cl.ok = true) → (∀ cl ∈ D, Cl.le most cl) → (∀ cl ∈ D, Among qs cl) → (D.length : Int) ≤ len → Q (.ref d) H'
end Dr
/-! How many tokens are out at least: told from def to def. -/
namespace Dr
open PySem PySem.Spec PyProof.Rows L2
abbrev VKN := V → Hp → Nat → Prop
abbrev SpN := List V → Hp → Nat → VKN → XK → Prop
abbrev TEN := L2.St → Hp → VKN → Prop
structure EndsN where
  nx : L2.St → Hp → Nat → Prop
  rt : VKN
abbrev TSN := EndsN → L2.St → Hp → Prop
/-- a promise where n tokens are out, of how many are out behind it -/
structure FnN (P : Program) (w : World) (K : PySem.W.Frag) (mg : Str → Option Value) (base : Heap) (CX : CXT) (k : Nat) (f : Addr) (fd : FuncData) (ps : List Str) (sp : SpN) : Prop where
  len : ∀ vs H n Q E, sp vs H n Q E → vs.length = ps.length
  run : ∀ (A : Around) (outer : List Env) (s : Shared) (H : Hp) (args : Args) (us : List Value) (vs : List V) (n : Nat) (Q : VKN) (E : XK), Room k A → n ≤ s.toks →
    Env0 P w K mg base A outer s H → BindsTo s fd args (ps.zip us) → Vals vs us → sp vs H n Q E → codeAny (model P w) A (.call (.ref f) args) (fun r s' => ∃ m, m ≤ s'.toks ∧ CR CX outer P w H s (fun v H' => Q v H' m) E r s') s
def EPN (X : Cx) (pins : List (Addr × Obj)) (σ : L2.St) (Q : VKN) (u : Value) (s' : Shared) : Prop := ∃ m, m ≤ s'.toks ∧ EP X pins σ (fun v H' => Q v H' m) u s'
def SPN (X : Cx) (pins : List (Addr × Obj)) (D : EndsN) (f : Flow) (s' : Shared) : Prop := match f with
  | .next => ∃ σ' H' m, m ≤ s'.toks ∧ Inv X pins σ' H' s' ∧ D.nx σ' H' m
  | .ret u => ∃ v σ' H' m, m ≤ s'.toks ∧ Inv X pins σ' H' s' ∧ RelV v u ∧ D.rt v H' m
  | _ => False
def PEN (n : Nat) (X : Cx) (e : Expr) (t : TEN) : Prop := ∀ (pins : List (Addr × Obj)) (s : Shared) (σ : L2.St) (H : Hp) (Q : VKN), n ≤ s.toks → Inv X pins σ H s → t σ H Q →
  wpAny (model X.prog X.w) X.A (eval e X.env) (EPN X pins σ Q) X.xe s
def PSsN (n : Nat) (X : Cx) (l : List Stmt) (t : TSN) : Prop := ∀ (pins : List (Addr × Obj)) (s : Shared) (σ : L2.St) (H : Hp) (D : EndsN), n ≤ s.toks → Inv X pins σ H s → t D σ H →
  wpAny (model X.prog X.w) X.A (execs l X.env) (SPN X pins D) X.xe s
def PSKn (n : Nat) (X : Cx) (st : Stmt) (t : TSK) : Prop := ∀ (pins : List (Addr × Obj)) (s : Shared) (σ : L2.St) (τ : Tau) (H : Hp) (D : EndsT), n ≤ s.toks → Inv X pins σ H s → Told' X τ s → t D σ τ H →
  wpAny (model X.prog X.w) X.A (exec st X.env) (SPT X pins D) X.xe s
def PSsKn (n : Nat) (X : Cx) (l : List Stmt) (t : TSK) : Prop := ∀ (pins : List (Addr × Obj)) (s : Shared) (σ : L2.St) (τ : Tau) (H : Hp) (D : EndsT), n ≤ s.toks → Inv X pins σ H s → Told' X τ s → t D σ τ H →
  wpAny (model X.prog X.w) X.A (execs l X.env) (SPT X pins D) X.xe s
def tCallN (sp : SpN) (n : Nat) (E : XK) (t : TA) : TEN := fun σ H Q => t σ H fun vs H1 => sp vs H1 n Q E
def tOfN (n : Nat) (te : TE) : TEN := fun σ H Q => te σ H fun v H' => Q v H' n
def tOfSN (u : TSN) : TS := fun D σ H => u { nx := fun σ' H' _ => D.nx σ' H', rt := fun v H' _ => D.rt v H' } σ H
theorem thnN {α : Type} {t : Sem α} {Q Q' : α → Shared → Prop} {M : Model} {A : Around} {E : Value → Shared → Prop} {s : Shared} {n : Nat} (hn : n ≤ s.toks) (h : wpAny M A t Q E s) (hQ : ∀ a s', n ≤ s'.toks → Q a s' → Q' a s') : wpAny M A t Q' E s :=
  wpAny_mono (PySem.wpAny_toks_of hn h) (fun a s' z => hQ a s' z.1 z.2) fun _ _ z => z.2
section
variable {X : Cx} {n : Nat} {e : Expr} {es : List Expr} {te : TE} {st : Stmt} {rest : List Stmt} {t : TA} {CX : CXT} {k : Nat} {f : Addr} {fd : FuncData} {ps : List Str} {sp : SpN} {E : XK} {x : Str} {p pos : Pos}
theorem pen_of (h : PE X e te) : PEN n X e (tOfN n te) := fun pins s σ H Q hn I q => thnN hn (h.run pins s σ H _ I q) fun u s' hm z => ⟨n, hm, z⟩
theorem run_fnN {pins : List (Addr × Obj)} {σ : L2.St} {H : Hp} {s : Shared} {Q : VKN} {us : List Value} {vs : List V} (F : FnN X.prog X.w X.K X.mg X.base CX k f fd ps sp) (room : Room k X.A) (hb : Binds X.K fd ps []) (hx : Passes CX X E)
    (h0 : n ≤ s.toks) (I : Inv X pins σ H s) (r : Vals vs us) (q : sp vs H n Q E) : wpAny (model X.prog X.w) X.A (call (.ref f) us) (EPN X pins σ Q) X.xe s := by
  have hl : us.length = ps.length := by rw [← r.length]; exact F.len _ _ _ _ _ q
  have b := hb s us I.kIn (by simpa using hl)
  rw [List.append_nil] at b
  refine wpAny_call (codeAny_mono (F.run X.A X.stack s H ⟨us, []⟩ us vs n Q E room h0 I.env0 b r q) fun fin s' hq => ?_)
  obtain ⟨m, hm, hq⟩ := hq
  cases fin with
  | error e => exact hx pins σ H s e s' I hq
  | ok fl =>
    cases fl with
    | ret u => exact ⟨m, hm, I.after hq⟩
    | _ => exact False.elim hq
theorem pen_call (F : FnN X.prog X.w X.K X.mg X.base CX k f fd ps sp) (room : Room k X.A) (hg : Gl X x) (hm : X.mg x = some (.ref f)) (hk : PySem.W.keepIn X.K (.ref f) = true)
    (hb : Binds X.K fd ps []) (hx : Passes CX X E) (ha : PA X (e :: es) t) (d1 : (x == ("__debug__" : Str)) = false := by decide)
    (d2 : starEach (e :: es) X.env = (false, eval e X.env) :: starEach es X.env := by rfl) (d3 : (backTo pos (starEach es X.env)).any (·.1) = false := by rfl) :
    PEN n X (.Call (.Name x p) (e :: es) [] pos) (tCallN sp n E t) := by
  intro pins s σ H Q hn I h
  refine wpAny_Call_Name_kw (ld_glob I hg hm (PySem.W.callWith_K (h₀ := X.base) I.ok.mod.kin hk (thnN hn (ha.run pos pins s σ H _ I h) ?_) d2 d3) d1)
  rintro us s1 hn1 ⟨vs, H1, I1, r, q⟩
  exact ⟨I1.kIn, run_fnN F room hb hx hn1 I1 r q⟩
theorem psn_nil : PSsN n X [] (fun D σ H => D.nx σ H n) := fun _ _ σ H _ hn I h => wpAny_execs_nil ⟨σ, H, n, hn, I, h⟩
theorem psn_cons {ts : TS} {u : TSN} (h1 : PS X st ts) (h2 : PSsN n X rest u) : PSsN n X (st :: rest) (fun D σ H => ts { nx := fun σ' H' => u D σ' H', rt := fun v H' => D.rt v H' n } σ H) := fun pins s σ H D hn I h =>
  wpAny_execs_cons (thnN hn (h1.run pins s σ H _ I h) fun f s1 hm q => match f, q with
    | .next, ⟨σ', H', I', q⟩ => h2 pins s1 σ' H' D hm I' q
    | .ret _, ⟨v, σ', H', I', r, q⟩ => ⟨v, σ', H', n, hm, I', r, q⟩
    | .brk, ⟨_, _, _, q⟩ => q.elim
    | .cont, ⟨_, _, _, q⟩ => q.elim)
/-- x = e: how many tokens are out is told anew -/
theorem psn_set {i : Nat} {y : Str} {pos' : Pos} {tn : TEN} {u : Nat → TSN} (hN : X.N.Nodup) (hi : X.N[i]? = some y) (hy : Loc X.env.scope y) (he : PEN n X e tn) (h2 : ∀ m, PSsN m X rest (u m)) (hs : swapsWith e (some (.Name y pos')) pos.line X.env = pure false := by rfl)
    (hf : X.fn y = true ∨ X.env.scope.names.lookup y = some .local := by first | exact .inl rfl | exact .inr rfl | assumption) :
    PSsN n X (.Assign [.Name y pos'] e pos :: rest) (fun D σ H => tn σ H fun v H' m => u m D (σ.set i (some v)) H') := by
  intro pins s σ H D hn I h
  refine wpAny_execs_cons (wpAny_Assign_Name (thn (he pins s σ H _ hn I h) fun w s1 hw => ?_) hs)
  obtain ⟨m, hm, v, H1, I1, r1, q1⟩ := hw
  exact wpAny_with_toks hm (store_ok I1 hN hi hy r1 (fun s2 I2 hm2 => h2 m pins s2 _ H1 D hm2 I2 q1) hf)
theorem psn_ret {tn : TEN} (he : PEN n X e tn) : PSsN n X [.Return (some e) pos] (fun D σ H => tn σ H D.rt) := fun pins s σ H D hn I h =>
  wpAny_execs_cons (wpAny_Return_some (thn (he pins s σ H _ hn I h) fun _ _ ⟨m, hm, v, H1, I1, r1, q1⟩ => ⟨v, σ, H1, m, hm, I1, r1, q1⟩))
theorem pss_ofN {l : List Stmt} {u : TSN} (h : PSsN 0 X l u) : PSs X l (tOfSN u) := ⟨fun pins s σ H D I q =>
  thn (h pins s σ H _ (Nat.zero_le _) I q) fun f s1 q => match f, q with
    | .next, ⟨σ', H', _, _, I', q⟩ => ⟨σ', H', I', q⟩
    | .ret _, ⟨v, σ', H', _, _, I', r, q⟩ => ⟨v, σ', H', I', r, q⟩
    | .brk, q => q.elim
    | .cont, q => q.elim⟩
theorem ksn_of {tk : TSK} (h : PSK X st tk) : PSKn n X st tk := fun pins s σ τ H D _ I T q => h pins s σ τ H D I T q
theorem kssn_nil : PSsKn n X [] (fun D σ τ H => D.nx σ τ H) := fun _ _ σ τ H _ _ I T h => wpAny_execs_nil ⟨σ, τ, H, I, T, h⟩
theorem kssn_cons {tk uk : TSK} (h1 : PSKn n X st tk) (h2 : PSsKn n X rest uk) : PSsKn n X (st :: rest) (kSeq tk uk) := fun pins s σ τ H D hn I T h =>
  wpAny_execs_cons (thnN hn (h1 pins s σ τ H { D with nx := uk D } hn I T h) fun f s1 hm q => match f, q with
    | .next, ⟨σ', τ', H', I', T', q⟩ => h2 pins s1 σ' τ' H' D hm I' T' q
    | .ret _, q => q
    | .brk, q => q.elim
    | .cont, q => q.elim)
theorem psn_ofK {l : List Stmt} {tk : TSK} (h : PSsKn n X l tk) : PSsN n X l (fun D σ H => tk ⟨fun σ' _ H' => D.nx σ' H' n, fun v H' => D.rt v H' n⟩ σ [] H) := fun pins s σ H D hn I q =>
  thnN hn (h pins s σ [] H _ hn I (fun _ hp => absurd hp List.not_mem_nil) q) fun f s1 hm q => match f, q with
    | .next, ⟨σ', _, H', I', _, q⟩ => ⟨σ', H', n, hm, I', q⟩
    | .ret _, ⟨v, σ', H', I', r, q⟩ => ⟨v, σ', H', n, hm, I', r, q⟩
    | .brk, q => q.elim
    | .cont, q => q.elim
end
section
variable {P : Program} {w : World} {K : PySem.W.Frag} {mg : Str → Option Value} {base : Heap} {CX : CXT} {f : Addr} {fd : FuncData} {ps : List Str} {sp : SpN}
theorem okN {x qual : Str} {st : Stmt} {N : List Str} {k : Nat} (F : L2.Fun K x qual st f fd) (S : FnScope N ps (defScope st)) (len : ∀ vs H n Q E, sp vs H n Q E → vs.length = ps.length)
    (body : ∀ (cdv : Value) (A : Around) (outer : List Env) (s : Shared) (H : Hp) (vs : List V) (n : Nat) (Q : VKN) (E : XK), Room k (A.deeper (envOfC qual (defScope st) s.heap.objs.size f cdv)) → sp vs H n Q E →
      ∃ t, PSsN n (cxOf CX P w K mg base N qual (defScope st) f cdv A outer s H E) (defBody st) t ∧ t { nx := fun _ H' m => Q .non H' m, rt := Q } (L2.start N vs) H) :
    FnN P w K mg base CX (k + 1) f fd ps sp := by
  obtain ⟨oc, od, kV, doc, pm, an, cdv, ct, osl, rfl, lk, hcd⟩ := F.ex
  refine ⟨len, fun A outer s H args us vs n Q E room h0 e0 binds rel want => ?_⟩
  have kin : K.In s.heap := e0.mod.kin.keeps fun b o e => (e0.bs b o e).1
  have lim : s.heap.NoLimit := e0.mod.nolimit.keeps fun b o e => (e0.bs b o e).1
  have kinds : ∀ y ∈ ps.zip us, (defScope st).names.lookup y.1 = some .local ∨ ((defScope st).names.lookup y.1 = some .cell ∧
      ((cellsFrom (s.heap.objs.size + 1) (defScope st).names []).lookup y.1).isSome = true) := by
    rintro ⟨a, v⟩ hy
    rcases S.par a (List.of_mem_zip hy).1 with q | q
    · exact .inl q
    · exact .inr ⟨q, PySem.W.cellsFrom_some _ _ _ (.inl q)⟩
  refine codeAny_call_function room.depth (kin _ _ lk) rfl S.co S.gen rfl (PySem.W.codeRec_of kin hcd) (binds _ _ _ _ (PySem.wpAny_with_toks h0 (wpAny_mono (wpAny_newFunctionEnv_cells S.kind kinds ?_) (fun _ _ z => z) fun _ _ z _ => z)))
  rintro env rfl s1 x h1
  refine ⟨lim.keeps x.toInCall.keep, codeAny_func ?_⟩
  obtain ⟨t, ht, hq⟩ := body cdv A outer s H vs n Q E (room.deeper _) want
  have I := inv_start (CX := CX) (E := E) S room.hd e0 (len _ _ _ _ _ want) rel x
  refine wpAny_mono (ht [] s1 (L2.start N vs) H _ h1 I hq) (fun fl s' hs => ?_) fun e s' hs => wpAny_mono hs (fun _ _ z => ⟨0, Nat.zero_le _, z⟩) fun _ _ z => ⟨0, Nat.zero_le _, z⟩
  cases fl with
  | ret u =>
    obtain ⟨v, σ', H', m, hm, J, rv, q⟩ := hs
    exact ⟨m, hm, v, H', J.os, J.bare, J.base, J.hok, rv, q⟩
  | next =>
    obtain ⟨σ', H', m, hm, J, q⟩ := hs
    exact ⟨m, hm, .non, H', J.os, J.bare, J.base, J.hok, rfl, q⟩
  | brk => exact hs.elim
  | cont => exact hs.elim
end
end Dr
/-! list('text'): how many tokens are out behind it. -/
namespace DrTk
open PySem
section
variable {prog : Program} {w : World} {A : Around} {R : Result → Shared → Prop} {I S : Addr} {x : Str} {t : Tok}
theorem ext_signsN (hh : A.handled = none) (hn : x.cps.size ≤ sizeLine) (hne : S ≠ I) (res : Value) : ∀ (k i : Nat) (s : Shared) (acc : Array Value) (c : Nat), x.cps.size - i = k → i ≤ x.cps.size → acc.size = i →
    s.heap.IsStrIter I "str_ascii_iterator" x t i → s.heap.get? S = some { cls := .type "list", dict := none, data := .seq acc c, slots := #[] } →
    (∀ h' tk c', (∀ b o, b ≠ S → b ≠ I → s.heap.get? b = some o → h'.get? b = some o) → s.toks + (x.cps.size - i) ≤ tk →
      h'.get? S = some { cls := .type "list", dict := none, data := .seq (acc ++ (signs (x.cps.toList.drop i) s.toks).toArray) c', slots := #[] } → R (.ok (.ret res)) { s with heap := h', toks := tk }) →
    codeAny (model prog w) A (.builtin "list.extend.loop" ⟨[.ref S, .ref I, res], []⟩) R s := by
  intro k
  induction k with
  | zero =>
    intro i s acc c hk hi ha hit hS hR
    have e : i = x.cps.size := by omega
    subst e
    refine codeAny_builtin F.entry_extend_loop ?_
    rw [Around.under_plainId F.plain_extend_loop _]
    refine wpAny_bind (wpAny_pyNext_ascii_end (t := t) (x := x) (i := x.cps.size) hh hit (by simp) fun h' he => wpAny_pure ?_)
    refine hR h' s.toks c (fun b o hb hc z => he b o hc z) (by omega) ?_
    have z : x.cps.toList.drop x.cps.size = [] := by simp
    rw [z]
    simpa [signs] using he S _ hne hS
  | succ k ih =>
    intro i s acc c hk hi ha hit hS hR
    have hlt : i < x.cps.size := by omega
    refine codeAny_builtin F.entry_extend_loop ?_
    rw [Around.under_plainId F.plain_extend_loop _]
    refine wpAny_bind (wpAny_pyNext_ascii_item hit (c := x.cps[i]) (by simp [hlt]) fun h' hit' hs => ?_)
    have hS' : h'.get? S = some { cls := .type "list", dict := none, data := .seq acc c, slots := #[] } := hs.extBut S _ hne hS
    refine wpAny_bind (wpAny_updateSeq hS' rfl (wpAny_pure ⟨plainId_quiet F.plain_extend_loop _, ?_⟩) (by omega) (by show (acc.push _).size ≤ sizeLine + 1; rw [Array.size_push]; omega))
    have hit2 : (h'.update S (Obj.mapSeq fun a => a.push (.str ⟨#[x.cps[i]]⟩ s.toks))).IsStrIter I "str_ascii_iterator" x t (i + 1) := by
      obtain ⟨o, ho, r⟩ := hit'
      exact ⟨o, (Heap.get?_update_other _ _ hne).trans ho, r⟩
    refine ih (i + 1) _ (acc.push (.str ⟨#[x.cps[i]]⟩ s.toks)) _ (by omega) hlt (by rw [Array.size_push, ha]) hit2 (Heap.get?_update_self _ hS' rfl) fun h2 tk c' hk2 ht h3 => ?_
    refine hR h2 tk c' (fun b o hb hc z => hk2 b o hb hc ((Heap.get?_update_other _ _ (Ne.symm hb)).trans (hs.extBut b o hc z))) (by have ht' : s.toks + 1 + (x.cps.size - (i + 1)) ≤ tk := ht; omega) ?_
    rw [h3]
    have e : x.cps.toList.drop i = x.cps[i] :: x.cps.toList.drop (i + 1) := by
      rw [List.drop_eq_getElem_cons (by simpa using hlt)]
      simp
    rw [e]
    simp [signs]
theorem list_signsN {E : Value → Shared → Prop} {s : Shared} {Q : Value → Shared → Prop} (hh : A.handled = none) (ha : x.cps.all (· < 128) = true) (hn : x.cps.size ≤ sizeLine)
    (hq : ∀ h' tk c', (∀ b o, s.heap.get? b = some o → h'.get? b = some o) → s.toks + x.cps.size ≤ tk →
      h'.get? s.heap.objs.size = some { cls := .type "list", dict := none, data := .seq (signs x.cps.toList s.toks).toArray c', slots := #[] } → Q (.ref s.heap.objs.size) { s with heap := h', toks := tk }) :
    wpAny (model prog w) A (call (.type "list") [.str x t]) Q E s := by
  refine callType_codes (Q₁ := fun obj s1 => obj = .ref s.heap.objs.size ∧ s1 = { s with heap := s.heap.push { cls := .type "list", data := .seq #[] } }) F.called_list (F.typeCall_list_1 _) F.entry_list_init
    (code_list_new _ ⟨rfl, rfl⟩) fun obj s1 h1 => ?_
  obtain ⟨e1, e2⟩ := h1
  subst e1
  subst e2
  have hS : (s.heap.push { cls := .type "list", data := .seq #[] }).get? s.heap.objs.size = some { cls := .type "list", data := .seq #[] } := Heap.get?_push_size _ rfl
  refine ⟨⟨_, hS, rfl⟩, F.args_list_init_2 _ _, ?_⟩
  show wpAny _ _ (Builtin.List.listItems (.ref s.heap.objs.size) >>= fun old => Builtin.List.listUpdate (.ref s.heap.objs.size) (fun _ => #[]) >>= fun _ => letGo old.toList.reverse >>= fun _ => Builtin.List.listExtendWith (.ref s.heap.objs.size) (.str x t) .none) _ _ _
  refine wpAny_bind ?_
  unfold Builtin.List.listItems
  refine wpAny_bind (wpAny_seqItems hS rfl (wpAny_pure (wpAny_bind ?_)))
  refine wpAny_updateSeq hS rfl (wpAny_bind (wpAny_letGo ?_))
  generalize hS2 : (s.heap.push { cls := .type "list", data := .seq #[] }).update s.heap.objs.size (Obj.mapSeq fun _ => (#[] : Array Value)) = g
  have e2 := Heap.get?_update_self (Obj.mapSeq fun _ => (#[] : Array Value)) hS rfl
  rw [hS2] at e2
  obtain ⟨n2, e2⟩ : ∃ n, g.get? s.heap.objs.size = some { cls := .type "list", dict := none, data := .seq #[] n, slots := #[] } := ⟨_, e2⟩
  have oth : ∀ b o, s.heap.get? b = some o → g.get? b = some o := fun b o e => by
    rw [← hS2]
    exact (Heap.get?_update_other _ _ (Ne.symm (Nat.ne_of_lt (Heap.lt_size e)))).trans (Heap.get?_push_of_some _ e)
  have hgs : s.heap.objs.size < g.objs.size := Heap.lt_size e2
  unfold Builtin.List.listExtendWith
  refine wpAny_bind (wpAny_typeOf (T := "str") (v := .str x t) rfl ?_)
  have c1 : Builtin.List.listSameRef (.ref s.heap.objs.size) (.str x t) = false := rfl
  have c2 : (Value.type "str" == Value.type "list") = false := by decide
  have c3 : (Value.type "str" == Value.type "tuple") = false := by decide
  simp only [c1, c2, c3, Bool.or_false, Bool.false_eq_true, if_false]
  refine wpAny_bind (wpAny_pyIter_ascii ha (wpAny_bind (wpAny_holding ?_)))
  unfold Builtin.List.listLengthHint
  refine wpAny_bind (wpAny_specialOf (T := "str") (v := .str x t) rfl F.str_len ?_); wp_delta
  refine wpAny_bind (wpAny_isInstance (T := "str") (v := .str x t) (b := true) rfl (by rw [isSubtype_type]; kernel_rfl) ?_); show wpAny _ _ (typeOf (Value.str x t) >>= _) _ _ _
  refine wpAny_bind (wpAny_typeOf (T := "str") (v := .str x t) rfl (wpAny_pure ?_))
  rw [if_neg (by decide)]
  refine wpAny_pure ⟨plainId_quiet F.plain_extend_loop _, ?_⟩
  refine ext_signsN (A := A.in1) (I := g.objs.size) (S := s.heap.objs.size) (x := x) (t := t) hh hn (Nat.ne_of_lt hgs) _ x.cps.size 0 _ #[] n2 rfl (Nat.zero_le _) rfl ?_ ?_ fun h' tk c' hk ht h3 => ?_
  · exact ⟨_, Heap.get?_push_size _ rfl, rfl, rfl⟩
  · exact Heap.get?_push_of_some _ e2
  refine ⟨rfl, hq h' tk c' (fun b o e => ?_) (by have ht' : s.toks + (x.cps.size - 0) ≤ tk := ht; omega) ?_⟩
  · have lt := Heap.lt_size e
    exact hk b o (Nat.ne_of_lt lt) (Nat.ne_of_lt (Nat.lt_trans lt hgs)) (Heap.get?_push_of_some _ (oth b o e))
  · rw [h3]
    simp
end
end DrTk
namespace Dr
open PySem PySem.Spec PyProof.Rows L2
theorem sgs_bound : ∀ (l : List Nat) (t : Nat), ∀ p ∈ sgs l t, t ≤ p.2 ∧ p.2 < t + l.length
  | [], _, p, h => by cases h
  | c :: l, t, p, h => by
    rcases List.mem_cons.mp h with e | h
    · rw [e]; exact ⟨Nat.le_refl _, by show t < t + (l.length + 1); omega⟩
    · have := sgs_bound l (t + 1) p h
      show t ≤ p.2 ∧ p.2 < t + (l.length + 1)
      omega
section
variable {X : Cx} {n : Nat} {pos p : Pos} {z : Str}
/-- list('text') -/
theorem pen_listc {j : Nat} {cp : Pos} (hc : X.calm = true) (hg : Gl X "list") (hm : X.mg "list" = none) (hb : bootBuiltins "list" = some (.type "list")) (d2 : starEach [.Constant (.str z) j cp] X.env = [(false, eval (.Constant (.str z) j cp) X.env)] := by rfl) :
    PEN n X (.Call (.Name "list" p) [.Constant (.str z) j cp] [] pos) (fun _ H Q => z.cps.all (· < 128) = true ∧ z.cps.size ≤ sizeLine ∧ ∀ (l : Addr) (t0 : Nat), H l = none → 1 ≤ t0 → n ≤ t0 → Q (.ref l) (upd H l (TLst l (DrTk.signs z.cps.toList t0))) (t0 + z.cps.size)) := by
  intro pins s σ H Q hn I h
  obtain ⟨ha1, hz, q⟩ := h
  refine wpAny_Call_Name_kw (ld_blt I hg hm hb ?_ (by decide) (by decide))
  refine PyProof.Rows.callWith_type1 ?_ d2 (by rfl)
  show wpAny _ _ (spliced ((false, eval (.Constant (.str z) j cp) X.env) :: backTo pos (starEach [] X.env))) _ _ s
  refine Calls.spliced_cons (Calls.Constant_str ?_)
  have I1 := I.tok (s.toks + 1)
  refine Calls.spliced_nil (DrTk.list_signsN (I1.ok.hd hc) ha1 hz fun h' tk c' hk htk e => ?_)
  exact ⟨s.toks + 1 + z.cps.size, htk, .ref s.heap.objs.size, _, I1.laid (t' := tk) hk (Nat.le_refl _) (tlst_ok e), rfl, q _ _ (I1.hok.fresh (Nat.le_refl _)) (Nat.le_add_left 1 s.toks) (Nat.le_succ_of_le hn)⟩
end
end Dr
/-! [x for x in a text if ..]: new texts, their tokens behind all that are out. -/
namespace Dr
open PySem PySem.Spec PyProof.Rows L2
def tLcX (n : Nat) (ta : TE) (tt : TT) (vs : List Nat) (ix : Nat) : L2.St → Hp → (Addr → List Tx → Hp → Prop) → Prop := fun σ H Q => ta σ H fun v H1 => ∃ z : Str, v = .str z ∧ z.cps.all (· < 128) = true ∧ ∀ D, H1 D = none → ∃ Pv : Nat → List Tx → Hp → Prop, Pv 0 [] (upd H1 D (TLst D [])) ∧
  (∀ i c got H2 t, z.cps[i]? = some c → got.length ≤ i → Pv i got H2 → n ≤ t → (∀ p ∈ got, p.2 < t) → wipe ((wipe σ vs).set ix (some (.str (sg c)))) vs = wipe σ vs ∧ tt ((wipe σ vs).set ix (some (.str (sg c)))) H2 fun b H3 =>
    if b = true then H3 D = some (TLst D (got.map tv)) ∧ got.length < sizeLine ∧ Pv (i + 1) (got ++ [(sg c, t)]) (upd H3 D (TLst D ((got ++ [(sg c, t)]).map tv))) else Pv (i + 1) got H3) ∧
  ∀ got H3, Pv z.cps.size got H3 → (got.map (·.2)).Nodup → (∀ p ∈ got, n ≤ p.2) → Q D got H3
section
variable {X : Cx}
/-- an expression behind which n tokens are out, n0 ahead of it -/
def PEKn (n0 n : Nat) (X : Cx) (e : Expr) (t : TE) : Prop := ∀ (pins : List (Addr × Obj)) (s : Shared) (σ : L2.St) (H : Hp) (Q : VK), n0 ≤ s.toks → Inv X pins σ H s → t σ H Q →
  wpAny (model X.prog X.w) X.A (eval e X.env) (fun u s' => n ≤ s'.toks ∧ EP X pins σ Q u s' ∧ Kp X s s') X.xe s
theorem pekn_of {n : Nat} {e : Expr} {t : TE} (h : PEK X e t) : PEKn n n X e t := fun pins s σ H Q hn I q => wpAny_mono (PySem.wpAny_toks_of hn (h pins s σ H Q I q)) (fun _ _ z => z) fun _ _ z => z.2
theorem pekn_const {n : Nat} {z : Str} {j : Nat} {pos : Pos} : PEKn n (n + 1) X (.Constant (.str z) j pos) (tC (.str z)) := fun pins s σ H Q hn I q =>
  Calls.Constant_str ⟨Nat.succ_le_succ hn, ⟨.str z, H, I.tok _, ⟨_, rfl⟩, q⟩, Kp.heap rfl⟩
theorem lcx_core {pins : List (Addr × Obj)} {s : Shared} {σ : L2.St} {H : Hp} {n0 n : Nat} {Q : Addr → List Tx → Hp → Prop} {iter cond : Expr} {x : Str} {scope : Scope} {own : List (Str × Nat)} {ix : Nat} {pos pos' p1 p2 : Pos} {ta : TE} {tt : TT} {use : Option (Value → Sem Unit)} {Qf : Value → Shared → Prop}
    (hn0 : n0 ≤ s.toks) (hc : X.calm = true) (hN : X.N.Nodup) (I : Inv X pins σ H s) (ha : PEKn n0 n X iter ta) (ok : BlkOk X.N X.env.scope scope own) (hi : X.N[ix]? = some x)
    (hx : ∀ (s : Shared) (H : Hp) (C : Addr) (cl : List (Str × Addr)) (fp : List Addr), Loc (X.blk s H scope (compEnvC scope cl C X.env) fp).env.scope x ∧ ((X.blk s H scope (compEnvC scope cl C X.env) fp).fn x = true ∨ (X.blk s H scope (compEnvC scope cl C X.env) fp).env.scope.names.lookup x = some .local))
    (ht : ∀ (s : Shared) (H : Hp) (C : Addr) (cl : List (Str × Addr)) (fp : List Addr), PTK (X.blk s H scope (compEnvC scope cl C X.env) fp) cond tt)
    (hd : (x == ("__debug__" : Str)) = false) (hcd : (x == ("__classdict__" : Str)) = false)
    (hs : ∀ x, foldedSetIterable iter X.env x = pure x)
    (h : tLcX n ta tt (own.map (·.2)) ix σ H Q)
    (fin : ∀ D C s' m got H', Inv X pins σ H' s' → n ≤ s'.toks → Kp X s s' → Q D got H' → s'.heap.Ns C m → FpOk X pins H' C → compPost (model X.prog X.w) X.A X.xe use Qf (.ref D) C (.ok .next) s') :
    wpAny (model X.prog X.w) X.A (comprehension (.ListComp (.Name x p1) [⟨.Name x p2, iter, [cond], 0⟩] scope pos) scope X.env pos' (newList []) false (eval iter X.env) use) Qf X.xe s := by
  have fr : ∀ y ∈ scope.names, y.2 = .free → ∃ c, X.env.cells.lookup y.1 = some c := fun y hy e => (ok.free y hy e).elim (fun k => I.ok.has _ (.inl k)) fun k => I.ok.has _ (.inr k)
  refine wpAny_comprehension_free (use := use) rfl hs (closure_ok fr) ok.kind (fun y hy e => by rw [ok.uniq y hy, e]) (thn (ha pins s σ H _ hn0 I h) fun xv s1 hx1 => ?_)
  obtain ⟨hn1, hx1⟩ := hx1
  obtain ⟨⟨v1, H2, I1, r1, q1⟩, k01⟩ := hx1
  obtain ⟨z, rfl, hasc, q⟩ := q1
  obtain ⟨t0, rfl⟩ := r1
  refine wpAny_pyIter_ascii hasc ?_
  obtain ⟨it, hit⟩ : ∃ it, s1.heap.objs.size = it := ⟨_, rfl⟩
  rw [hit]
  obtain ⟨s2, e2⟩ : ∃ s2 : Shared, ({ s1 with heap := s1.heap.push { cls := .type "str_ascii_iterator", data := .fields #[.str z t0, .int 0 0] } } : Shared) = s2 := ⟨_, rfl⟩
  rw [e2]
  have I2 : Inv X pins σ H2 s2 := by rw [← e2]; exact I1.kept (t' := s1.toks) fun b o e => Heap.get?_push_of_some _ e
  have st2 : s2.heap.IsStrIter it "str_ascii_iterator" z t0 0 := by rw [← e2, ← hit]; exact ⟨_, Heap.get?_push_size _ rfl, rfl, rfl⟩
  have f2 : ∀ b ∈ [it], FpOk X pins H2 b := fun b hb => by
    rw [List.mem_singleton.mp hb, ← hit]
    exact I1.fpOk (Nat.le_refl _) (I1.hok.fresh (Nat.le_refl _))
  have hn2 : n ≤ s2.toks := by rw [← e2]; exact hn1
  have T := turn_str (P := X.prog) (w := X.w) (K := X.K) (tg := .Name x p2) it z t0 "str_ascii_iterator" (.inl rfl)
  have k12 : Kp X s1 s2 := by rw [← e2]; exact Kp.all fun b o e => Heap.get?_push_of_some _ e
  clear e2 hit
  refine wpAny_newObj_type (newEnv_comp ?_) (by show 0 ≤ sizeLine; decide)
  obtain ⟨D, hD⟩ : ∃ D, s2.heap.objs.size = D := ⟨_, rfl⟩
  rw [hD]
  have nD : H2 D = none := I2.hok.fresh (Nat.le_of_eq hD)
  obtain ⟨s3, e3⟩ : ∃ s3 : Shared, ({ s2 with heap := s2.heap.push { cls := .type "list", data := .seq ([] : List Value).toArray } } : Shared) = s3 := ⟨_, rfl⟩
  have h3 : s3.heap = s2.heap.push { cls := .type "list", data := .seq ([] : List Value).toArray } := by rw [← e3]
  have gD : (s2.heap.push { cls := .type "list", data := .seq ([] : List Value).toArray }).get? D = some { cls := .type "list", data := .seq ([] : List Value).toArray } := by rw [← hD]; exact Heap.get?_push_size _ rfl
  have I3 : Inv X pins σ (upd H2 D (TLst D [])) s3 := by
    rw [← e3]
    exact I2.laid (t' := s2.toks) (fun b o e => Heap.get?_push_of_some _ e) (Nat.le_of_eq hD) (tlst_ok gD)
  have k23 : Kp X s2 s3 := by rw [← e3]; exact Kp.all fun b o e => Heap.get?_push_of_some _ e
  have hn3 : n ≤ s3.toks := by rw [← e3]; exact hn2
  rw [e3]
  have below : ∀ b ∈ [it], b < s2.heap.objs.size := fun b hb => let ⟨_, z, _⟩ := T.obj _ _ st2 b hb; Heap.lt_size z
  have away : ∀ b ∈ [it], FpOk X pins (upd H2 D (TLst D [])) b ∧ b < s3.heap.objs.size := fun b hb => by
    have lt := below b hb
    refine ⟨⟨?_, (f2 b hb).2⟩, by rw [h3, Heap.size_push]; exact Nat.lt_succ_of_lt lt⟩
    rw [upd_ne (by rw [← hD]; exact Nat.ne_of_lt lt)]
    exact (f2 b hb).1
  have st3 : s3.heap.IsStrIter it "str_ascii_iterator" z t0 0 := T.keep _ _ _ st2 fun b _ o z => by rw [h3]; exact Heap.get?_push_of_some _ z
  have I4 := block_start I3 ok hN away
  have jx := hx s3 (upd H2 D (TLst D [])) s3.heap.objs.size (cellsFrom (s3.heap.objs.size + 1) scope.names (cloFrom X.env.cells scope.names [])) [it]
  have jt := ht s3 (upd H2 D (TLst D [])) s3.heap.objs.size (cellsFrom (s3.heap.objs.size + 1) scope.names (cloFrom X.env.cells scope.names [])) [it]
  have no0 : ∀ b ∈ [it], (upd H2 D (TLst D [])) b = none := fun b hb => (away b hb).1.1
  show codeAny _ _ (.compStart (.ListComp (.Name x p1) [⟨.Name x p2, iter, [cond], 0⟩] scope pos) 0 (.ref it) (.ref D) (compEnvC scope (cellsFrom (s3.heap.objs.size + 1) scope.names (cloFrom X.env.cells scope.names [])) s3.heap.objs.size X.env)) (compPost (model X.prog X.w) X.A X.xe use Qf (.ref D) s3.heap.objs.size) { s3 with heap := pushCells (s3.heap.push { cls := .type "dict", data := .dict #[] }) scope.names }
  obtain ⟨ce, hce⟩ : ∃ ce, compEnvC scope (cellsFrom (s3.heap.objs.size + 1) scope.names (cloFrom X.env.cells scope.names [])) s3.heap.objs.size X.env = ce := ⟨_, rfl⟩
  rw [hce] at I4 jx jt ⊢
  have eL : ce.locals = s3.heap.objs.size := by rw [← hce] <;> rfl
  obtain ⟨H3, hH⟩ : ∃ H3, upd H2 D (TLst D []) = H3 := ⟨_, rfl⟩
  obtain ⟨Pv, p0, step, last⟩ := q D nD
  rw [hH] at I3 I4 jx jt no0 away p0
  obtain ⟨s4, e4⟩ : ∃ s4 : Shared, ({ s3 with heap := pushCells (s3.heap.push { cls := .type "dict", data := .dict #[] }) scope.names } : Shared) = s4 := ⟨_, rfl⟩
  have hn4 : n ≤ s4.toks := by rw [← e4]; exact hn3
  rw [e4] at I4 ⊢
  have st4 : s4.heap.IsStrIter it "str_ascii_iterator" z t0 0 := T.keep _ _ _ st3 fun b _ o z => by rw [← e4]; exact pushCells_keeps _ _ _ _ (Heap.get?_push_of_some _ z)
  have stay : ∀ {σ' : L2.St} {H' : Hp} {s' : Shared}, Inv (X.blk s3 H3 scope ce [it]) [] σ' H' s' → (∀ b ∈ [it], H' b = none) → ∀ b ∈ [it], FpOk (X.blk s3 H3 scope ce [it]) [] H' b := fun I' nn b hb =>
    ⟨nn b hb, (I'.ok.exf b hb).1, I'.ok.exfs b hb, .inl hb, fun x c z => (I'.ok.exf b hb).2 x c z, fun p hp => absurd (show p ∈ ([] : List (Addr × Obj)) ++ [] from hp) (by simp)⟩
  have loop : codeAny (model X.prog X.w) X.A (.compLoop (.ListComp (.Name x p1) [⟨.Name x p2, iter, [cond], 0⟩] scope pos) 0 (.ref it) (.ref D) ce) (compPost (model X.prog X.w) X.A X.xe use Qf (.ref D) s3.heap.objs.size) s4 := by
    refine compLoop_any (fun k s' => ∃ i got H', i ≤ z.cps.size ∧ k = z.cps.size - i ∧ Inv (X.blk s3 H3 scope ce [it]) [] (wipe σ (own.map (·.2))) H' s' ∧ s'.heap.IsStrIter it "str_ascii_iterator" z t0 i ∧ (∀ b ∈ [it], H' b = none) ∧ n ≤ s'.toks ∧ got.length ≤ i ∧ (got.map (·.2)).Nodup ∧ (∀ p ∈ got, n ≤ p.2 ∧ p.2 < s'.toks) ∧ Pv i got H') ?_ z.cps.size
      ⟨0, [], H3, Nat.zero_le _, rfl, I4, st4, no0, hn4, Nat.zero_le _, List.nodup_nil, fun p h => absurd h List.not_mem_nil, p0⟩
    intro k s5 hn5
    obtain ⟨i, got, H5, hi5, rfl, I5, st5, nn5, t5, gl, gn, gb, pv⟩ := hn5
    rcases Nat.lt_or_ge i z.cps.size with lt | ge
    · obtain ⟨c, hcx⟩ : ∃ c, z.cps[i]? = some c := ⟨z.cps[i], by simp [lt]⟩
      obtain ⟨ew, hk2⟩ := step i c got H5 s5.toks hcx gl pv t5 fun p hp => (gb p hp).2
      obtain ⟨f0, f1, f2', f3, f4, f5⟩ := stay I5 nn5 it (by simp)
      refine wpAny_pyNext_ascii_item st5 (c := c) hcx fun h' st6 sb => ?_
      obtain ⟨o6, g6, c6, d6⟩ := id st6
      have I6 : Inv (X.blk s3 H3 scope ce [it]) [] (wipe σ (own.map (·.2))) H5 { s5 with heap := h', toks := s5.toks + 1 } := I5.turned (t' := s5.toks + 1) (fun b o hb e => (sb.2 b hb).trans e) f0 f1 f3 f4 f5
      refine go_of (s := { s5 with heap := h', toks := s5.toks + 1 }) g6 c6 d6 (by decide) ?_
      obtain ⟨s6, e6⟩ : ∃ s6 : Shared, ({ s5 with heap := h', toks := s5.toks + 1 } : Shared) = s6 := ⟨_, rfl⟩
      have h6 : s6.heap = h' := by rw [← e6]
      have t6 : s5.toks + 1 ≤ s6.toks := by rw [← e6]; exact Nat.le_refl _
      rw [e6] at I6 ⊢
      rw [← h6] at st6 g6
      have I6p := I6.pinned (stay I6 nn5) (T.obj _ _ st6)
      refine wpAny_assign_Name (wpAny_mono (PySem.wpAny_toks_of t6 (store_at I6p hN hi jx.1 (show RelV (V.str (sg c)) (.str ⟨#[c]⟩ s5.toks) from ⟨_, rfl⟩) jx.2)) (fun _ s7 h7 => ?_) fun _ _ z => z.2.elim)
      obtain ⟨t7, I7, at7, _⟩ := h7
      refine wpAny_tests_one (wpAny_mono (PySem.wpAny_toks_of t7 (jt _ s7 _ _ _ I7 hk2)) (fun b s8 h8 => ?_) fun _ _ z => (show False from z.2).elim)
      obtain ⟨t8, ⟨H8, I8, q8⟩, k8⟩ := h8
      have at8 := k8 _ _ at7
      have next : ∀ {s' : Shared} {got' : List Tx} {H' : Hp}, Inv (X.blk s3 H3 scope ce [it]) ([] ++ pinsAt [it] s6.heap) ((wipe σ (own.map (·.2))).set ix (some (V.str (sg c)))) H' s' → s5.toks + 1 ≤ s'.toks → got'.length ≤ i + 1 → (got'.map (·.2)).Nodup → (∀ p ∈ got', n ≤ p.2 ∧ p.2 < s'.toks) → Pv (i + 1) got' H' →
          ∃ m, m < z.cps.size - i ∧ ∃ i got H', i ≤ z.cps.size ∧ m = z.cps.size - i ∧ Inv (X.blk s3 H3 scope ce [it]) [] (wipe σ (own.map (·.2))) H' s' ∧ s'.heap.IsStrIter it "str_ascii_iterator" z t0 i ∧ (∀ b ∈ [it], H' b = none) ∧ n ≤ s'.toks ∧ got.length ≤ i ∧ (got.map (·.2)).Nodup ∧ (∀ p ∈ got, n ≤ p.2 ∧ p.2 < s'.toks) ∧ Pv i got H' := fun {s' got' H'} J' tt' gl' gn' gb' pv' => by
        have at7 : ∀ b ∈ [it], ∀ o, s6.heap.get? b = some o → s'.heap.get? b = some o ∧ H' b = none := fun b hb o z =>
          let y := J'.pin (b, o) (List.mem_append_right _ (List.mem_append_right _ (mem_pinsAt hb z))); ⟨y.1, y.2.1⟩
        have sz : (wipe σ (own.map (·.2))).length = ((wipe σ (own.map (·.2))).set ix (some (V.str (sg c)))).length := by rw [List.length_set]
        refine ⟨z.cps.size - (i + 1), by omega, i + 1, got', H', lt, rfl, (J'.unpinned (pins := [])).weak sz (fun j v z => (wipe_some (ew.symm ▸ z)).1), T.keep _ _ _ st6 fun b hb o z => (at7 b hb o z).1, fun b hb => ?_, Nat.le_trans t5 (Nat.le_trans (Nat.le_succ _) tt'), gl', gn', gb', pv'⟩
        obtain ⟨o, z, _⟩ := T.obj _ _ st6 b hb
        exact (at7 b hb o z).2
      have gb8 : ∀ p ∈ got, n ≤ p.2 ∧ p.2 < s8.toks := fun p hp => ⟨(gb p hp).1, Nat.lt_of_lt_of_le (gb p hp).2 (Nat.le_trans (Nat.le_succ _) t8)⟩
      cases b with
      | false => exact next I8 t8 (Nat.le_succ_of_le gl) gn gb8 q8
      | true =>
        obtain ⟨hD8, hz8, pv8⟩ := q8
        refine read_at I8.ok at8 ?_ hd hcd
        have g2 : ∀ p ∈ got ++ [(sg c, s5.toks)], n ≤ p.2 ∧ p.2 < s8.toks := fun p hp => by
          rcases List.mem_append.mp hp with hp | hp
          · exact gb8 p hp
          · rw [List.mem_singleton.mp hp]; exact ⟨t5, t8⟩
        have g3 : ((got ++ [(sg c, s5.toks)]).map (·.2)).Nodup := by
          rw [List.map_append]
          refine List.nodup_append.mpr ⟨gn, by simp, fun a ha b hb e => ?_⟩
          obtain ⟨p, hp, rfl⟩ := List.mem_map.mp ha
          rw [List.map_singleton, List.mem_singleton] at hb
          have := (gb p hp).2
          rw [e, hb] at this
          exact Nat.lt_irrefl _ this
        refine wpAny_with_toks (n := s8.toks) (Nat.le_refl _) (tl_more (X := X.blk s3 H3 scope ce [it]) I8 hD8 (by rw [List.length_map]; exact hz8) fun s11 I11 t11 => next I11 (Nat.le_trans t8 t11) (by rw [List.length_append]; show got.length + 1 ≤ i + 1; omega) g3 (fun p hp => ⟨(g2 p hp).1, Nat.lt_of_lt_of_le (g2 p hp).2 t11⟩) ?_)
        rw [List.map_append] at pv8
        exact pv8
    · have ei : i = z.cps.size := Nat.le_antisymm hi5 ge
      subst ei
      refine wpAny_mono (PySem.wpAny_toks_of t5 (T.done (X.blk s3 H3 scope ce [it]) rfl rfl rfl hc _ [] s5 _ _ (fun _ _ => False) I5 (stay I5 nn5) st5 (Nat.le_refl _))) (fun r s6 hr6 => ?_) fun _ _ z => z.2.elim
      obtain ⟨t6, hr6⟩ := hr6
      obtain ⟨rfl, I6⟩ := hr6
      have I7 : Inv X pins σ _ s6 := I3.call' (ch := [it]) I6.os I6.base I6.hok I6.bare fun b hb => ⟨(away b hb).1.2.2.2.1, (away b hb).1.2.1, (away b hb).1.2.2.2.2.1, (away b hb).1.2.2.2.2.2⟩
      have k36 : Kp X s3 s6 := Kp.objs (fun o e => I6.base.any e I3.free (fun z => (away it (by simp)).1.2.1 (List.mem_singleton.mp z).symm)) fun x c o hc e => I6.base.any e (I3.freeC x c hc) (fun z => (away it (by simp)).1.2.2.2.2.1 x c hc (List.mem_singleton.mp z))
      have noC : H5 s3.heap.objs.size = none := eL ▸ (show H5 ce.locals = none from I6.free)
      obtain ⟨m, hns, _⟩ := I6.loc
      exact fin D s3.heap.objs.size s6 m got _ I7 t6 (k01.trans (k12.trans (k23.trans k36))) (last got H5 pv gn fun p hp => (gb p hp).1) (eL ▸ (show s6.heap.Ns ce.locals m from hns)) (I3.fpOk (Nat.le_refl _) noC)
  exact codeAny_compStart_list loop (T.self X.A 0 _ _ _ st4 loop)
/-- y = [x for x in a text if ..], read only from then on; what other names hold is told as before -/
theorem ks_setLcX {n i : Nat} {y : Str} {py : Pos} {iter cond : Expr} {x : Str} {scope : Scope} {own : List (Str × Nat)} {ix : Nat} {pos p1 p2 spos : Pos} {ta : TE} {tt : TT} (hc : X.calm = true) (hN : X.N.Nodup) (hy : X.N[i]? = some y) (hyl : X.env.scope.names.lookup y = some .local)
    (hsw : swapsWith (.ListComp (.Name x p1) [⟨.Name x p2, iter, [cond], 0⟩] scope pos) (some (.Name y py)) spos.line X.env = pure true) (ha : PEK X iter ta) (ok : BlkOk X.N X.env.scope scope own) (hi : X.N[ix]? = some x)
    (hx : ∀ (s : Shared) (H : Hp) (C : Addr) (cl : List (Str × Addr)) (fp : List Addr), Loc (X.blk s H scope (compEnvC scope cl C X.env) fp).env.scope x ∧ ((X.blk s H scope (compEnvC scope cl C X.env) fp).fn x = true ∨ (X.blk s H scope (compEnvC scope cl C X.env) fp).env.scope.names.lookup x = some .local))
    (ht : ∀ (s : Shared) (H : Hp) (C : Addr) (cl : List (Str × Addr)) (fp : List Addr), PTK (X.blk s H scope (compEnvC scope cl C X.env) fp) cond tt)
    (hd : (x == ("__debug__" : Str)) = false := by decide) (hcd : (x == ("__classdict__" : Str)) = false := by decide) (hs : ∀ x, foldedSetIterable iter X.env x = pure x := by intro _; rfl) :
    PSKn n X (.Assign [.Name y py] (.ListComp (.Name x p1) [⟨.Name x p2, iter, [cond], 0⟩] scope pos) spos) (fun D σ τ H => tLcX n ta tt (own.map (·.2)) ix σ H fun a ps H1 => H1 a = some (TLst a (ps.map tv)) ∧ ps.length ≤ sizeLine ∧ ∀ u, TF (upd H1 a u) a ps → D.nx (σ.set i (some (.ref a))) (forget i τ) (upd H1 a u)) := by
  intro pins s σ τ H D hn0 I T h
  rw [exec_Assign_Name_used _ _ _ _ hsw]
  refine wpAny_bind (wpAny_standAt (wpAny_bind ?_))
  show wpAny _ X.A (do let _ ← comprehension (.ListComp (.Name x p1) [⟨.Name x p2, iter, [cond], 0⟩] scope pos) scope X.env (firstIterPos [⟨.Name x p2, iter, [cond], 0⟩] pos) (newList []) false (eval iter X.env) (some (assign (.Name y py) X.env))) _ _ s
  refine wpAny_bind (thn (lcx_core (n := n) hn0 (Qf := fun _ s' => SPT X pins D .next s') hc hN I (pekn_of ha) ok hi hx ht hd hcd hs h fun L C s' m ps H' I' _ k q hn f => ?_) fun _ s' hq => wpAny_pure (wpAny_pure hq))
  show wpAny _ _ (assign (.Name y py) X.env (.ref L)) _ _ _
  obtain ⟨hL, hz, q⟩ := q
  obtain ⟨n1, e1⟩ := tlst_at I'.hok hL
  have I1 : Inv X pins σ (upd H' L (.frz { cls := .type "list", data := .seq (ps.map tv).toArray n1 } (.lst (ps.map tV)))) s' :=
    I'.write (t' := s'.toks) (h' := s'.heap) (by rw [hL]; trivial) (.inl rfl) (fun b u _ z => z) ⟨_, e1⟩ ⟨e1, by rw [List.length_map]; exact hz, _, n1, tx_vals ps, e1⟩
  have qq := q (.frz { cls := .type "list", data := .seq (ps.map tv).toArray n1 } (.lst (ps.map tV))) ⟨{ cls := .type "list", data := .seq (ps.map tv).toArray n1 }, n1, upd_same, rfl, rfl⟩
  obtain ⟨H1, eH⟩ : ∃ H1, upd H' L (.frz { cls := .type "list", data := .seq (ps.map tv).toArray n1 } (.lst (ps.map tV))) = H1 := ⟨_, rfl⟩
  have nC : H1 C = none := by
    rw [← eH]
    by_cases e : C = L
    · rw [e] at f
      have := f.1
      rw [hL] at this
      cases this
    · rw [upd_ne e]; exact f.1
  rw [eH] at I1 qq
  refine wpAny_assign_Name (wpAny_mono (DrDet.both (store_ok2 (v := V.ref L) (Q := fun _ s2 => Inv X pins (σ.set i (some (.ref L))) H1 s2 ∧ ∃ m, s2.heap.Ns C m) (E := fun _ _ => False) I1 hN hy (.inl hyl) rfl (fun s2 I2 ⟨a, sb, ha⟩ => ?_) (.inr hyl)) (store_at (v := V.ref L) I1 hN hy (.inl hyl) rfl (.inr hyl))) (fun _ s2 z => ?_) fun _ _ z => z.1.elim)
  · obtain ⟨f0, f1, f2, f3, f4, f5⟩ := f
    have haC : C ≠ a := by
      rcases ha with z | z
      · rw [z]; exact f1
      · exact fun e => f4 y a z e.symm
    exact ⟨I2, m, hn.sameBut sb haC⟩
  · obtain ⟨⟨I2, m2, hn2⟩, _, _, k2⟩ := z
    refine ⟨m2, hn2, fun h3 sb3 => ?_⟩
    obtain ⟨f0, f1, f2, f3, f4, f5⟩ := f
    have k3 : Kp X s2 { s2 with heap := h3 } := Kp.objs (fun o e => ⟨o.slots, (sb3.2 _ (Ne.symm f1)).trans e⟩) fun x c o hc e => ⟨o.slots, (sb3.2 _ (f4 x c hc)).trans e⟩
    exact ⟨_, _, H1, I2.turned (t' := s2.toks) (fun b o hb e => (sb3.2 b hb).trans e) nC f1 f3 f4 f5, ((T.kp k).store (u := .ref L) hy hN k2).kp k3, qq⟩
/-- the same in a block that counts tokens: one more is out behind the text's own -/
theorem psn_setLcX {n i : Nat} {rest : List Stmt} {uu : Nat → TSN} {y : Str} {py : Pos} {iter cond : Expr} {x : Str} {scope : Scope} {own : List (Str × Nat)} {ix : Nat} {pos p1 p2 spos : Pos} {ta : TE} {tt : TT} (hc : X.calm = true) (hN : X.N.Nodup) (hy : X.N[i]? = some y) (hyl : X.env.scope.names.lookup y = some .local)
    (hsw : swapsWith (.ListComp (.Name x p1) [⟨.Name x p2, iter, [cond], 0⟩] scope pos) (some (.Name y py)) spos.line X.env = pure true) (ha : PEKn n (n + 1) X iter ta) (h2 : ∀ m, PSsN m X rest (uu m)) (ok : BlkOk X.N X.env.scope scope own) (hi : X.N[ix]? = some x)
    (hx : ∀ (s : Shared) (H : Hp) (C : Addr) (cl : List (Str × Addr)) (fp : List Addr), Loc (X.blk s H scope (compEnvC scope cl C X.env) fp).env.scope x ∧ ((X.blk s H scope (compEnvC scope cl C X.env) fp).fn x = true ∨ (X.blk s H scope (compEnvC scope cl C X.env) fp).env.scope.names.lookup x = some .local))
    (ht : ∀ (s : Shared) (H : Hp) (C : Addr) (cl : List (Str × Addr)) (fp : List Addr), PTK (X.blk s H scope (compEnvC scope cl C X.env) fp) cond tt)
    (hd : (x == ("__debug__" : Str)) = false := by decide) (hcd : (x == ("__classdict__" : Str)) = false := by decide) (hs : ∀ x, foldedSetIterable iter X.env x = pure x := by intro _; rfl) :
    PSsN n X (.Assign [.Name y py] (.ListComp (.Name x p1) [⟨.Name x p2, iter, [cond], 0⟩] scope pos) spos :: rest) (fun D σ H => tLcX (n + 1) ta tt (own.map (·.2)) ix σ H fun a ps H1 => H1 a = some (TLst a (ps.map tv)) ∧ ps.length ≤ sizeLine ∧ ∀ u, TF (upd H1 a u) a ps → uu (n + 1) D (σ.set i (some (.ref a))) (upd H1 a u)) := by
  intro pins s σ H D hn0 I h
  refine wpAny_execs_cons ?_
  rw [exec_Assign_Name_used _ _ _ _ hsw]
  refine wpAny_bind (wpAny_standAt (wpAny_bind ?_))
  show wpAny _ X.A (do let _ ← comprehension (.ListComp (.Name x p1) [⟨.Name x p2, iter, [cond], 0⟩] scope pos) scope X.env (firstIterPos [⟨.Name x p2, iter, [cond], 0⟩] pos) (newList []) false (eval iter X.env) (some (assign (.Name y py) X.env))) _ _ s
  refine wpAny_bind (thn (lcx_core (n := n + 1) hn0 (Qf := fun _ s' => wpAny (model X.prog X.w) X.A (execs rest X.env) (SPN X pins D) X.xe s') hc hN I ha ok hi hx ht hd hcd hs h fun L C s' m ps H' I' tq k q hn f => ?_) fun _ s' hq => wpAny_pure (wpAny_pure hq))
  show wpAny _ _ (assign (.Name y py) X.env (.ref L)) _ _ _
  obtain ⟨hL, hz, q⟩ := q
  obtain ⟨n1, e1⟩ := tlst_at I'.hok hL
  have I1 : Inv X pins σ (upd H' L (.frz { cls := .type "list", data := .seq (ps.map tv).toArray n1 } (.lst (ps.map tV)))) s' :=
    I'.write (t' := s'.toks) (h' := s'.heap) (by rw [hL]; trivial) (.inl rfl) (fun b u _ z => z) ⟨_, e1⟩ ⟨e1, by rw [List.length_map]; exact hz, _, n1, tx_vals ps, e1⟩
  have qq := q (.frz { cls := .type "list", data := .seq (ps.map tv).toArray n1 } (.lst (ps.map tV))) ⟨{ cls := .type "list", data := .seq (ps.map tv).toArray n1 }, n1, upd_same, rfl, rfl⟩
  obtain ⟨H1, eH⟩ : ∃ H1, upd H' L (.frz { cls := .type "list", data := .seq (ps.map tv).toArray n1 } (.lst (ps.map tV))) = H1 := ⟨_, rfl⟩
  have nC : H1 C = none := by
    rw [← eH]
    by_cases e : C = L
    · rw [e] at f
      have := f.1
      rw [hL] at this
      cases this
    · rw [upd_ne e]; exact f.1
  rw [eH] at I1 qq
  refine wpAny_assign_Name (wpAny_mono (PySem.wpAny_toks_of tq (DrDet.both (store_ok2 (v := V.ref L) (Q := fun _ s2 => Inv X pins (σ.set i (some (.ref L))) H1 s2 ∧ ∃ m, s2.heap.Ns C m) (E := fun _ _ => False) I1 hN hy (.inl hyl) rfl (fun s2 I2 ⟨a, sb, ha⟩ => ?_) (.inr hyl)) (store_at (v := V.ref L) I1 hN hy (.inl hyl) rfl (.inr hyl)))) (fun _ s2 z => ?_) fun _ _ z => z.2.1.elim)
  · obtain ⟨f0, f1, f2, f3, f4, f5⟩ := f
    have haC : C ≠ a := by
      rcases ha with z | z
      · rw [z]; exact f1
      · exact fun e => f4 y a z e.symm
    exact ⟨I2, m, hn.sameBut sb haC⟩
  · obtain ⟨t2, ⟨I2, m2, hn2⟩, _, _, k2⟩ := z
    refine ⟨m2, hn2, fun h3 sb3 => ?_⟩
    obtain ⟨f0, f1, f2, f3, f4, f5⟩ := f
    exact h2 (n + 1) pins _ _ H1 D t2 (I2.turned (t' := s2.toks) (fun b o hb e => (sb3.2 b hb).trans e) nC f1 f3 f4 f5) qq
end
end Dr
/-! A comprehension whose items are made by a def that wants so many tokens out. -/
namespace Dr
open PySem PySem.Spec PyProof.Rows L2
theorem thnFN {α : Type} {t : Sem α} {Q Q' : α → Shared → Prop} {M : Model} {A : Around} {E : Value → Shared → Prop} {s : Shared} {n : Nat} (hn : n ≤ s.toks) (h : wpAny M A t Q (fun _ _ => False) s) (hQ : ∀ a s', n ≤ s'.toks → Q a s' → Q' a s') : wpAny M A t Q' E s :=
  wpAny_mono (PySem.wpAny_toks_of hn h) (fun a s' z => hQ a s' z.1 z.2) fun _ _ z => z.2.elim
def tLcN (wi : TI) (g : TG) (tt : TT) (te : TEN) (vs : List Nat) : TE := fun σ H Q => wi σ H fun J H1 => ∀ D, H1 D = none → ∃ W : Nat → Nat → Hp → Prop, (∃ m, W 0 m (upd H1 D (.lst []))) ∧ ∀ i m H, W i m H →
  (J.stop i H ∧ Q (.ref D) H) ∨ (J.go i H ∧ ∃ Nx : Hp → Prop, (∀ H', Nx H' → ∃ m', m' < m ∧ W (i + 1) m' H') ∧ ∀ x H', J.yld i H x H' → g x (wipe σ vs) H' fun σ2 H2 => wipe σ2 vs = wipe σ vs ∧ tt σ2 H2 fun b H3 =>
    if b = true then te σ2 H3 fun y H4 _ => ∃ us, H4 D = some (.lst us) ∧ us.length < sizeLine ∧ Nx (upd H4 D (.lst (us ++ [y]))) else Nx H3)
section
variable {X : Cx} {n : Nat}
theorem lcn_core {pins : List (Addr × Obj)} {s : Shared} {σ : L2.St} {H : Hp} {n : Nat} {Q : VK} {elt tg iter : Expr} {ifs : List Expr} {scope : Scope} {own : List (Str × Nat)} {pos pos' : Pos} {wi : TI} {g : TG} {tt : TT} {te : TEN} {use : Option (Value → Sem Unit)} {Qf : Value → Shared → Prop}
    (hn0 : n ≤ s.toks) (hc : X.calm = true) (hN : X.N.Nodup) (I : Inv X pins σ H s) (hi : PI X tg iter wi) (ok : BlkOk X.N X.env.scope scope own)
    (hg : ∀ (s : Shared) (H : Hp) (C : Addr) (cl : List (Str × Addr)) (fp : List Addr), PG (X.blk s H scope (compEnvC scope cl C X.env) fp) tg g) (ht : ∀ (s : Shared) (H : Hp) (C : Addr) (cl : List (Str × Addr)) (fp : List Addr), PTs (X.blk s H scope (compEnvC scope cl C X.env) fp) ifs tt)
    (he : ∀ (s : Shared) (H : Hp) (C : Addr) (cl : List (Str × Addr)) (fp : List Addr), PEN n (X.blk s H scope (compEnvC scope cl C X.env) fp) elt te) (hs : ∀ x, foldedSetIterable iter X.env x = pure x)
    (h : tLcN wi g tt te (own.map (·.2)) σ H Q)
    (fin : ∀ D C s' m H', Inv X pins σ H' s' → Q (.ref D) H' → s'.heap.Ns C m → FpOk X pins H' C → compPost (model X.prog X.w) X.A X.xe use Qf (.ref D) C (.ok .next) s') :
    wpAny (model X.prog X.w) X.A (comprehension (.ListComp elt [⟨tg, iter, ifs, 0⟩] scope pos) scope X.env pos' (newList []) false (eval iter X.env) use) Qf X.xe s := by
  have fr : ∀ y ∈ scope.names, y.2 = .free → ∃ c, X.env.cells.lookup y.1 = some c := fun y hy e => (ok.free y hy e).elim (fun k => I.ok.has _ (.inl k)) fun k => I.ok.has _ (.inr k)
  refine wpAny_comprehension_free (use := use) rfl hs (closure_ok fr) ok.kind (fun y hy e => by rw [ok.uniq y hy, e]) (thnN hn0 (hi.run pins s σ H _ I h) fun xv s1 hn1 hx => thnN hn1 hx fun itv s2 hn2 h2 => ?_)
  obtain ⟨it, fp, tn, J, H2, rfl, I2, T, st2, f2, q⟩ := h2
  refine wpAny_newObj_type (newEnv_comp ?_) (by show 0 ≤ sizeLine; decide)
  obtain ⟨D, hD⟩ : ∃ D, s2.heap.objs.size = D := ⟨_, rfl⟩
  rw [hD]
  obtain ⟨W, ⟨m0, w0⟩, turn⟩ := q D (I2.hok.fresh (Nat.le_of_eq hD))
  obtain ⟨s3, e3⟩ : ∃ s3 : Shared, ({ s2 with heap := s2.heap.push { cls := .type "list", data := .seq ([] : List Value).toArray } } : Shared) = s3 := ⟨_, rfl⟩
  have h3 : s3.heap = s2.heap.push { cls := .type "list", data := .seq ([] : List Value).toArray } := by rw [← e3]
  have gD : (s2.heap.push { cls := .type "list", data := .seq ([] : List Value).toArray }).get? D = some { cls := .type "list", data := .seq ([] : List Value).toArray } := by rw [← hD]; exact Heap.get?_push_size _ rfl
  have I3 : Inv X pins σ (upd H2 D (HO.lst [])) s3 := by
    rw [← e3]
    exact I2.laid (t' := s2.toks) (fun b o e => Heap.get?_push_of_some _ e) (Nat.le_of_eq hD) ⟨Nat.zero_le _, [], 0, .nil, gD⟩
  have hn3 : n ≤ s3.toks := by rw [← e3]; exact hn2
  rw [e3]
  have below : ∀ b ∈ fp, b < s2.heap.objs.size := fun b hb => let ⟨_, z, _⟩ := T.obj _ _ st2 b hb; Heap.lt_size z
  have away : ∀ b ∈ fp, FpOk X pins (upd H2 D (HO.lst [])) b ∧ b < s3.heap.objs.size := fun b hb => by
    have lt := below b hb
    refine ⟨⟨?_, (f2 b hb).2⟩, by rw [h3, Heap.size_push]; exact Nat.lt_succ_of_lt lt⟩
    rw [upd_ne (by rw [← hD]; exact Nat.ne_of_lt lt)]
    exact (f2 b hb).1
  have st3 : tn 0 s3.heap := T.keep _ _ _ st2 fun b _ o z => by rw [h3]; exact Heap.get?_push_of_some _ z
  have I4 := block_start I3 ok hN away
  have jg := hg s3 (upd H2 D (HO.lst [])) s3.heap.objs.size (cellsFrom (s3.heap.objs.size + 1) scope.names (cloFrom X.env.cells scope.names [])) fp
  have jt := ht s3 (upd H2 D (HO.lst [])) s3.heap.objs.size (cellsFrom (s3.heap.objs.size + 1) scope.names (cloFrom X.env.cells scope.names [])) fp
  have je := he s3 (upd H2 D (HO.lst [])) s3.heap.objs.size (cellsFrom (s3.heap.objs.size + 1) scope.names (cloFrom X.env.cells scope.names [])) fp
  have no0 : ∀ b ∈ fp, (upd H2 D (HO.lst [])) b = none := fun b hb => (away b hb).1.1
  show codeAny _ _ (.compStart (.ListComp elt [⟨tg, iter, ifs, 0⟩] scope pos) 0 (.ref it) (.ref D) (compEnvC scope (cellsFrom (s3.heap.objs.size + 1) scope.names (cloFrom X.env.cells scope.names [])) s3.heap.objs.size X.env)) (compPost (model X.prog X.w) X.A X.xe use Qf (.ref D) s3.heap.objs.size) { s3 with heap := pushCells (s3.heap.push { cls := .type "dict", data := .dict #[] }) scope.names }
  obtain ⟨ce, hce⟩ : ∃ ce, compEnvC scope (cellsFrom (s3.heap.objs.size + 1) scope.names (cloFrom X.env.cells scope.names [])) s3.heap.objs.size X.env = ce := ⟨_, rfl⟩
  rw [hce] at I4 jg jt je ⊢
  have eL : ce.locals = s3.heap.objs.size := by rw [← hce] <;> rfl
  obtain ⟨H3, hH⟩ : ∃ H3, upd H2 D (HO.lst []) = H3 := ⟨_, rfl⟩
  rw [hH] at I3 I4 jg jt je w0 no0 away
  obtain ⟨s4, e4⟩ : ∃ s4 : Shared, ({ s3 with heap := pushCells (s3.heap.push { cls := .type "dict", data := .dict #[] }) scope.names } : Shared) = s4 := ⟨_, rfl⟩
  have hn4 : n ≤ s4.toks := by rw [← e4]; exact hn3
  rw [e4] at I4 ⊢
  have st4 : tn 0 s4.heap := T.keep _ _ _ st3 fun b _ o z => by rw [← e4]; exact pushCells_keeps _ _ _ _ (Heap.get?_push_of_some _ z)
  have stay : ∀ {σ' : L2.St} {H' : Hp} {s' : Shared}, Inv (X.blk s3 H3 scope ce fp) [] σ' H' s' → (∀ b ∈ fp, H' b = none) → ∀ b ∈ fp, FpOk (X.blk s3 H3 scope ce fp) [] H' b := fun I' nn b hb =>
    ⟨nn b hb, (I'.ok.exf b hb).1, I'.ok.exfs b hb, .inl hb, fun x c z => (I'.ok.exf b hb).2 x c z, fun p hp => absurd (show p ∈ ([] : List (Addr × Obj)) ++ [] from hp) (by simp)⟩
  have loop : codeAny (model X.prog X.w) X.A (.compLoop (.ListComp elt [⟨tg, iter, ifs, 0⟩] scope pos) 0 (.ref it) (.ref D) ce) (compPost (model X.prog X.w) X.A X.xe use Qf (.ref D) s3.heap.objs.size) s4 := by
    refine compLoop_any (fun k s' => ∃ i H', n ≤ s'.toks ∧ Inv (X.blk s3 H3 scope ce fp) [] (wipe σ (own.map (·.2))) H' s' ∧ tn i s'.heap ∧ (∀ b ∈ fp, H' b = none) ∧ W i k H') ?_ m0 ⟨0, H3, hn4, I4, st4, no0, w0⟩
    intro k s5 hn5
    obtain ⟨i, H5, t5, I5, st5, no5, w5⟩ := hn5
    rcases turn i k H5 w5 with ⟨halt, qq⟩ | ⟨go, Nx, hNx, step⟩
    · refine thnF (T.done (X.blk s3 H3 scope ce fp) rfl rfl rfl hc i [] s5 _ H5 (fun _ _ => False) I5 (stay I5 no5) st5 halt) fun r s6 hr6 => ?_
      obtain ⟨rfl, I6⟩ := hr6
      have I7 : Inv X pins σ H5 s6 := I3.call' (ch := fp) I6.os I6.base I6.hok I6.bare fun b hb => ⟨(away b hb).1.2.2.2.1, (away b hb).1.2.1, (away b hb).1.2.2.2.2.1, (away b hb).1.2.2.2.2.2⟩
      have noC : H5 s3.heap.objs.size = none := eL ▸ (show H5 ce.locals = none from I6.free)
      obtain ⟨m, hns, _⟩ := I6.loc
      exact fin D s3.heap.objs.size s6 m H5 I7 qq (eL ▸ (show s6.heap.Ns ce.locals m from hns)) (I3.fpOk (Nat.le_refl _) noC)
    · refine thnFN t5 (T.item (X.blk s3 H3 scope ce fp) rfl rfl rfl hc i [] s5 _ H5 (fun _ _ => False) I5 (stay I5 no5) st5 go) fun r s6 t6 hr6 => ?_
      obtain ⟨u, rfl, h6⟩ := hr6
      refine thnFN t6 h6 fun _ s7 t7 h7 => ?_
      obtain ⟨x, H7, I7, r7, y7, st7, no7⟩ := h7
      have I7p := I7.pinned (stay I7 no7) (T.obj _ _ st7)
      refine thnFN t7 (jg.run _ s7 _ H7 x u _ I7p r7 (step x H7 y7)) fun _ s8 t8 h8 => ?_
      obtain ⟨σ8, H8, I8, ew, q8⟩ := h8
      refine thnFN t8 (jt.run _ s8 σ8 H8 _ I8 q8) fun b s9 t9 h9 => ?_
      obtain ⟨H9, I9, q9⟩ := h9
      have next : ∀ {s' : Shared} {H' : Hp}, Inv (X.blk s3 H3 scope ce fp) ([] ++ pinsAt fp s7.heap) σ8 H' s' → n ≤ s'.toks → Nx H' → ∃ m, m < k ∧ ∃ i H', n ≤ s'.toks ∧ Inv (X.blk s3 H3 scope ce fp) [] (wipe σ (own.map (·.2))) H' s' ∧ tn i s'.heap ∧ (∀ b ∈ fp, H' b = none) ∧ W i m H' := fun {s' H'} J' tn' nx => by
        obtain ⟨m', lm, w'⟩ := hNx H' nx
        have at7 : ∀ b ∈ fp, ∀ o, s7.heap.get? b = some o → s'.heap.get? b = some o ∧ H' b = none := fun b hb o z =>
          let y := J'.pin (b, o) (List.mem_append_right _ (List.mem_append_right _ (mem_pinsAt hb z))); ⟨y.1, y.2.1⟩
        have sz : (wipe σ (own.map (·.2))).length = σ8.length := by rw [← ew, wipe_length]
        refine ⟨m', lm, i + 1, H', tn', (J'.unpinned (pins := [])).weak sz (fun j v z => (wipe_some (ew.symm ▸ z)).1), T.keep _ _ _ st7 fun b hb o z => (at7 b hb o z).1, fun b hb => ?_, w'⟩
        obtain ⟨o, z, _⟩ := T.obj _ _ st7 b hb
        exact (at7 b hb o z).2
      match b, q9 with
      | false, q9 => exact (show ∃ m, m < k ∧ _ from next I9 t9 q9)
      | true, q9 =>
        refine thnFN t9 (je _ s9 σ8 H9 _ t9 I9 q9) fun z s10 t10 h10 => ?_
        obtain ⟨m1, _, yv, H10, I10, r10, us, hD10, hz10, nx⟩ := h10
        refine wpAny_with_toks t10 ?_
        exact app_ok (X := X.blk s3 H3 scope ce fp) I10 hD10 hz10 r10 fun s11 I11 t11 => next I11 t11 nx
  exact codeAny_compStart_list loop (T.self X.A 0 _ _ _ st4 loop)
theorem pen_lc {elt tg iter : Expr} {ifs : List Expr} {scope : Scope} {own : List (Str × Nat)} {pos : Pos} {wi : TI} {g : TG} {tt : TT} {te : TEN} (hc : X.calm = true) (hN : X.N.Nodup) (hi : PI X tg iter wi) (ok : BlkOk X.N X.env.scope scope own)
    (hg : ∀ (s : Shared) (H : Hp) (C : Addr) (cl : List (Str × Addr)) (fp : List Addr), PG (X.blk s H scope (compEnvC scope cl C X.env) fp) tg g) (ht : ∀ (s : Shared) (H : Hp) (C : Addr) (cl : List (Str × Addr)) (fp : List Addr), PTs (X.blk s H scope (compEnvC scope cl C X.env) fp) ifs tt)
    (he : ∀ (s : Shared) (H : Hp) (C : Addr) (cl : List (Str × Addr)) (fp : List Addr), PEN n (X.blk s H scope (compEnvC scope cl C X.env) fp) elt te) (hs : ∀ x, foldedSetIterable iter X.env x = pure x := by intro _; rfl) :
    PEN n X (.ListComp elt [⟨tg, iter, ifs, 0⟩] scope pos) (fun σ H Q => tLcN wi g tt te (own.map (·.2)) σ H fun v H' => Q v H' n) := by
  intro pins s σ H Q hn0 I h
  rw [eval_ListComp]
  refine wpAny_mono (PySem.wpAny_toks_of hn0 (lcn_core (use := none) (Qf := fun u s' => ∃ H', Inv X pins σ H' s' ∧ ∃ D, u = .ref D ∧ Q (.ref D) H' n) hn0 hc hN I hi ok hg ht he hs h fun D C s' m H' I' q hn f => ⟨m, hn, fun h2 sb => ⟨H', ?_, D, rfl, q⟩⟩)) (fun u s' z => ?_) fun _ _ z => z.2
  · obtain ⟨f0, f1, f2, f3, f4, f5⟩ := f
    exact I'.turned (t' := s'.toks) (fun b o hb z => (sb.2 b hb).trans z) f0 f1 f3 f4 f5
  · obtain ⟨tq, H', I', D, rfl, q⟩ := z
    exact ⟨n, tq, .ref D, H', I', rfl, q⟩
end
end Dr
/-! a, b = x, y where the second tells how many tokens are out; comprehensions read. -/
namespace Dr
open PySem PySem.Spec PyProof.Rows L2
section
variable {X : Cx} {n : Nat} {rest : List Stmt} {pos : Pos}
theorem psn_par {i j : Nat} {x y : Str} {a b : Expr} {ta : TE} {tb : TEN} {u : Nat → TSN} {px py pt : Pos} {kt k2 pt2} (hc : X.calm = true) (hN : X.N.Nodup) (hi : X.N[i]? = some x) (hj : X.N[j]? = some y) (hij : i ≠ j)
    (hx : X.env.scope.names.lookup x = some .local) (hy : X.env.scope.names.lookup y = some .local) (ha : PE X a ta) (hb : PEN n X b tb) (h2 : ∀ m, PSsN m X rest (u m))
    (hw : swappedStores [.Tuple [.Name x px, .Name y py] kt pt] (.Tuple [a, b] k2 pt2) X.env = pure (some [x, y]))
    (hs : swapsWithSole [.Tuple [.Name x px, .Name y py] kt pt] (.Tuple [a, b] k2 pt2) pos.line X.env = pure false := by rfl)
    (hst : starEach [a, b] X.env = [(false, eval a X.env), (false, eval b X.env)] := by rfl) :
    PSsN n X (.Assign [.Tuple [.Name x px, .Name y py] kt pt] (.Tuple [a, b] k2 pt2) pos :: rest) (fun D σ H => ta σ H fun v H1 => tb σ H1 fun w H2 m => u m D ((σ.set i (some v)).set j (some w)) H2) := by
  intro pins s σ H D hn I h
  refine wpAny_execs_cons ?_
  rw [exec_Assign_arm]
  refine wpAny_bind (wpAny_standAt ?_)
  rw [hs]
  refine wpAny_bind (wpAny_pure ?_)
  rw [if_neg (by decide)]
  refine wpAny_bind (Tuple_ ?_)
  rw [hst]
  refine Calls.spliced_cons (thnN hn (ha.run pins s σ H _ I h) fun u1 s0 hn0 h0 => ?_)
  obtain ⟨v, H0, I0, rv, q0⟩ := h0
  refine Calls.spliced_cons (thn (hb pins s0 σ H0 _ hn0 I0 q0) fun u2 s1 h1 => Calls.spliced_nil ?_)
  obtain ⟨m, hm, w, H1, I1, rw', q1⟩ := h1
  refine wpAny_newObj_type ?_ (by show 2 ≤ sizeLine; decide)
  have I2 : Inv X pins σ H1 { s1 with heap := s1.heap.push { cls := .type "tuple", data := .seq [u1, u2].toArray } } := I1.kept (t' := s1.toks) fun b o e => Heap.get?_push_of_some _ e
  rw [hw]
  refine wpAny_bind (wpAny_pure ?_)
  show wpAny (model X.prog X.w) X.A (do rule "assign.swapped-stores"; let items ← unpackItems (.ref s1.heap.objs.size) 2 none; assignInOrder [fun v => bindName X.env y v, fun v => bindName X.env x v] items.reverse; pure Flow.next) _ _ _
  refine wpAny_bind (wpAny_rule (wpAny_bind (unpackItems_tuple (items := #[u1, u2]) (I.ok.hd hc) (IsTup.new s1.heap _) fun h' hx' => ?_)))
  have I3 := I2.kept (h' := h') (t' := s1.toks) fun b o e => hx' b o (Nat.ne_of_lt (Heap.lt_size e)) e
  show wpAny _ _ (assignInOrder [fun v => bindName X.env y v, fun v => bindName X.env x v] [u2, u1] >>= fun _ => pure Flow.next) _ _ _
  refine wpAny_with_toks (n := m) hm ?_
  refine wpAny_bind (assignInOrder_cons (wpAny_bindName (store_ok I3 hN hj (.inl hy) rw' (fun s2 I4 => ?_) (.inr hy))))
  refine assignInOrder_cons (wpAny_bindName (store_ok I4 hN hi (.inl hx) rv (fun s3 I5 => assignInOrder_nil (wpAny_pure fun hm3 => ?_)) (.inr hx)))
  rw [List.set_comm _ _ (Ne.symm hij)] at I5
  exact h2 m pins s3 _ H1 D hm3 I5 q1
/-- a, b = e, the pair made and taken apart (where a name is held in a cell) -/
theorem psn_asg {tg e : Expr} {tn : TEN} {g : TG} {u : Nat → TSN} (he : PEN n X e tn) (hg : PG X tg g) (h2 : ∀ m, PSsN m X rest (u m)) (hs : swapsWithSole [tg] e pos.line X.env = pure false := by rfl) (hw : swappedStores [tg] e X.env = pure none := by rfl)
    (h1 : (assignEach [tg] X.env).map (·.2) = [assign tg X.env] := by rfl) : PSsN n X (.Assign [tg] e pos :: rest) (fun D σ H => tn σ H fun v H1 m => g v σ H1 fun σ2 H2 => u m D σ2 H2) := by
  intro pins s σ H D hn I h
  refine wpAny_execs_cons (wpAny_Assign_stores (thn (he pins s σ H _ hn I h) fun v s1 hv => ?_) hs hw)
  obtain ⟨m, hm, x, H1, I1, r1, q1⟩ := hv
  rw [h1]
  exact thnN hm (hg.run pins s1 σ H1 x v _ I1 r1 q1) fun _ s2 hm2 q => by
    obtain ⟨σ2, H2, I2, q2⟩ := q
    exact h2 m pins s2 σ2 H2 D hm2 I2 q2
/-- a pair, the second tells how many tokens are out -/
theorem pen_tup2 {a b : Expr} {ta : TE} {tb : TEN} {x1} (ha : PE X a ta) (hb : PEN n X b tb) (hst : starEach [a, b] X.env = [(false, eval a X.env), (false, eval b X.env)] := by rfl) :
    PEN n X (.Tuple [a, b] x1 pos) (fun σ H Q => ta σ H fun v H1 => tb σ H1 fun w H2 m => ∀ t, H2 t = none → Q (.ref t) (upd H2 t (.tup [v, w])) m) := by
  intro pins s σ H Q hn I h
  refine wpAny_Tuple_spliced ?_
  rw [hst]
  refine Calls.spliced_cons (thnN hn (ha.run pins s σ H _ I h) fun u1 s0 hn0 h0 => ?_)
  obtain ⟨v, H0, I0, rv, q0⟩ := h0
  refine Calls.spliced_cons (thn (hb pins s0 σ H0 _ hn0 I0 q0) fun u2 s1 h1 => Calls.spliced_nil ?_)
  obtain ⟨m, hm, w, H1, I1, rw', q1⟩ := h1
  have z2 : 2 ≤ sizeLine := by decide
  refine ⟨z2, ?_⟩
  have keep : ∀ b o, s1.heap.get? b = some o → (s1.heap.push { cls := .type "tuple", data := .seq [u1, u2].toArray }).get? b = some o := fun b o e => Heap.get?_push_of_some _ e
  exact ⟨m, hm, .ref s1.heap.objs.size, _, I1.laid (t' := s1.toks) keep (Nat.le_refl _) (o := .tup [v, w]) ⟨z2, [u1, u2], .cons rv (.cons rw' .nil), ⟨_, Heap.get?_push_size _ rfl, rfl, _, rfl⟩⟩, rfl, q1 _ (I1.hok.fresh (Nat.le_refl _))⟩
end
theorem lcn_it {J : It} {n : Nat} {G : Hp → Prop} {Y : Nat → Hp → V → Hp → Prop} (w : Walk J n G Y) {g : TG} {tt : TT} {te : TEN} {vs : List Nat} {σ : L2.St} {H1 : Hp} {D : Addr} {Qd : Hp → Prop} (Pv : Nat → Hp → Prop) (h0 : Pv 0 (upd H1 D (.lst []))) (hG : ∀ i H, i ≤ n → Pv i H → G H)
    (turn : ∀ i x H H', i < n → Pv i H → Y i H x H' → g x (wipe σ vs) H' fun σ2 H2 => wipe σ2 vs = wipe σ vs ∧ tt σ2 H2 fun b H3 =>
      if b = true then te σ2 H3 fun u H4 _ => ∃ us, H4 D = some (.lst us) ∧ us.length < sizeLine ∧ Pv (i + 1) (upd H4 D (.lst (us ++ [u]))) else Pv (i + 1) H3) (fin : ∀ H, Pv n H → Qd H) :
    ∃ W : Nat → Nat → Hp → Prop, (∃ m, W 0 m (upd H1 D (.lst []))) ∧ ∀ i m H, W i m H →
      (J.stop i H ∧ Qd H) ∨ (J.go i H ∧ ∃ Nx : Hp → Prop, (∀ H', Nx H' → ∃ m', m' < m ∧ W (i + 1) m' H') ∧ ∀ x H', J.yld i H x H' → g x (wipe σ vs) H' fun σ2 H2 => wipe σ2 vs = wipe σ vs ∧ tt σ2 H2 fun b H3 =>
        if b = true then te σ2 H3 fun u H4 _ => ∃ us, H4 D = some (.lst us) ∧ us.length < sizeLine ∧ Nx (upd H4 D (.lst (us ++ [u]))) else Nx H3) := by
  refine ⟨fun i m H => i ≤ n ∧ m = n - i ∧ Pv i H, ⟨n - 0, Nat.zero_le _, rfl, h0⟩, fun i m H h => ?_⟩
  obtain ⟨hi, rfl, p⟩ := h
  have q := hG i H hi p
  rcases Nat.lt_or_ge i n with lt | ge
  · exact .inr ⟨w.goes i H lt q, Pv (i + 1), fun H' p' => ⟨n - (i + 1), by omega, lt, rfl, p'⟩, fun x H' y => turn i x H H' lt p (w.yields i H x H' lt q y)⟩
  · obtain rfl : i = n := Nat.le_antisymm hi ge
    exact .inl ⟨w.stops H q, fin H p⟩
end Dr
/-! The helpers of the laws with _law_rng, their letters' tokens told. -/
namespace Dr
open PySem L2
theorem hid_hidL (r : Addr) (H : Hp) : hid r H = hidL [r] H := by
  funext b
  unfold hid hidL
  by_cases h : b = r
  · simp [h]
  · simp [h]
theorem toL {r : Addr} {H H' : Hp} (S : Same (hid r H) (hid r H')) : Same (hidL [r] H) (hidL [r] H') := by rw [hid_hidL, hid_hidL] at S; exact S
theorem ofL {r : Addr} {H H' : Hp} (S : Same (hidL [r] H) (hidL [r] H')) : Same (hid r H) (hid r H') := by rw [hid_hidL, hid_hidL]; exact S
section
variable {H H' : Hp} {r p : Addr} {c : Nat} {o : HO}
theorem Rg.nin (h : Rg H r c) (hp : H p = none) : p ∉ [r] := fun z => by
  obtain ⟨d, s, n, h1, h2⟩ := h
  rw [List.mem_singleton.mp z, h1] at hp
  cases hp
theorem Rg.updL (h : Rg H r c) (hp : p ∉ [r]) : Rg (L2.upd H p o) r c := by
  obtain ⟨d, s, n, h1, h2⟩ := h
  have : r ≠ p := fun e => hp (by rw [e]; exact List.mem_singleton_self _)
  exact ⟨d, s, n, by rw [upd_ne this]; exact h1, h2⟩
theorem Rg.ndT {a : Addr} {ps : List Tx} (h : Rg H r c) (hF : TF H a ps) : a ∉ [r] := fun z => by
  obtain ⟨o, k, e, _⟩ := hF
  obtain ⟨d, s, n, h1, h2⟩ := h
  rw [List.mem_singleton.mp z, h1] at e
  cases e
end
/-- rows that are alike up to the place k -/
structure Alike (k : Nat) (A : List Nat) (w : Nat) (r : List Nat) : Prop where
  pre : (r.take k).Perm A
  at_ : r[k]? = some w
  col : ∀ y ∈ r, y ∈ colN
  len : r.length ≤ 60
theorem Alike.runs {k : Nat} {A : List Nat} {w : Nat} {r : List Nat} (h : Alike k A w r) {D : List Cl} (hv : ∀ c ∈ D, c.ok = true) : ∃ y, sg y = (ones D (tally A, sg w)).2 ∧ Alike k (Dr.runs D A) y (Dr.runs D r) := by
  obtain ⟨y, hy, e⟩ := ones_runs hv h.at_
  have et : tally (r.take k) = tally A := by
    unfold tally
    exact List.map_congr_left fun c _ => by rw [h.pre.count_eq]
  rw [et] at e
  exact ⟨y, e.symm, by rw [runs_take hv]; exact runs_perm hv h.pre, hy, runs_col hv h.col, by rw [runs_len]; exact h.len⟩
theorem LettT.lett {qs : List Tx} (h : LettT qs) : Lett (qs.map (·.1)) := ⟨by rw [List.length_map]; exact h.pos, by rw [List.length_map]; exact h.six, h.nd, fun z hz => by
  obtain ⟨p, hp, rfl⟩ := List.mem_map.mp hz
  exact h.col p hp⟩
theorem TF.sqh {K : PySem.W.Frag} {H : Hp} {r a : Addr} {ps : List Tx} (h : TF H a ps) (n : a ∉ [r]) : SqL K (hid r H) a ((ps.map (·.1)).map V.str) := by
  obtain ⟨o, k, e, _⟩ := h
  have e2 : hid r H a = some (.frz o (.lst (ps.map tV))) := by rw [hid_hidL]; exact hidL_get n e
  have z : ps.map tV = (ps.map (·.1)).map V.str := by rw [List.map_map]; rfl
  rw [← z]
  exact .inl (.inr ⟨o, e2⟩)
theorem oth_fst (x : Tx) : ∀ qs : List Tx, (qs.filter (oth x)).map (·.1) = without x.1 (qs.map (·.1))
  | [] => rfl
  | y :: qs => by
    have ih := oth_fst x qs
    unfold without at ih ⊢
    rw [List.map_cons, List.filter_cons, List.filter_cons]
    show (if (!decide (V.str y.1 = V.str x.1)) = true then y :: qs.filter (oth x) else qs.filter (oth x)).map (·.1) = _
    by_cases h : (!decide (V.str y.1 = V.str x.1)) = true
    · rw [if_pos h, if_pos h, List.map_cons, ih]
    · rw [if_neg h, if_neg h, ih]
theorem LettT.oth_len {qs : List Tx} (h : LettT qs) {x : Tx} (hx : x ∈ qs) : (qs.filter (Dr.oth x)).length + 1 = qs.length := by
  have e := without_len h.nd (List.mem_map_of_mem (f := (·.1)) hx)
  rw [← oth_fst, List.length_map, List.length_map] at e
  exact e
def sp_rng_mixed (_ : PySem.W.Frag) : Sp := fun vs H Q _ => ∃ (r : Addr) (c : Nat) (z : Str), vs = [.ref r, .str z] ∧ Rg H r c ∧ c < 800000000 ∧ z.cps.size ≤ 1000 ∧
  ∀ (H' : Hp) (w : Str), Same (hidL [r] H) (hidL [r] H') → Rg H' r (c + 1000) → w.cps.toList.Perm z.cps.toList → Q (.str w) H'
def spn_letters (_ : PySem.W.Frag) : SpN := fun vs H n Q _ => ∃ (r : Addr) (c : Nat), vs = [.ref r] ∧ Rg H r c ∧ c < 900000000 ∧
  ∀ (H' : Hp) (p : Addr) (qs : List Tx) (m : Nat), Same (hidL [r] H) (hidL [r] H') → Rg H' r (c + 7) → H p = none → p ∉ [r] → TF H' p qs → LettT qs → (∀ x ∈ qs, x.2 < m) → Q (.ref p) H' m
def spn_order (K : PySem.W.Frag) : SpN := fun vs H n Q _ => ∃ (r l : Addr) (top : Int) (qs : List Tx) (c : Nat), vs = [.ref r, .ref l, .int top] ∧ Rg H r c ∧ c < 950000000 ∧ TF H l qs ∧ LettT qs ∧ (∀ x ∈ qs, x.2 < n) ∧ 2 ≤ top ∧ top ≤ 1000 ∧
  ∀ (H' : Hp) (t : Addr) (cl : Cl), Same (hidL [r] H) (hidL [r] H') → Rg H' r (c + 6) → t ∉ [r] → (∃ o vs, H' t = some (.frz o (.tup vs))) → TCl K (hidL [r] H') t cl → cl.ok = true → Cl.le top cl → Q (.ref t) H' n
def spn_orders (K : PySem.W.Frag) : SpN := fun vs H n Q _ => ∃ (r l : Addr) (longest top : Int) (qs : List Tx) (c : Nat), vs = [.ref r, .ref l, .int longest, .int top] ∧ Rg H r c ∧ c < 900000000 ∧ TF H l qs ∧ LettT qs ∧ (∀ x ∈ qs, x.2 < n) ∧ 0 ≤ longest ∧ longest ≤ 1000 ∧ 2 ≤ top ∧ top ≤ 1000 ∧
  ∀ (H' : Hp) (a : Addr) (D : List Cl), Same (hidL [r] H) (hidL [r] H') → Rg H' r (c + 7000) → H a = none → a ∉ [r] → DrillT K (hidL [r] H') a D → (∀ cl ∈ D, cl.ok = true) → (∀ cl ∈ D, Cl.le top cl) → (D.length : Int) ≤ longest → Q (.ref a) H' n
end Dr
/-! zip of two things of unlike kind: a list, a tuple, a text. -/
namespace Dr
open PySem PySem.Spec PyProof.Rows L2
/-- what is walked on one side -/
inductive Sd
  | lst (a : Addr)
  | tup (a : Addr)
  | txt (z : Str)
def Sd.J (K : PySem.W.Frag) : Sd → Hp → List V → Prop
  | .lst a, H, xs => SqL K H a xs
  | .tup a, H, xs => SqT K H a xs
  | .txt z, _, xs => xs = z.cps.toList.map fun c => V.str (sg c)
def Sd.v : Sd → V
  | .lst a => .ref a
  | .tup a => .ref a
  | .txt z => .str z
def Sd.st : Sd → Tok → Addr → Nat → Heap → Prop
  | .lst a, _, i, k, h => h.IsListIter i a k
  | .tup a, _, i, k, h => h.IsTupleIter i a k
  | .txt z, t, i, k, h => h.IsStrIter i (strIterType z) z t k
def Sd.ad : Sd → List Addr
  | .lst a => [a]
  | .tup a => [a]
  | .txt _ => []
theorem Sd.obj {S : Sd} {t : Tok} {i : Addr} {k : Nat} {h : Heap} (q : S.st t i k h) : ∃ o, h.get? i = some o ∧ ∀ v, o.data ≠ .cell v := by
  cases S with
  | lst a => obtain ⟨o, e, _, d⟩ := q; exact ⟨o, e, fun v z => by rw [d] at z; cases z⟩
  | tup a => obtain ⟨o, e, _, d⟩ := q; exact ⟨o, e, fun v z => by rw [d] at z; cases z⟩
  | txt z => obtain ⟨o, e, _, d⟩ := q; exact ⟨o, e, fun v z => by rw [d] at z; cases z⟩
theorem Sd.keep {S : Sd} {t : Tok} {i : Addr} {k : Nat} {h h' : Heap} (q : S.st t i k h) (e : ∀ o, h.get? i = some o → h'.get? i = some o) : S.st t i k h' := by
  cases S with
  | lst a => exact Heap.IsListIter.at q e
  | tup a => exact Heap.IsTupleIter.at q e
  | txt z => obtain ⟨o, ho, r⟩ := q; exact ⟨o, e o ho, r⟩
section
variable {X : Cx} {pins : List (Addr × Obj)} {σ : L2.St} {H : Hp} {s : Shared}
theorem Sd.inj {S : Sd} (I : Inv X pins σ H s) {xs ys : List V} (p : S.J X.K H xs) (q : S.J X.K H ys) : xs = ys := by
  cases S with
  | lst a => exact I.list_inj p q
  | tup a => exact I.tuple_inj p q
  | txt z => exact p.trans q.symm
/-- what the library's Draws say of a side -/
theorem Sd.draws {S : Sd} (I : Inv X pins σ H s) (hh : X.A.in1.handled = none) {i : Addr} {t : Tok} {xs : List V} (hJ : S.J X.K H xs) (ne : ∀ a ∈ S.ad, a ≠ i) :
    ∃ (Pd : Nat → Value → Prop) (St : Nat → Heap → Prop), Draws X.prog X.w X.A.in1 i (i :: S.ad) xs.length Pd St ∧ (∀ k, S.st t i k s.heap → St k s.heap) ∧ (∀ k h, St k h → S.st t i k h) ∧
      ∀ k u, k < xs.length → Pd k u → ∃ x, xs[k]? = some x ∧ RelV x u := by
  have get : ∀ {us : List Value}, Vals xs us → ∀ k u, k < xs.length → us.toArray[k]? = some u → ∃ x, xs[k]? = some x ∧ RelV x u := fun {us} r k u hk hu => by
    obtain ⟨x, hx⟩ := get_of_lt hk
    obtain ⟨w, hw, rw'⟩ := r.get hx
    have : us[k]? = some u := by simpa using hu
    rw [hw] at this
    cases this
    exact ⟨x, hx, rw'⟩
  cases S with
  | lst a =>
    obtain ⟨us, r, p, _⟩ := I.list hJ
    have D := Draws.list (prog := X.prog) (w := X.w) hh i a (ne a (by simp [Sd.ad])) us.toArray
    rw [show us.toArray.size = xs.length by simp [r.length]] at D
    exact ⟨_, _, D, fun k q => ⟨q, p.isList⟩, fun k h q => q.1, get r⟩
  | tup a =>
    obtain ⟨us, r, p, _⟩ := I.tuple hJ
    have D := Draws.tuple (prog := X.prog) (w := X.w) hh i a (ne a (by simp [Sd.ad])) us.toArray
    rw [show us.toArray.size = xs.length by simp [r.length]] at D
    exact ⟨_, _, D, fun k q => ⟨q, p⟩, fun k h q => q.1, get r⟩
  | txt z =>
    have D := Draws.text (prog := X.prog) (w := X.w) hh i z t
    have hl : xs.length = z.cps.size := by rw [show xs = _ from hJ, List.length_map]; simp
    rw [← hl] at D
    refine ⟨_, _, D, fun k q => q, fun k h q => q, fun k u hk ⟨c, u', hc, hu⟩ => ⟨.str (sg c), ?_, ?_⟩⟩
    · rw [show xs = _ from hJ, List.getElem?_map, Array.getElem?_toList, hc]; rfl
    · rw [hu]; exact ⟨u', rfl⟩
end
def ItzM (K : PySem.W.Frag) (S1 S2 : Sd) : It :=
  ⟨fun i H => ∃ (xs ys : List V) (x y : V), S1.J K H xs ∧ S2.J K H ys ∧ xs[i]? = some x ∧ ys[i]? = some y,
    fun i H v H' => ∃ T x y, v = .ref T ∧ H T = none ∧ H' = upd H T (.tup [x, y]) ∧ (∀ xs, S1.J K H xs → xs[i]? = some x) ∧ ∀ ys, S2.J K H ys → ys[i]? = some y,
    fun i H => ∃ xs ys : List V, S1.J K H xs ∧ S2.J K H ys ∧ i ≤ xs.length ∧ i ≤ ys.length ∧ (i = xs.length ∨ i = ys.length)⟩
theorem walk_zipM {K : PySem.W.Frag} {S1 S2 : Sd} {xs ys : List V} {n : Nat} (hn : n = min xs.length ys.length) : Walk (ItzM K S1 S2) n (fun H => S1.J K H xs ∧ S2.J K H ys) (YPair (fun i => xs[i]?) fun i => ys[i]?) := by
  subst hn
  refine ⟨fun i _ hi q => ?_, fun _ q => ⟨xs, ys, q.1, q.2, by omega, by omega, by omega⟩, fun i H v H' _ q y => ?_⟩
  · have h1 : i < xs.length := by omega
    have h2 : i < ys.length := by omega
    exact ⟨xs, ys, xs[i], ys[i], q.1, q.2, by simp [h1], by simp [h2]⟩
  · obtain ⟨T, x, z, h1, h2, h3, h4, h5⟩ := y
    exact ⟨T, x, z, h1, h2, h3, h4 xs q.1, h5 ys q.2⟩
/-- the five cells of a zip lie apart from each other and from what it walks -/
structure Apt (z TI TO i1 i2 : Addr) (S1 S2 : Sd) : Prop where
  nd : [z, TI, TO, i1, i2].Nodup
  a1 : ∀ a ∈ S1.ad, a ∉ [z, TI, TO, i1, i2]
  a2 : ∀ a ∈ S2.ad, a ∉ [z, TI, TO, i1, i2]
theorem Apt.sep {z TI TO i1 i2 : Addr} {S1 S2 : Sd} (D : Apt z TI TO i1 i2 S1 S2) : ZipSep2 z TI TO i1 i2 (i1 :: S1.ad) (i2 :: S2.ad) := by
  have nd := D.nd
  simp only [List.nodup_cons, List.mem_cons, List.not_mem_nil, or_false, not_or, not_false_eq_true, List.nodup_nil, and_true] at nd
  obtain ⟨⟨n1, n2, n3, n4⟩, ⟨n5, n6, n7⟩, ⟨n8, n9⟩, n10⟩ := nd
  have b1 : ∀ c ∈ [z, TI, TO, i1, i2], c ∉ S1.ad := fun c hc h => D.a1 c h hc
  have b2 : ∀ c ∈ [z, TI, TO, i1, i2], c ∉ S2.ad := fun c hc h => D.a2 c h hc
  refine ⟨Ne.symm n1, Ne.symm n2, n5, n6, List.mem_cons_self, ?_, ?_, n7, List.mem_cons_self, ?_, ?_, ?_, ?_⟩
  · exact List.not_mem_cons_of_ne_of_not_mem n3 (b1 z (by simp))
  · exact List.not_mem_cons_of_ne_of_not_mem n8 (b1 TO (by simp))
  · exact List.not_mem_cons_of_ne_of_not_mem n4 (b2 z (by simp))
  · exact List.not_mem_cons_of_ne_of_not_mem n9 (b2 TO (by simp))
  · exact List.not_mem_cons_of_ne_of_not_mem n10 (b2 i1 (by simp))
  · exact List.not_mem_cons_of_ne_of_not_mem (Ne.symm n10) (b1 i2 (by simp))
theorem turn_zipM {P : Program} {w : World} {K : PySem.W.Frag} {elts : List Expr} {kk : Nat} {tpos : Pos} {z TI TO i1 i2 : Addr} {t1 t2 : Tok} {S1 S2 : Sd} (D : Apt z TI TO i1 i2 S1 S2) :
    Turn P w K (.Tuple elts kk tpos) (ItzM K S1 S2) [z, TI, TO, i1, i2] z (fun i h => IsZip h z TI TO .none ∧ IsTupOf2 h TI (.ref i1) (.ref i2) ∧ (∃ x y, IsTupOf2 h TO x y) ∧ S1.st t1 i1 i h ∧ S2.st t2 i2 i h) where
  mem := by simp
  obj := fun i h st c hc => by
    obtain ⟨hz, hTI, ⟨x, y, hTO⟩, h1, h2⟩ := st
    have e : c = z ∨ c = TI ∨ c = TO ∨ c = i1 ∨ c = i2 := by simpa using hc
    rcases e with rfl | rfl | rfl | rfl | rfl
    · exact ⟨_, hz, fun v q => nomatch q⟩
    · exact ⟨_, hTI, fun v q => nomatch q⟩
    · exact ⟨_, hTO, fun v q => nomatch q⟩
    · exact Sd.obj h1
    · exact Sd.obj h2
  keep := fun i h h' st k => by
    obtain ⟨hz, hTI, ⟨x, y, hTO⟩, h1, h2⟩ := st
    exact ⟨k z (by simp) _ hz, k TI (by simp) _ hTI, ⟨x, y, k TO (by simp) _ hTO⟩, Sd.keep h1 (k i1 (by simp)), Sd.keep h2 (k i2 (by simp))⟩
  item := by
    intro X hP hw hK hc i pins s σ H E I hf st hg
    subst hP hw hK
    obtain ⟨hz, hTI, ⟨x0, y0, hTO⟩, h1, h2⟩ := st
    obtain ⟨xs, ys, x, y, hqx, hqy, hx, hy⟩ := hg
    obtain ⟨P1, Q1, D1, in1, out1, g1⟩ := Sd.draws I (I.ok.hd hc) (i := i1) (t := t1) hqx fun a ha e => D.a1 a ha (by simp [e])
    obtain ⟨P2, Q2, D2, in2, out2, g2⟩ := Sd.draws I (I.ok.hd hc) (i := i2) (t := t2) hqy fun a ha e => D.a2 a ha (by simp [e])
    have S := D.sep
    have l1 := lt_of_get hx
    have l2 := lt_of_get hy
    have zl : z < s.heap.objs.size := Heap.lt_size hz
    refine wpAny_pyNext_zipD2_item S D1 D2 hz hTI hTO (in1 i h1) (in2 i h2) l1 l2 fun u u2 h' tk p1 p2 z' TO' q1 q2 hT hsz hk => ?_
    obtain ⟨x', hx', ru⟩ := g1 i u l1 p1
    obtain ⟨y', hy', ru2⟩ := g2 i u2 l2 p2
    rw [hx] at hx'
    rw [hy] at hy'
    cases hx'
    cases hy'
    refine ⟨_, rfl, wpAny_letOwnedTupleGo_zip (s := { s with heap := h', toks := tk }) z' fun h'' z'' sb => ?_⟩
    have T2 : h''.get? s.heap.objs.size = some { cls := .type "tuple", data := .seq #[u, u2] } := (sb.2 _ (Nat.ne_of_gt zl)).trans hT
    have new : ObjOk X.prog X.w (upd H s.heap.objs.size (.tup [x, y])) h'' s.heap.objs.size (.tup [x, y]) := ⟨by show 2 ≤ sizeLine; decide, [u, u2], .cons ru (.cons ru2 .nil), ⟨_, T2, rfl, _, rfl⟩⟩
    have out : ∀ c o, c ∉ [z, TI, TO, i1, i2] → s.heap.get? c = some o → h''.get? c = some o := fun c o nc e =>
      (sb.2 c fun q => nc (by simp [q])).trans (hk c o (fun q => nc (by simp [q])) (fun q => nc (by simp [q])) (fun q => nc (by simp [q])) (fun q => nc (by simp [q])) e)
    have I1 : Inv X pins σ (upd H s.heap.objs.size (.tup [x, y])) { s with heap := h'', toks := tk } := I.turnedNew (t' := tk) (ch := [z, TI, TO, i1, i2]) (fun c o nc e => out c o nc e) hf (Nat.le_refl _) new
    refine ⟨.ref s.heap.objs.size, _, I1, rfl, ⟨_, x, y, rfl, I.hok.fresh (Nat.le_refl _), rfl, fun l hl => by rw [Sd.inj I hl hqx]; exact hx, fun l hl => by rw [Sd.inj I hl hqy]; exact hy⟩, ⟨z'', ?_, ⟨u, u2, ?_⟩, ?_, ?_⟩, fun c hcm => ?_⟩
    · exact (sb.2 _ S.TIz).trans (hk _ _ S.TIz S.TITO S.TIi1 S.TIi2 hTI)
    · exact (sb.2 _ S.TOz).trans TO'
    · exact Sd.keep (out1 _ _ q1) fun o e => (sb.2 _ (Ne.symm S.zi1)).trans e
    · exact Sd.keep (out2 _ _ q2) fun o e => (sb.2 _ (Ne.symm S.zi2)).trans e
    · have lt : c < s.heap.objs.size := by
        have e : c = z ∨ c = TI ∨ c = TO ∨ c = i1 ∨ c = i2 := by simpa using hcm
        rcases e with rfl | rfl | rfl | rfl | rfl
        · exact zl
        · exact Heap.lt_size hTI
        · exact Heap.lt_size hTO
        · obtain ⟨_, e1, _⟩ := Sd.obj h1; exact Heap.lt_size e1
        · obtain ⟨_, e2, _⟩ := Sd.obj h2; exact Heap.lt_size e2
      rw [upd_ne (Nat.ne_of_lt lt)]
      exact (hf c hcm).1
  done := by
    intro X hP hw hK hc i pins s σ H E I hf st hg
    subst hP hw hK
    obtain ⟨hz, hTI, ⟨x0, y0, hTO⟩, h1, h2⟩ := st
    obtain ⟨xs, ys, hqx, hqy, m1, m2, hend⟩ := hg
    obtain ⟨P1, Q1, D1, in1, out1, g1⟩ := Sd.draws I (I.ok.hd hc) (i := i1) (t := t1) hqx fun a ha e => D.a1 a ha (by simp [e])
    obtain ⟨P2, Q2, D2, in2, out2, g2⟩ := Sd.draws I (I.ok.hd hc) (i := i2) (t := t2) hqy fun a ha e => D.a2 a ha (by simp [e])
    exact wpAny_pyNext_zipD2_end D.sep D1 D2 hz hTI hTO (in1 i h1) (in2 i h2) m1 m2 hend fun h' tk hk => ⟨rfl, I.turnedL (t' := tk) (ch := [z, TI, TO, i1, i2]) (fun c o nc e =>
      hk c o (fun q => nc (by simp [q])) (fun q => nc (by simp [q])) (fun q => nc (by simp [q])) (fun q => nc (by simp [q])) e) hf⟩
  self := fun A i s Q E st h => wpAny_pyIter_zip st.1 h
/-- how a side begins -/
def Sd.ob : Sd → Tok → Obj
  | .lst a, _ => { cls := .type "list_iterator", data := .fields #[.ref a, .int 0 0] }
  | .tup a, _ => { cls := .type "tuple_iterator", data := .fields #[.ref a, .int 0 0] }
  | .txt z, t => { cls := .type (strIterType z), data := .fields #[.str z t, .int 0 0] }
theorem Sd.begin {X : Cx} {pins : List (Addr × Obj)} {σ : L2.St} {H : Hp} {s : Shared} {S : Sd} (I : Inv X pins σ H s) {u : Value} {xs : List V} (r : RelV S.v u) (hJ : S.J X.K H xs) :
    ∃ (t : Tok) (G : Heap → Prop), Begins u (S.ob t) G ∧ G s.heap ∧ (∀ i h, h.get? i = some (S.ob t) → S.st t i 0 h) ∧ ∀ a ∈ S.ad, a < s.heap.objs.size := by
  cases S with
  | lst a =>
    cases (show u = Value.ref a from r)
    obtain ⟨us, rv, p, _⟩ := I.list hJ
    exact ⟨0, _, begins_list a us.toArray, p.isList, fun i h e => ⟨_, e, rfl, rfl⟩, fun b hb => by rw [List.mem_singleton.mp hb]; exact p.lt⟩
  | tup a =>
    cases (show u = Value.ref a from r)
    obtain ⟨us, rv, p, _⟩ := I.tuple hJ
    exact ⟨0, _, begins_tuple a us.toArray, p, fun i h e => ⟨_, e, rfl, rfl⟩, fun b hb => by rw [List.mem_singleton.mp hb]; obtain ⟨o, ho, _⟩ := id p; exact Heap.lt_size ho⟩
  | txt z =>
    obtain ⟨t, rfl⟩ := (show ∃ t, u = Value.str z t from r)
    exact ⟨t, _, begins_text z t, trivial, fun i h e => ⟨_, e, rfl, rfl⟩, fun b hb => absurd hb List.not_mem_nil⟩
def iZipM (K : PySem.W.Frag) (ta : TA) : TI := fun σ H R => ta σ H fun vs H1 => ∃ (S1 S2 : Sd) (xs ys : List V), vs = [S1.v, S2.v] ∧ S1.J K H1 xs ∧ S2.J K H1 ys ∧ R (ItzM K S1 S2) H1
/-- zip of any two of a list, a tuple, a text -/
theorem pi_zipM {X : Cx} {e e2 : Expr} {ta : TA} {p pos tpos : Pos} {elts : List Expr} {kk : Nat} (hg : Gl X "zip") (hm : X.mg "zip" = none) (ha : PA X [e, e2] ta)
    (hs : starEach [e, e2] X.env = (false, eval e X.env) :: starEach [e2] X.env := by rfl) (hpl : (backTo pos (starEach [e2] X.env)).any (·.1) = false := by rfl) :
    PI X (.Tuple elts kk tpos) (.Call (.Name "zip" p) [e, e2] [] pos) (iZipM X.K ta) := by
  refine ⟨fun pins s σ H R I h => ?_⟩
  refine Call_ (ld_blt I hg hm PyProof.Rows.boot_zip (PyProof.Rows.callWith_type1 (thn (ha.run pos pins s σ H _ I h) fun us s1 hq => ?_) hs hpl))
  obtain ⟨vs, H1, I1, r1, S1, S2, xs, ys, rfl, j1, j2, q⟩ := hq
  obtain ⟨u1, u2, rfl, ra, rb⟩ : ∃ u1 u2, us = [u1, u2] ∧ RelV S1.v u1 ∧ RelV S2.v u2 := by
    cases r1 with
    | cons a b =>
      cases b with
      | cons c d =>
        cases d
        exact ⟨_, _, rfl, a, c⟩
  obtain ⟨t1, G1, B1, g1, st1, lt1⟩ := Sd.begin I1 ra j1
  obtain ⟨t2, G2, B2, g2, st2, lt2⟩ := Sd.begin I1 rb j2
  refine zip_begins2 B1 B2 g1 g2 fun h' hz hTI hTO e1 e2 hsz hk => wpAny_pyIter_zip hz ?_
  have cells : ∀ c, c ∈ [s1.heap.objs.size + 4, s1.heap.objs.size + 2, s1.heap.objs.size + 3, s1.heap.objs.size, s1.heap.objs.size + 1] → s1.heap.objs.size ≤ c := fun c hcm => by
    have e' : c = s1.heap.objs.size + 4 ∨ c = s1.heap.objs.size + 2 ∨ c = s1.heap.objs.size + 3 ∨ c = s1.heap.objs.size ∨ c = s1.heap.objs.size + 1 := by simpa using hcm
    omega
  have D : Apt (s1.heap.objs.size + 4) (s1.heap.objs.size + 2) (s1.heap.objs.size + 3) s1.heap.objs.size (s1.heap.objs.size + 1) S1 S2 := by
    refine ⟨?_, fun a ha z => absurd (lt1 a ha) (Nat.not_lt.mpr (cells a z)), fun a ha z => absurd (lt2 a ha) (Nat.not_lt.mpr (cells a z))⟩
    simp only [List.nodup_cons, List.mem_cons, List.not_mem_nil, or_false, not_or, not_false_eq_true, List.nodup_nil, and_true]
    generalize s1.heap.objs.size = n
    have ne : ∀ a b : Nat, a ≠ b → n + a ≠ n + b := fun a b h => by omega
    exact ⟨⟨ne 4 2 (by decide), ne 4 3 (by decide), ne 4 0 (by decide), ne 4 1 (by decide)⟩, ⟨ne 2 3 (by decide), ne 2 0 (by decide), ne 2 1 (by decide)⟩, ⟨ne 3 0 (by decide), ne 3 1 (by decide)⟩, ne 0 1 (by decide)⟩
  exact ⟨s1.heap.objs.size + 4, _, _, _, H1, rfl, I1.kept (t' := s1.toks) hk, turn_zipM (t1 := t1) (t2 := t2) D, ⟨hz, hTI, ⟨_, _, hTO⟩, st1 _ _ e1, st2 _ _ e2⟩, fun c hcm => I1.fpOk (cells c hcm) (I1.hok.fresh (cells c hcm)), q⟩
end Dr
/-! One more person, in counts. -/
namespace Dr
open PySem L2
/-- counts with one more of x -/
def bump (ns : List Int) (x : Nat) : List Int := (colN.zip ns).map fun p => if p.1 = x then p.2 + 1 else p.2
theorem tally_bump (l : List Nat) (x : Nat) : tally (l ++ [x]) = bump (tally l) x := by
  have key : ∀ cs : List Nat, (cs.map fun c => (((l ++ [x]).count c : Nat) : Int)) = (cs.zip (cs.map fun c => ((l.count c : Nat) : Int))).map fun p => if p.1 = x then p.2 + 1 else p.2 := by
    intro cs
    induction cs with
    | nil => rfl
    | cons c cs ih =>
      rw [List.map_cons, List.map_cons, List.zip_cons_cons, List.map_cons, ih]
      congr 1
      rw [List.count_append, List.count_singleton]
      by_cases h : c = x
      · simp [h]
      · simp [h, Ne.symm h]
  exact key colN
theorem row_for {ns : List Int} (h6 : ns.length = 6) (h0 : ∀ n ∈ ns, 0 ≤ n) : ∃ l : List Nat, (∀ x ∈ l, x ∈ colN) ∧ tally l = ns := by
  match ns, h6, h0 with
  | [a, b, c, d, e, f], _, h0 =>
    refine ⟨List.replicate a.toNat 97 ++ List.replicate b.toNat 98 ++ List.replicate c.toNat 99 ++ List.replicate d.toNat 100 ++ List.replicate e.toNat 101 ++ List.replicate f.toNat 102, fun x hx => ?_, ?_⟩
    · simp only [List.mem_append, List.mem_replicate] at hx
      have : x = 97 ∨ x = 98 ∨ x = 99 ∨ x = 100 ∨ x = 101 ∨ x = 102 := by omega
      rcases this with rfl | rfl | rfl | rfl | rfl | rfl <;> decide
    · have ha := h0 a (by simp)
      have hb := h0 b (by simp)
      have hc := h0 c (by simp)
      have hd := h0 d (by simp)
      have he := h0 e (by simp)
      have hf := h0 f (by simp)
      show [97, 98, 99, 100, 101, 102].map _ = _
      simp [List.count_append, List.count_replicate]
      omega
theorem mvs_bump {D : List Cl} (hv : ∀ c ∈ D, c.ok = true) {ns : List Int} (h6 : ns.length = 6) (h0 : ∀ n ∈ ns, 0 ≤ n) {x : Nat} (hx : x ∈ colN) :
    ∃ y ∈ colN, (ones D (ns, sg x)).2 = sg y ∧ mvs D (bump ns x) = bump (mvs D ns) y := by
  obtain ⟨l, hl, rfl⟩ := row_for h6 h0
  have g : (l ++ [x])[l.length]? = some x := by simp
  obtain ⟨y, hy, e⟩ := ones_runs hv g
  rw [List.take_left] at e
  obtain ⟨z, hz⟩ := runs_snoc hv l x
  have hyz : y = z := by
    rw [hz, show l.length = (runs D l).length by rw [runs_len]] at hy
    simp at hy
    exact hy.symm
  subst hyz
  refine ⟨y, runs_col hv (fun w hw => ?_) y (List.mem_of_getElem? hy), e, ?_⟩
  · rcases List.mem_append.mp hw with hw | hw
    · exact hl w hw
    · rw [List.mem_singleton.mp hw]; exact hx
  rw [← tally_bump, ← tally_runs hv, hz, tally_bump, tally_runs hv]
theorem bump_len {ns : List Int} (h6 : ns.length = 6) (x : Nat) : (bump ns x).length = 6 := by
  unfold bump
  rw [List.length_map, List.length_zip, h6]
  rfl
theorem bump_nn {ns : List Int} (h0 : ∀ n ∈ ns, 0 ≤ n) (x : Nat) : ∀ n ∈ bump ns x, 0 ≤ n := fun n hn => by
  unfold bump at hn
  obtain ⟨p, hp, rfl⟩ := List.mem_map.mp hn
  have := h0 p.2 (List.of_mem_zip hp).2
  split <;> omega
/-- the gaps between counts and the counts with one more -/
theorem gaps_bump {ns : List Int} (h6 : ns.length = 6) {x : Nat} (hx : x ∈ colN) : ∃ j, j < 6 ∧ colN[j]? = some x ∧ (ns.zip (bump ns x)).map (fun p => p.2 - p.1) = (List.replicate 6 (0 : Int)).set j 1 := by
  match ns, h6 with
  | [a, b, c, d, e, f], _ =>
    have : x = 97 ∨ x = 98 ∨ x = 99 ∨ x = 100 ∨ x = 101 ∨ x = 102 := by have := colN_iff.mp hx; omega
    rcases this with rfl | rfl | rfl | rfl | rfl | rfl
    · exact ⟨0, by decide, rfl, by simp [bump, colN]; omega⟩
    · exact ⟨1, by decide, rfl, by simp [bump, colN]; omega⟩
    · exact ⟨2, by decide, rfl, by simp [bump, colN]; omega⟩
    · exact ⟨3, by decide, rfl, by simp [bump, colN]; omega⟩
    · exact ⟨4, by decide, rfl, by simp [bump, colN]; omega⟩
    · exact ⟨5, by decide, rfl, by simp [bump, colN]; omega⟩
def sp_grown (K : PySem.W.Frag) : Sp := fun vs H Q _ => ∃ (a b : Addr) (ns : List Int) (x : Nat), vs = [.ref a, .ref b] ∧ SqL K H a (ns.map V.int) ∧ SqL K H b ((bump ns x).map V.int) ∧ ns.length = 6 ∧ x ∈ colN ∧ ∀ H', Same H H' → Q (.str (sg x)) H'
def sp_numbers_right (K : PySem.W.Frag) : Sp := fun vs H Q _ => ∃ (r d : Addr) (D : List Cl) (c : Nat), vs = [.ref r, .ref d] ∧ Rg H r c ∧ c < 900000000 ∧ Drill K (hidL [r] H) d D ∧ (∀ c ∈ D, c.ok = true) ∧
  ∀ H', Same (hidL [r] H) (hidL [r] H') → Rg H' r (c + 100) → Q (.bl true) H'
end Dr
/-! k01: a def that takes a told list or a text; tests that keep the frame. -/
namespace Dr
open PySem PySem.Spec PyProof.Rows L2
section
variable {X : Cx} {n : Nat} {pos : Pos}
theorem kinS : OpK X (compareOp .In) (fun x y H Q => ∃ (c : Nat) (z : Str), x = .str ⟨#[c]⟩ ∧ y = .str z ∧ Q (.bl (decide (c ∈ z.cps.toList))) H) := opK_of op_in_sign fun pins s σ H x y v u Q I rx ry h => by
  obtain ⟨c, z, rfl, rfl, _⟩ := h
  obtain ⟨t, rfl⟩ := rx
  obtain ⟨t', rfl⟩ := ry
  exact PyProof.Rows.in_str rfl
/-- two ints: alike -/
theorem keqI : OpK X (compareOp .Eq) (fun x y H Q => ∃ i j : Int, x = .int i ∧ y = .int j ∧ Q (.bl (decide (V.int i = V.int j))) H) := opK_of (fun pins s σ H x y v u Q I rx ry h => by
  obtain ⟨a, b, rfl, rfl, q⟩ := h
  exact op_eq pins s σ H _ _ v u Q I rx ry ⟨rfl, q⟩) fun pins s σ H x y v u Q I rx ry h => by
  obtain ⟨a, b, rfl, rfl, _⟩ := h
  obtain ⟨t, rfl⟩ := rx
  obtain ⟨t', rfl⟩ := ry
  exact PyProof.Rows.eq_int rfl
/-- e[lo:hi], e tells how many tokens are out -/
theorem pen_slice {e : Expr} {tn : TEN} {lo hi : Option Expr} {tl th} {p2 : Pos} {r : V → Option Int → Option Int → Hp → VK → Prop} (hr : SlR X r) (he : PEN n X e tn) (hl : PO X lo tl) (hu : PO X hi th) :
    PEN n X (.Subscript e (.Slice lo hi none p2) pos) (fun σ H Q => tn σ H fun v H1 m => tl σ H1 fun a H2 => th σ H2 fun b H3 => r v a b H3 fun w H4 => Q w H4 m) := by
  intro pins s σ H Q hn I h
  refine Subscript_ (thn (he pins s σ H _ hn I h) fun v s1 hv => ?_)
  obtain ⟨m, hm, x, H1, I1, r1, q1⟩ := hv
  refine wpAny_Slice (thnN hm (hl.run pins s1 σ H1 _ I1 q1) fun vl s2 hm2 h2 => ?_)
  obtain ⟨l, H2, I2, pl, q2⟩ := h2
  refine thnN hm2 (hu.run pins s2 σ H2 _ I2 q2) fun vu s3 hm3 h3 => ?_
  obtain ⟨u, H3, I3, pu, q3⟩ := h3
  rw [evalPart_none]
  refine wpAny_pure ?_
  have I4 : Inv X pins σ H3 { s3 with heap := s3.heap.push { cls := .type "slice", data := .fields #[vl, vu, .none] } } := I3.kept (t' := s3.toks) fun b ob q => Heap.get?_push_of_some _ q
  obtain ⟨T, id, hT, ht, hg⟩ := hr pins { s3 with heap := s3.heap.push { cls := .type "slice", data := .fields #[vl, vu, .none] } } σ H3 x v vl vu l u s3.heap.objs.size _ I4 r1 (Heap.IsSliceOf.new ..) pl pu q3
  have hm4 : m ≤ ({ s3 with heap := s3.heap.push { cls := .type "slice", data := .fields #[vl, vu, .none] } } : Shared).toks := hm3
  refine thnN hm4 (?_ : wpAny (model X.prog X.w) X.A (subscriptTail e (.Slice lo hi none p2) v (.ref s3.heap.objs.size)) (EP X pins σ fun w H4 => Q w H4 m) X.xe _) fun u s' hm' z => ⟨m, hm', z⟩
  exact tail_any (ops := [.ref s3.heap.objs.size, v]) ht hT hg (by with_unfolding_all rfl)
/-- [e] -/
theorem pen_lst1 {e : Expr} {tn : TEN} (he : PEN n X e tn) (hst : starEach [e] X.env = [(false, eval e X.env)] := by rfl) :
    PEN n X (.List [e] pos) (fun σ H Q => tn σ H fun v H1 m => ∀ p, H1 p = none → Q (.ref p) (upd H1 p (.lst [v])) m) := by
  intro pins s σ H Q hn I h
  refine wpAny_List_spliced ?_
  rw [hst]
  refine Calls.spliced_cons (thn (he pins s σ H _ hn I h) fun u s1 h1 => Calls.spliced_nil ?_)
  obtain ⟨m, hm, v, H1, I1, rv, q⟩ := h1
  have z1 : 1 ≤ sizeLine := by decide
  refine ⟨z1, ?_⟩
  have keep : ∀ b o, s1.heap.get? b = some o → (s1.heap.push { cls := .type "list", data := .seq [u].toArray }).get? b = some o := fun b o e => Heap.get?_push_of_some _ e
  exact ⟨m, hm, .ref s1.heap.objs.size, _, I1.laid (t' := s1.toks) keep (Nat.le_refl _) (o := .lst [v]) ⟨z1, [u], 0, .cons rv .nil, Heap.get?_push_size _ rfl⟩, rfl, q _ (I1.hok.fresh (Nat.le_refl _))⟩
end
/-- two ways of one def: without tokens, and where one is out -/
def spOr (sp : Sp) (sp' : Sp) : SpN := fun vs H n Q E => sp vs H (fun v H' => Q v H' n) E ∨ (1 ≤ n ∧ sp' vs H (fun v H' => Q v H' n) E)
theorem FnN.or {P : Program} {w : World} {K : PySem.W.Frag} {mg : Str → Option Value} {base : Heap} {CX : CXT} {k : Nat} {f : Addr} {fd : FuncData} {ps : List Str} {sp sp' : Sp}
    (F : FnOk P w K mg base CX k f fd ps sp) (G : FnT P w K mg base CX k f fd ps sp') : FnN P w K mg base CX k f fd ps (spOr sp sp') := by
  refine ⟨fun vs H n Q E h => ?_, fun A outer s H args us vs n Q E hr hn e b r h => ?_⟩
  · rcases h with h | ⟨_, h⟩
    · exact F.len _ _ _ _ h
    · exact G.len _ _ _ _ h
  · rcases h with h | ⟨h1, h⟩
    · exact codeAny_mono (PySem.codeAny_toks_of hn (F.run A outer s H args us vs _ E hr e b r h)) fun _ _ z => ⟨n, z.1, z.2⟩
    · exact codeAny_mono (PySem.codeAny_toks_of hn (G.run A outer s H args us vs _ E hr (Nat.le_trans h1 hn) e b r h)) fun _ _ z => ⟨n, z.1, z.2⟩
def spn_one_call (K : PySem.W.Frag) : SpN := fun vs H n Q _ => ∃ (r q : Addr) (v : V) (qs : List Tx) (c : Nat), vs = [.ref r, v] ∧ Src H r q c ∧ c < 890000000 ∧ ((∃ a, v = .ref a ∧ TF H a qs ∧ LettT qs ∧ 2 ≤ qs.length) ∨ (v = .str "abcdef" ∧ 1 ≤ n)) ∧
  ∀ (H' : Hp) (t : Addr) (cl : Cl), Same (hidL [r, q] H) (hidL [r, q] H') → Src H' r q (c + 1010) → t ∉ [r, q] → (∃ o vs, H' t = some (.frz o (.tup vs))) → TCl K (hidL [r, q] H') t cl → cl.ok = true → Cl.le 20 cl → Q (.ref t) H' n
end Dr
/-! A proper slice of a text: a new text, its token behind all that are out; a tuple of such. -/
namespace Dr
open PySem PySem.Spec PyProof.Rows L2
/-- an expression whose value is a new text, told: its token is n or more and less than those to come -/
def PVS (X : Cx) (e : Expr) (t : L2.St → Hp → (Str → Hp → Prop) → Prop) : Prop := ∀ (n : Nat) (pins : List (Addr × Obj)) (s : Shared) (σ : L2.St) (H : Hp) (Q : Str → Hp → Prop), n ≤ s.toks → Inv X pins σ H s → t σ H Q →
  wpAny (model X.prog X.w) X.A (eval e X.env) (fun u s' => ∃ (z : Str) (k : Nat) (H' : Hp), u = .str z k ∧ n ≤ k ∧ k < s'.toks ∧ Inv X pins σ H' s' ∧ Q z H') X.xe s
section
variable {X : Cx} {n : Nat} {pos : Pos}
theorem cutS_whole {z : Str} {lo hi : Option Int} (h : (cutS z lo hi).length < z.length) : ¬ ((1 : Int) == 1 && (Builtin.Str.strSliceIndices lo hi 1 z.length).length == z.length) = true := fun c => by
  have e : cutS z lo hi = PySem.StrLaws.sliceText z lo hi := (sliceText_cut z lo hi).symm
  rw [e] at h
  unfold PySem.StrLaws.sliceText at h
  rw [if_pos c] at h
  exact Nat.lt_irrefl _ h
theorem pvs_slice {e : Expr} {te : TE} {lo hi : Option Expr} {tl th : TO} {p2 : Pos} (he : PE X e te) (hl : PO X lo tl) (hu : PO X hi th) :
    PVS X (.Subscript e (.Slice lo hi none p2) pos) (fun σ H Q => te σ H fun v H1 => tl σ H1 fun a H2 => th σ H2 fun b H3 => ∃ z : Str, v = .str z ∧ z.length ≤ sizeLine ∧ (cutS z a b).length < z.length ∧ Q (cutS z a b) H3) := by
  intro n pins s σ H Q hn I h
  refine Subscript_ (thnN hn (he.run pins s σ H _ I h) fun v s1 hn1 hv => ?_)
  obtain ⟨x, H1, I1, r1, q1⟩ := hv
  refine wpAny_Slice (thnN hn1 (hl.run pins s1 σ H1 _ I1 q1) fun vl s2 hn2 h2 => ?_)
  obtain ⟨a, H2, I2, pl, q2⟩ := h2
  refine thnN hn2 (hu.run pins s2 σ H2 _ I2 q2) fun vu s3 hn3 h3 => ?_
  obtain ⟨b, H3, I3, pu, z, rfl, hz, hlt, q3⟩ := h3
  obtain ⟨t, rfl⟩ := r1
  rw [evalPart_none]
  refine wpAny_pure ?_
  have I4 : Inv X pins σ H3 { s3 with heap := s3.heap.push { cls := .type "slice", data := .fields #[vl, vu, .none] } } := I3.kept (t' := s3.toks) fun b ob q => Heap.get?_push_of_some _ q
  have hs := Heap.IsSliceOf.new s3.heap vl vu .none
  obtain ⟨os, hos, hcs, hds⟩ := hs
  obtain ⟨l, rfl, rfl⟩ := IsPart.raw pl
  obtain ⟨u, rfl, rfl⟩ := IsPart.raw pu
  refine tail_any (ops := [.ref s3.heap.objs.size, .str z t]) (T := "str") (typeIs_str _ _ _) F.slot_str_getitem.lookup ?_ (by with_unfolding_all rfl)
  refine wpAny_getItem_str_slice (l := l) (u := u) (st := none) ⟨os, hos, hcs, hds⟩ rfl ?_
  have nw := cutS_whole hlt
  have hcl : (PySem.StrLaws.sliceText z (l.map (·.1)) (u.map (·.1))).length ≤ sizeLine := by
    rw [sliceText_cut]
    exact Nat.le_trans (cutS_length z _ _) hz
  rw [← sliceText_cut] at q3
  unfold PySem.StrLaws.sliceText at q3 hcl
  rw [if_neg nw] at q3 hcl
  show Made.post (if ((1 : Int) == 1 && (Builtin.Str.strSliceIndices (l.map (·.1)) (u.map (·.1)) 1 z.length).length == z.length) = true then Made.val (.str z t) else Made.str _) _ _
  rw [if_neg nw]
  exact ⟨hcl, _, s3.toks, H3, rfl, hn3, Nat.lt_succ_self _, I4.tok _, q3⟩
/-- x = e[a:b]: a token is out behind it -/
theorem psn_setS {i : Nat} {y : Str} {pos' : Pos} {e : Expr} {t : L2.St → Hp → (Str → Hp → Prop) → Prop} {rest : List Stmt} {u : TSN} (hN : X.N.Nodup) (hi : X.N[i]? = some y) (hy : Loc X.env.scope y) (he : PVS X e t) (h2 : PSsN 1 X rest u) (hs : swapsWith e (some (.Name y pos')) pos.line X.env = pure false := by rfl)
    (hf : X.fn y = true ∨ X.env.scope.names.lookup y = some .local := by first | exact .inl rfl | exact .inr rfl | assumption) :
    PSsN n X (.Assign [.Name y pos'] e pos :: rest) (fun D σ H => t σ H fun z H' => u D (σ.set i (some (.str z))) H') := by
  intro pins s σ H D hn I h
  refine wpAny_execs_cons (wpAny_Assign_Name (thn (he n pins s σ H _ hn I h) fun w s1 hw => ?_) hs)
  obtain ⟨z, k, H1, rfl, _, k1, I1, q1⟩ := hw
  exact wpAny_with_toks (Nat.lt_of_le_of_lt (Nat.zero_le _) k1 : 1 ≤ s1.toks) (store_ok I1 hN hi hy (show RelV (V.str z) (.str z k) from ⟨_, rfl⟩) (fun s2 I2 hm2 => h2 pins s2 _ H1 D hm2 I2 q1) hf)
/-- return e, e2[a:b], e3[c:d]: the two texts' tokens differ, neither is 0 -/
theorem psn_retS3 {a b c : Expr} {ta : TE} {tb tc : L2.St → Hp → (Str → Hp → Prop) → Prop} {x1} {p2 : Pos} (ha : PE X a ta) (hb : PVS X b tb) (hc : PVS X c tc) (hst : starEach [a, b, c] X.env = [(false, eval a X.env), (false, eval b X.env), (false, eval c X.env)] := by rfl) :
    PSsN 1 X [.Return (some (.Tuple [a, b, c] x1 p2)) pos] (fun D σ H => ta σ H fun v H1 => tb σ H1 fun y H2 => tc σ H2 fun z H3 => ∀ (t : Addr) (w : HO) (p q : Tx), p.1 = y → q.1 = z → p.2 ≠ 0 → q.2 ≠ 0 → p.2 ≠ q.2 → H3 t = none → TPair t w v p q → D.rt (.ref t) (upd H3 t w) 1) := by
  intro pins s σ H D hn I h
  refine wpAny_execs_cons (wpAny_Return_some ?_)
  refine wpAny_Tuple_spliced ?_
  rw [hst]
  refine Calls.spliced_cons (thnN hn (ha.run pins s σ H _ I h) fun k s1 hn1 hk => ?_)
  obtain ⟨v, H1, I1, rv, q1⟩ := hk
  refine Calls.spliced_cons (thn (hb 1 pins s1 σ H1 _ hn1 I1 q1) fun y s2 hy => ?_)
  obtain ⟨y, ky, H2, rfl, y0, y1, I2, q2⟩ := hy
  refine Calls.spliced_cons (thn (hc (ky + 1) pins s2 σ H2 _ y1 I2 q2) fun z s3 hz => ?_)
  obtain ⟨z, kz, H3, rfl, z0, z1, I3, q3⟩ := hz
  refine Calls.spliced_nil ?_
  have three : 3 ≤ sizeLine := by decide
  refine ⟨three, ?_⟩
  have keep : ∀ b o, s3.heap.get? b = some o → (s3.heap.push { cls := .type "tuple", data := .seq #[k, .str y ky, .str z kz] 0 }).get? b = some o := fun b o e => Heap.get?_push_of_some _ e
  have fr := I3.hok.fresh (Nat.le_refl s3.heap.objs.size)
  have J : Inv X pins σ (upd H3 s3.heap.objs.size (.frz { cls := .type "tuple", data := .seq #[k, .str y ky, .str z kz] 0 } (.tup [v, tV (y, ky), tV (z, kz)]))) { s3 with heap := s3.heap.push { cls := .type "tuple", data := .seq #[k, .str y ky, .str z kz] 0 } } :=
    I3.laid (t' := s3.toks) keep (Nat.le_refl _) ⟨Heap.get?_push_size _ rfl, three, [k, .str y ky, .str z kz], .cons rv (.cons ⟨_, rfl⟩ (.cons ⟨_, rfl⟩ .nil)), ⟨_, Heap.get?_push_size _ rfl, rfl, _, rfl⟩⟩
  have q := q3 s3.heap.objs.size (.frz { cls := .type "tuple", data := .seq #[k, .str y ky, .str z kz] 0 } (.tup [v, tV (y, ky), tV (z, kz)])) (y, ky) (z, kz) rfl rfl (by show ky ≠ 0; omega) (by show kz ≠ 0; omega) (by show ky ≠ kz; omega) fr ⟨_, k, rfl, rfl, rfl, rfl, rv⟩
  exact ⟨.ref s3.heap.objs.size, σ, _, 1, Nat.lt_of_le_of_lt (Nat.zero_le kz) z1, J, rfl, q⟩
end
/-! the pieces of a call's text are proper -/
theorem cut2_lt {w : Str} (h : 3 ≤ w.length) : (cutS w none (some (-2))).length < w.length := by
  rw [len_tl, len_tl] at *
  have e := cutS_head w 2 (by decide)
  have e' : tl (cutS w none (some (-2))) = (tl w).take ((tl w).length - 2) := e
  rw [e', List.length_take]
  omega
theorem cut21_lt {w : Str} (h : 3 ≤ w.length) : (cutS w (some (-2)) (some (-1))).length < w.length := by
  rw [len_tl, len_tl] at *
  rw [cutS_mid, List.length_take, List.length_drop]
  omega
theorem cut1_lt {w : Str} (h : 3 ≤ w.length) : (cutS w (some (-1)) none).length < w.length := by
  rw [len_tl, len_tl] at *
  have e' : tl (cutS w (some (-1)) none) = (tl w).drop ((tl w).length - 1) := cutS_tail w 1 (by decide)
  rw [e', List.length_drop]
  omega

def sp_split_callT (K : PySem.W.Frag) : Sp := fun vs H Q _ => ∃ w : Str, vs = [.str w] ∧ 3 ≤ w.length ∧ w.length ≤ 100000 ∧ ∀ (t : Addr) (u : HO), H t = none → TCl K (upd H t u) t (clOf w) → Q (.ref t) (upd H t u)
theorem ok_len3 {w : Str} (h : (clOf w).ok = true) : 3 ≤ w.length := by
  have ha : isC (cutS w (some (-2)) (some (-1))) = true := Cl.ok_a h
  have h1 := isC_len ha
  rw [len_tl, cutS_mid, List.length_take, List.length_drop] at h1
  rw [len_tl]
  by_cases e : (tl w).length = 2
  · have hk : (kdOf (cutS w none (some (-2)))).ok = true := by
      unfold Cl.ok at h
      exact (Bool.and_eq_true _ _ ▸ h).1
    have e' : tl (cutS w none (some (-2))) = (tl w).take ((tl w).length - 2) := cutS_head w 2 (by decide)
    rw [e] at e'
    have e0 : cutS w none (some (-2)) = "" := (rowOf_tl (cutS w none (some (-2)))).symm.trans (by show rowOf (tl (cutS w none (some (-2)))) = _; rw [e']; rfl)
    rw [e0] at hk
    exact absurd hk (by decide +kernel)
  · omega
def sp_read_drillT (K : PySem.W.Frag) : Sp := fun vs H Q _ => ∃ z : Str, vs = [.str z] ∧ z.length ≤ 100000 ∧ goodD z = true ∧ ∀ (H' : Hp) (p : Addr), Same H H' → H p = none → DrillT K H' p (drillOf z) → Q (.ref p) H'
end Dr
/-! Parades: an object with a row and the rows before it. -/
namespace Dr
open PySem L2
theorem fl_ne : ¬ (("_row" : Str) = "_past") := by decide +kernel
def pfl (l : Addr) (row : List Nat) : List (Str × V) := [("_row", .str (rowOf row)), ("_past", .ref l)]
theorem pfl_row (l : Addr) (row : List Nat) : (pfl l row).lookup ("_row" : Str) = some (.str (rowOf row)) := by
  unfold pfl
  rw [List.lookup_cons_self]
theorem pfl_init (l : Addr) (row : List Nat) : putF "_past" (.ref l) (putF "_row" (.str (rowOf row)) []) = pfl l row := by
  show (if ("_row" : Str) = "_past" then _ else (("_row" : Str), V.str (rowOf row)) :: putF "_past" (.ref l) []) = _
  rw [if_neg fl_ne]; rfl
theorem pfl_eq (l : Addr) (row : List Nat) : pfl l row = putF "_past" (.ref l) (putF "_row" (.str (rowOf row)) []) := (pfl_init l row).symm
theorem pfl_past (l : Addr) (row : List Nat) : (pfl l row).lookup ("_past" : Str) = some (.ref l) := by
  rw [pfl_eq, lookup_putF, if_pos rfl]
theorem pfl_no (l : Addr) (row : List Nat) {m : Str} (h1 : ¬ m = "_row") (h2 : ¬ m = "_past") : (pfl l row).lookup m = none := by
  rw [pfl_eq, lookup_putF, if_neg h2, lookup_putF, if_neg h1]; rfl
theorem pfl_put (l : Addr) (row r : List Nat) : putF "_row" (.str (rowOf r)) (pfl l row) = pfl l r := by
  unfold pfl
  show (if ("_row" : Str) = "_row" then _ else _) = _
  rw [if_pos rfl]
/-- the parade at p, its past in the list at l -/
structure Par (C : Addr) (H : Hp) (p l : Addr) (row : List Nat) (past : List (List Nat)) : Prop where
  ob : ∃ dx, H p = some (.ins C dx (pfl l row))
  ls : H l = some (.lst (past.map fun r => V.str (rowOf r)))
section
variable {C : Addr} {H H' : Hp} {p l : Addr} {row : List Nat} {past : List (List Nat)}
theorem Par.ne (h : Par C H p l row past) : p ≠ l := fun e => by
  obtain ⟨dx, a⟩ := h.ob
  have b := h.ls
  rw [e] at a
  rw [a] at b
  cases b
theorem Par.same (h : Par C H p l row past) (S : Same H H') : Par C H' p l row past := let ⟨dx, a⟩ := h.ob; ⟨⟨dx, S _ _ a⟩, S _ _ h.ls⟩
theorem Par.ext {rs : List Addr} (h : Par C H p l row past) (S : Same (hidL rs H) (hidL rs H')) (n1 : p ∉ rs) (n2 : l ∉ rs) : Par C H' p l row past := let ⟨dx, a⟩ := h.ob; ⟨⟨dx, extL_get S n1 a⟩, extL_get S n2 h.ls⟩
theorem Par.of (h : H p = none → False) : H p ≠ none := h
/-- what a step leaves -/
theorem Par.step {dx : Addr} {r : List Nat} (h : H p = some (.ins C dx (pfl l row))) (hl : H l = some (.lst (past.map fun r => V.str (rowOf r)))) :
    Par C (upd (upd H l (.lst ((past.map fun r => V.str (rowOf r)) ++ [.str (rowOf row)]))) p (.ins C dx (pfl l r))) p l r (past ++ [row]) ∧
    Same (hidL [p, l] H) (hidL [p, l] (upd (upd H l (.lst ((past.map fun r => V.str (rowOf r)) ++ [.str (rowOf row)]))) p (.ins C dx (pfl l r)))) := by
  have ne : p ≠ l := (Par.mk (C := C) ⟨dx, h⟩ hl).ne
  refine ⟨⟨⟨dx, upd_same⟩, by rw [upd_ne (Ne.symm ne), upd_same, List.map_append]; rfl⟩, ?_⟩
  exact (hidL_upd (p := l) (by simp)).trans (hidL_upd (p := p) (by simp))
end
def sp_par_init (K : PySem.W.Frag) (C : Addr) : Sp := fun vs H Q _ => ∃ (p dx : Addr) (row : List Nat), vs = [.ref p, .str (rowOf row)] ∧ H p = some (.ins C dx []) ∧ (∀ x ∈ row, x ∈ colN) ∧ row.length ≤ 1000 ∧
  ∀ (H' : Hp) (l : Addr), Par C H' p l row [] → H l = none → (∀ b o, H b = some o → b ≠ p → H' b = some o) → Q .non H'
def sp_par_row (C : Addr) : Sp := fun vs H Q _ => ∃ (p l : Addr) (row : List Nat) (past : List (List Nat)), vs = [.ref p] ∧ Par C H p l row past ∧ Q (.str (rowOf row)) H
def sp_par_steps (C : Addr) : Sp := fun vs H Q _ => ∃ (p l : Addr) (row : List Nat) (past : List (List Nat)), vs = [.ref p] ∧ Par C H p l row past ∧ Q (.int (past.length : Nat)) H
def sp_par_step (C : Addr) : Sp := fun vs H Q _ => ∃ (p l : Addr) (row r : List Nat) (past : List (List Nat)), vs = [.ref p, .str (rowOf r)] ∧ Par C H p l row past ∧ past.length ≤ 100000 ∧
  ∀ H', Same (hidL [p, l] H) (hidL [p, l] H') → Par C H' p l r (past ++ [row]) → Q .non H'
def sp_par_undo (C : Addr) : Sp := fun vs H Q _ => ∃ (p l : Addr) (row r : List Nat) (past : List (List Nat)), vs = [.ref p] ∧ Par C H p l row (past ++ [r]) ∧
  ∀ H', Same (hidL [p, l] H) (hidL [p, l] H') → Par C H' p l r past → Q .non H'
def sp_par_drill (K : PySem.W.Frag) (C : Addr) : Sp := fun vs H Q _ => ∃ (p l d : Addr) (row : List Nat) (past : List (List Nat)) (D : List Cl) (n : Nat), vs = [.ref p, .ref d, .int (n : Int)] ∧ Par C H p l row past ∧ past.length ≤ 100000 ∧ DrillT K H d D ∧ (∀ c ∈ D, c.ok = true) ∧ (∀ c ∈ D, Cl.le (2 ^ 60) c) ∧
  row.length ≤ 1000 ∧ (∀ x ∈ row, x ∈ colN) ∧ ∀ H', Same (hidL [p, l] H) (hidL [p, l] H') → Par C H' p l (itr D n row) (past ++ [row]) → Q .non H'
end Dr
/-! A for whose body knows how many tokens are out. -/
namespace Dr
open PySem PySem.Spec PyProof.Rows L2
/-- a statement where n tokens are out -/
def PSat (n : Nat) (X : Cx) (st : Stmt) (ts : TS) : Prop := ∀ (pins : List (Addr × Obj)) (s : Shared) (σ : L2.St) (H : Hp) (D : Ends), n ≤ s.toks → Inv X pins σ H s → ts D σ H →
  wpAny (model X.prog X.w) X.A (exec st X.env) (SP X pins D) X.xe s
section
variable {X : Cx} {n : Nat} {tg iter : Expr} {body rest : List Stmt} {st : Stmt} {wi : TI} {g : TG} {tb u : TSN} {ts : TS} {pos : Pos}
theorem psn_consA (h1 : PSat n X st ts) (h2 : PSsN n X rest u) : PSsN n X (st :: rest) (fun D σ H => ts { nx := fun σ' H' => u D σ' H', rt := fun v H' => D.rt v H' n } σ H) := fun pins s σ H D hn I h =>
  wpAny_execs_cons (thnN hn (h1 pins s σ H _ hn I h) fun f s1 hm q => match f, q with
    | .next, ⟨σ', H', I', q⟩ => h2 pins s1 σ' H' D hm I' q
    | .ret _, ⟨v, σ', H', I', r, q⟩ => ⟨v, σ', H', n, hm, I', r, q⟩
    | .brk, ⟨_, _, _, q⟩ => q.elim
    | .cont, ⟨_, _, _, q⟩ => q.elim)
theorem psat_for (hp : PassesOwn (model X.prog X.w) X.A X.env X.xe) (hc : X.calm = true) (hi : PI X tg iter wi) (hg : PG X tg g) (hb : PSsN n X body tb)
    (hs : ∀ x, foldedSetIterable iter X.env x = pure x := by intro _; rfl) : PSat n X (.For tg iter body [] pos) (tFor wi g (tOfSN tb)) := by
  intro pins s σ H D hn I h
  refine wpAny_For (thnN hn (hi.run pins s σ H _ I h) fun v s1 hn1 h1 => thnN hn1 h1 fun itv s2 hn2 h2 => ?_) hs
  obtain ⟨it, fp, tn, J, H2, e, I2, T, st2, f2, W, ⟨m0, w0⟩, turn⟩ := h2
  subst e
  have stat : ∀ {H' : Hp}, (∀ b ∈ fp, H' b = none) → ∀ b ∈ fp, FpOk X pins H' b := fun hn b hb => ⟨hn b hb, (f2 b hb).2⟩
  refine codeAny_forLoop_any (fun k s' => n ≤ s'.toks ∧ ∃ i σ' H', Inv X pins σ' H' s' ∧ tn i s'.heap ∧ (∀ b ∈ fp, H' b = none) ∧ W i k σ' H') ?_ m0 ⟨hn2, 0, σ, H2, I2, st2, fun b hb => (f2 b hb).1, w0⟩
  rintro k s3 ⟨hn3, i, σ3, H3, I3, st3, fr3, w3⟩
  rcases turn i k σ3 H3 w3 with ⟨stop, qn⟩ | ⟨go, N, hN, step⟩
  · refine wpAny_passesOwn hp (thn (T.done X rfl rfl rfl hc i pins s3 σ3 H3 X.xe I3 (stat fr3) st3 stop) fun r s4 ⟨hr, I4⟩ => ?_)
    subst hr
    exact wpAny_execs_nil ⟨σ3, H3, I4, qn⟩
  · refine wpAny_passesOwn hp (thnN hn3 (T.item X rfl rfl rfl hc i pins s3 σ3 H3 X.xe I3 (stat fr3) st3 go) fun r s4 hn4 ⟨u, hr, h4⟩ => ?_)
    subst hr
    refine wpAny_passesOwn hp (thnN hn4 h4 fun _ s5 hn5 ⟨x, H5, I5, r5, y5, st5, fr5⟩ => ?_)
    have I5' := I5.pinned (stat fr5) (T.obj _ _ st5)
    refine wpAny_passesOwn hp (thnN hn5 (hg.run _ s5 σ3 H5 x u _ I5' r5 (step x H5 y5)) fun _ s6 hn6 ⟨σ6, H6, I6, q6⟩ => ?_)
    refine wpAny_passesOwn hp (thnN hn6 (hb _ s6 σ6 H6 _ hn6 I6 q6) fun f s7 hn7 q7 => ?_)
    have again : ∀ {σ7 : L2.St} {H7 : Hp}, Inv X (pins ++ pinsAt fp s5.heap) σ7 H7 s7 → N σ7 H7 → ∃ m, m < k ∧ (n ≤ s7.toks ∧ ∃ i σ' H', Inv X pins σ' H' s7 ∧ tn i s7.heap ∧ (∀ b ∈ fp, H' b = none) ∧ W i m σ' H') := fun {σ7 H7} I7 n7 => by
      obtain ⟨m', hm, w7⟩ := hN σ7 H7 n7
      refine ⟨m', hm, hn7, i + 1, σ7, H7, I7.unpinned, T.keep _ _ _ st5 fun b hb o e => (I7.pin (b, o) (List.mem_append_right _ (List.mem_append_right _ (mem_pinsAt hb e)))).1, fun b hb => ?_, w7⟩
      obtain ⟨o, e, d⟩ := T.obj _ _ st5 b hb
      exact (I7.pin (b, o) (List.mem_append_right _ (List.mem_append_right _ (mem_pinsAt hb e)))).2.1
    cases f with
    | next => obtain ⟨σ7, H7, _, _, I7, n7⟩ := q7; exact again I7 n7
    | cont => exact q7.elim
    | brk => exact q7.elim
    | ret v => obtain ⟨x7, σ7, H7, _, _, I7, r7, q7⟩ := q7; exact ⟨x7, σ7, H7, I7.unpinned, r7, q7⟩
end
theorem rowsW_flat (D : List Cl) (l : List Nat) (m : Nat) : (rowsW D l m).all flatV = true := by
  unfold rowsW
  rw [List.all_map]
  exact List.all_eq_true.mpr fun _ _ => rfl
theorem eqV_row (a b : List Nat) : eqV (.str (rowOf a)) (.str (rowOf b)) = decide (a = b) := by
  show ((rowOf a : Str) == rowOf b) = _
  by_cases h : a = b
  · rw [h, decide_eq_true rfl]; exact beq_self_eq_true _
  · rw [decide_eq_false h]; exact beq_eq_false_iff_ne.mpr fun e => h (rowOf_inj e)
theorem rowsW_in {D : List Cl} {l w : List Nat} {m : Nat} (h : ∃ s, s < m ∧ itr D s l = w) : inV (.str (rowOf w)) (rowsW D l m) = true := by
  obtain ⟨s, hs, e⟩ := h
  unfold inV
  refine List.any_eq_true.mpr ⟨_, List.mem_of_getElem? (rowsW_at (l := l) (D := D) hs), ?_⟩
  rw [eqV_row, decide_eq_true e]
theorem rowsW_out {D : List Cl} {l w : List Nat} {m : Nat} (h : ¬ ∃ s, s < m ∧ itr D s l = w) : inV (.str (rowOf w)) (rowsW D l m) = false := by
  unfold inV rowsW
  rw [List.any_map]
  refine List.any_eq_false.mpr fun s hs => ?_
  have hs := List.mem_range.mp hs
  show ¬ eqV (.str (rowOf (itr D s l))) (.str (rowOf w)) = true
  rw [eqV_row, decide_eq_false fun e => h ⟨s, hs, e⟩]
  exact Bool.false_ne_true
theorem rowsW_more (D : List Cl) (l : List Nat) (m : Nat) : rowsW D l m ++ [.str (rowOf (itr D m l))] = rowsW D l (m + 1) := by
  unfold rowsW
  rw [List.range_succ, List.map_append]
  rfl
def sp_repeated (K : PySem.W.Frag) : Sp := fun vs H Q _ => ∃ (d : Addr) (z : Str) (D : List Cl) (n : Nat), vs = [.ref d, .str z, .int (n : Int)] ∧ Drill K H d D ∧ (∀ c ∈ D, c.ok = true) ∧ z.cps.size ≤ 1000 ∧ (∀ x ∈ z.cps.toList, x ∈ colN) ∧
  ∀ H', Same H H' → Q (.str (rowOf (itr D n z.cps.toList))) H'
section
variable {K : PySem.W.Frag} {C p l g dx a b r : Addr} {H H' : Hp} {rs ms : List Addr} {D : List Cl} {c : Nat} {row : List Nat} {past : List (List Nat)} {u v o : HO}
theorem hidL_wide (S : Same (hidL rs H) (hidL rs H')) (sub : ∀ b ∈ rs, b ∈ ms) : Same (hidL ms H) (hidL ms H') := fun b o e => by
  have hb := hidL_some e
  rw [hidL_ne hb] at e ⊢
  exact extL_get S (fun z => hb (sub b z)) e
theorem Rg.ext (h : Rg H r c) (S : Same (hidL rs H) (hidL rs H')) (n : r ∉ rs) : Rg H' r c := by
  obtain ⟨d, s, m, h1, h2⟩ := h
  exact ⟨d, s, m, extL_get S n h1, h2⟩
theorem pmade_same (hp : H p = none) (hdx : H dx = none) (f : ∀ b o, upd (upd H dx (.own p)) p v b = some o → b ≠ p → H' b = some o) : Same H H' := fun b o e => by
  have bp : b ≠ p := fun z => by rw [z, hp] at e; cases e
  have bd : b ≠ dx := fun z => by rw [z, hdx] at e; cases e
  exact f b o (by rw [upd_ne bp, upd_ne bd]; exact e) bp
theorem pmade_free (h : upd (upd H dx u) p v l = none) : H l = none := by
  have a : l ≠ p := fun z => by rw [z, upd_same] at h; cases h
  rw [upd_ne a] at h
  have b : l ≠ dx := fun z => by rw [z, upd_same] at h; cases h
  rw [upd_ne b] at h
  exact h
theorem DrillT.hid (h : DrillT K H a D) (hm : ∀ b ∈ ms, b ≠ a ∧ ∀ xs, ¬ Rd H b (.tup xs)) : DrillT K (hidL ms H) a D := by
  obtain ⟨ts, h1, h2, h3⟩ := h
  have rd : ∀ (b : Addr) (w : HO), b ∉ ms → Rd H b w → Rd (hidL ms H) b w := fun b w n h => by
    rcases h with h | ⟨o, h⟩
    · exact .inl (hidL_get n h)
    · exact .inr ⟨o, hidL_get n h⟩
  refine ⟨ts, ?_, h2, fun i t cl x y => ?_⟩
  · rcases h1 with h1 | h1
    · exact .inl (rd _ _ (fun z => (hm a z).1 rfl) h1)
    · exact .inr h1
  · obtain ⟨h4, h5⟩ := h3 i t cl x y
    refine ⟨?_, fun k => ?_⟩
    · rcases h4 with h4 | h4
      · exact .inl (rd _ _ (fun z => (hm t z).2 _ h4) h4)
      · exact .inr h4
    · obtain ⟨y, z, q, r⟩ := h5 k
      obtain ⟨o, k', n, e', q'⟩ := q.is
      exact ⟨y, z, ⟨o, k', n, hidL_get (fun z => (hm t z).2 _ (.inr ⟨o, e'⟩)) e', q'⟩, r⟩
theorem not_tup_lst {xs : List V} (h : H b = some (.lst xs)) : ∀ ys, ¬ Rd H b (.tup ys) := fun ys q => by
  rcases q with q | ⟨o, q⟩
  · rw [h] at q; cases q
  · rw [h] at q; cases q
theorem not_tup_ins {fs : List (Str × V)} (h : H b = some (.ins C dx fs)) : ∀ ys, ¬ Rd H b (.tup ys) := fun ys q => by
  rcases q with q | ⟨o, q⟩
  · rw [h] at q; cases q
  · rw [h] at q; cases q
/-- the parade and the list of all its rows -/
structure Pls (C : Addr) (H : Hp) (p l g : Addr) (row : List Nat) (past : List (List Nat)) : Prop where
  par : Par C H p l row past
  ls : H g = some (.lst ((past ++ [row]).map fun r => V.str (rowOf r)))
theorem Pls.ext (h : Pls C H p l g row past) (S : Same (hidL rs H) (hidL rs H')) (n1 : p ∉ rs) (n2 : l ∉ rs) (n3 : g ∉ rs) : Pls C H' p l g row past := ⟨h.par.ext S n1 n2, extL_get S n3 h.ls⟩
theorem Pls.no (h : Pls C H p l g row past) (h2 : H b = none) : b ≠ p ∧ b ≠ l ∧ b ≠ g := by
  obtain ⟨dx, e⟩ := h.par.ob
  exact ⟨fun z => (by rw [z, e] at h2; cases h2), fun z => (by rw [z, h.par.ls] at h2; cases h2), fun z => (by rw [z, h.ls] at h2; cases h2)⟩
/-- a list that is none of the parade's objects -/
theorem rows_last (past : List (List Nat)) (row : List Nat) : atI ((past ++ [row]).map fun r => V.str (rowOf r)) (-1) = some (.str (rowOf row)) := by
  unfold atI
  have e : ixN ((past ++ [row]).map fun r => V.str (rowOf r)).length (-1) = some past.length := by
    rw [List.length_map, List.length_append, List.length_singleton]
    unfold ixN
    rw [if_neg (by omega), if_pos (by omega)]
    exact congrArg some (by omega)
  rw [e]
  simp
theorem Pls.last (h : Pls C H p l g row past) : SqL K H g ((past ++ [row]).map fun r => V.str (rowOf r)) ∧ atI ((past ++ [row]).map fun r => V.str (rowOf r)) (-1) = some (.str (rowOf row)) := ⟨SqL.of h.ls, rows_last _ _⟩
theorem Pls.len (past : List (List Nat)) (row : List Nat) : ((past ++ [row]).map fun r => V.str (rowOf r)).length = past.length + 1 := by rw [List.length_map, List.length_append]; rfl
theorem Pls.more (past : List (List Nat)) (row r2 : List Nat) : ((past ++ [row]).map fun r => V.str (rowOf r)) ++ [.str (rowOf r2)] = ((past ++ [row]) ++ [r2]).map fun r => V.str (rowOf r) := by
  rw [List.map_append (l₁ := past ++ [row])]; rfl
theorem Pls.lastAt (past : List (List Nat)) (row : List Nat) : ((past ++ [row]).map fun r => V.str (rowOf r))[((past ++ [row]).map fun r => V.str (rowOf r)).length - 1]? = some (.str (rowOf row)) := by
  rw [List.length_map, List.length_append, List.length_singleton, Nat.add_sub_cancel, List.getElem?_map, List.getElem?_append_right (Nat.le_refl _), Nat.sub_self]
  rfl
theorem Pls.dropLast (past : List (List Nat)) (row : List Nat) : ((past ++ [row]).map fun r => V.str (rowOf r)).dropLast = past.map fun r => V.str (rowOf r) := by rw [List.map_append]; simp
theorem rowOf_cps (row : List Nat) : (rowOf row).cps.toList = row := by simp [rowOf]
theorem rowOf_size (row : List Nat) : (rowOf row).cps.size = row.length := by simp [rowOf]
end
end Dr
/-! ==, != and len of objects of an own class. -/
namespace Dr
open PySem PySem.Spec PyProof.Rows L2
section
variable {X : Cx} {CX : CXT} {k : Nat} {f C : Addr} {fd : FuncData} {ps : List Str} {sp : Sp} {E : XK}
/-- both are of the class at C -/
def rOwn (C : Addr) (sp : Sp) (E : XK) : R2 := fun x y H Q => ∃ a b dx dy fs gs, x = .ref a ∧ y = .ref b ∧ H a = some (.ins C dx fs) ∧ H b = some (.ins C dy gs) ∧ sp [x, y] H (fun v H' => ∃ t, v = .bl t ∧ Q (.bl t) H') E
theorem own_cmp {op : CmpOp} (hs : PySem.W.findIn X.K (.ref C) (cmpInfo op).2.1 = some (some (.ref f))) (hf : PySem.W.isFn X.K (.ref f) = true) (F : FnOk X.prog X.w X.K X.mg X.base CX k f fd ps sp) (hr : Room k X.A) (hb : Binds X.K fd ps []) (hx : Passes CX X E)
    {pins : List (Addr × Obj)} {s : Shared} {σ : L2.St} {H : Hp} {x y : V} {v u : Value} {Q : VK} (I : Inv X pins σ H s) (rx : RelV x v) (ry : RelV y u) (hq : rOwn C sp E x y H Q) : wpAny (model X.prog X.w) X.A (richCompare op v u) (EP X pins σ Q) X.xe s := by
  obtain ⟨a, b, dx, dy, fs, gs, rfl, rfl, ha, hb', q⟩ := hq
  cases rx
  cases ry
  obtain ⟨mA, J, _⟩ := ins_get I.hok ha
  obtain ⟨mB, J', _⟩ := ins_get I.hok hb'
  obtain ⟨od, J, _⟩ := J.look
  obtain ⟨od', J', _⟩ := J'.look
  obtain ⟨m, hF⟩ := I.fr
  refine PySem.W.cmp_K (op := op) (tb := .ref C) hr.units0 hF I.ok.mod.kin J J'.type (by simp [PySem.W.notFirst]) hs hf ?_
  refine thn (run_fn (us := [.ref a, .ref b]) (vs := [.ref a, .ref b]) F hr hb .nil hx I (.cons rfl (.cons rfl .nil)) q) fun w s' hw => ?_
  obtain ⟨z, H', I', rz, t, rfl, q'⟩ := hw
  cases rz
  exact ⟨.bl t, H', I', rfl, q'⟩
theorem op_ownEq (M : Meth X.K C "__eq__" f) (F : FnOk X.prog X.w X.K X.mg X.base CX k f fd ps sp) (hr : Room k X.A) (hb : Binds X.K fd ps []) (hx : Passes CX X E) : OpR X (compareOp .Eq) (rOwn C sp E) := fun pins s σ H x y v u Q I rx ry hq => by
  show wpAny (model X.prog X.w) X.A (richCompare .Eq v u) (EP X pins σ Q) X.xe s
  exact own_cmp (op := .Eq) M.at_ M.fn F hr hb hx I rx ry hq
theorem op_ownNe (M : Meth X.K C "__ne__" f) (F : FnOk X.prog X.w X.K X.mg X.base CX k f fd ps sp) (hr : Room k X.A) (hb : Binds X.K fd ps []) (hx : Passes CX X E) : OpR X (compareOp .NotEq) (rOwn C sp E) := fun pins s σ H x y v u Q I rx ry hq => by
  show wpAny (model X.prog X.w) X.A (richCompare .NotEq v u) (EP X pins σ Q) X.xe s
  exact own_cmp (op := .NotEq) M.at_ M.fn F hr hb hx I rx ry hq
/-- len(x) -/
theorem call_lenO (M : Meth X.K C "__len__" f) (F : FnOk X.prog X.w X.K X.mg X.base CX k f fd ps sp) (hr : Room (k + 1) X.A) (hb : Binds X.K fd ps []) (hx : Passes CX X E) :
    CallR X (.builtin "len") (fun xs H Q => ∃ a dx fs, xs = [.ref a] ∧ H a = some (.ins C dx fs) ∧ sp xs H (fun v H' => ∃ n : Nat, v = .int (n : Int) ∧ n < 2 ^ 62 ∧ Q (.int (n : Int)) H') E) := by
  intro pins s σ H xs us Q I r h
  obtain ⟨a, dx, fs, rfl, ha, q⟩ := h
  obtain ⟨u, rfl, ru⟩ := vals1 r
  cases ru
  obtain ⟨mA, J, _⟩ := ins_get I.hok ha
  obtain ⟨od, J, _⟩ := J.look
  obtain ⟨m, hF⟩ := I.fr
  refine PySem.W.len_K hF I.ok.mod.kin J M.at_ M.fn ?_
  have hl := F.len _ _ _ _ q
  have e0 : Env0 X.prog X.w X.K X.mg X.base X.A.in1 X.stack s H := I.env0.in1
  refine wpAny_call (codeAny_mono (F.run X.A.in1 X.stack s H ⟨[.ref a], []⟩ [.ref a] [.ref a] _ E hr.in1 e0 (by
    have := hb s [.ref a] I.kIn (by simpa using hl)
    simpa using this) (.cons rfl .nil) q) fun r s' hq => ?_)
  cases r with
  | error e => exact hx pins σ H s e s' I hq
  | ok fl =>
    cases fl with
    | ret w =>
      obtain ⟨z, H', I', rz, n, rfl, hn, q'⟩ := I.after hq
      obtain ⟨t, rfl⟩ := rz
      have h62 : (2 : Nat) ^ 62 < 2 ^ 63 := by decide
      refine ⟨⟨Int.natCast_nonneg _, by omega⟩, .int (n : Int), H', I'.tok _, ⟨_, rfl⟩, q'⟩
    | next => exact False.elim hq
    | brk => exact False.elim hq
    | cont => exact False.elim hq
theorem call_isCK {K : PySem.W.Frag} (h : X.K = K) (c : C8.InsC K C) : CallR X (.builtin "isinstance") (fun xs H Q => ∃ a dx fs, xs = [.ref a, .ref C] ∧ H a = some (.ins C dx fs) ∧ Q (.bl true) H) := by
  subst h
  exact C8.call_isC c
end
end Dr
/-! Defs that are told their arguments as they are (tokens and all). -/
namespace Dr
open PySem PySem.Spec PyProof.Rows L2
abbrev SpA := List V → List Value → Hp → VK → XK → Prop
structure FnA (P : Program) (w : World) (K : PySem.W.Frag) (mg : Str → Option Value) (base : Heap) (CX : CXT) (k : Nat) (f : Addr) (fd : FuncData) (ps : List Str) (sp : SpA) : Prop where
  len : ∀ vs us H Q E, sp vs us H Q E → vs.length = ps.length
  run : ∀ (A : Around) (outer : List Env) (s : Shared) (H : Hp) (args : Args) (us : List Value) (vs : List V) (Q : VK) (E : XK), Room k A → Env0 P w K mg base A outer s H → BindsTo s fd args (ps.zip us) → Vals vs us → sp vs us H Q E →
    codeAny (model P w) A (.call (.ref f) args) (CR CX outer P w H s Q E) s
/-- the parameters' values as they are -/
def tau0 : Nat → List Value → Tau
  | _, [] => []
  | i, u :: us => (i, u) :: tau0 (i + 1) us
theorem tau0_mem : ∀ {us : List Value} {i : Nat} {p : Nat × Value}, p ∈ tau0 i us → ∃ j, p.1 = i + j ∧ us[j]? = some p.2
  | u :: us, i, p, h => by
    rcases List.mem_cons.mp h with rfl | h
    · exact ⟨0, rfl, rfl⟩
    · obtain ⟨j, e, q⟩ := tau0_mem h
      exact ⟨j + 1, by omega, q⟩
theorem at_start {CX : CXT} {P : Program} {w : World} {K : PySem.W.Frag} {mg : Str → Option Value} {base : Heap} {N ps : List Str} {qual : Str} {scope : Scope} {f : Addr} {cd : Value} {A : Around} {outer : List Env} {s s1 : Shared} {H : Hp} {E : XK} {us : List Value}
    (S : FnScope N ps scope) (x : InCallC s s.heap.objs.size (bindL (PyProof.Rows.envOfC qual scope s.heap.objs.size f cd).kindOf (ps.zip us) fun _ => none) (cellsFrom (s.heap.objs.size + 1) scope.names []) (bindC (PyProof.Rows.envOfC qual scope s.heap.objs.size f cd).kindOf (ps.zip us) fun _ => none) s1)
    {i : Nat} {y : Str} {u : Value} (hp : ps[i]? = some y) (hu : us[i]? = some u) : At (cxOf CX P w K mg base N qual scope f cd A outer s H E) s1 y u := by
  have ndP : ps.Nodup := by rw [← S.pre]; exact S.nd.sublist (List.take_sublist _ _)
  refine ⟨_, x.toInCall.ns, ?_⟩
  rcases S.par y (List.mem_of_getElem? hp) with k | k
  · exact .inl ⟨k, bindL_get ndP hp hu k⟩
  · obtain ⟨c, e⟩ := cell_has (n := s.heap.objs.size + 1) k
    refine .inr ⟨.inl k, c, e, ?_⟩
    have q := x.cell y c e
    rw [bindC_get ndP hp hu (by show scope.names.lookup y ≠ _; rw [k]; decide)] at q
    exact q
section
variable {P : Program} {w : World} {K : PySem.W.Frag} {mg : Str → Option Value} {base : Heap} {CX : CXT} {f : Addr} {fd : FuncData} {ps : List Str} {sp : SpA}
theorem okA {x qual : Str} {st : Stmt} {N : List Str} {k : Nat} (F : L2.Fun K x qual st f fd) (S : FnScope N ps (defScope st)) (len : ∀ vs us H Q E, sp vs us H Q E → vs.length = ps.length)
    (body : ∀ (cdv : Value) (A : Around) (outer : List Env) (s : Shared) (H : Hp) (vs : List V) (us : List Value) (Q : VK) (E : XK), Room k (A.deeper (PyProof.Rows.envOfC qual (defScope st) s.heap.objs.size f cdv)) → sp vs us H Q E →
      ∃ t, PSsK (cxOf CX P w K mg base N qual (defScope st) f cdv A outer s H E) (defBody st) t ∧ t ⟨fun _ _ H' => Q .non H', Q⟩ (L2.start N vs) (tau0 0 us) H) :
    FnA P w K mg base CX (k + 1) f fd ps sp := by
  obtain ⟨oc, od, kV, doc, pm, an, cdv, ct, osl, rfl, lk, hcd⟩ := F.ex
  refine ⟨len, fun A outer s H args us vs Q E room e0 binds rel want => ?_⟩
  have kin : K.In s.heap := e0.mod.kin.keeps fun b o e => (e0.bs b o e).1
  have lim : s.heap.NoLimit := e0.mod.nolimit.keeps fun b o e => (e0.bs b o e).1
  have kinds : ∀ y ∈ ps.zip us, (defScope st).names.lookup y.1 = some .local ∨ ((defScope st).names.lookup y.1 = some .cell ∧
      ((cellsFrom (s.heap.objs.size + 1) (defScope st).names []).lookup y.1).isSome = true) := by
    rintro ⟨a, v⟩ hy
    rcases S.par a (List.of_mem_zip hy).1 with q | q
    · exact .inl q
    · exact .inr ⟨q, PySem.W.cellsFrom_some _ _ _ (.inl q)⟩
  refine codeAny_call_function room.depth (kin _ _ lk) rfl S.co S.gen rfl (PySem.W.codeRec_of kin hcd) (binds _ _ _ _ (wpAny_newFunctionEnv_cells S.kind kinds ?_))
  rintro env rfl s1 x
  refine ⟨lim.keeps x.toInCall.keep, codeAny_func ?_⟩
  obtain ⟨t, ht, hq⟩ := body cdv A outer s H vs us Q E (room.deeper _) want
  have I := inv_start (CX := CX) (E := E) S room.hd e0 (len _ _ _ _ _ want) rel x
  have T : Told' (cxOf CX P w K mg base N qual (defScope st) f cdv A outer s H E) (tau0 0 us) s1 := fun p hp => by
    obtain ⟨j, e, hu⟩ := tau0_mem hp
    rw [Nat.zero_add] at e
    have hl : vs.length = ps.length := len _ _ _ _ _ want
    have hj : j < ps.length := by
      have := (List.getElem?_eq_some_iff.mp hu).1
      rw [← rel.length, hl] at this
      exact this
    have hps : ps[j]? = some ps[j] := List.getElem?_eq_getElem hj
    refine ⟨ps[j], ?_, at_start S x hps hu⟩
    rw [e]
    have h2 : (N.take ps.length)[j]? = some ps[j] := by rw [S.pre]; exact hps
    rw [List.getElem?_take_of_lt hj] at h2
    exact h2
  refine wpAny_mono (ht [] s1 (L2.start N vs) (tau0 0 us) H _ I T hq) (fun fl s' hs => ?_) fun e s' hs => hs
  cases fl with
  | ret u =>
    obtain ⟨v, σ', H', J, rv, q⟩ := hs
    exact ⟨v, H', J.os, J.bare, J.base, J.hok, rv, q⟩
  | next =>
    obtain ⟨σ', τ', H', J, _, q⟩ := hs
    exact ⟨.non, H', J.os, J.bare, J.base, J.hok, rfl, q⟩
  | brk => exact hs.elim
  | cont => exact hs.elim
end
/-! ### expressions that read told slots; what is told need not be kept behind them -/
abbrev TET := L2.St → Tau → Hp → VK → Prop
abbrev TAT := L2.St → Tau → Hp → (List V → List Value → Hp → Prop) → Prop
def PET (X : Cx) (e : Expr) (t : TET) : Prop := ∀ (pins : List (Addr × Obj)) (s : Shared) (σ : L2.St) (τ : Tau) (H : Hp) (Q : VK), Inv X pins σ H s → Told' X τ s → t σ τ H Q → wpAny (model X.prog X.w) X.A (eval e X.env) (EP X pins σ Q) X.xe s
def PAT (X : Cx) (es : List Expr) (t : TAT) : Prop := ∀ (pos : Pos) (pins : List (Addr × Obj)) (s : Shared) (σ : L2.St) (τ : Tau) (H : Hp) (Q : List V → List Value → Hp → Prop), Inv X pins σ H s → Told' X τ s → t σ τ H Q →
  wpAny (model X.prog X.w) X.A (spliced (backTo pos (starEach es X.env))) (fun us s' => ∃ vs H', Inv X pins σ H' s' ∧ Vals vs us ∧ Q vs us H') X.xe s
def tPat1 (ta : TET) (t : TA) : TAT := fun σ τ H Q => ta σ τ H fun v H1 => t σ H1 fun vs H2 => ∀ u us, Q (v :: vs) (u :: us) H2
section
variable {X : Cx} {CX : CXT} {k : Nat} {f C : Addr} {fd : FuncData} {ps : List Str} {sp : Sp} {spa : SpA} {E : XK} {x m : Str} {e o e2 : Expr} {es : List Expr} {te ta : TE} {t : TA} {tt : TET} {tat : TAT} {tx : L2.St → Tau → Hp → VK → Prop} {p pos apos : Pos}
theorem pet_of (h : PE X e te) : PET X e (fun σ _ H Q => te σ H Q) := fun pins s σ τ H Q I _ q => h.run pins s σ H Q I q
theorem pet_x (h : PXT X e tx) : PET X e tx := fun pins s σ τ H Q I T q => thn (h pins s σ τ H Q I T q) fun _ _ z => z.1
/-- [e], e told -/
theorem pet_lst1 (h : PET X e tt) (hs : starEach [e] X.env = (false, eval e X.env) :: starEach [] X.env := by rfl) : PET X (.List [e] pos) (fun σ τ H Q => tt σ τ H fun v H1 => ∀ p, H1 p = none → Q (.ref p) (upd H1 p (.lst [v]))) := fun pins s σ τ H Q I T q => by
  refine wpAny_List_spliced ?_
  rw [hs]
  refine Calls.spliced_cons (thn (h pins s σ τ H _ I T q) fun u s1 hu => ?_)
  obtain ⟨v, H1, I1, r1, q1⟩ := hu
  refine Calls.spliced_nil ⟨by show 1 ≤ sizeLine; decide, ?_⟩
  have keep : ∀ b o, s1.heap.get? b = some o → (s1.heap.push { cls := .type "list", data := .seq [u].toArray }).get? b = some o := fun b o e => Heap.get?_push_of_some _ e
  exact ⟨.ref s1.heap.objs.size, _, I1.laid (t' := s1.toks) keep (Nat.le_refl _) (o := .lst [v]) ⟨by show 1 ≤ sizeLine; decide, [u], 0, .cons r1 .nil, Heap.get?_push_size _ rfl⟩, rfl, q1 _ (I1.hok.fresh (Nat.le_refl _))⟩
theorem pat_nil : PAT X [] (fun _ _ H Q => Q [] [] H) := fun _ _ _ _ _ H Q I _ h => Calls.spliced_nil ⟨[], H, I, .nil, h⟩
/-- the first argument reads told slots, the others do not -/
theorem pat_1 (h : PET X e tt) (hr : PA X es t) (hs : starEach (e :: es) X.env = (false, eval e X.env) :: starEach es X.env := by rfl) : PAT X (e :: es) (tPat1 tt t) := fun ps pins s σ τ H Q I T q => by
  rw [hs]
  refine Calls.spliced_cons (thn (h pins s σ τ H _ I T q) fun u s1 hu => ?_)
  obtain ⟨v, H1, I1, r1, q1⟩ := hu
  refine thn (hr.run ps pins s1 σ H1 _ I1 q1) fun us s2 hus => ?_
  obtain ⟨vs, H2, I2, r2, q2⟩ := hus
  exact ⟨v :: vs, H2, I2, .cons r1 r2, q2 u us⟩
/-- an argument told as it is -/
theorem pat_cons {tv : L2.St → Tau → Hp → VQ → Prop} (h : PVT X e tv) (hr : PAT X es tat) (hs : starEach (e :: es) X.env = (false, eval e X.env) :: starEach es X.env := by rfl) :
    PAT X (e :: es) (fun σ τ H Q => tv σ τ H fun w H1 => ∃ v, RelV v w ∧ tat σ τ H1 fun vs us H2 => Q (v :: vs) (w :: us) H2) := fun ps pins s σ τ H Q I T q => by
  rw [hs]
  refine Calls.spliced_cons (thn (h pins s σ τ H _ I T q) fun u s1 hu => ?_)
  obtain ⟨⟨H1, I1, v, r1, q1⟩, k1⟩ := hu
  refine thn (hr ps pins s1 σ τ H1 _ I1 (T.kp k1) q1) fun us s2 hus => ?_
  obtain ⟨vs, H2, I2, r2, q2⟩ := hus
  exact ⟨v :: vs, H2, I2, .cons r1 r2, q2⟩
/-- a def's call, arguments as told -/
theorem pet_call (F : FnOk X.prog X.w X.K X.mg X.base CX k f fd ps sp) (hr : Room k X.A) (hg : Gl X x) (hm : X.mg x = some (.ref f)) (hk : PySem.W.keepIn X.K (.ref f) = true) (hb : Binds X.K fd ps [])
    (hx : Passes CX X E) (ha : PAT X (e :: es) tat) (hdb : (x == ("__debug__" : Str)) = false := by decide) (he : starEach (e :: es) X.env = (false, eval e X.env) :: starEach es X.env := by rfl) (hpl : (backTo pos (starEach es X.env)).any (·.1) = false := by rfl) :
    PET X (.Call (.Name x p) (e :: es) [] pos) (fun σ τ H Q => tat σ τ H fun vs _ H1 => sp vs H1 Q E) := fun pins s σ τ H Q I T h => by
  refine wpAny_Call_Name_kw (ld_glob I hg hm ?_ hdb)
  refine PySem.W.callWith_K (h₀ := X.base) I.ok.mod.kin hk (thn (ha pos pins s σ τ H _ I T h) fun us s1 ⟨vs, H1, I1, r, q⟩ => ⟨I1.kIn, ?_⟩) he hpl
  exact run_fn F hr hb .nil hx I1 r (by rw [List.append_nil]; exact q)
/-- o.m(e, ..), arguments as told -/
theorem pet_meth {pl : Sem Bool} (he : PEK X o ta) (c : Cls X.K C) (hm : Meth X.K C m f) (F : FnOk X.prog X.w X.K X.mg X.base CX k f fd ps sp) (hr : Room k X.A) (hb : Binds X.K fd ps []) (hx : Passes CX X E) (ha : PAT X (e :: es) tat)
    (hst : starEach (e :: es) X.env = (false, eval e X.env) :: starEach es X.env := by rfl) (hpl : (backTo pos (starEach es X.env)).any (·.1) = false := by rfl)
    (ht : eval (.Call (.Attribute o m apos) (e :: es) [] pos) X.env = (do
      let ov ← eval o X.env
      standAt apos.atName
      let (f, first) ← holding [ov] (getMethod ov m pl)
      callWith pos f first (backTo pos (starEach (e :: es) X.env)) (backToKw pos (keywordEach [] X.env))) := by rfl) :
    PET X (.Call (.Attribute o m apos) (e :: es) [] pos) (fun σ τ H Q => ta σ H fun x H1 => ∃ a dx fs, x = .ref a ∧ H1 a = some (.ins C dx fs) ∧ fs.lookup m = none ∧ tat σ τ H1 fun vs _ H2 => sp (x :: vs) H2 Q E) := fun pins s σ τ H Q I T h => by
  refine PySem.W.methodCall_KW (pl := pl) (thn (he pins s σ H _ I h) fun u s1 hu => ?_) ht
  obtain ⟨⟨x, H1, I1, rx, a, dx, fs, ex, ea, l, q⟩, k1⟩ := hu
  subst ex
  obtain rfl : u = Value.ref a := rx
  refine getmeth_ok I1 ea c hm l ?_
  refine PySem.W.callWith_K (first := [.ref a]) (h₀ := X.base) I.ok.mod.kin hm.kp (thn (ha pos pins s1 σ τ H1 _ I1 (T.kp k1) q) fun us s2 ⟨vs, H2, I2, r, q2⟩ => ⟨I2.kIn, ?_⟩) hst hpl
  exact run_fn (us := .ref a :: us) (vs := .ref a :: vs) F hr hb .nil hx I2 (.cons rfl r) (by rw [List.append_nil]; exact q2)
theorem run_fnA {pins : List (Addr × Obj)} {σ : L2.St} {H : Hp} {s : Shared} {Q : VK} {us : List Value} {vs : List V} (F : FnA X.prog X.w X.K X.mg X.base CX k f fd ps spa) (hr : Room k X.A) (hb : Binds X.K fd ps []) (hx : Passes CX X E)
    (I : Inv X pins σ H s) (r : Vals vs us) (h : spa vs us H Q E) : wpAny (model X.prog X.w) X.A (call (.ref f) us) (EP X pins σ Q) X.xe s := by
  have hl : us.length = ps.length := by rw [← r.length]; exact F.len _ _ _ _ _ h
  have b := hb s us I.kIn (by simpa using hl)
  rw [List.append_nil] at b
  refine wpAny_call (codeAny_mono (F.run X.A X.stack s H ⟨us, []⟩ us vs Q E hr I.env0 b r h) fun r s' hq => ?_)
  cases r with
  | error e => exact hx pins σ H s e s' I hq
  | ok fl =>
    cases fl with
    | ret u => exact I.after hq
    | next => exact False.elim hq
    | brk => exact False.elim hq
    | cont => exact False.elim hq
/-- o.m(e, ..) of a def that is told its arguments -/
theorem pet_methA {pl : Sem Bool} (he : PEK X o ta) (c : Cls X.K C) (hm : Meth X.K C m f) (F : FnA X.prog X.w X.K X.mg X.base CX k f fd ps spa) (hr : Room k X.A) (hb : Binds X.K fd ps []) (hx : Passes CX X E) (ha : PAT X (e :: es) tat)
    (hst : starEach (e :: es) X.env = (false, eval e X.env) :: starEach es X.env := by rfl) (hpl : (backTo pos (starEach es X.env)).any (·.1) = false := by rfl)
    (ht : eval (.Call (.Attribute o m apos) (e :: es) [] pos) X.env = (do
      let ov ← eval o X.env
      standAt apos.atName
      let (f, first) ← holding [ov] (getMethod ov m pl)
      callWith pos f first (backTo pos (starEach (e :: es) X.env)) (backToKw pos (keywordEach [] X.env))) := by rfl) :
    PET X (.Call (.Attribute o m apos) (e :: es) [] pos) (fun σ τ H Q => ta σ H fun x H1 => ∃ a dx fs, x = .ref a ∧ H1 a = some (.ins C dx fs) ∧ fs.lookup m = none ∧ tat σ τ H1 fun vs us H2 => spa (x :: vs) (.ref a :: us) H2 Q E) := fun pins s σ τ H Q I T h => by
  refine PySem.W.methodCall_KW (pl := pl) (thn (he pins s σ H _ I h) fun u s1 hu => ?_) ht
  obtain ⟨⟨x, H1, I1, rx, a, dx, fs, ex, ea, l, q⟩, k1⟩ := hu
  subst ex
  obtain rfl : u = Value.ref a := rx
  refine getmeth_ok I1 ea c hm l ?_
  refine PySem.W.callWith_K (first := [.ref a]) (h₀ := X.base) I.ok.mod.kin hm.kp (thn (ha pos pins s1 σ τ H1 _ I1 (T.kp k1) q) fun us s2 ⟨vs, H2, I2, r, q2⟩ => ⟨I2.kIn, ?_⟩) hst hpl
  exact run_fnA (us := .ref a :: us) (vs := .ref a :: vs) F hr hb hx I2 (.cons rfl r) q2
/-- e as a statement: nothing is told behind it -/
theorem ks_expr (h : PET X e tt) (hsw : swapsWith e none pos.line X.env = pure false := by rfl) : PSK X (.Expr e pos) (fun D σ τ H => tt σ τ H fun _ H' => D.nx σ [] H') := fun pins s σ τ H D I T q =>
  wpAny_Expr_any (Q := SPT X pins D) (thn (h pins s σ τ H _ I T q) fun u s1 hu => let ⟨_, H1, I1, _, q1⟩ := hu; ⟨σ, [], H1, I1, fun _ hp => absurd hp List.not_mem_nil, q1⟩) I.quiet hsw
end
/-! ### for a, b, c in xs: the names are told -/
abbrev TGT := V → L2.St → Hp → (L2.St → Tau → Hp → Prop) → Prop
def PGT (X : Cx) (tg : Expr) (t : TGT) : Prop := ∀ (pins : List (Addr × Obj)) (s : Shared) (σ : L2.St) (H : Hp) (v : V) (u : Value) (Q : L2.St → Tau → Hp → Prop), Inv X pins σ H s → RelV v u → t v σ H Q →
  wpAny (model X.prog X.w) X.A (assign tg X.env u) (fun _ s' => ∃ σ' τ' H', Inv X pins σ' H' s' ∧ Told' X τ' s' ∧ Q σ' τ' H') X.xe s
/-- a tuple of three is given to three names -/
def gTup3 (K : PySem.W.Frag) (i j k : Nat) : TGT := fun v σ H Q => ∃ (t : Addr) (v1 v2 v3 : V), v = .ref t ∧ SqT K H t [v1, v2, v3] ∧ ∀ w1 w2 w3, RelV v1 w1 → RelV v2 w2 → RelV v3 w3 → (∀ (kd : V) (y z : Tx), TCall H t kd y z → w2 = tv y ∧ w3 = tv z) →
  Q (((σ.set i (some v1)).set j (some v2)).set k (some v3)) [(k, w3), (j, w2), (i, w1)] H
section
variable {X : Cx} {tg iter : Expr} {body : List Stmt} {wi : TI} {g : TGT} {tb : TSK} {pos : Pos}
def tForT (wi : TI) (g : TGT) (tb : TSK) : TS := fun D σ H => wi σ H fun J H1 => ∃ W : Nat → Nat → L2.St → Hp → Prop, (∃ m, W 0 m σ H1) ∧ ∀ i m σ H, W i m σ H →
  (J.stop i H ∧ D.nx σ H) ∨ (J.go i H ∧ ∃ N : L2.St → Hp → Prop, (∀ σ' H', N σ' H' → ∃ m', m' < m ∧ W (i + 1) m' σ' H') ∧ ∀ x H', J.yld i H x H' → g x σ H' fun σ2 τ2 H2 => tb ⟨fun σ' _ H' => N σ' H', D.rt⟩ σ2 τ2 H2)
theorem ps_forT (hp : PassesOwn (model X.prog X.w) X.A X.env X.xe) (hc : X.calm = true) (hi : PI X tg iter wi) (hg : PGT X tg g) (hb : PSsK X body tb)
    (hs : ∀ x, foldedSetIterable iter X.env x = pure x := by intro _; rfl) : PS X (.For tg iter body [] pos) (tForT wi g tb) := by
  refine ⟨fun pins s σ H D I h => ?_⟩
  refine wpAny_For (thn (hi.run pins s σ H _ I h) fun v s1 h1 => thn h1 fun itv s2 h2 => ?_) hs
  obtain ⟨it, fp, tn, J, H2, e, I2, T, st2, f2, W, ⟨m0, w0⟩, turn⟩ := h2
  subst e
  have stat : ∀ {H' : Hp}, (∀ b ∈ fp, H' b = none) → ∀ b ∈ fp, FpOk X pins H' b := fun hn b hb => ⟨hn b hb, (f2 b hb).2⟩
  refine codeAny_forLoop_any (fun n s' => ∃ i σ' H', Inv X pins σ' H' s' ∧ tn i s'.heap ∧ (∀ b ∈ fp, H' b = none) ∧ W i n σ' H') ?_ m0 ⟨0, σ, H2, I2, st2, fun b hb => (f2 b hb).1, w0⟩
  rintro n s3 ⟨i, σ3, H3, I3, st3, fr3, w3⟩
  rcases turn i n σ3 H3 w3 with ⟨stop, qn⟩ | ⟨go, N, hN, step⟩
  · refine wpAny_passesOwn hp (thn (T.done X rfl rfl rfl hc i pins s3 σ3 H3 X.xe I3 (stat fr3) st3 stop) fun r s4 ⟨hr, I4⟩ => ?_)
    subst hr
    exact wpAny_execs_nil ⟨σ3, H3, I4, qn⟩
  · refine wpAny_passesOwn hp (thn (T.item X rfl rfl rfl hc i pins s3 σ3 H3 X.xe I3 (stat fr3) st3 go) fun r s4 ⟨u, hr, h4⟩ => ?_)
    subst hr
    refine wpAny_passesOwn hp (thn h4 fun _ s5 ⟨x, H5, I5, r5, y5, st5, fr5⟩ => ?_)
    have I5' := I5.pinned (stat fr5) (T.obj _ _ st5)
    refine wpAny_passesOwn hp (thn (hg _ s5 σ3 H5 x u _ I5' r5 (step x H5 y5)) fun _ s6 ⟨σ6, τ6, H6, I6, T6, q6⟩ => ?_)
    refine wpAny_passesOwn hp (thn (hb _ s6 σ6 τ6 H6 _ I6 T6 q6) fun f s7 q7 => ?_)
    have again : ∀ {σ7 : L2.St} {H7 : Hp}, Inv X (pins ++ pinsAt fp s5.heap) σ7 H7 s7 → N σ7 H7 → ∃ m, m < n ∧ ∃ i σ' H', Inv X pins σ' H' s7 ∧ tn i s7.heap ∧ (∀ b ∈ fp, H' b = none) ∧ W i m σ' H' := fun {σ7 H7} I7 n7 => by
      obtain ⟨m', hm, w7⟩ := hN σ7 H7 n7
      refine ⟨m', hm, i + 1, σ7, H7, I7.unpinned, T.keep _ _ _ st5 fun b hb o e => (I7.pin (b, o) (List.mem_append_right _ (List.mem_append_right _ (mem_pinsAt hb e)))).1, fun b hb => ?_, w7⟩
      obtain ⟨o, e, d⟩ := T.obj _ _ st5 b hb
      exact (I7.pin (b, o) (List.mem_append_right _ (List.mem_append_right _ (mem_pinsAt hb e)))).2.1
    cases f with
    | next => obtain ⟨σ7, _, H7, I7, _, n7⟩ := q7; exact again I7 n7
    | cont => exact q7.elim
    | brk => exact q7.elim
    | ret v => obtain ⟨x7, σ7, H7, I7, r7, q7⟩ := q7; exact ⟨x7, σ7, H7, I7.unpinned, r7, q7⟩
end
end Dr
namespace Dr
open PySem PySem.Spec PyProof.Rows L2
section
variable {X : Cx}
theorem pgt_tup3 {K : PySem.W.Frag} (hK : X.K = K) {i j k : Nat} {x y z : Str} {p1 p2 p3 p4 : Pos} {x1} (hN : X.N.Nodup) (hc : X.calm = true) (hi : X.N[i]? = some x) (hj : X.N[j]? = some y) (hk : X.N[k]? = some z)
    (lx : Loc X.env.scope x) (ly : Loc X.env.scope y) (lz : Loc X.env.scope z) (nxy : x ≠ y) (nxz : x ≠ z) (nyz : y ≠ z)
    (h2 : (assignEach [.Name x p1, .Name y p2, .Name z p3] X.env).map (·.2) = [assign (.Name x p1) X.env, assign (.Name y p2) X.env, assign (.Name z p3) X.env] := by rfl)
    (h3 : (assignEach [.Name x p1, .Name y p2, .Name z p3] X.env).length = 3 := by rfl) (h4 : (assignEach [.Name x p1, .Name y p2, .Name z p3] X.env).findIdx? (·.1) = none := by rfl)
    (fx : X.fn x = true ∨ X.env.scope.names.lookup x = some .local := by first | exact .inl rfl | exact .inr rfl | assumption)
    (fy : X.fn y = true ∨ X.env.scope.names.lookup y = some .local := by first | exact .inl rfl | exact .inr rfl | assumption)
    (fz : X.fn z = true ∨ X.env.scope.names.lookup z = some .local := by first | exact .inl rfl | exact .inr rfl | assumption) :
    PGT X (.Tuple [.Name x p1, .Name y p2, .Name z p3] x1 p4) (gTup3 K i j k) := by
  subst hK
  intro pins s σ H v u Q I r h
  obtain ⟨t, v1, v2, v3, rfl, hT, q⟩ := h
  cases r
  obtain ⟨its, rv, pl, hz⟩ := I.tuple hT
  obtain ⟨w1, w2, w3, rfl, r1, r2, r3⟩ : ∃ w1 w2 w3, its = [w1, w2, w3] ∧ RelV v1 w1 ∧ RelV v2 w2 ∧ RelV v3 w3 := by
    cases rv with
    | cons a rv => cases rv with
      | cons b rv => cases rv with
        | cons c rv => cases rv; exact ⟨_, _, _, rfl, a, b, c⟩
  have told : ∀ (kd : V) (y z : Tx), TCall H t kd y z → w2 = tv y ∧ w3 = tv z := fun kd y z ⟨o, k, n, e, ocl, od, _⟩ => by
    have hOk : s.heap.get? t = some o ∧ ObjOk X.prog X.w H s.heap t (.tup [kd, tV y, tV z]) := I.hok t _ e
    obtain ⟨o', e', _, n', d'⟩ := pl
    rw [hOk.1] at e'
    cases e'
    rw [od] at d'
    injection d' with d1 d2
    have d1 := congrArg Array.toList d1
    simp at d1
    exact ⟨d1.2.1.symm, d1.2.2.symm⟩
  refine assign_Tuple_tuple (I.ok.hd hc) (items := #[w1, w2, w3]) (by simpa using pl) (by rw [h3]; rfl) h4 fun h' hx => ?_
  rw [h2]
  have I1 : Inv X pins σ H { s with heap := h' } := I.kept (t' := s.toks) fun b o e => hx b o (Nat.ne_of_lt (Heap.lt_size e)) e
  refine assignInOrder_cons (wpAny_assign_Name (wpAny_mono (store_at I1 hN hi lx r1 fx) (fun _ s2 ⟨I2, a2, _⟩ => ?_) fun _ _ z => z.elim))
  refine assignInOrder_cons (wpAny_assign_Name (wpAny_mono (store_at I2 hN hj ly r2 fy) (fun _ s3 ⟨I3, a3, k3⟩ => ?_) fun _ _ z => z.elim))
  refine assignInOrder_cons (wpAny_assign_Name (wpAny_mono (store_at I3 hN hk lz r3 fz) (fun _ s4 ⟨I4, a4, k4⟩ => ?_) fun _ _ z => z.elim))
  refine assignInOrder_nil ⟨_, _, H, I4, fun p hp => ?_, q w1 w2 w3 r1 r2 r3 told⟩
  simp only [List.mem_cons, List.not_mem_nil, or_false] at hp
  rcases hp with rfl | rfl | rfl
  · exact ⟨z, hk, a4⟩
  · exact ⟨y, hj, k4 y _ nyz a3⟩
  · exact ⟨x, hi, k4 x _ nxz (k3 x _ nxy a2)⟩
end
end Dr
/-! Parades: one call, compared, counted. -/
namespace Dr
open PySem L2
/-- what is told of a call's two colours -/
def ToldC (c : Cl) (w2 w3 : Value) : Prop := c.k = .s "all" → ∃ y z : Tx, w2 = tv y ∧ w3 = tv z ∧ y.2 ≠ 0 ∧ z.2 ≠ 0 ∧ y.2 ≠ z.2
theorem tpair_tc {K : PySem.W.Frag} {H : Hp} {p : Addr} {u : HO} {c : Cl} {y z : Tx} (h : TPair p u c.k.v y z) (ey : y.1 = c.a) (ez : z.1 = c.b) (ht : c.k = .s "all" → y.2 ≠ 0 ∧ z.2 ≠ 0 ∧ y.2 ≠ z.2) : TCl K (upd H p u) p c := by
  obtain ⟨o, w, rfl, hc, hd, he, hr⟩ := h.is
  have e : upd H p (.frz o (.tup [c.k.v, tV y, tV z])) p = some (.frz o (.tup [c.k.v, tV y, tV z])) := upd_same
  have ev : c.vs = [c.k.v, tV y, tV z] := by show [c.k.v, V.str c.a, V.str c.b] = [c.k.v, V.str y.1, V.str z.1]; rw [ey, ez]
  refine ⟨?_, fun hk => ⟨y, z, ⟨o, w, 0, ?_, hc, he, ?_⟩, ey, ez, ht hk⟩⟩
  · rw [ev]; exact .inl (.inr ⟨o, e⟩)
  · rw [e, hk]; rfl
  · rw [hk] at hr; exact hr
theorem drillT_one {K : PySem.W.Frag} {H : Hp} {t d : Addr} {c : Cl} (h : TCl K H t c) (hd : H d = some (.lst [.ref t])) : DrillT K H d [c] := by
  refine ⟨[t], SqL.of hd, rfl, fun i t' c' a b => ?_⟩
  cases i with
  | zero => cases a; cases b; exact h
  | succ i => cases a
theorem Drill.told {K : PySem.W.Frag} {H : Hp} {a : Addr} {D : List Cl} (h : Drill K H a D) (hn : ∀ c ∈ D, c.k ≠ .s "all") : DrillT K H a D := by
  obtain ⟨ts, h1, h2, h3⟩ := h
  exact ⟨ts, h1, h2, fun i t c a b => ⟨h3 i t c a b, fun k => absurd k (hn c (List.mem_of_getElem? b))⟩⟩
def sp_par_call (K : PySem.W.Frag) (C : Addr) : SpA := fun vs us H Q _ => ∃ (p l : Addr) (row : List Nat) (past : List (List Nat)) (c : Cl) (w0 w1 w2 w3 : Value), vs = [.ref p, c.k.v, .str c.a, .str c.b] ∧ us = [w0, w1, w2, w3] ∧ RelV c.k.v w1 ∧ RelV (.str c.a) w2 ∧ RelV (.str c.b) w3 ∧ ToldC c w2 w3 ∧
  Par C H p l row past ∧ past.length ≤ 100000 ∧ c.ok = true ∧ Cl.le (2 ^ 60) c ∧ row.length ≤ 1000 ∧ (∀ x ∈ row, x ∈ colN) ∧ ∀ H', Same (hidL [p, l] H) (hidL [p, l] H') → Par C H' p l (run1 c row) (past ++ [row]) → Q .non H'
def sp_par_eq (C : Addr) : Sp := fun vs H Q _ => ∃ (a b la lb : Addr) (ra rb : List Nat) (pa pb : List (List Nat)), vs = [.ref a, .ref b] ∧ Par C H a la ra pa ∧ Par C H b lb rb pb ∧ Q (.bl (decide (V.str (rowOf ra) = V.str (rowOf rb)))) H
def sp_par_ne (C : Addr) : Sp := fun vs H Q _ => ∃ (a b la lb : Addr) (ra rb : List Nat) (pa pb : List (List Nat)), vs = [.ref a, .ref b] ∧ Par C H a la ra pa ∧ Par C H b lb rb pb ∧ Q (.bl (!decide (V.str (rowOf ra) = V.str (rowOf rb)))) H
def sp_par_len (C : Addr) : Sp := fun vs H Q _ => ∃ (p l : Addr) (row : List Nat) (past : List (List Nat)), vs = [.ref p] ∧ Par C H p l row past ∧ row.length ≤ 1000 ∧ Q (.int (row.length : Nat)) H
end Dr
/-! A for over a list whose body keeps what the names hold. -/
namespace Dr
open PySem PySem.Spec PyProof.Rows L2
section
variable {X : Cx} {pos : Pos}
theorem forget_idem {i : Nat} {τ : Tau} : ∀ p ∈ forget i τ, p ∈ forget i (forget i τ) := fun p hp => List.mem_filter.mpr ⟨hp, (List.mem_filter.mp hp).2⟩
theorem Told'.sub {τ τ' : Tau} {s : Shared} (h : Told' X τ s) (k : ∀ p ∈ τ', p ∈ τ) : Told' X τ' s := fun p hp => h p (k p hp)
def kFor (ix : Nat) (ta : TE) (tk : TSK) : TSK := fun D σ τ H => ta σ H fun v H1 => ∃ (a : Addr) (xs : List V) (K : PySem.W.Frag) (Pv : Nat → L2.St → Hp → Prop), v = .ref a ∧ (∀ i σ H, i ≤ xs.length → Pv i σ H → Rd H a (.lst xs)) ∧ Pv 0 σ H1 ∧
  (∀ i x σ H, xs[i]? = some x → Pv i σ H → tk ⟨fun σ' τ' H' => Pv (i + 1) σ' H' ∧ ∀ p ∈ forget ix τ, p ∈ τ', D.rt⟩ (σ.set ix (some x)) (forget ix τ) H) ∧ ∀ σ H, Pv xs.length σ H → D.nx σ (forget ix τ) H
theorem ks_for {iter : Expr} {x : Str} {body : List Stmt} {ta : TE} {tk : TSK} {ix : Nat} {p2 : Pos} (hp : PassesOwn (model X.prog X.w) X.A X.env X.xe) (hc : X.calm = true) (hN : X.N.Nodup) (ha : PEK X iter ta) (hi : X.N[ix]? = some x) (hx : Loc X.env.scope x)
    (hb : PSsK X body tk) (hf : X.fn x = true ∨ X.env.scope.names.lookup x = some .local := by first | exact .inl rfl | exact .inr rfl | assumption) (hs : ∀ x, foldedSetIterable iter X.env x = pure x := by intro _; rfl) :
    PSK X (.For (.Name x p2) iter body [] pos) (kFor ix ta tk) := by
  intro pins s σ τ H D I T0 h
  refine wpAny_For (thn (ha pins s σ H _ I h) fun v s1 hv => ?_) hs
  obtain ⟨⟨v1, H1, I1, r1, a, xs, K, Pv, rfl, hsq, p0, hturn, hend⟩, k1⟩ := hv
  cases r1
  have listOf : ∀ {pins : List (Addr × Obj)} {σ : L2.St} {H : Hp} {s : Shared}, Inv X pins σ H s → Rd H a (.lst xs) → ∃ its : List Value, Vals xs its ∧ PlainL s.heap a its.toArray ∧ xs.length ≤ sizeLine := fun I q => I.list (.inl q)
  obtain ⟨its0, rv0, pl0, hz0⟩ := listOf I1 (hsq 0 _ _ (Nat.zero_le _) p0)
  refine wpAny_pyIter_list pl0.isList ?_
  obtain ⟨it, hit⟩ : ∃ it, s1.heap.objs.size = it := ⟨_, rfl⟩
  rw [hit]
  obtain ⟨s2, e2⟩ : ∃ s2 : Shared, ({ s1 with heap := s1.heap.push { cls := .type "list_iterator", data := .fields #[.ref a, .int 0 0] } } : Shared) = s2 := ⟨_, rfl⟩
  rw [e2]
  have I2 : Inv X pins σ H1 s2 := by rw [← e2]; exact I1.kept (t' := s1.toks) fun b o e => Heap.get?_push_of_some _ e
  have st2 : s2.heap.IsListIter it a 0 := by rw [← e2, ← hit]; exact ⟨_, Heap.get?_push_size _ rfl, rfl, rfl⟩
  have f2 : ∀ b ∈ [it], FpOk X pins H1 b := fun b hb => by
    rw [List.mem_singleton.mp hb, ← hit]
    exact I1.fpOk (Nat.le_refl _) (I1.hok.fresh (Nat.le_refl _))
  have T := turn_list (P := X.prog) (w := X.w) (K := X.K) (tg := .Name x p2) a it
  have k12 : Kp X s1 s2 := by rw [← e2]; exact Kp.all fun b o e => Heap.get?_push_of_some _ e
  have T2 : Told' X (forget ix τ) s2 := ((T0.kp k1).kp k12).sub fun p hp => (List.mem_filter.mp hp).1
  clear e2 hit
  have stat : ∀ {H' : Hp}, H' it = none → ∀ b ∈ [it], FpOk X pins H' b := fun hn b hb => by
    have e := List.mem_singleton.mp hb
    subst e
    exact ⟨hn, (f2 b hb).2⟩
  refine codeAny_forLoop_any (fun n s' => ∃ i σ' H', i ≤ xs.length ∧ n = xs.length - i ∧ Inv X pins σ' H' s' ∧ s'.heap.IsListIter it a i ∧ H' it = none ∧ Told' X (forget ix τ) s' ∧ Pv i σ' H') ?_ xs.length ⟨0, σ, H1, Nat.zero_le _, rfl, I2, st2, (f2 it (by simp)).1, T2, p0⟩
  rintro n s3 ⟨i, σ3, H3, hi3, rfl, I3, st3, fr3, T3, w3⟩
  have q3 := hsq i σ3 H3 hi3 w3
  obtain ⟨its, rv, pl, hz⟩ := listOf I3 q3
  have hl := rv.length
  obtain ⟨f0, f1, f2', f3, f4, f5⟩ := stat fr3 it (by simp)
  rcases Nat.lt_or_ge i xs.length with lt | ge
  · obtain ⟨xv, hxv⟩ := get_of_lt lt
    obtain ⟨u, hu, ru⟩ := rv.get hxv
    refine wpAny_passesOwn hp (wpAny_pyNext_list_item st3 pl.isList (x := u) (by simpa using hu) fun h' st4 sb => ?_)
    obtain ⟨o4, g4, c4, d4⟩ := id st4
    have I4 : Inv X pins σ3 H3 { s3 with heap := h' } := I3.turned (t' := s3.toks) (fun b o hb e => (sb.2 b hb).trans e) f0 f1 f3 f4 f5
    have k34 : Kp X s3 { s3 with heap := h' } := Kp.objs (fun o e => ⟨o.slots, (sb.2 _ (Ne.symm f1)).trans e⟩) fun y c o hc e => ⟨o.slots, (sb.2 _ (f4 y c hc)).trans e⟩
    have T4 := T3.kp k34
    obtain ⟨s4, e4⟩ : ∃ s4 : Shared, ({ s3 with heap := h' } : Shared) = s4 := ⟨_, rfl⟩
    have h4 : s4.heap = h' := by rw [← e4]
    rw [e4] at I4 T4 ⊢
    rw [← h4] at st4 g4
    refine wpAny_passesOwn hp (go_of (s := s4) g4 c4 d4 (by decide) ?_)
    have I4p := I4.pinned (stat fr3) (T.obj _ _ st4)
    refine wpAny_passesOwn hp (wpAny_assign_Name (wpAny_mono (store_at I4p hN hi hx ru hf) (fun _ s5 h5 => ?_) fun _ _ z => z.elim))
    obtain ⟨I5, _, k5⟩ := h5
    have T5 : Told' X (forget ix τ) s5 := (T4.store (u := u) hi hN k5).sub forget_idem
    refine wpAny_passesOwn hp (thn (hb _ s5 _ (forget ix τ) H3 _ I5 T5 (hturn i xv σ3 H3 hxv w3)) fun f s7 q7 => ?_)
    have again : ∀ {σ7 : L2.St} {H7 : Hp} {τ7 : Tau}, Inv X (pins ++ pinsAt [it] s4.heap) σ7 H7 s7 → Told' X τ7 s7 → Pv (i + 1) σ7 H7 → (∀ p ∈ forget ix τ, p ∈ τ7) → ∃ m, m < xs.length - i ∧ ∃ i σ' H', i ≤ xs.length ∧ m = xs.length - i ∧ Inv X pins σ' H' s7 ∧ s7.heap.IsListIter it a i ∧ H' it = none ∧ Told' X (forget ix τ) s7 ∧ Pv i σ' H' := fun {σ7 H7 τ7} I7 T7 n7 hsub => by
      refine ⟨xs.length - (i + 1), by omega, i + 1, σ7, H7, lt, rfl, I7.unpinned, T.keep _ _ _ st4 fun b hb o e => (I7.pin (b, o) (List.mem_append_right _ (List.mem_append_right _ (mem_pinsAt hb e)))).1, ?_, T7.sub hsub, n7⟩
      exact (I7.pin (it, o4) (List.mem_append_right _ (List.mem_append_right _ (mem_pinsAt (by simp) g4)))).2.1
    cases f with
    | next => obtain ⟨σ7, τ7, H7, I7, T7, n7, hsub⟩ := q7; exact again I7 T7 n7 hsub
    | cont => exact q7.elim
    | brk => exact q7.elim
    | ret v => obtain ⟨x7, σ7, H7, I7, r7, q7⟩ := q7; exact ⟨x7, σ7, H7, I7.unpinned, r7, q7⟩
  · have ei : i = xs.length := Nat.le_antisymm hi3 ge
    subst ei
    refine wpAny_passesOwn hp (wpAny_pyNext_list_end (I3.ok.hd hc) st3 pl.isList (by simp; omega) fun h' eb => ?_)
    have I4 : Inv X pins σ3 H3 { s3 with heap := h' } := I3.turned (t' := s3.toks) (fun b o hb e => eb b o hb e) f0 f1 f3 f4 f5
    have k34 : Kp X s3 { s3 with heap := h' } := Kp.objs (fun o e => ⟨o.slots, eb _ _ (Ne.symm f1) e⟩) fun y c o hc e => ⟨o.slots, eb _ _ (f4 y c hc) e⟩
    exact wpAny_execs_nil ⟨σ3, forget ix τ, H3, I4, T3.kp k34, hend _ _ w3⟩
/-! o.m(..) as a statement, what names hold is kept -/
def PETK (X : Cx) (e : Expr) (t : TET) : Prop := ∀ (pins : List (Addr × Obj)) (s : Shared) (σ : L2.St) (τ : Tau) (H : Hp) (Q : VK), Inv X pins σ H s → Told' X τ s → t σ τ H Q → wpAny (model X.prog X.w) X.A (eval e X.env) (fun u s' => EP X pins σ Q u s' ∧ Kp X s s') X.xe s
/-- arguments that are names, told as they are -/
def PATK (X : Cx) (es : List Expr) (t : TAT) : Prop := ∀ (pos : Pos) (pins : List (Addr × Obj)) (s : Shared) (σ : L2.St) (τ : Tau) (H : Hp) (Q : List V → List Value → Hp → Prop), Inv X pins σ H s → Told' X τ s → t σ τ H Q →
  wpAny (model X.prog X.w) X.A (spliced (backTo pos (starEach es X.env))) (fun us s' => (∃ vs H', Inv X pins σ H' s' ∧ Vals vs us ∧ Q vs us H') ∧ Kp X s s') X.xe s
theorem patk_nil : PATK X [] (fun _ _ H Q => Q [] [] H) := fun _ _ _ _ _ H Q I _ h => Calls.spliced_nil ⟨⟨[], H, I, .nil, h⟩, Kp.refl⟩
theorem patk_cons {e : Expr} {es : List Expr} {tat : TAT} {tv : L2.St → Tau → Hp → VQ → Prop} (h : PVT X e tv) (hr : PATK X es tat) (hs : starEach (e :: es) X.env = (false, eval e X.env) :: starEach es X.env := by rfl) :
    PATK X (e :: es) (fun σ τ H Q => tv σ τ H fun w H1 => ∃ v, RelV v w ∧ tat σ τ H1 fun vs us H2 => Q (v :: vs) (w :: us) H2) := fun ps pins s σ τ H Q I T q => by
  rw [hs]
  refine Calls.spliced_cons (thn (h pins s σ τ H _ I T q) fun u s1 hu => ?_)
  obtain ⟨⟨H1, I1, v, r1, q1⟩, k1⟩ := hu
  refine thn (hr ps pins s1 σ τ H1 _ I1 (T.kp k1) q1) fun us s2 hus => ?_
  obtain ⟨⟨vs, H2, I2, r2, q2⟩, k2⟩ := hus
  exact ⟨⟨v :: vs, H2, I2, .cons r1 r2, q2⟩, k1.trans k2⟩
theorem petk_methA {CX : CXT} {k : Nat} {f C : Addr} {fd : FuncData} {ps : List Str} {spa : SpA} {E : XK} {m : Str} {e o : Expr} {es : List Expr} {ta : TE} {tat : TAT} {apos : Pos} {pl : Sem Bool} (he : PEK X o ta) (c : Cls X.K C) (hm : Meth X.K C m f) (F : FnA X.prog X.w X.K X.mg X.base CX k f fd ps spa) (hr : Room k X.A) (hb : Binds X.K fd ps []) (hx : Passes CX X E) (ha : PATK X (e :: es) tat)
    (hst : starEach (e :: es) X.env = (false, eval e X.env) :: starEach es X.env := by rfl) (hpl : (backTo pos (starEach es X.env)).any (·.1) = false := by rfl)
    (ht : eval (.Call (.Attribute o m apos) (e :: es) [] pos) X.env = (do
      let ov ← eval o X.env
      standAt apos.atName
      let (f, first) ← holding [ov] (getMethod ov m pl)
      callWith pos f first (backTo pos (starEach (e :: es) X.env)) (backToKw pos (keywordEach [] X.env))) := by rfl) :
    PETK X (.Call (.Attribute o m apos) (e :: es) [] pos) (fun σ τ H Q => ta σ H fun x H1 => ∃ a dx fs, x = .ref a ∧ H1 a = some (.ins C dx fs) ∧ fs.lookup m = none ∧ tat σ τ H1 fun vs us H2 => spa (x :: vs) (.ref a :: us) H2 Q E) := fun pins s σ τ H Q I T h => by
  refine PySem.W.methodCall_KW (pl := pl) (thn (he pins s σ H _ I h) fun u s1 hu => ?_) ht
  obtain ⟨⟨x, H1, I1, rx, a, dx, fs, ex, ea, l, q⟩, k1⟩ := hu
  subst ex
  obtain rfl : u = Value.ref a := rx
  refine getmeth_ok I1 ea c hm l ?_
  refine PySem.W.callWith_K (first := [.ref a]) (h₀ := X.base) I.ok.mod.kin hm.kp (thn (ha pos pins s1 σ τ H1 _ I1 (T.kp k1) q) fun us s2 h2 => ?_) hst hpl
  obtain ⟨⟨vs, H2, I2, r, q2⟩, k2⟩ := h2
  refine ⟨I2.kIn, ?_⟩
  have r2 : Vals (.ref a :: vs) (Value.ref a :: us) := .cons rfl r
  have hl : (Value.ref a :: us).length = ps.length := by rw [← r2.length]; exact F.len _ _ _ _ _ q2
  have b := hb s2 (Value.ref a :: us) I2.kIn (by simpa using hl)
  rw [List.append_nil] at b
  refine wpAny_call (codeAny_mono (F.run X.A X.stack s2 H2 ⟨Value.ref a :: us, []⟩ (Value.ref a :: us) (.ref a :: vs) Q E hr I2.env0 b r2 q2) fun r s' hq => ?_)
  match r, hq with
  | .error e, hq => exact hx pins σ H2 s2 e s' I2 hq
  | .ok (.ret u), hq =>
    obtain ⟨_, _, _, _, un, _⟩ := id hq
    exact ⟨I2.after hq, (k1.trans k2).trans (Kp.un I2 un)⟩
  | .ok .next, hq => exact hq.elim
  | .ok .brk, hq => exact hq.elim
  | .ok .cont, hq => exact hq.elim
/-- e as a statement: what is told is kept -/
theorem ks_exprK {e : Expr} {tt : TET} (h : PETK X e tt) (hsw : swapsWith e none pos.line X.env = pure false := by rfl) : PSK X (.Expr e pos) (fun D σ τ H => tt σ τ H fun _ H' => D.nx σ τ H') := fun pins s σ τ H D I T q =>
  wpAny_Expr_any (Q := SPT X pins D) (thn (h pins s σ τ H _ I T q) fun u s1 hu => let ⟨⟨_, H1, I1, _, q1⟩, k⟩ := hu; ⟨σ, τ, H1, I1, T.kp k, q1⟩) I.quiet hsw
/-- a, b, c = f(..), told; then a statement that reads them -/
theorem psn_asgT {n : Nat} {tg e : Expr} {st : Stmt} {rest : List Stmt} {tn : TEN} {g : TGT} {tk : TSK} {u : Nat → TSN} (he : PEN n X e tn) (hg : PGT X tg g) (hk : PSK X st tk) (h2 : ∀ m, PSsN m X rest (u m))
    (hs : swapsWithSole [tg] e pos.line X.env = pure false := by rfl) (hw : swappedStores [tg] e X.env = pure none := by rfl) (h1 : (assignEach [tg] X.env).map (·.2) = [assign tg X.env] := by rfl) :
    PSsN n X (.Assign [tg] e pos :: st :: rest) (fun D σ H => tn σ H fun v H' m => g v σ H' fun σ2 τ2 H2 => tk ⟨fun σ3 _ H3 => u m D σ3 H3, fun v H' => D.rt v H' m⟩ σ2 τ2 H2) := by
  intro pins s σ H D hn I h
  refine wpAny_execs_cons (wpAny_Assign_stores (thn (he pins s σ H _ hn I h) fun w s1 hw1 => ?_) hs hw)
  obtain ⟨m, hm, v, H1, I1, r1, q1⟩ := hw1
  rw [h1]
  refine (?_ : wpAny _ _ (assign tg X.env w) _ _ _)
  refine thnN hm (hg pins s1 σ H1 v w _ I1 r1 q1) fun _ s2 hm2 h2' => ?_
  obtain ⟨σ2, τ2, H2, I2, T2, q2⟩ := h2'
  refine wpAny_execs_cons (thnN hm2 (hk pins s2 σ2 τ2 H2 _ I2 T2 q2) fun f s3 hm3 q => ?_)
  match f, q with
  | .next, ⟨σ', _, H', I', _, q⟩ => exact h2 m pins s3 σ' H' D hm3 I' q
  | .ret _, ⟨v, σ', H', I', r, q⟩ => exact ⟨v, σ', H', m, hm3, I', r, q⟩
  | .brk, q => exact q.elim
  | .cont, q => exact q.elim
/-- a statement, a word between, the rest -/
theorem psn_cut {n : Nat} {st : Stmt} {rest : List Stmt} {ts : TS} {u : TSN} (h1 : PS X st ts) (h2 : PSsN n X rest u) : PSsN n X (st :: rest) (fun D σ H => ∃ Mid : L2.St → Hp → Prop, ts { nx := Mid, rt := fun v H' => D.rt v H' n } σ H ∧ ∀ σ' H', Mid σ' H' → u D σ' H') := fun pins s σ H D hn I h => by
  obtain ⟨Mid, hm, hu⟩ := h
  exact wpAny_execs_cons (thnN hn (h1.run pins s σ H _ I hm) fun f s1 hm' q => match f, q with
    | .next, ⟨σ', H', I', q⟩ => h2 pins s1 σ' H' D hm' I' (hu σ' H' q)
    | .ret _, ⟨v, σ', H', I', r, q⟩ => ⟨v, σ', H', n, hm', I', r, q⟩
    | .brk, ⟨_, _, _, q⟩ => q.elim
    | .cont, ⟨_, _, _, q⟩ => q.elim)
end
end Dr
/-! Told names kept over a while (k06). -/
namespace Dr
open PySem PySem.Spec PyProof.Rows L2
def kWhile (tc : TT) (tk : TSK) : TSK := fun D σ τ H => ∃ W : Nat → L2.St → Hp → Prop, (∃ m, W m σ H) ∧ ∀ m σ' H', W m σ' H' → tc σ' H' fun b H2 =>
  if b = true then ∃ N : L2.St → Hp → Prop, (∀ σ3 H3, N σ3 H3 → ∃ m', m' < m ∧ W m' σ3 H3) ∧ tk ⟨fun σ3 τ3 H3 => N σ3 H3 ∧ ∀ p ∈ τ, p ∈ τ3, D.rt⟩ σ' τ H2 else D.nx σ' τ H2
section
variable {X : Cx} {pos : Pos}
theorem ks_while {c : Expr} {body : List Stmt} {tc : TT} {tk : TSK} (hp : PassesOwn (model X.prog X.w) X.A X.env X.xe) (hc : PTK X c tc) (hb : PSsK X body tk) : PSK X (.While c body [] pos) (kWhile tc tk) := by
  intro pins s σ τ H D I T0 h
  obtain ⟨W, ⟨m0, w0⟩, turn⟩ := h
  refine wpAny_While (codeAny_whileLoop (fun n s' => ∃ σ' H', Inv X pins σ' H' s' ∧ Told' X τ s' ∧ W n σ' H') ?_ m0 ⟨σ, H, I, T0, w0⟩)
  rintro n s1 ⟨σ1, H1, I1, T1, w1⟩
  refine wpAny_passesOwn hp (thn (hc pins s1 σ1 H1 _ I1 (turn n σ1 H1 w1)) fun b s2 hb2 => ?_)
  obtain ⟨⟨H2, I2, q2⟩, k2⟩ := hb2
  have T2 := T1.kp k2
  cases b with
  | true =>
    obtain ⟨N, hN, q2⟩ := q2
    rw [if_pos rfl]
    refine wpAny_passesOwn hp (thn (hb pins s2 σ1 τ H2 _ I2 T2 q2) fun f s3 q3 => ?_)
    match f, q3 with
    | .next, ⟨σ3, τ3, H3, I3, T3, n3, sub⟩ =>
      obtain ⟨m', hm, w3⟩ := hN σ3 H3 n3
      exact ⟨m', hm, σ3, H3, I3, T3.sub sub, w3⟩
    | .ret v, q3 => exact q3
    | .brk, q3 => exact q3.elim
    | .cont, q3 => exact q3.elim
  | false =>
    rw [if_neg Bool.false_ne_true]
    exact wpAny_execs_nil ⟨σ1, τ, H2, I2, T2, q2⟩
end
/-! ### expressions and tests that read told names, the frame kept -/
abbrev TXT := L2.St → Tau → Hp → VK → Prop
abbrev TTX := L2.St → Tau → Hp → (Bool → Hp → Prop) → Prop
def PTX (X : Cx) (e : Expr) (t : TTX) : Prop := ∀ (pins : List (Addr × Obj)) (s : Shared) (σ : L2.St) (τ : Tau) (H : Hp) (Q : Bool → Hp → Prop), Inv X pins σ H s → Told' X τ s → t σ τ H Q →
  wpAny (model X.prog X.w) X.A (isTrue e X.env (eval e X.env)) (fun b s' => TP X pins σ Q b s' ∧ Kp X s s') X.xe s
def PWX (X : Cx) (e : Expr) (t : TTX) : Prop := ∀ (whole : Sem Value) (pins : List (Addr × Obj)) (s : Shared) (σ : L2.St) (τ : Tau) (H : Hp) (Q : Bool → Hp → Prop), Inv X pins σ H s → Told' X τ s → t σ τ H Q →
  wpAny (model X.prog X.w) X.A (isTrue e X.env whole) (fun b s' => TP X pins σ Q b s' ∧ Kp X s s') X.xe s
section
variable {X : Cx} {pos : Pos} {e a b : Expr} {es rest : List Expr} {te : TE} {t1 t2 : TXT}
theorem pxt_of (h : PEK X e te) : PXT X e (fun σ _ H Q => te σ H Q) := fun pins s σ τ H Q I _ q => h pins s σ H Q I q
def tLst1 (t : TXT) : TXT := fun σ τ H Q => t σ τ H fun v H1 => ∀ p, H1 p = none → Q (.ref p) (upd H1 p (.lst [v]))
theorem pxt_lst1 (h : PXT X e t1) (hs : starEach [e] X.env = (false, eval e X.env) :: starEach [] X.env := by rfl) : PXT X (.List [e] pos) (tLst1 t1) := fun pins s σ τ H Q I T q => by
  refine wpAny_List_spliced ?_
  rw [hs]
  refine Calls.spliced_cons (thn (h pins s σ τ H _ I T q) fun u s1 hu => ?_)
  obtain ⟨⟨v, H1, I1, r1, q1⟩, k1⟩ := hu
  refine Calls.spliced_nil ⟨by show 1 ≤ sizeLine; decide, ?_⟩
  have keep : ∀ b o, s1.heap.get? b = some o → (s1.heap.push { cls := .type "list", data := .seq [u].toArray }).get? b = some o := fun b o e => Heap.get?_push_of_some _ e
  exact ⟨⟨.ref s1.heap.objs.size, _, I1.laid (t' := s1.toks) keep (Nat.le_refl _) (o := .lst [v]) ⟨by show 1 ≤ sizeLine; decide, [u], 0, .cons r1 .nil, Heap.get?_push_size _ rfl⟩, rfl, q1 _ (I1.hok.fresh (Nat.le_refl _))⟩, k1.trans (Kp.all keep)⟩
theorem patk_x {tat : TAT} (h : PXT X e t1) (hr : PATK X es tat) (hs : starEach (e :: es) X.env = (false, eval e X.env) :: starEach es X.env := by rfl) :
    PATK X (e :: es) (fun σ τ H Q => t1 σ τ H fun v H1 => tat σ τ H1 fun vs us H2 => ∀ w, RelV v w → Q (v :: vs) (w :: us) H2) := fun ps pins s σ τ H Q I T q => by
  rw [hs]
  refine Calls.spliced_cons (thn (h pins s σ τ H _ I T q) fun u s1 hu => ?_)
  obtain ⟨⟨v, H1, I1, r1, q1⟩, k1⟩ := hu
  refine thn (hr ps pins s1 σ τ H1 _ I1 (T.kp k1) q1) fun us s2 hu2 => ?_
  obtain ⟨⟨vs, H2, I2, r2, q2⟩, k2⟩ := hu2
  exact ⟨⟨v :: vs, H2, I2, .cons r1 r2, q2 u r1⟩, k1.trans k2⟩
theorem pxt_call {CX : CXT} {k : Nat} {f : Addr} {fd : FuncData} {ps : List Str} {sp : Sp} {E : XK} {x : Str} {p : Pos} {tat : TAT} (F : FnOk X.prog X.w X.K X.mg X.base CX k f fd ps sp) (hr : Room k X.A) (hg : Gl X x) (hm : X.mg x = some (.ref f)) (hk : PySem.W.keepIn X.K (.ref f) = true) (hb : Binds X.K fd ps [])
    (hx : Passes CX X E) (ha : PATK X (e :: es) tat) (hdb : (x == ("__debug__" : Str)) = false := by decide) (he : starEach (e :: es) X.env = (false, eval e X.env) :: starEach es X.env := by rfl) (hpl : (backTo pos (starEach es X.env)).any (·.1) = false := by rfl) :
    PXT X (.Call (.Name x p) (e :: es) [] pos) (fun σ τ H Q => tat σ τ H fun vs _ H1 => sp vs H1 Q E) := fun pins s σ τ H Q I T h => by
  refine wpAny_Call_Name_kw (ld_glob I hg hm ?_ hdb)
  refine PySem.W.callWith_K (h₀ := X.base) I.ok.mod.kin hk (thn (ha pos pins s σ τ H _ I T h) fun us s1 hu => ?_) he hpl
  obtain ⟨⟨vs, H1, I1, r, q⟩, k1⟩ := hu
  have hl : us.length = ps.length := by rw [← r.length]; exact F.len _ _ _ _ q
  have bs := hb s1 us I1.kIn (by simpa using hl)
  rw [List.append_nil] at bs
  refine ⟨I1.kIn, wpAny_call (codeAny_mono (F.run X.A X.stack s1 H1 ⟨us, []⟩ us vs Q E hr I1.env0 bs r q) fun fin s' hq => ?_)⟩
  match fin, hq with
  | .error e, hq => exact hx pins σ H1 s1 e s' I1 hq
  | .ok (.ret u), hq =>
    obtain ⟨_, _, _, _, un, _⟩ := id hq
    exact ⟨I1.after hq, k1.trans (Kp.un I1 un)⟩
  | .ok .next, hq => exact hq.elim
  | .ok .brk, hq => exact hq.elim
  | .ok .cont, hq => exact hq.elim
theorem ptx_cmp {op : CmpOp} {r : R2} (ho : OpK X (compareOp op) r) (ha : PXT X a t1) (hb : PXT X b t2) (hm : behindInMarks op b = false) : PTX X (.Compare a [op] [b] pos) (fun σ τ H Q => t1 σ τ H fun x H1 => t2 σ τ H1 fun y H2 => r x y H2 fun c H3 => ∃ d : Bool, c = .bl d ∧ Q d H3) := fun pins s σ τ H Q I T h =>
  wpAny_isTrue_Compare1 (thn (ha pins s σ τ H _ I T h) fun v s1 ⟨⟨x, H1, I1, r1, q1⟩, k1⟩ => thn (hb pins s1 σ τ H1 _ I1 (T.kp k1) q1) fun u s2 ⟨⟨y, H2, I2, r2, q2⟩, k2⟩ => thn (ho pins s2 σ H2 x y v u _ I2 r1 r2 q2) fun c s3 hc => by
    obtain ⟨⟨z, H3, I3, r3, kb, e, q3⟩, k3⟩ := hc
    subst e
    cases r3
    exact wpAny_truthy_bool ⟨⟨H3, I3, q3⟩, (k1.trans k2).trans k3⟩) hm
theorem pwx_or1 {t : TTX} (ha : PTX X a t) : PWX X (.BoolOp .Or [a] pos) t := fun wh pins s σ τ H Q I T h =>
  isTrue_or (thn (ha pins s σ τ H Q I T h) fun c s1 z => match c, z with
    | false, z => isTrue_or_nil z
    | true, z => z)
theorem pwx_or {t u : TTX} (ha : PTX X a t) (hb : PWX X (.BoolOp .Or (b :: rest) pos) u) : PWX X (.BoolOp .Or (a :: b :: rest) pos) (fun σ τ H Q => t σ τ H fun c H1 => if c = true then Q true H1 else u σ τ H1 Q) := fun wh pins s σ τ H Q I T h =>
  isTrue_or (thn (ha pins s σ τ H _ I T h) fun c s1 hc => match c, hc with
    | false, ⟨⟨H1, I1, q1⟩, k1⟩ => thn (hb wh pins s1 σ τ H1 Q I1 (T.kp k1) q1) fun _ _ z => ⟨z.1, k1.trans z.2⟩
    | true, ⟨⟨H1, I1, q1⟩, k1⟩ => ⟨⟨H1, I1, q1⟩, k1⟩)
theorem ptx_w {t : TTX} (h : PWX X e t) : PTX X e t := h _
theorem ks_ifX {c : Expr} {l m : List Stmt} {tc : TTX} {t u : TSK} (hc : PTX X c tc) (ha : PSsK X l t) (hb : PSsK X m u) : PSK X (.If c l m pos) (fun D σ τ H => tc σ τ H fun d H1 => if d = true then t D σ τ H1 else u D σ τ H1) := fun pins s σ τ H D I T h =>
  wpAny_If (thn (hc pins s σ τ H _ I T h) fun d s1 hd => match d, hd with
    | true, ⟨⟨H1, I1, q1⟩, k1⟩ => ha pins s1 σ τ H1 D I1 (T.kp k1) q1
    | false, ⟨⟨H1, I1, q1⟩, k1⟩ => hb pins s1 σ τ H1 D I1 (T.kp k1) q1)
/-- x = e, e reads told names -/
theorem ks_setX {i : Nat} {x : Str} {pos' : Pos} (hN : X.N.Nodup) (hi : X.N[i]? = some x) (hx : Loc X.env.scope x) (he : PXT X e t1) (hs : swapsWith e (some (.Name x pos')) pos.line X.env = pure false := by rfl)
    (hf : X.fn x = true ∨ X.env.scope.names.lookup x = some .local := by first | exact .inl rfl | exact .inr rfl | assumption) : PSK X (.Assign [.Name x pos'] e pos) (fun D σ τ H => t1 σ τ H fun v H1 => D.nx (σ.set i (some v)) (forget i τ) H1) := fun pins s σ τ H D I T h => by
  refine wpAny_Assign_Name (thn (he pins s σ τ H _ I T h) fun w s1 hw => ?_) hs
  obtain ⟨⟨v, H1, I1, r1, q1⟩, k1⟩ := hw
  exact wpAny_mono (store_at I1 hN hi hx r1 hf) (fun _ s2 z => ⟨_, _, H1, z.1, (T.kp k1).store (u := w) hi hN z.2.2, q1⟩) fun _ _ z => z.elim
end
end Dr
/-! Drills with other names for the colours; calls to everyone, swaps, single calls (k06). -/
namespace Dr
open PySem L2
/-- one name for each colour -/
structure Ren (ρ : Nat → Nat) : Prop where
  col : ∀ x ∈ colN, ρ x ∈ colN
  inj : ∀ x ∈ colN, ∀ y ∈ colN, ρ x = ρ y → x = y
/-- a call with other names -/
def rnC (ρ : Nat → Nat) (c : Cl) : Cl := ⟨c.k, sg (ρ (cc c.a)), sg (ρ (cc c.b))⟩
section
variable {ρ : Nat → Nat}
theorem rnC_ok (R : Ren ρ) {c : Cl} (hv : c.ok = true) : (rnC ρ c).ok = true := by
  have ha := cc_col (Cl.ok_a hv)
  have hb := cc_col (Cl.ok_b hv)
  refine Cl.mk_ok (Cl.ok_k hv) (isC_iff.mpr ⟨_, R.col _ ha, rfl⟩) (isC_iff.mpr ⟨_, R.col _ hb, rfl⟩) fun e => ?_
  exact cc_ne (Cl.ok_a hv) (Cl.ok_b hv) (Cl.ok_ne hv) (R.inj _ ha _ hb (sg_inj e))
theorem ren_count (R : Ren ρ) {a : Nat} (ha : a ∈ colN) : ∀ {l : List Nat}, (∀ x ∈ l, x ∈ colN) → (l.map ρ).count (ρ a) = l.count a
  | [], _ => rfl
  | x :: l, h => by
    have ih := ren_count R ha fun y hy => h y (List.mem_cons_of_mem _ hy)
    have hx := h x List.mem_cons_self
    rw [List.map_cons, List.count_cons, List.count_cons, ih]
    by_cases e : x = a
    · subst e; simp
    · have e2 : ¬ ρ x = ρ a := fun z => e (R.inj _ hx _ ha z)
      simp [e, e2]
theorem ren_stp (R : Ren ρ) {c : Cl} (hv : c.ok = true) {x : Nat} (hx : x ∈ colN) (n : Int) : stp (rnC ρ c) n (ρ x) = ρ (stp c n x) := by
  have ha := cc_col (Cl.ok_a hv)
  have hb := cc_col (Cl.ok_b hv)
  have ea : (ρ x = ρ (cc c.a)) ↔ x = cc c.a := ⟨R.inj _ hx _ ha, fun e => by rw [e]⟩
  have eb : (ρ x = ρ (cc c.b)) ↔ x = cc c.b := ⟨R.inj _ hx _ hb, fun e => by rw [e]⟩
  unfold stp
  show (if c.k.swap = true ∧ ρ x = ρ (cc c.b) then ρ (cc c.a) else if ρ x = ρ (cc c.a) then (match c.k with
    | .s _ => ρ (cc c.b)
    | .m m => if n = m - 1 then ρ (cc c.b) else ρ x) else ρ x) = _
  simp only [ea, eb]
  split
  · rfl
  · split
    · cases c.k with
      | s z => rfl
      | m m =>
        show (if n = m - 1 then ρ (cc c.b) else ρ x) = ρ (if n = m - 1 then cc c.b else x)
        split <;> rfl
    · rfl
theorem run1_ren (R : Ren ρ) {c : Cl} (hv : c.ok = true) {l : List Nat} (hl : ∀ x ∈ l, x ∈ colN) : run1 (rnC ρ c) (l.map ρ) = (run1 c l).map ρ := List.ext_getElem? fun i => by
  cases e : l[i]? with
  | none =>
    have hi : l.length ≤ i := List.getElem?_eq_none_iff.mp e
    rw [List.getElem?_eq_none (by rw [run1_len, List.length_map]; exact hi), List.getElem?_eq_none (by rw [List.length_map, run1_len]; exact hi)]
  | some x =>
    have hx := hl x (List.mem_of_getElem? e)
    rw [run1_at (rnC_ok R hv) (x := ρ x) (by rw [List.getElem?_map, e]; rfl), List.getElem?_map, run1_at hv e, ← List.map_take]
    show some (stp (rnC ρ c) (((l.take i).map ρ).count (ρ (cc c.a)) : Nat) (ρ x)) = some _
    rw [ren_count R (cc_col (Cl.ok_a hv)) fun y hy => hl y (List.mem_of_mem_take hy), ren_stp R hv hx]
theorem runs_ren (R : Ren ρ) : ∀ {D : List Cl}, (∀ c ∈ D, c.ok = true) → ∀ {l : List Nat}, (∀ x ∈ l, x ∈ colN) → runs (D.map (rnC ρ)) (l.map ρ) = (runs D l).map ρ
  | [], _, l, _ => rfl
  | c :: D, hv, l, hl => by
    show runs (D.map (rnC ρ)) (run1 (rnC ρ c) (l.map ρ)) = (runs D (run1 c l)).map ρ
    have h1 := hv c List.mem_cons_self
    rw [run1_ren R h1 hl]
    exact runs_ren R (fun c hc => hv c (List.mem_cons_of_mem _ hc)) (run1_col h1 hl)
end
/-! ### calls between two colours -/
section
variable {a b : Nat}
def twoC (k : Kd) (a b : Nat) : Cl := ⟨k, sg a, sg b⟩
theorem twoC_ok {k : Kd} (hk : k.ok = true) (ha : a ∈ colN) (hb : b ∈ colN) (ab : a ≠ b) : (twoC k a b).ok = true :=
  Cl.mk_ok hk (isC_iff.mpr ⟨_, ha, rfl⟩) (isC_iff.mpr ⟨_, hb, rfl⟩) fun e => ab (sg_inj e)
theorem run1_map {c : Cl} (hv : c.ok = true) {f : Nat → Nat} (h : ∀ n x, stp c n x = f x) (l : List Nat) : run1 c l = l.map f := List.ext_getElem? fun i => by
  cases e : l[i]? with
  | none =>
    have hi : l.length ≤ i := List.getElem?_eq_none_iff.mp e
    rw [List.getElem?_eq_none (by rw [run1_len]; exact hi), List.getElem?_eq_none (by rw [List.length_map]; exact hi)]
  | some x => rw [run1_at hv e, List.getElem?_map, e, h]; rfl
def allF (a b x : Nat) : Nat := if x = a then b else x
def swpF (a b x : Nat) : Nat := if x = b then a else if x = a then b else x
theorem run_allN (ha : a ∈ colN) (hb : b ∈ colN) (ab : a ≠ b) (l : List Nat) : run1 (twoC (.s "all") a b) l = l.map (allF a b) :=
  run1_map (twoC_ok (by decide) ha hb ab) (fun n x => by
    unfold stp allF
    rw [if_neg (fun z => absurd (show (Kd.s "all").swap = true from z.1) (by decide +kernel))]
    rfl) l
theorem run_swapN (ha : a ∈ colN) (hb : b ∈ colN) (ab : a ≠ b) (l : List Nat) : run1 (twoC (.s "swap") a b) l = l.map (swpF a b) :=
  run1_map (twoC_ok (by decide) ha hb ab) (fun n x => by
    unfold stp swpF
    have e : (Kd.s "swap").swap = true := by decide +kernel
    by_cases h : x = b
    · rw [if_pos ⟨e, h⟩, if_pos h]; rfl
    · rw [if_neg (fun z => h z.2), if_neg h]; rfl) l
theorem swap_other (ab : a ≠ b) (x : Nat) : swpF a b x = swpF b a x := by
  unfold swpF
  by_cases h1 : x = b
  · by_cases h2 : x = a
    · exact absurd (h2.symm.trans h1) ab
    · simp [h1, Ne.symm ab]
  · by_cases h2 : x = a
    · simp [h1, h2, ab]
    · simp [h1, h2]
theorem swap_twice (ab : a ≠ b) (x : Nat) : swpF a b (swpF a b x) = x := by
  unfold swpF
  by_cases h1 : x = b
  · simp [h1, ab]
  · by_cases h2 : x = a
    · simp [h2, ab]
    · simp [h1, h2]
theorem swp2_id (ha : a ∈ colN) (hb : b ∈ colN) (ab : a ≠ b) (l : List Nat) : run1 (twoC (.s "swap") a b) (run1 (twoC (.s "swap") a b) l) = l := by
  rw [run_swapN ha hb ab, run_swapN ha hb ab, List.map_map]
  exact (List.map_congr_left fun x _ => swap_twice ab x).trans (List.map_id _)
theorem swp_other (ha : a ∈ colN) (hb : b ∈ colN) (ab : a ≠ b) (l : List Nat) : run1 (twoC (.s "swap") a b) l = run1 (twoC (.s "swap") b a) l := by
  rw [run_swapN ha hb ab, run_swapN hb ha (Ne.symm ab)]
  exact List.map_congr_left fun x _ => swap_other ab x
/-- a call to the first one, then the call to everyone -/
theorem all_one (ha : a ∈ colN) (hb : b ∈ colN) (ab : a ≠ b) (l : List Nat) : (run1 (twoC (.m 1) a b) l).map (allF a b) = l.map (allF a b) := List.ext_getElem? fun i => by
  rw [List.getElem?_map, List.getElem?_map]
  cases e : l[i]? with
  | none =>
    have hi : l.length ≤ i := List.getElem?_eq_none_iff.mp e
    rw [List.getElem?_eq_none (by rw [run1_len]; exact hi)]
  | some x =>
    rw [run1_at (twoC_ok (by decide) ha hb ab) e]
    show some (allF a b (stp (twoC (.m 1) a b) _ x)) = some (allF a b x)
    unfold stp
    rw [if_neg (fun z => by cases z.1)]
    show some (allF a b (if x = a then (if _ = (1 : Int) - 1 then b else x) else x)) = _
    by_cases h : x = a
    · rw [if_pos h]
      split
      · unfold allF
        rw [if_neg (Ne.symm ab), if_pos h]
      · rfl
    · rw [if_neg h]
theorem all_none {l : List Nat} (h : a ∉ l) : l.map (allF a b) = l := (List.map_congr_left fun x hx => (show allF a b x = x from if_neg fun e => h (by rw [← e]; exact hx))).trans (List.map_id _)
theorem one_less (ha : a ∈ colN) (hb : b ∈ colN) (ab : a ≠ b) {l : List Nat} (h : a ∈ l) : (run1 (twoC (.m 1) a b) l).count a + 1 = l.count a := by
  have hv := twoC_ok (k := .m 1) (by decide) ha hb ab
  have q := run1_count hv l a
  have pos : 0 < l.count a := List.count_pos_iff.mpr h
  have ns : ¬ (twoC (.m 1) a b).k.swap = true := fun z => by cases z
  have mv : moved (twoC (.m 1) a b) l = 1 := by
    unfold moved
    show movers (.m 1) (l.count a) = 1
    simp [movers]
    omega
  rw [if_pos (show cc (twoC (.m 1) a b).a = a from rfl), if_neg (show ¬ cc (twoC (.m 1) a b).b = a from fun e => ab e.symm), if_neg ns, mv] at q
  omega
/-- the places at which a call to one changes the row -/
def apartN (l m : List Nat) : List Nat := (List.range l.length).filter fun i => !decide (l[i]? = m[i]?)
theorem apart_one {k : Int} (hk : 1 ≤ k) (ha : a ∈ colN) (hb : b ∈ colN) (ab : a ≠ b) (l : List Nat) : (apartN l (run1 (twoC (.m k) a b) l)).length = if k ≤ (l.count a : Nat) then 1 else 0 := by
  have hv := twoC_ok (k := .m k) (decide_eq_true hk) ha hb ab
  have iff : ∀ i, i < l.length → ((l[i]? = (run1 (twoC (.m k) a b) l)[i]?) ↔ ¬ (posN a l)[(k - 1).toNat]? = some i) := fun i hi => by
    obtain ⟨x, hx⟩ := get_of_lt hi
    rw [run1_at hv hx, hx, posN_at, hx]
    unfold stp
    rw [if_neg (fun z => by cases z.1)]
    show (some x = some (if x = a then (if (((l.take i).count a : Nat) : Int) = k - 1 then b else x) else x)) ↔ _
    by_cases h : x = a
    · rw [if_pos h]
      by_cases h2 : (((l.take i).count a : Nat) : Int) = k - 1
      · rw [if_pos h2]
        constructor
        · intro e
          exact absurd (h.symm.trans (Option.some.inj e)) ab
        · intro e
          exact absurd ⟨by rw [h], by omega⟩ e
      · rw [if_neg h2]
        exact ⟨fun _ z => h2 (by omega), fun _ => rfl⟩
    · rw [if_neg h]
      exact ⟨fun _ z => h (Option.some.inj z.1), fun _ => rfl⟩
  have e : apartN l (run1 (twoC (.m k) a b) l) = (List.range l.length).filter fun i => decide ((posN a l)[(k - 1).toNat]? = some i) := List.filter_congr fun i hi => by
    have := iff i (List.mem_range.mp hi)
    rw [Bool.eq_iff_iff]
    simp only [Bool.not_eq_true', decide_eq_false_iff_not, decide_eq_true_eq]
    rw [this]
    exact Decidable.not_not
  rw [e]
  cases q : (posN a l)[(k - 1).toNat]? with
  | none =>
    have : (posN a l).length ≤ (k - 1).toNat := List.getElem?_eq_none_iff.mp q
    rw [posN_len] at this
    rw [if_neg (by omega), List.filter_eq_nil_iff.mpr (fun i _ => by simp)]
    rfl
  | some j =>
    have hj := lt_of_get q
    rw [posN_len] at hj
    have hjl : j < l.length := lt_of_get (posN_iff.mp (List.mem_of_getElem? q))
    rw [if_pos (by omega)]
    have : (List.range l.length).filter (fun i => decide (some j = some i)) = [j] := by
      have e1 : (List.range l.length).filter (fun i => decide (some j = some i)) = (List.range l.length).filter (· == j) := List.filter_congr fun i _ => by
        by_cases h : i = j
        · subst h; simp
        · have h2 : ¬ j = i := fun z => h z.symm
          simp [h, h2]
      rw [e1, List.filter_beq, List.nodup_range.count, if_pos (List.mem_range.mpr hjl)]
      rfl
    rw [this]
    rfl
/-- one more of the other colour where a person changed -/
theorem more_other {k : Int} (hk : 1 ≤ k) (ha : a ∈ colN) (hb : b ∈ colN) (ab : a ≠ b) (l : List Nat) : (run1 (twoC (.m k) a b) l).count b = l.count b + (if k ≤ (l.count a : Nat) then 1 else 0) := by
  have q := run1_count (twoC_ok (k := .m k) (decide_eq_true hk) ha hb ab) l b
  have ns : ¬ (twoC (.m k) a b).k.swap = true := fun z => by cases z
  have mv : moved (twoC (.m k) a b) l = if k ≤ (l.count a : Nat) then 1 else 0 := by
    unfold moved
    show movers (.m k) (l.count a) = _
    simp [movers]
  rw [if_neg (show ¬ cc (twoC (.m k) a b).a = b from ab), if_pos (show cc (twoC (.m k) a b).b = b from rfl), if_neg ns, mv] at q
  split at q
  · rename_i h
    rw [if_pos h]
    omega
  · rename_i h
    rw [if_neg h]
    omega
end
end Dr
/-! Defs whose answer is told as it is; ''.join of told texts (k06). -/
namespace Dr
open PySem PySem.Spec PyProof.Rows L2
abbrev SpV := List V → Hp → VQ → XK → Prop
def CRV (CX : CXT) (outer : List Env) (P : Program) (w : World) (H : Hp) (s : Shared) (Q : VQ) (E : XK) (r : Result) (s' : Shared) : Prop :=
  match r with
  | .ok (.ret u) => CE outer P w H s (fun _ H' => Q u H') u s'
  | .ok _ => False
  | .error e => CX outer H s E e s'
structure FnV (P : Program) (w : World) (K : PySem.W.Frag) (mg : Str → Option Value) (base : Heap) (CX : CXT) (k : Nat) (f : Addr) (fd : FuncData) (ps : List Str) (sp : SpV) : Prop where
  len : ∀ vs H Q E, sp vs H Q E → vs.length = ps.length
  run : ∀ (A : Around) (outer : List Env) (s : Shared) (H : Hp) (args : Args) (us : List Value) (vs : List V) (Q : VQ) (E : XK), Room k A → Env0 P w K mg base A outer s H → BindsTo s fd args (ps.zip us) → Vals vs us → sp vs H Q E →
    codeAny (model P w) A (.call (.ref f) args) (CRV CX outer P w H s Q E) s
abbrev TSV := VQ → L2.St → Hp → Prop
/-- the body of such a def -/
def PSsV (X : Cx) (l : List Stmt) (t : TSV) : Prop := ∀ (pins : List (Addr × Obj)) (s : Shared) (σ : L2.St) (H : Hp) (Q : VQ), Inv X pins σ H s → t Q σ H →
  wpAny (model X.prog X.w) X.A (execs l X.env) (fun f s' => match f with | .ret u => ∃ (v : V) (σ' : L2.St) (H' : Hp), Inv X pins σ' H' s' ∧ RelV v u ∧ Q u H' | _ => False) X.xe s
section
variable {P : Program} {w : World} {K : PySem.W.Frag} {mg : Str → Option Value} {base : Heap} {CX : CXT} {f : Addr} {fd : FuncData} {ps : List Str} {sp : SpV}
theorem okV {x qual : Str} {st : Stmt} {N : List Str} {k : Nat} (F : L2.Fun K x qual st f fd) (S : FnScope N ps (defScope st)) (len : ∀ vs H Q E, sp vs H Q E → vs.length = ps.length)
    (body : ∀ (cdv : Value) (A : Around) (outer : List Env) (s : Shared) (H : Hp) (vs : List V) (Q : VQ) (E : XK), Room k (A.deeper (PyProof.Rows.envOfC qual (defScope st) s.heap.objs.size f cdv)) → sp vs H Q E →
      ∃ t, PSsV (cxOf CX P w K mg base N qual (defScope st) f cdv A outer s H E) (defBody st) t ∧ t Q (L2.start N vs) H) :
    FnV P w K mg base CX (k + 1) f fd ps sp := by
  obtain ⟨oc, od, kV, doc, pm, an, cdv, ct, osl, rfl, lk, hcd⟩ := F.ex
  refine ⟨len, fun A outer s H args us vs Q E room e0 binds rel want => ?_⟩
  have kin : K.In s.heap := e0.mod.kin.keeps fun b o e => (e0.bs b o e).1
  have lim : s.heap.NoLimit := e0.mod.nolimit.keeps fun b o e => (e0.bs b o e).1
  have kinds : ∀ y ∈ ps.zip us, (defScope st).names.lookup y.1 = some .local ∨ ((defScope st).names.lookup y.1 = some .cell ∧
      ((cellsFrom (s.heap.objs.size + 1) (defScope st).names []).lookup y.1).isSome = true) := by
    rintro ⟨a, v⟩ hy
    rcases S.par a (List.of_mem_zip hy).1 with q | q
    · exact .inl q
    · exact .inr ⟨q, PySem.W.cellsFrom_some _ _ _ (.inl q)⟩
  refine codeAny_call_function room.depth (kin _ _ lk) rfl S.co S.gen rfl (PySem.W.codeRec_of kin hcd) (binds _ _ _ _ (wpAny_newFunctionEnv_cells S.kind kinds ?_))
  rintro env rfl s1 x
  refine ⟨lim.keeps x.toInCall.keep, codeAny_func ?_⟩
  obtain ⟨t, ht, hq⟩ := body cdv A outer s H vs Q E (room.deeper _) want
  have I := inv_start (CX := CX) (E := E) S room.hd e0 (len _ _ _ _ want) rel x
  refine wpAny_mono (ht [] s1 (L2.start N vs) H _ I hq) (fun fl s' hs => ?_) fun e s' hs => hs
  cases fl with
  | ret u =>
    obtain ⟨v, σ', H', J, rv, q⟩ := hs
    exact ⟨v, H', J.os, J.bare, J.base, J.hok, rv, q⟩
  | next => exact hs.elim
  | brk => exact hs.elim
  | cont => exact hs.elim
end
section
variable {X : Cx} {x : Str} {e o : Expr} {es : List Expr} {t : TA} {to te : TE} {tz : TEV} {pos : Pos}
theorem pssv_ret (h : PEV X e tz) : PSsV X [.Return (some e) pos] (fun Q σ H => tz σ H fun u H1 => (∃ v, RelV v u) ∧ Q u H1) := fun pins s σ H Q I q =>
  wpAny_execs_cons (wpAny_Return_some (thn (h pins s σ H _ I q) fun u s1 ⟨H1, I1, ⟨v, r⟩, q1⟩ => ⟨v, σ, H1, I1, r, q1⟩))
/-- the call of a def whose answer is told; the frame is kept -/
theorem kcallV {CX : CXT} {k : Nat} {f : Addr} {fd : FuncData} {ps : List Str} {sp : SpV} {E : XK} {p : Pos} (F : FnV X.prog X.w X.K X.mg X.base CX k f fd ps sp) (hr : Room k X.A) (hg : Gl X x) (hm : X.mg x = some (.ref f)) (hk : PySem.W.keepIn X.K (.ref f) = true) (hb : Binds X.K fd ps [])
    (hx : Passes CX X E) (ha : PAK X (e :: es) t) (hdb : (x == ("__debug__" : Str)) = false := by decide) (he : starEach (e :: es) X.env = (false, eval e X.env) :: starEach es X.env := by rfl) (hpl : (backTo pos (starEach es X.env)).any (·.1) = false := by rfl) :
    PVK X (.Call (.Name x p) (e :: es) [] pos) (fun σ H Q => t σ H fun vs H1 => sp vs H1 Q E) := fun pins s σ H Q I h => by
  refine wpAny_Call_Name_kw (ld_glob I hg hm ?_ hdb)
  refine PySem.W.callWith_K (h₀ := X.base) I.ok.mod.kin hk (thn (ha pos pins s σ H _ I h) fun us s1 hu => ?_) he hpl
  obtain ⟨⟨vs, H1, I1, r, q⟩, k1⟩ := hu
  have hl : us.length = ps.length := by rw [← r.length]; exact F.len _ _ _ _ q
  have bs := hb s1 us I1.kIn (by simpa using hl)
  rw [List.append_nil] at bs
  refine ⟨I1.kIn, wpAny_call (codeAny_mono (F.run X.A X.stack s1 H1 ⟨us, []⟩ us vs Q E hr I1.env0 bs r q) fun fin s' hq => ?_)⟩
  match fin, hq with
  | .error e, hq => exact hx pins σ H1 s1 e s' I1 hq
  | .ok (.ret u), hq =>
    obtain ⟨_, _, _, _, un, _⟩ := id hq
    obtain ⟨v, H2, I2, _, q2⟩ := I1.after hq
    exact ⟨⟨H2, I2, q2⟩, k1.trans (Kp.un I1 un)⟩
  | .ok .next, hq => exact hq.elim
  | .ok .brk, hq => exact hq.elim
  | .ok .cont, hq => exact hq.elim
theorem pev_ofK (h : PVK X e tz) : PEV X e tz := fun pins s σ H Q I q => thn (h pins s σ H Q I q) fun _ _ z => z.1
/-- ''.join of a told list: one text is given out as it is -/
def tJoinV (to : TE) (ta : TA) : TEV := fun σ H Q => to σ H fun x H1 => ∃ z : Str, x = .str z ∧ ta σ H1 fun vs H2 => ∃ (D : Addr) (ps : List Tx), vs = [.ref D] ∧ H2 D = some (TLst D (ps.map tv)) ∧
  (ps.map (·.1.length)).sum + ps.length * z.length ≤ 16777216 ∧ (∀ p, ps = [p] → Q (tv p) H2) ∧ ((∀ p, ps ≠ [p]) → ∀ t, Q (.str (Txt.join z (ps.map (·.1))) t) H2)
theorem pev_join {apos cpos : Pos} {ta : TA} (ho : PE X o to) (ha : PA X [e] ta) (hbase : attributeBase o "join" X.env (eval o X.env) = eval o X.env := by rfl)
    (hfew : ((backTo cpos (starEach [e] X.env)).all (fun x => !x.1) && (backToKw cpos (keywordEach [] X.env)).all (fun x => x.1.isSome) && decide ([e].length + ([] : List Keyword).length + (if ([] : List Keyword).isEmpty then 0 else 1) < 30)) = true := by rfl)
    (hline : (apos.endLine == cpos.line) = true := by rfl) (hs : starEach [e] X.env = (false, eval e X.env) :: starEach [] X.env := by rfl) : PEV X (.Call (.Attribute o "join" apos) [e] [] cpos) (tJoinV to ta) := by
  intro pins s σ H Q I h
  refine wpAny_Call_method_late hbase hfew hline rfl (thn (ho.run pins s σ H _ I h) fun v s1 hv => ?_)
  obtain ⟨x, H1, I1, r1, z, rfl, q1⟩ := hv
  obtain ⟨t, rfl⟩ := r1
  have hA := ha.run cpos pins s1 σ H1 _ I1 q1
  rw [hs] at hA ⊢
  refine ⟨"str", _, PySem.F.plainAttrs_str, PySem.F.slot_str_join, PySem.F.type_str_join, typeIs_str _ _ _, (fun a z => nomatch z), Calls.callWith_builtin rfl (Calls.evalArgs_plain (thn hA fun us1 s2 h2 => ?_))⟩
  · obtain ⟨vs, H2, I2, r2, D, ps, rfl, hD, hz, hone, hall⟩ := h2
    obtain ⟨w, rfl, rw2⟩ := r2.one
    obtain rfl : w = Value.ref D := rw2
    obtain ⟨n, e2⟩ := tlst_at I2.hok hD
    have hl : s2.heap.IsList D (PySem.strValues ps).toArray := ⟨_, e2, rfl, n, rfl⟩
    have hok := joinOk_of (sep := z) (ys := ps.map (·.1)) (by rw [List.map_map, List.length_map]; exact hz)
    unfold JoinOk at hok
    rw [Bool.not_eq_true'] at hok
    refine call_meets PySem.F.slot_str_join (typeIs_str _ _ _) PySem.F.entry_str_join (PySem.F.args_str_join_2 _ _) (meets_str_join_list z t D ps hok) ⟨hl, ?_⟩
    by_cases one : ∃ p, ps = [p]
    · obtain ⟨p, rfl⟩ := one
      exact ⟨H2, I2, hone p rfl⟩
    · exact post_join ps ⟨joinFit_length hok, fun t' k => ⟨H2, I2.tok k, hall (fun p e => one ⟨p, e⟩) t'⟩⟩
/-- an item of a told list, told -/
def tIxV (ta tb : TE) : TEV := fun σ H Q => ta σ H fun x H1 => tb σ H1 fun y H2 => ∃ (p : Addr) (ps : List Tx) (j : Nat) (z : Tx), x = .ref p ∧ y = .int (j : Int) ∧ TF H2 p ps ∧ ps[j]? = some z ∧ Q (tv z) H2
theorem pev_ix {a b : Expr} {ta tb : TE} {p0 : Pos} (ha : PE X a ta) (hb : PE X b tb) (hs : PlainIx b) : PEV X (.Subscript a b p0) (tIxV ta tb) := fun pins s σ H Q I h =>
  Subscript_ (thn (ha.run pins s σ H _ I h) fun v s1 ⟨x, H1, I1, rx, q1⟩ => thn (hb.run pins s1 σ H1 _ I1 q1) fun u s2 ⟨y, H2, I2, ry, q⟩ => by
    obtain ⟨p, ps, j, z, rfl, rfl, hF, hz, q⟩ := q
    cases rx
    obtain ⟨t, rfl⟩ := ry
    have hj := (List.getElem?_eq_some_iff.mp hz).1
    have hn := line63
    have hx : (ps.map tv).toArray[((j : Nat) : Int).toNat]? = some (tv z) := by simp [hz]
    obtain ⟨o, n, e, hc, hd, hl⟩ := hF.at I2
    rw [List.length_map] at hl
    exact item_listR (hF.isL I2) (by omega) (by omega) hx ⟨H2, I2, q⟩ (hs _ _))
end
/-! ### other names -/
/-- the name that stands for x -/
def renT (ps : List Tx) (x : Nat) : Nat := cc (ps.getD (ci (sg x)) ("", 0)).1
theorem isC_col {x : Nat} (h : x ∈ colN) : isC (sg x) = true := isC_iff.mpr ⟨x, h, rfl⟩
theorem renT_get {ps : List Tx} (hL : LettT ps) (h6 : ps.length = 6) {x : Nat} (h : x ∈ colN) : ∃ q, ps[ci (sg x)]? = some q ∧ q ∈ ps ∧ sg (renT ps x) = q.1 := by
  obtain ⟨q, hq⟩ := get_of_lt (l := ps) (i := ci (sg x)) (by rw [h6]; exact ci_lt (isC_col h))
  have hm := List.mem_of_getElem? hq
  refine ⟨q, hq, hm, ?_⟩
  unfold renT
  rw [List.getD_eq_getElem?_getD, hq]
  exact sg_cc (hL.col q hm)
/-- one colour's name, told -/
def spv_renamed (_ : PySem.W.Frag) : SpV := fun vs H Q _ => ∃ (p : Addr) (ps : List Tx) (x : Nat) (z : Tx), vs = [.ref p, .str (sg x)] ∧ TF H p ps ∧ x ∈ colN ∧ ps[ci (sg x)]? = some z ∧ z.1.length = 1 ∧ ∀ H', Same H H' → Q (tv z) H'
/-- a row with other names -/
def sp_renamed (_ : PySem.W.Frag) : Sp := fun vs H Q _ => ∃ (p : Addr) (ps : List Tx) (z : Str), vs = [.ref p, .str z] ∧ TF H p ps ∧ LettT ps ∧ ps.length = 6 ∧ z.cps.size ≤ 1000 ∧ (∀ x ∈ z.cps.toList, x ∈ colN) ∧ ∀ H', Same H H' → Q (.str (rowOf (z.cps.toList.map (renT ps)))) H'
/-- old and new are told; the calls between them do what they should -/
def sp_calls_right (_ : PySem.W.Frag) : SpA := fun vs us H Q _ => ∃ (z : Str) (a b : Tx) (m : Int) (u0 u3 : Value), vs = [.str z, .str a.1, .str b.1, .int m] ∧ us = [u0, tv a, tv b, u3] ∧ z.cps.size ≤ 1000 ∧ (∀ x ∈ z.cps.toList, x ∈ colN) ∧ isC a.1 = true ∧ isC b.1 = true ∧ a.2 ≠ 0 ∧ b.2 ≠ 0 ∧ a.2 ≠ b.2 ∧ a.1 ≠ b.1 ∧ 1 ≤ m ∧ m ≤ 20 ∧
  ∀ H', Same H H' → Q (.bl true) H'
/-- a drill of one told call -/
theorem dr1 {K : PySem.W.Frag} {H : Hp} {t p : Addr} {u : HO} {k : Kd} {a b : Tx} (h : TPair t u k.v a b) (ht : H t = none) (hp : upd H t u p = none) (ta : a.2 ≠ 0) (tb : b.2 ≠ 0) (tab : a.2 ≠ b.2) : DrillT K (upd (upd H t u) p (.lst [.ref t])) p [⟨k, a.1, b.1⟩] := by
  refine ⟨[t], SqL.of upd_same, rfl, fun i t' c x y => ?_⟩
  cases i with
  | succ i => simp at x
  | zero =>
    cases x
    cases y
    exact (tpair_tc (c := ⟨k, a.1, b.1⟩) h rfl rfl fun _ => ⟨ta, tb, tab⟩).same (Same.new hp)
section
variable {X : Cx}
/-- f(e, ..) of a def that is told its arguments -/
theorem pet_callF {CX : CXT} {k : Nat} {f : Addr} {fd : FuncData} {ps : List Str} {spa : SpA} {E : XK} {n : Str} {e : Expr} {es : List Expr} {tat : TAT} {p pos : Pos} (F : FnA X.prog X.w X.K X.mg X.base CX k f fd ps spa) (hr : Room k X.A) (hg : Gl X n) (hm : X.mg n = some (.ref f)) (hk : PySem.W.keepIn X.K (.ref f) = true) (hb : Binds X.K fd ps [])
    (hx : Passes CX X E) (ha : PAT X (e :: es) tat) (hdb : (n == ("__debug__" : Str)) = false := by decide) (he : starEach (e :: es) X.env = (false, eval e X.env) :: starEach es X.env := by rfl) (hpl : (backTo pos (starEach es X.env)).any (·.1) = false := by rfl) :
    PET X (.Call (.Name n p) (e :: es) [] pos) (fun σ τ H Q => tat σ τ H fun vs us H1 => spa vs us H1 Q E) := fun pins s σ τ H Q I T h => by
  refine wpAny_Call_Name_kw (ld_glob I hg hm ?_ hdb)
  refine PySem.W.callWith_K (h₀ := X.base) I.ok.mod.kin hk (thn (ha pos pins s σ τ H _ I T h) fun us s1 ⟨vs, H1, I1, r, q⟩ => ⟨I1.kIn, ?_⟩) he hpl
  exact run_fnA F hr hb hx I1 r q
end
/-! ### told parts of what is plain -/
section
variable {X : Cx} {e : Expr}
def tNoTau (t : TXT) : TE := fun σ H Q => t σ [] H Q
theorem pe_ofX {t : TXT} (h : PXT X e t) : PE X e (tNoTau t) := ⟨fun pins s σ H Q I q => thn (h pins s σ [] H Q I (fun _ hp => absurd hp List.not_mem_nil) q) fun _ _ z => z.1⟩
theorem pe_ofT {t : TET} (h : PET X e t) : PE X e (tNoTau t) := ⟨fun pins s σ H Q I q => h pins s σ [] H Q I (fun _ hp => absurd hp List.not_mem_nil) q⟩
end
theorem ren_of {ps : List Tx} (hL : LettT ps) (h6 : ps.length = 6) : Ren (renT ps) := by
  refine ⟨fun x hx => ?_, fun x hx y hy e => ?_⟩
  · obtain ⟨q, _, hm, eq⟩ := renT_get hL h6 hx
    obtain ⟨c, hc, e⟩ := isC_iff.mp (hL.col q hm)
    rw [e] at eq
    rw [sg_inj eq]
    exact hc
  · obtain ⟨q, hq, _, eq⟩ := renT_get hL h6 hx
    obtain ⟨q', hq', _, eq'⟩ := renT_get hL h6 hy
    have e1 : q.1 = q'.1 := by rw [← eq, ← eq', e]
    have a1 : (ps.map (·.1))[ci (sg x)]? = some q.1 := by rw [List.getElem?_map, hq]; rfl
    have a2 : (ps.map (·.1))[ci (sg y)]? = some q.1 := by rw [List.getElem?_map, hq', e1]; rfl
    have := (List.getElem?_inj (by rw [List.length_map, h6]; exact ci_lt (isC_col hx)) hL.nd).mp (a1.trans a2.symm)
    by_cases h : x = y
    · exact h
    · exact absurd this (ci_inj (isC_col hx) (isC_col hy) fun z => h (sg_inj z))
/-- the told names of a call -/
theorem ren_call {ps : List Tx} (hL : LettT ps) (h6 : ps.length = 6) {c : Cl} (hv : c.ok = true) : ∃ (x y : Nat) (p q : Tx), c.a = sg x ∧ c.b = sg y ∧ x ∈ colN ∧ y ∈ colN ∧ ps[ci (sg x)]? = some p ∧ ps[ci (sg y)]? = some q ∧ p.1.length = 1 ∧ q.1.length = 1 ∧
    p.1 = (rnC (renT ps) c).a ∧ q.1 = (rnC (renT ps) c).b ∧ p.2 ≠ 0 ∧ q.2 ≠ 0 ∧ p.2 ≠ q.2 := by
  obtain ⟨x, hx, ea⟩ := isC_iff.mp (Cl.ok_a hv)
  obtain ⟨y, hy, eb⟩ := isC_iff.mp (Cl.ok_b hv)
  obtain ⟨p, hp, mp, ep⟩ := renT_get hL h6 hx
  obtain ⟨q, hq, mq, eq⟩ := renT_get hL h6 hy
  refine ⟨x, y, p, q, ea, eb, hx, hy, hp, hq, isC_len (hL.col p mp), isC_len (hL.col q mq), ?_, ?_, hL.tk.2 p mp, hL.tk.2 q mq, fun e => ?_⟩
  · rw [← ep]; show sg (renT ps x) = sg (renT ps (cc c.a)); rw [ea]; rfl
  · rw [← eq]; show sg (renT ps y) = sg (renT ps (cc c.b)); rw [eb]; rfl
  · have a1 : (ps.map (·.2))[ci (sg x)]? = some p.2 := by rw [List.getElem?_map, hp]; rfl
    have a2 : (ps.map (·.2))[ci (sg y)]? = some p.2 := by rw [List.getElem?_map, hq, e]; rfl
    have := (List.getElem?_inj (by rw [List.length_map, h6]; exact ci_lt (isC_col hx)) hL.tk.1).mp (a1.trans a2.symm)
    exact ci_inj (isC_col hx) (isC_col hy) (fun z => Cl.ok_ne hv (by rw [ea, eb, z])) this
theorem TPair.vK {t : Addr} {u : HO} {v : V} {p q : Tx} (h : TPair t u v p q) : TPair t u v p q := h
end Dr
namespace Dr
open PySem L2
def top (i : Nat) : Stmt := PySem.Challenge.pw_drillrow_k06_whole_equivalent_drills.main.body.getD i (.Pass ⟨0, 0, 0, 0⟩)
abbrev s_is_colour : Stmt := top 6
abbrev s_is_kind : Stmt := top 7
abbrev s_is_call : Stmt := top 8
abbrev s_check_row : Stmt := top 9
abbrev s_check_drill : Stmt := top 10
abbrev s_find_wearer : Stmt := top 12
abbrev s_recolour_one : Stmt := top 13
abbrev s_swap_colours : Stmt := top 14
abbrev s_run_call : Stmt := top 15
abbrev s_run_calls : Stmt := top 16
abbrev s_run_drill : Stmt := top 17
abbrev s__law_source : Stmt := top 19
abbrev s__law_draw : Stmt := top 20
abbrev s__law_shuffled : Stmt := top 21
abbrev s__law_line : Stmt := top 22
abbrev s__law_one_call : Stmt := top 23
abbrev s__law_orders : Stmt := top 24
abbrev s__law_renamed : Stmt := top 25
abbrev s__law_calls_right : Stmt := top 26
abbrev s_law : Stmt := top 27
/-- what the top has left -/
structure Txt (K : PySem.W.Frag) (mg : Str → Option Value) : Type where
  a_is_colour : Addr
  fd_is_colour : FuncData
  F_is_colour : Fun K "is_colour" "is_colour" s_is_colour a_is_colour fd_is_colour
  b_is_colour : Binds K fd_is_colour ["text"] []
  m_is_colour : mg "is_colour" = some (.ref a_is_colour)
  a_is_kind : Addr
  fd_is_kind : FuncData
  F_is_kind : Fun K "is_kind" "is_kind" s_is_kind a_is_kind fd_is_kind
  b_is_kind : Binds K fd_is_kind ["kind"] []
  m_is_kind : mg "is_kind" = some (.ref a_is_kind)
  a_is_call : Addr
  fd_is_call : FuncData
  F_is_call : Fun K "is_call" "is_call" s_is_call a_is_call fd_is_call
  b_is_call : Binds K fd_is_call ["call"] []
  m_is_call : mg "is_call" = some (.ref a_is_call)
  a_check_row : Addr
  fd_check_row : FuncData
  F_check_row : Fun K "check_row" "check_row" s_check_row a_check_row fd_check_row
  b_check_row : Binds K fd_check_row ["row"] []
  m_check_row : mg "check_row" = some (.ref a_check_row)
  a_check_drill : Addr
  fd_check_drill : FuncData
  F_check_drill : Fun K "check_drill" "check_drill" s_check_drill a_check_drill fd_check_drill
  b_check_drill : Binds K fd_check_drill ["drill"] []
  m_check_drill : mg "check_drill" = some (.ref a_check_drill)
  a_find_wearer : Addr
  fd_find_wearer : FuncData
  F_find_wearer : Fun K "find_wearer" "find_wearer" s_find_wearer a_find_wearer fd_find_wearer
  b_find_wearer : Binds K fd_find_wearer ["row", "number", "colour"] []
  m_find_wearer : mg "find_wearer" = some (.ref a_find_wearer)
  a_recolour_one : Addr
  fd_recolour_one : FuncData
  F_recolour_one : Fun K "recolour_one" "recolour_one" s_recolour_one a_recolour_one fd_recolour_one
  b_recolour_one : Binds K fd_recolour_one ["row", "number", "source", "target"] []
  m_recolour_one : mg "recolour_one" = some (.ref a_recolour_one)
  a_swap_colours : Addr
  fd_swap_colours : FuncData
  F_swap_colours : Fun K "swap_colours" "swap_colours" s_swap_colours a_swap_colours fd_swap_colours
  b_swap_colours : Binds K fd_swap_colours ["row", "source", "target"] []
  m_swap_colours : mg "swap_colours" = some (.ref a_swap_colours)
  a_run_call : Addr
  fd_run_call : FuncData
  F_run_call : Fun K "run_call" "run_call" s_run_call a_run_call fd_run_call
  b_run_call : Binds K fd_run_call ["call", "row"] []
  m_run_call : mg "run_call" = some (.ref a_run_call)
  a_run_calls : Addr
  fd_run_calls : FuncData
  F_run_calls : Fun K "run_calls" "run_calls" s_run_calls a_run_calls fd_run_calls
  b_run_calls : Binds K fd_run_calls ["drill", "row"] []
  m_run_calls : mg "run_calls" = some (.ref a_run_calls)
  a_run_drill : Addr
  fd_run_drill : FuncData
  F_run_drill : Fun K "run_drill" "run_drill" s_run_drill a_run_drill fd_run_drill
  b_run_drill : Binds K fd_run_drill ["drill", "row"] []
  m_run_drill : mg "run_drill" = some (.ref a_run_drill)
  a__law_source : Addr
  fd__law_source : FuncData
  F__law_source : Fun K "_law_source" "_law_source" s__law_source a__law_source fd__law_source
  b__law_source : Binds K fd__law_source ["script"] []
  m__law_source : mg "_law_source" = some (.ref a__law_source)
  a__law_draw : Addr
  fd__law_draw : FuncData
  F__law_draw : Fun K "_law_draw" "_law_draw" s__law_draw a__law_draw fd__law_draw
  b__law_draw : Binds K fd__law_draw ["source", "many"] []
  m__law_draw : mg "_law_draw" = some (.ref a__law_draw)
  a__law_shuffled : Addr
  fd__law_shuffled : FuncData
  F__law_shuffled : Fun K "_law_shuffled" "_law_shuffled" s__law_shuffled a__law_shuffled fd__law_shuffled
  b__law_shuffled : Binds K fd__law_shuffled ["source", "items"] []
  m__law_shuffled : mg "_law_shuffled" = some (.ref a__law_shuffled)
  a__law_line : Addr
  fd__law_line : FuncData
  F__law_line : Fun K "_law_line" "_law_line" s__law_line a__law_line fd__law_line
  b__law_line : Binds K fd__law_line ["source", "most"] []
  m__law_line : mg "_law_line" = some (.ref a__law_line)
  a__law_one_call : Addr
  fd__law_one_call : FuncData
  F__law_one_call : Fun K "_law_one_call" "_law_one_call" s__law_one_call a__law_one_call fd__law_one_call
  b__law_one_call : Binds K fd__law_one_call ["source", "letters"] []
  m__law_one_call : mg "_law_one_call" = some (.ref a__law_one_call)
  a__law_orders : Addr
  fd__law_orders : FuncData
  F__law_orders : Fun K "_law_orders" "_law_orders" s__law_orders a__law_orders fd__law_orders
  b__law_orders : Binds K fd__law_orders ["source", "most"] []
  m__law_orders : mg "_law_orders" = some (.ref a__law_orders)
  a__law_renamed : Addr
  fd__law_renamed : FuncData
  F__law_renamed : Fun K "_law_renamed" "_law_renamed" s__law_renamed a__law_renamed fd__law_renamed
  b__law_renamed : Binds K fd__law_renamed ["names", "line"] []
  m__law_renamed : mg "_law_renamed" = some (.ref a__law_renamed)
  a__law_calls_right : Addr
  fd__law_calls_right : FuncData
  F__law_calls_right : Fun K "_law_calls_right" "_law_calls_right" s__law_calls_right a__law_calls_right fd__law_calls_right
  b__law_calls_right : Binds K fd__law_calls_right ["line", "old", "new", "number"] []
  m__law_calls_right : mg "_law_calls_right" = some (.ref a__law_calls_right)
  a_law : Addr
  fd_law : FuncData
  F_law : Fun K "law" "law" s_law a_law fd_law
  b_law : Binds K fd_law ["script"] []
  m_law : mg "law" = some (.ref a_law)
  a_COLOURS : Addr
  m_COLOURS : mg "COLOURS" = some (.ref a_COLOURS)
  c_COLOURS : ∀ H, SqT K H a_COLOURS colV
  t_COLOURS : ∃ o, K.lookup a_COLOURS = some o ∧ o.cls = .type "tuple" ∧ o.dict = none
  n_isinstance : mg "isinstance" = none
  n_str : mg "str" = none
  n_enumerate : mg "enumerate" = none
  n_range : mg "range" = none
  n_max : mg "max" = none
  n_list : mg "list" = none
  n_len : mg "len" = none
  n_int : mg "int" = none
  n_min : mg "min" = none
end Dr
namespace Dr
open PySem L2
theorem SC_is_colour : FnScope ["text"] ["text"] (defScope s_is_colour) := ⟨rfl, rfl, rfl, by decide +kernel, rfl, by decide +kernel, by decide +kernel⟩

theorem ok_is_colour {P : Program} {w : World} {K : PySem.W.Frag} {mg : Str → Option Value} {base : Heap} (T : Txt K mg)  : FnOk P w K mg base CX0 1 T.a_is_colour T.fd_is_colour ["text"] (sp_is_colour K) := by
  have SC := SC_is_colour
  refine T.F_is_colour.ok SC (fun vs H Q E h => ?_) (fun cdv A outer s H vs Q E hr h => ?_)
  · obtain ⟨z, rfl, k⟩ := h
    rfl
  · obtain ⟨z, rfl, k⟩ := h
    refine ⟨_, (pss_one (ps_ret (pe_cmpR (op_in_seqK (K := K) rfl) (pv 0) (pe_glob (v := .ref T.a_COLOURS) rfl T.m_COLOURS rfl) (by with_unfolding_all rfl)))), ?_⟩
    repeat (first | refine ⟨_, rfl, ?_⟩ | refine ⟨_, _, rfl, rfl, ?_⟩)
    refine ⟨_, colV, rfl, .inr (T.c_COLOURS _), rfl, flat_strs _, ?_⟩
    show Q (.bl (inV (.str z) (colS.map V.str))) H
    rw [inV_str]
    exact k
end Dr
namespace Dr
open PySem L2
theorem SC_is_kind : FnScope ["kind"] ["kind"] (defScope s_is_kind) := ⟨rfl, rfl, rfl, by decide +kernel, rfl, by decide +kernel, by decide +kernel⟩

theorem ok_is_kind {P : Program} {w : World} {K : PySem.W.Frag} {mg : Str → Option Value} {base : Heap} (T : Txt K mg)  : FnOk P w K mg base CX0 1 T.a_is_kind T.fd_is_kind ["kind"] (sp_is_kind K) := by
  have SC := SC_is_kind
  refine T.F_is_kind.ok SC (fun vs H Q E h => ?_) (fun cdv A outer s H vs Q E hr h => ?_)
  · obtain ⟨k, rfl, q⟩ := h
    rfl
  · obtain ⟨k, rfl, q⟩ := h
    refine ⟨_, (pss_cons (ps_if (pt_val (pe_callB (call_isiK' (K := K) rfl) (by rfl) T.n_isinstance (by decide +kernel) (pa_cons (pv 0) (pa_cons (pe_bltn (v := .ty "str") (by rfl) T.n_str (by decide +kernel) rfl) pa_nil)))) (pss_one (ps_ret (pe_cmpR (op_in_seqK (K := K) rfl) (pv 0) (pe_tup (pa_cons pe_str (pa_cons pe_str pa_nil))) (by with_unfolding_all rfl))))
       pss_nil)
       (pss_one (ps_ret (pe_cmpR op_ge (pv 0) pe_int (nomark _))))), ?_⟩
    cases k with
    | s z =>
      repeat (first | refine ⟨_, rfl, ?_⟩ | refine ⟨_, _, rfl, rfl, ?_⟩)
      refine ⟨_, _, .type "str", .type "str", true, rfl, .ty _, .base (.str z), kit_ty (by decide +kernel), _, rfl, ?_⟩
      refine iteT ?_
      repeat (first | refine ⟨_, rfl, ?_⟩ | refine ⟨_, _, rfl, rfl, ?_⟩)
      refine ⟨by show 2 ≤ sizeLine; decide, fun p hp => ?_⟩
      refine ⟨p, (["all", "swap"] : List Str).map V.str, rfl, .inr (SqT.of upd_same), rfl, flat_strs _, ?_⟩
      show Q (.bl (inV (.str z) ((["all", "swap"] : List Str).map V.str))) _
      rw [inV_str]
      exact q _ (Same.new hp)
    | m n =>
      repeat (first | refine ⟨_, rfl, ?_⟩ | refine ⟨_, _, rfl, rfl, ?_⟩)
      refine ⟨_, _, .type "int", .type "str", false, rfl, .ty _, .base (.int n), kit_ty (by decide +kernel), _, rfl, ?_⟩
      refine iteF ?_
      repeat (first | refine ⟨_, rfl, ?_⟩ | refine ⟨_, _, rfl, rfl, ?_⟩)
      exact q _ (Same.refl _)
end Dr
namespace Dr
open PySem L2
theorem SC_is_call : FnScope ["call", "kind", "source", "target"] ["call"] (defScope s_is_call) := ⟨rfl, rfl, rfl, by decide +kernel, rfl, by decide +kernel, by decide +kernel⟩

theorem ok_is_call {P : Program} {w : World} {K : PySem.W.Frag} {mg : Str → Option Value} {base : Heap} (T : Txt K mg) (G_is_colour : FnOk P w K mg base CX0 1 T.a_is_colour T.fd_is_colour ["text"] (sp_is_colour K)) (G_is_kind : FnOk P w K mg base CX0 1 T.a_is_kind T.fd_is_kind ["kind"] (sp_is_kind K)) : FnOk P w K mg base CX0 2 T.a_is_call T.fd_is_call ["call"] (sp_is_call K) := by
  have SC := SC_is_call
  refine T.F_is_call.ok SC (fun vs H Q E h => ?_) (fun cdv A outer s H vs Q E hr h => ?_)
  · obtain ⟨t, c, rfl, hT, q⟩ := h
    rfl
  · obtain ⟨t, c, rfl, hT, q⟩ := h
    refine ⟨_, (pss_cons (ps_asg (pv 0) (pg_tup rfl (pgs_cons (pg_name (i := 1) SC.nd rfl (by first | exact Or.inl rfl | exact Or.inr rfl)) (pgs_cons (pg_name (i := 2) SC.nd rfl (by first | exact Or.inl rfl | exact Or.inr rfl)) (pgs_cons (pg_name (i := 3) SC.nd rfl (by first | exact Or.inl rfl | exact Or.inr rfl)) pgs_nil)))))
       (pss_one (ps_ret (pe_and (pe_call G_is_kind (hr.mono (by decide)) (by rfl) T.m_is_kind T.F_is_kind.kp T.b_is_kind .nil pass0 (pa_cons (pv 1) pa_nil)) (pe_and (pe_call G_is_colour (hr.mono (by decide)) (by rfl) T.m_is_colour T.F_is_colour.kp T.b_is_colour .nil pass0 (pa_cons (pv 2) pa_nil)) (pe_and (pe_call G_is_colour (hr.mono (by decide)) (by rfl) T.m_is_colour T.F_is_colour.kp T.b_is_colour .nil pass0 (pa_cons (pv 3) pa_nil)) (pe_one (pe_cmpR op_ne (pv 2) (pv 3) (nomark _))))))))), ?_⟩
    have ends : ∀ b : Bool, c.ok = b → ∀ H1, Same H H1 → Q (.bl b) H1 := fun b e H1 S1 => by
      have z := q H1 S1
      rw [e] at z
      exact z
    repeat (first | refine ⟨_, rfl, ?_⟩ | refine ⟨_, _, rfl, rfl, ?_⟩)
    refine ⟨_, _, rfl, hT, rfl, _, _, rfl, _, _, rfl, _, _, rfl, rfl, ?_⟩
    repeat (first | refine ⟨_, rfl, ?_⟩ | refine ⟨_, _, rfl, rfl, ?_⟩)
    intro H1 S1
    repeat (first | refine ⟨_, rfl, ?_⟩ | refine ⟨_, _, rfl, rfl, ?_⟩)
    cases e1 : c.k.ok with
    | false => exact iteF (ends _ (by unfold Cl.ok; rw [e1]; rfl) _ S1)
    | true =>
      refine iteT ?_
      repeat (first | refine ⟨_, rfl, ?_⟩ | refine ⟨_, _, rfl, rfl, ?_⟩)
      cases e2 : isC c.a with
      | false => exact iteF (ends _ (by unfold Cl.ok; rw [e1, e2]; rfl) _ S1)
      | true =>
        refine iteT ?_
        repeat (first | refine ⟨_, rfl, ?_⟩ | refine ⟨_, _, rfl, rfl, ?_⟩)
        cases e3 : isC c.b with
        | false => exact iteF (ends _ (by unfold Cl.ok; rw [e1, e2, e3]; rfl) _ S1)
        | true =>
          refine iteT ?_
          repeat (first | refine ⟨_, rfl, ?_⟩ | refine ⟨_, _, rfl, rfl, ?_⟩)
          refine ⟨rfl, ?_⟩
          exact ends _ (by unfold Cl.ok; rw [e1, e2, e3]; simp) _ S1
end Dr
namespace Dr
open PySem L2
theorem SC_check_row : FnScope ["row", "index", "person"] ["row"] (defScope s_check_row) := ⟨rfl, rfl, rfl, by decide +kernel, rfl, by decide +kernel, by decide +kernel⟩

theorem ok_check_row {P : Program} {w : World} {K : PySem.W.Frag} {mg : Str → Option Value} {base : Heap} (T : Txt K mg) (G_is_colour : FnOk P w K mg base CX0 1 T.a_is_colour T.fd_is_colour ["text"] (sp_is_colour K)) : FnOk P w K mg base CX0 2 T.a_check_row T.fd_check_row ["row"] (sp_check_row K) := by
  have SC := SC_check_row
  refine T.F_check_row.ok SC (fun vs H Q E h => ?_) (fun cdv A outer s H vs Q E hr h => ?_)
  · obtain ⟨z, rfl, hz, q⟩ := h
    rfl
  · obtain ⟨z, rfl, hz, q⟩ := h
    refine ⟨_, (pss_one (ps_for PassesOwn.never rfl (pi_enumS (by rfl) T.n_enumerate (pa_cons (pv 0) pa_nil)) (pg_tup rfl (pgs_cons (pg_name (i := 1) SC.nd rfl (by first | exact Or.inl rfl | exact Or.inr rfl)) (pgs_cons (pg_name (i := 2) SC.nd rfl (by first | exact Or.inl rfl | exact Or.inr rfl)) pgs_nil)))
       (pss_one (ps_if (pt_not (pt_val (pe_call G_is_colour (hr.mono (by decide)) (by rfl) T.m_is_colour T.F_is_colour.kp T.b_is_colour .nil pass0 (pa_cons (pv 2) pa_nil)))) (pss_one ps_never)
       pss_nil)))), ?_⟩
    repeat (first | refine ⟨_, rfl, ?_⟩ | refine ⟨_, _, rfl, rfl, ?_⟩)
    refine for_it walk_enumS (fun i σ H' => Same H H' ∧ ∃ u v, σ = [some (.str z), u, v]) ⟨Same.refl _, none, none, rfl⟩ (fun _ _ _ _ _ => trivial) ?_ ?_
    · rintro i y σ H1 H2 hi ⟨S, u, v, rfl⟩ ⟨Tt, c, rfl, hn, rfl, hc⟩
      refine ⟨_, _, rfl, SqT.of upd_same, rfl, _, _, rfl, _, _, rfl, rfl, ?_⟩
      repeat (first | refine ⟨_, rfl, ?_⟩ | refine ⟨_, _, rfl, rfl, ?_⟩)
      have hcol : isC (sg c) = true := isC_iff.mpr ⟨c, hz c (List.mem_of_getElem? (i := i) (by simpa using hc)), rfl⟩
      rw [show isC { cps := #[c] } = true from hcol]
      refine iteF ?_
      exact ⟨S.trans (Same.new hn), _, _, rfl⟩
    · rintro σ H' ⟨S, u, v, rfl⟩
      exact q _ S
end Dr
namespace Dr
open PySem L2
theorem SC_check_drill : FnScope ["drill", "index", "call"] ["drill"] (defScope s_check_drill) := ⟨rfl, rfl, rfl, by decide +kernel, rfl, by decide +kernel, by decide +kernel⟩

theorem ok_check_drill {P : Program} {w : World} {K : PySem.W.Frag} {mg : Str → Option Value} {base : Heap} (T : Txt K mg) (G_is_call : FnOk P w K mg base CX0 2 T.a_is_call T.fd_is_call ["call"] (sp_is_call K)) : FnOk P w K mg base CX0 3 T.a_check_drill T.fd_check_drill ["drill"] (sp_check_drill K) := by
  have SC := SC_check_drill
  refine T.F_check_drill.ok SC (fun vs H Q E h => ?_) (fun cdv A outer s H vs Q E hr h => ?_)
  · obtain ⟨a, D, rfl, ⟨ts, hL, hlen, hT⟩, hv, q⟩ := h
    rfl
  · obtain ⟨a, D, rfl, ⟨ts, hL, hlen, hT⟩, hv, q⟩ := h
    refine ⟨_, (pss_one (ps_for PassesOwn.never rfl (pi_enum (by rfl) T.n_enumerate (pa_cons (pv 0) pa_nil)) (pg_tup rfl (pgs_cons (pg_name (i := 1) SC.nd rfl (by first | exact Or.inl rfl | exact Or.inr rfl)) (pgs_cons (pg_name (i := 2) SC.nd rfl (by first | exact Or.inl rfl | exact Or.inr rfl)) pgs_nil)))
       (pss_one (ps_if (pt_not (pt_val (pe_call G_is_call (hr.mono (by decide)) (by rfl) T.m_is_call T.F_is_call.kp T.b_is_call .nil pass0 (pa_cons (pv 2) pa_nil)))) (pss_one ps_never)
       pss_nil)))), ?_⟩
    repeat (first | refine ⟨_, rfl, ?_⟩ | refine ⟨_, _, rfl, rfl, ?_⟩)
    refine ⟨_, _, rfl, hL, ?_⟩
    refine for_it walk_enum (fun i σ H' => Same H H' ∧ ∃ u v, σ = [some (.ref a), u, v]) ⟨Same.refl _, none, none, rfl⟩ (fun i σ H' _ p => p.1.seq hL) ?_ ?_
    · rintro i y σ H1 H2 hi ⟨S, u, v, rfl⟩ ⟨Tt, x, c, rfl, hn, rfl, hx, hc⟩
      cases hx
      obtain ⟨t, ht, rfl⟩ := map_get hc
      obtain ⟨cl, hcl⟩ := get_of_lt (l := D) (by rw [← hlen]; exact lt_of_get ht)
      refine ⟨_, _, rfl, SqT.of upd_same, rfl, _, _, rfl, _, _, rfl, rfl, ?_⟩
      repeat (first | refine ⟨_, rfl, ?_⟩ | refine ⟨_, _, rfl, rfl, ?_⟩)
      refine ⟨t, cl, rfl, Same.sqT (S.trans (Same.new hn)) (hT i t cl ht hcl), fun H3 S3 => ⟨_, rfl, ?_⟩⟩
      rw [hv cl (List.mem_of_getElem? hcl)]
      refine iteF ?_
      exact ⟨S.trans ((Same.new hn).trans S3), _, _, rfl⟩
    · rintro σ H' ⟨S, u, v, rfl⟩
      exact q _ S
end Dr
namespace Dr
open PySem L2
theorem SC_find_wearer : FnScope ["row", "number", "colour", "index", "_"] ["row", "number", "colour"] (defScope s_find_wearer) := ⟨rfl, rfl, rfl, by decide +kernel, rfl, by decide +kernel, by decide +kernel⟩

theorem ok_find_wearer {P : Program} {w : World} {K : PySem.W.Frag} {mg : Str → Option Value} {base : Heap} (T : Txt K mg)  : FnOk P w K mg base CX0 1 T.a_find_wearer T.fd_find_wearer ["row", "number", "colour"] (sp_find_wearer K) := by
  have SC := SC_find_wearer
  refine T.F_find_wearer.ok SC (fun vs H Q E h => ?_) (fun cdv A outer s H vs Q E hr h => ?_)
  · obtain ⟨z, n, a, rfl, hz, h0, h1, q⟩ := h
    rfl
  · obtain ⟨z, n, a, rfl, hz, h0, h1, q⟩ := h
    refine ⟨_, (pss_cons (ps_set (i := 3) SC.nd rfl (by first | exact Or.inl rfl | exact Or.inr rfl) (pe_un un_neg pe_int))
       (pss_cons (ps_for PassesOwn.never rfl (pi_range1 (by rfl) T.n_range (pa_cons (pv 1) pa_nil)) (pg_name (i := 4) SC.nd rfl (by first | exact Or.inl rfl | exact Or.inr rfl))
       (pss_cons (ps_set (i := 3) SC.nd rfl (by first | exact Or.inl rfl | exact Or.inr rfl) (pe_bmK (K := K) rfl PySem.F.plainAttrs_str PySem.F.slot_str_find PySem.F.type_str_find mt_find3 (pv 0) (pa_cons (pv 2) (pa_cons (pe_op op_add (pv 3) pe_int) pa_nil))))
       (pss_one (ps_if (pt_cmpR op_lt (pv 3) pe_int (nomark _)) (pss_one (ps_ret (pe_un un_neg pe_int)))
       pss_nil))))
       (pss_one (ps_ret (pv 3))))), ?_⟩
    repeat (first | refine ⟨_, rfl, ?_⟩ | refine ⟨_, _, rfl, rfl, ?_⟩)
    refine ⟨by omega, h1, ?_⟩
    have hl : z.cps.size = z.cps.toList.length := by simp
    refine for_it walk_range (fun j σ H' => Same H H' ∧ ∃ (lo : Nat) (u : Option V), σ = [some (.str z), some (.int n), some (.str (sg a)), some (.int ((lo : Int) - 1)), u] ∧ lo ≤ z.cps.toList.length ∧
        (posN a z.cps.toList).drop j = ((List.range' lo (z.cps.toList.length - lo)).filter fun p => decide (z.cps.toList[p]? = some a)) ∧ (0 < j → ∃ q, (posN a z.cps.toList)[j - 1]? = some q ∧ lo = q + 1))
      ⟨Same.refl _, 0, none, rfl, Nat.zero_le _, posN_range a _, fun h => absurd h (Nat.lt_irrefl 0)⟩ (fun _ _ _ _ _ => trivial) ?_ ?_
    · rintro j y σ H1 H2 hj ⟨S, lo, u, rfl, hlo, hdr, hq⟩ ⟨rfl, rfl⟩
      repeat (first | refine ⟨_, rfl, ?_⟩ | refine ⟨_, _, rfl, rfl, ?_⟩)
      refine ⟨rfl, ?_⟩
      repeat (first | refine ⟨_, rfl, ?_⟩ | refine ⟨_, _, rfl, rfl, ?_⟩)
      refine ⟨_, _, (lo : Int) - 1 + 1, rfl, rfl, ?_⟩
      rw [show (lo : Int) - 1 + 1 = (lo : Int) from by omega, find_sg, rest_find hlo, ← hdr]
      clear hq
      cases hd : (posN a z.cps.toList).drop j with
      | nil =>
        repeat (first | refine ⟨_, rfl, ?_⟩ | refine ⟨_, _, rfl, rfl, ?_⟩)
        refine if_pos_dec (B := True) (show (-1 : Int) < 0 by decide) ?_
        repeat (first | refine ⟨_, rfl, ?_⟩ | refine ⟨_, _, rfl, rfl, ?_⟩)
        have : wearer a z.cps.toList (n - 1).toNat = -1 := by
          unfold wearer
          have hle := List.drop_eq_nil_iff.mp hd
          have hle2 : (posN a z.cps.toList).length ≤ (n - 1).toNat := by omega
          rw [List.getElem?_eq_none hle2]
        have q2 := q _ S
        rw [this] at q2
        exact q2
      | cons p t =>
        repeat (first | refine ⟨_, rfl, ?_⟩ | refine ⟨_, _, rfl, rfl, ?_⟩)
        refine if_neg_dec (A := True) (show ¬ ((p : Int) < 0) by omega) ?_
        rw [hd] at hdr
        obtain ⟨h2, h3, h4⟩ := rest_tail hdr.symm
        refine ⟨S, p + 1, some (V.int (0 + (j : Int))), ?_, by omega, ?_, fun _ => ⟨p, ?_, rfl⟩⟩
        · rw [show ((p + 1 : Nat) : Int) - 1 = (p : Int) from by omega]
          rfl
        · rw [show (posN a z.cps.toList).drop (j + 1) = ((posN a z.cps.toList).drop j).drop 1 from by rw [List.drop_drop], hd]
          rw [show z.cps.toList.length - (p + 1) = lo + (z.cps.toList.length - lo) - (p + 1) from by omega, h4]
          rfl
        · have : (posN a z.cps.toList)[j]? = ((posN a z.cps.toList).drop j)[0]? := by rw [List.getElem?_drop]; rfl
          rw [show j + 1 - 1 = j from rfl, this, hd]
          rfl
    · rintro σ H1 ⟨S, lo, u, rfl, hlo, hdr, hq⟩
      obtain ⟨p, hp, e⟩ := hq (by omega)
      repeat (first | refine ⟨_, rfl, ?_⟩ | refine ⟨_, _, rfl, rfl, ?_⟩)
      have : wearer a z.cps.toList (n - 1).toNat = (lo : Int) - 1 := by
        unfold wearer
        rw [show (n - 1).toNat = n.toNat - 1 from by omega, hp, e]
        show (p : Int) = _
        omega
      have q2 := q _ S
      rw [this] at q2
      exact q2
end Dr
namespace Dr
open PySem L2
theorem SC_recolour_one : FnScope ["row", "number", "source", "target", "index"] ["row", "number", "source", "target"] (defScope s_recolour_one) := ⟨rfl, rfl, rfl, by decide +kernel, rfl, by decide +kernel, by decide +kernel⟩

theorem ok_recolour_one {P : Program} {w : World} {K : PySem.W.Frag} {mg : Str → Option Value} {base : Heap} (T : Txt K mg) (G_find_wearer : FnOk P w K mg base CX0 1 T.a_find_wearer T.fd_find_wearer ["row", "number", "colour"] (sp_find_wearer K)) : FnOk P w K mg base CX0 2 T.a_recolour_one T.fd_recolour_one ["row", "number", "source", "target"] (sp_recolour_one K) := by
  have SC := SC_recolour_one
  refine T.F_recolour_one.ok SC (fun vs H Q E h => ?_) (fun cdv A outer s H vs Q E hr h => ?_)
  · obtain ⟨z, n, a, b, rfl, hz, h0, h1, q⟩ := h
    rfl
  · obtain ⟨z, n, a, b, rfl, hz, h0, h1, q⟩ := h
    refine ⟨_, (pss_cons (ps_set (i := 4) SC.nd rfl (by first | exact Or.inl rfl | exact Or.inr rfl) (pe_call G_find_wearer (hr.mono (by decide)) (by rfl) T.m_find_wearer T.F_find_wearer.kp T.b_find_wearer .nil pass0 (pa_cons (pv 0) (pa_cons (pv 1) (pa_cons (pv 2) pa_nil)))))
       (pss_cons (ps_if (pt_cmpR op_lt (pv 4) pe_int (nomark _)) (pss_one (ps_ret (pv 0)))
       pss_nil)
       (pss_one (ps_ret (pe_op op_add_str (pe_op op_add_str (pe_slice sl_str (pv 0) po_none (po_some (pv 4))) (pv 3)) (pe_slice sl_str (pv 0) (po_some (pe_op op_add (pv 4) pe_int)) po_none)))))), ?_⟩
    have hl : z.cps.size = z.cps.toList.length := by simp
    have hzz : z.length ≤ sizeLine := Nat.le_trans hz (by decide)
    repeat (first | refine ⟨_, rfl, ?_⟩ | refine ⟨_, _, rfl, rfl, ?_⟩)
    cases hp : (posN a z.cps.toList)[(n - 1).toNat]? with
    | none =>
      rw [hp] at q
      have hw : wearer a z.cps.toList (n - 1).toNat = -1 := by unfold wearer; rw [hp]
      refine ⟨z, n, a, rfl, hz, h0, h1, fun H1 S1 => ?_⟩
      rw [hw]
      repeat (first | refine ⟨_, rfl, ?_⟩ | refine ⟨_, _, rfl, rfl, ?_⟩)
      refine if_pos_dec (B := True) (show (-1 : Int) < 0 by decide) ?_
      repeat (first | refine ⟨_, rfl, ?_⟩ | refine ⟨_, _, rfl, rfl, ?_⟩)
      have e : z = ⟨z.cps.toList.toArray⟩ := by simp
      rw [e]
      exact q _ S1
    | some p =>
      rw [hp] at q
      have hw : wearer a z.cps.toList (n - 1).toNat = (p : Int) := by unfold wearer; rw [hp]
      have hpl : p < z.cps.toList.length := lt_of_get (posN_iff.mp (List.mem_of_getElem? hp))
      refine ⟨z, n, a, rfl, hz, h0, h1, fun H1 S1 => ?_⟩
      rw [hw]
      repeat (first | refine ⟨_, rfl, ?_⟩ | refine ⟨_, _, rfl, rfl, ?_⟩)
      refine if_neg_dec (A := True) (show ¬ ((p : Int) < 0) by omega) ?_
      repeat (first | refine ⟨_, rfl, ?_⟩ | refine ⟨_, _, rfl, rfl, ?_⟩)
      refine ⟨hzz, ?_⟩
      have hc1 : (cutS z none (some (p : Int))).cps.size ≤ 1000 := Nat.le_trans (cutS_length z _ _) hz
      have hc2 : (cutS z (some ((p : Int) + 1)) none).cps.size ≤ 1000 := Nat.le_trans (cutS_length z _ _) hz
      repeat (first | refine ⟨_, rfl, ?_⟩ | refine ⟨_, _, rfl, rfl, ?_⟩)
      refine ⟨Nat.le_trans (by show (cutS z none (some (p : Int))).cps.size + 1 ≤ 1001; omega : (cutS z none (some (p : Int))).length + (sg b).length ≤ 1001) (by decide), ?_⟩
      repeat (first | refine ⟨_, rfl, ?_⟩ | refine ⟨_, _, rfl, rfl, ?_⟩)
      refine ⟨hzz, ?_⟩
      refine ⟨_, _, rfl, rfl, Nat.le_trans (by show (cutS z none (some (p : Int)) ++ sg b).cps.size + (cutS z (some ((p : Int) + 1)) none).cps.size ≤ 2001; rw [str_size]; show (cutS z none (some (p : Int))).cps.size + 1 + _ ≤ 2001; omega : (cutS z none (some (p : Int)) ++ sg b).length + (cutS z (some ((p : Int) + 1)) none).length ≤ 2001) (by decide), ?_⟩
      rw [show (cutS z none (some (p : Int)) ++ sg b) ++ cutS z (some ((p : Int) + 1)) none = ⟨(z.cps.toList.set p b).toArray⟩ from str_is (by
        rw [str_app, str_app, cutS_upto, show ((p : Int) + 1) = ((p + 1 : Nat) : Int) from by omega, cutS_after]
        exact set_cut hpl)]
      exact q _ S1
end Dr
namespace Dr
open PySem L2
theorem SC_swap_colours : FnScope ["row", "source", "target", "after", "person"] ["row", "source", "target"] (defScope s_swap_colours) := ⟨rfl, rfl, rfl, by decide +kernel, rfl, by decide +kernel, by decide +kernel⟩

theorem ok_swap_colours {P : Program} {w : World} {K : PySem.W.Frag} {mg : Str → Option Value} {base : Heap} (T : Txt K mg)  : FnOk P w K mg base CX0 1 T.a_swap_colours T.fd_swap_colours ["row", "source", "target"] (sp_swap_colours K) := by
  have SC := SC_swap_colours
  refine T.F_swap_colours.ok SC (fun vs H Q E h => ?_) (fun cdv A outer s H vs Q E hr h => ?_)
  · obtain ⟨z, a, b, rfl, hz, hab, q⟩ := h
    rfl
  · obtain ⟨z, a, b, rfl, hz, hab, q⟩ := h
    refine ⟨_, (pss_cons (ps_set (i := 3) SC.nd rfl (by first | exact Or.inl rfl | exact Or.inr rfl) (pe_disp (pps_cons (pv 1) (pv 2) (pps_cons (pv 2) (pv 1) pps_nil)) (by rfl) (by rfl) (fun z => by cases z) (by decide)))
       (pss_one (ps_ret (pe_bmK (K := K) rfl PySem.F.plainAttrs_str PySem.F.slot_str_join PySem.F.type_str_join mt_join pe_str (pa_cons (pe_lc (own := [("person", 4)]) rfl SC.nd (pi_str (pv 0)) (blkOk_by (N := ["row", "source", "target", "after", "person"]) (sc := defScope s_swap_colours) (by decide +kernel)) (fun _ _ _ _ _ => by exact pg_name (i := 4) SC.nd rfl (by first | exact Or.inl rfl | exact Or.inr rfl)) (fun _ _ _ _ _ => by exact pts_nil) (fun _ _ _ _ _ => by exact (pe_dget2 (hu_of hr) (pv 3) (pv 4) (pv 4) ⟨rfl, rfl, rfl, rfl⟩))) pa_nil))))), ?_⟩
    repeat (first | refine ⟨_, rfl, ?_⟩ | refine ⟨_, _, rfl, rfl, ?_⟩)
    intro p hp
    repeat (first | refine ⟨_, rfl, ?_⟩ | refine ⟨_, _, rfl, rfl, ?_⟩)
    refine ⟨upd_same, [(Sum.inr (sg a), .str (sg b)), (Sum.inr (sg b), .str (sg a))], rfl, by show 2 ≤ 15; decide, ?_⟩
    rw [upd_upd]
    repeat (first | refine ⟨_, rfl, ?_⟩ | refine ⟨_, _, rfl, rfl, ?_⟩)
    have SD := Same.new (o := .dK (mergeK [] [(Sum.inr (sg a), .str (sg b)), (Sum.inr (sg b), .str (sg a))])) hp
    have hD := upd_at (o := .dK (mergeK [] [(Sum.inr (sg a), .str (sg b)), (Sum.inr (sg b), .str (sg a))])) hp
    generalize upd H p _ = G at SD hD ⊢
    refine ⟨rfl, ?_⟩
    repeat (first | refine ⟨_, rfl, ?_⟩ | refine ⟨_, _, rfl, rfl, ?_⟩)
    intro D hDn
    refine lc_it walk_str (fun i H' => Same G H' ∧ H' D = some (.lst ((((z.cps.toList.map (sw a b)).map sg).take i).map V.str))) ⟨Same.new hDn, upd_same⟩ (fun _ _ _ _ => trivial) ?_ ?_
    · rintro i y H2 H3 hi ⟨S, hl⟩ ⟨rfl, x, hx, rfl⟩
      refine ⟨rfl, ?_⟩
      repeat (first | refine ⟨_, rfl, ?_⟩ | refine ⟨_, _, rfl, rfl, ?_⟩)
      refine ⟨.inl ⟨_, .inl (S _ _ hD)⟩, ?_⟩
      repeat (first | refine ⟨_, rfl, ?_⟩ | refine ⟨_, _, rfl, rfl, ?_⟩)
      refine ⟨_, DGet.k (k := Sum.inr (sg x)) (S _ _ hD), ?_⟩
      have hx' : z.cps.toList[i]? = some x := by simpa using hx
      rw [sw_get hab]
      refine ⟨_, hl, ?_, ?_, ?_⟩
      · rw [List.length_map]
        exact Nat.lt_of_le_of_lt (List.length_take_le _ _) (Nat.lt_of_lt_of_le hi (Nat.le_trans hz (by decide)))
      · exact ext_same S hDn (Same.refl _)
      · rw [upd_same, take_one (l := (z.cps.toList.map (sw a b)).map sg) (x := sg (sw a b x)) (by rw [List.getElem?_map, List.getElem?_map, hx']; rfl), List.map_append]
        rfl
    · rintro H' ⟨S, hl⟩
      rw [List.take_of_length_le (by rw [List.length_map, List.length_map]; exact Nat.le_of_eq (by simp))] at hl
      have eL : (z.cps.toList.map (sw a b)).length ≤ 1000 := by rw [List.length_map]; simpa using hz
      repeat (first | refine ⟨_, rfl, ?_⟩ | refine ⟨_, _, rfl, rfl, ?_⟩)
      refine ⟨_, _, (z.cps.toList.map (sw a b)).map sg, rfl, rfl, .inl (SqL.of hl), ?_, ?_⟩
      · rw [sum_sg]
        show (z.cps.toList.map (sw a b)).length + _ * 0 ≤ 16777216
        omega
      · rw [join_sg]
        exact q _ (SD.trans S)
end Dr
namespace Dr
open PySem L2
theorem SC_run_call : FnScope ["call", "row", "kind", "source", "target"] ["call", "row"] (defScope s_run_call) := ⟨rfl, rfl, rfl, by decide +kernel, rfl, by decide +kernel, by decide +kernel⟩

theorem ok_run_call {P : Program} {w : World} {K : PySem.W.Frag} {mg : Str → Option Value} {base : Heap} (T : Txt K mg) (G_swap_colours : FnOk P w K mg base CX0 1 T.a_swap_colours T.fd_swap_colours ["row", "source", "target"] (sp_swap_colours K)) (G_recolour_one : FnOk P w K mg base CX0 2 T.a_recolour_one T.fd_recolour_one ["row", "number", "source", "target"] (sp_recolour_one K)) : FnOk P w K mg base CX0 3 T.a_run_call T.fd_run_call ["call", "row"] (sp_run_call K) := by
  have SC := SC_run_call
  refine T.F_run_call.ok SC (fun vs H Q E h => ?_) (fun cdv A outer s H vs Q E hr h => ?_)
  · obtain ⟨t, c, z, rfl, hT, hv, hle, hz, q⟩ := h
    rfl
  · obtain ⟨t, c, z, rfl, hT, hv, hle, hz, q⟩ := h
    refine ⟨_, (pss_runall (ic := 0) (ir := 1) (ik := 2) (is := 3) (it := 4) SC.nd rfl rfl rfl rfl rfl rfl (.inl rfl) (.inl rfl) rfl rfl rfl (by decide) (by decide) (by decide) (by decide) (by decide) (by decide)
       (pss_cons (ps_asg (pv 0) (pg_tup rfl (pgs_cons (pg_name (i := 2) SC.nd rfl (by first | exact Or.inl rfl | exact Or.inr rfl)) (pgs_cons (pg_name (i := 3) SC.nd rfl (by first | exact Or.inl rfl | exact Or.inr rfl)) (pgs_cons (pg_name (i := 4) SC.nd rfl (by first | exact Or.inl rfl | exact Or.inr rfl)) pgs_nil)))))
       (pss_cons (ps_if (pt_cmpR op_eq (pv 2) pe_str (nomark _)) (pss_one ps_never) pss_nil)
       (pss_cons (ps_if (pt_cmpR op_eq (pv 2) pe_str (nomark _)) (pss_one (ps_ret (pe_call G_swap_colours (hr.mono (by decide)) (by rfl) T.m_swap_colours T.F_swap_colours.kp T.b_swap_colours .nil pass0 (pa_cons (pv 1) (pa_cons (pv 3) (pa_cons (pv 4) pa_nil))))))
       pss_nil)
       (pss_one (ps_ret (pe_call G_recolour_one (hr.mono (by decide)) (by rfl) T.m_recolour_one T.F_recolour_one.kp T.b_recolour_one .nil pass0 (pa_cons (pv 1) (pa_cons (pv 2) (pa_cons (pv 3) (pa_cons (pv 4) pa_nil))))))))))), ?_⟩
    have hS := hT.1
    have ha : isC c.a = true := Cl.ok_a hv
    have hb : isC c.b = true := Cl.ok_b hv
    rcases Cl.kinds hv with hk | hk | ⟨m, hk, hm⟩
    · refine .inl ?_
      obtain ⟨y, w, hC, ey, ew, y0, w0, yw⟩ := hT.2 hk
      have hne := Cl.ok_ne hv
      refine ⟨t, y, w, z, rfl, hC, rfl, y0, w0, yw, by rw [ey, ew]; exact beq_eq_false_iff_ne.mpr hne, ?_, ?_⟩
      · have h1 : w.1.length = 1 := by rw [ew, ← sg_cc hb]; rfl
        rw [h1]
        have h2 : z.length ≤ 1000 := hz
        omega
      · have e : Txt.replace z y.1 w.1 = rowOf (run1 c z.cps.toList) := by
          rw [ey, ew, ← sg_cc ha, ← sg_cc hb, replace_sg, run_all hk]
          rfl
        rw [e]
        exact q _ (Same.refl _)
    · refine .inr ?_
      repeat (first | refine ⟨_, rfl, ?_⟩ | refine ⟨_, _, rfl, rfl, ?_⟩)
      refine ⟨_, _, rfl, hS, rfl, _, _, rfl, _, _, rfl, _, _, rfl, rfl, ?_⟩
      repeat (first | refine ⟨_, rfl, ?_⟩ | refine ⟨_, _, rfl, rfl, ?_⟩)
      refine ⟨scal_k _ _, _, rfl, if_two (fun h => ?_) (fun _ => ?_)⟩
      · rw [hk] at h
        exact absurd h (by decide)
      repeat (first | refine ⟨_, rfl, ?_⟩ | refine ⟨_, _, rfl, rfl, ?_⟩)
      refine ⟨scal_k _ _, _, rfl, if_two (fun _ => ?_) (fun h => absurd (by rw [hk]; rfl) h)⟩
      repeat (first | refine ⟨_, rfl, ?_⟩ | refine ⟨_, _, rfl, rfl, ?_⟩)
      refine ⟨z, cc c.a, cc c.b, by rw [sg_cc ha, sg_cc hb]; rfl, hz, cc_ne ha hb (Cl.ok_ne hv), fun H1 S1 => ?_⟩
      have q2 := q H1 S1
      rw [run_swap hk] at q2
      exact q2
    · refine .inr ?_
      repeat (first | refine ⟨_, rfl, ?_⟩ | refine ⟨_, _, rfl, rfl, ?_⟩)
      refine ⟨_, _, rfl, hS, rfl, _, _, rfl, _, _, rfl, _, _, rfl, rfl, ?_⟩
      repeat (first | refine ⟨_, rfl, ?_⟩ | refine ⟨_, _, rfl, rfl, ?_⟩)
      refine ⟨scal_k _ _, _, rfl, if_two (fun h => ?_) (fun _ => ?_)⟩
      · rw [hk] at h
        cases h
      repeat (first | refine ⟨_, rfl, ?_⟩ | refine ⟨_, _, rfl, rfl, ?_⟩)
      refine ⟨scal_k _ _, _, rfl, if_two (fun h => ?_) (fun _ => ?_)⟩
      · rw [hk] at h
        cases h
      repeat (first | refine ⟨_, rfl, ?_⟩ | refine ⟨_, _, rfl, rfl, ?_⟩)
      have hm2 := hle m hk
      refine ⟨z, m, cc c.a, cc c.b, by rw [hk, sg_cc ha, sg_cc hb]; rfl, hz, hm, by omega, fun H1 S1 => ?_⟩
      have q2 := q H1 S1
      rw [run_num hk] at q2
      exact q2
end Dr
namespace Dr
open PySem L2
theorem SC_run_calls : FnScope ["drill", "row", "call"] ["drill", "row"] (defScope s_run_calls) := ⟨rfl, rfl, rfl, by decide +kernel, rfl, by decide +kernel, by decide +kernel⟩

theorem ok_run_calls {P : Program} {w : World} {K : PySem.W.Frag} {mg : Str → Option Value} {base : Heap} (T : Txt K mg) (G_run_call : FnOk P w K mg base CX0 3 T.a_run_call T.fd_run_call ["call", "row"] (sp_run_call K)) : FnOk P w K mg base CX0 4 T.a_run_calls T.fd_run_calls ["drill", "row"] (sp_run_calls K) := by
  have SC := SC_run_calls
  refine T.F_run_calls.ok SC (fun vs H Q E h => ?_) (fun cdv A outer s H vs Q E hr h => ?_)
  · obtain ⟨d, D, z, rfl, ⟨ts, hts, hlen, hT⟩, hv, hle, hz, q⟩ := h
    rfl
  · obtain ⟨d, D, z, rfl, ⟨ts, hts, hlen, hT⟩, hv, hle, hz, q⟩ := h
    refine ⟨_, (pss_cons (ps_for PassesOwn.never rfl (pi_list (pv 0)) (pg_name (i := 2) SC.nd rfl (by first | exact Or.inl rfl | exact Or.inr rfl))
       (pss_one (ps_set (i := 1) SC.nd rfl (by first | exact Or.inl rfl | exact Or.inr rfl) (pe_call G_run_call (hr.mono (by decide)) (by rfl) T.m_run_call T.F_run_call.kp T.b_run_call .nil pass0 (pa_cons (pv 2) (pa_cons (pv 1) pa_nil))))))
       (pss_one (ps_ret (pv 1)))), ?_⟩
    repeat (first | refine ⟨_, rfl, ?_⟩ | refine ⟨_, _, rfl, rfl, ?_⟩)
    refine ⟨⟨_, hts⟩, ?_⟩
    refine for_it walk_list (fun i σ H' => Same H H' ∧ ∃ u : Option V, σ = [some (.ref d), some (.str (rowOf (runs (D.take i) z.cps.toList))), u]) ⟨Same.refl _, none, ?_⟩ (fun i σ H' _ h => h.1.seq hts) ?_ ?_
    · have e : rowOf (runs (D.take 0) z.cps.toList) = z := str_is rfl
      rw [e]
      rfl
    · rintro i y σ H1 H2 hi ⟨S, u, rfl⟩ ⟨rfl, hy⟩
      obtain ⟨t, ht, rfl⟩ := map_get hy
      obtain ⟨cl, hcl⟩ := get_of_lt (l := D) (by rw [← hlen]; exact lt_of_get ht)
      repeat (first | refine ⟨_, rfl, ?_⟩ | refine ⟨_, _, rfl, rfl, ?_⟩)
      refine ⟨t, cl, rowOf (runs (D.take i) z.cps.toList), rfl, (hT i t cl ht hcl).same S, hv cl (List.mem_of_getElem? hcl), hle cl (List.mem_of_getElem? hcl), ?_, fun H3 S3 => ?_⟩
      · have hl : z.cps.toList.length = z.cps.size := by simp
        show (runs (D.take i) z.cps.toList).toArray.size ≤ 1000
        rw [List.size_toArray, runs_len, hl]
        exact hz
      · refine ⟨S.trans S3, some (.ref t), ?_⟩
        rw [runs_more hcl]
        rfl
    · rintro σ H1 ⟨S, u, rfl⟩
      repeat (first | refine ⟨_, rfl, ?_⟩ | refine ⟨_, _, rfl, rfl, ?_⟩)
      rw [show (ts.map V.ref).length = D.length by simpa using hlen, List.take_length]
      exact q _ S
end Dr
namespace Dr
open PySem L2
theorem SC_run_drill : FnScope ["drill", "row"] ["drill", "row"] (defScope s_run_drill) := ⟨rfl, rfl, rfl, by decide +kernel, rfl, by decide +kernel, by decide +kernel⟩

theorem ok_run_drill {P : Program} {w : World} {K : PySem.W.Frag} {mg : Str → Option Value} {base : Heap} (T : Txt K mg) (G_check_drill : FnOk P w K mg base CX0 3 T.a_check_drill T.fd_check_drill ["drill"] (sp_check_drill K)) (G_check_row : FnOk P w K mg base CX0 2 T.a_check_row T.fd_check_row ["row"] (sp_check_row K)) (G_run_calls : FnOk P w K mg base CX0 4 T.a_run_calls T.fd_run_calls ["drill", "row"] (sp_run_calls K)) : FnOk P w K mg base CX0 5 T.a_run_drill T.fd_run_drill ["drill", "row"] (sp_run_drill K) := by
  have SC := SC_run_drill
  refine T.F_run_drill.ok SC (fun vs H Q E h => ?_) (fun cdv A outer s H vs Q E hr h => ?_)
  · obtain ⟨d, D, z, rfl, hD, hv, hle, hz, hc, q⟩ := h
    rfl
  · obtain ⟨d, D, z, rfl, hD, hv, hle, hz, hc, q⟩ := h
    refine ⟨_, (pss_cons (ps_expr (pe_call G_check_drill (hr.mono (by decide)) (by rfl) T.m_check_drill T.F_check_drill.kp T.b_check_drill .nil pass0 (pa_cons (pv 0) pa_nil)))
       (pss_cons (ps_expr (pe_call G_check_row (hr.mono (by decide)) (by rfl) T.m_check_row T.F_check_row.kp T.b_check_row .nil pass0 (pa_cons (pv 1) pa_nil)))
       (pss_one (ps_ret (pe_call G_run_calls (hr.mono (by decide)) (by rfl) T.m_run_calls T.F_run_calls.kp T.b_run_calls .nil pass0 (pa_cons (pv 0) (pa_cons (pv 1) pa_nil))))))), ?_⟩
    repeat (first | refine ⟨_, rfl, ?_⟩ | refine ⟨_, _, rfl, rfl, ?_⟩)
    refine ⟨d, D, rfl, hD.drill, hv, fun H1 S1 => ?_⟩
    repeat (first | refine ⟨_, rfl, ?_⟩ | refine ⟨_, _, rfl, rfl, ?_⟩)
    refine ⟨hc, fun H2 S2 => ?_⟩
    repeat (first | refine ⟨_, rfl, ?_⟩ | refine ⟨_, _, rfl, rfl, ?_⟩)
    have S12 := S1.trans S2
    exact ⟨d, D, z, rfl, hD.same S12, hv, hle, hz, fun H3 S3 => q _ (S12.trans S3)⟩
end Dr
namespace Dr
open PySem L2
theorem SC__law_source : FnScope ["script", "mix", "digits", "cell", "size"] ["script"] (defScope s__law_source) := ⟨rfl, rfl, rfl, by decide +kernel, rfl, by decide +kernel, by decide +kernel⟩

theorem ok__law_source {P : Program} {w : World} {K : PySem.W.Frag} {mg : Str → Option Value} {base : Heap} (T : Txt K mg)  : FnOk P w K mg base CX0 1 T.a__law_source T.fd__law_source ["script"] (sp_law_source K) := by
  have SC := SC__law_source
  refine T.F__law_source.ok SC (fun vs H Q E h => ?_) (fun cdv A outer s H vs Q E hr h => ?_)
  · obtain ⟨a, ns, rfl, hL, hlen, q⟩ := h
    rfl
  · obtain ⟨a, ns, rfl, hL, hlen, q⟩ := h
    refine ⟨_, (pss_cons (ps_set (i := 1) SC.nd rfl (by first | exact Or.inl rfl | exact Or.inr rfl) pe_int)
       (pss_cons (ps_set (i := 2) SC.nd rfl (by first | exact Or.inl rfl | exact Or.inr rfl) (pe_lst pa_nil))
       (pss_cons (ps_for PassesOwn.never rfl (pi_list (pv 0)) (pg_name (i := 3) SC.nd rfl (by first | exact Or.inl rfl | exact Or.inr rfl))
       (pss_cons (ps_set (i := 1) SC.nd rfl (by first | exact Or.inl rfl | exact Or.inr rfl) (pe_op op_mod (pe_op op_add (pe_op op_mul (pv 1) pe_int) (pv 3)) (pe_op op_sub (pe_op op_pow pe_int pe_int) pe_int)))
       (pss_cons (ps_set (i := 4) SC.nd rfl (by first | exact Or.inl rfl | exact Or.inr rfl) (pe_callB (call_max2 rfl) (by rfl) T.n_max (by decide +kernel) (pa_cons (pv 3) (pa_cons (pe_op op_sub pe_int (pv 3)) pa_nil))))
       (pss_one (ps_if (pt_cmpR op_ge (pv 4) (pe_op op_pow pe_int pe_int) (nomark _)) (pss_one (ps_expr (pe_bmK (K := K) rfl PySem.F.plainAttrs_list PySem.F.slot_list_append PySem.F.type_list_append mt_append (pv 2) (pa_cons (pe_op op_sub (pv 4) (pe_op op_pow pe_int pe_int)) pa_nil))))
       pss_nil)))))
       (pss_one (ps_ret (pe_lst (pa_cons (pv 2) (pa_cons pe_int (pa_cons (pv 1) (pa_cons pe_int pa_nil)))))))))), ?_⟩
    repeat (first | refine ⟨_, rfl, ?_⟩ | refine ⟨_, _, rfl, rfl, ?_⟩)
    refine ⟨by show 0 ≤ sizeLine; decide, fun p hp => ?_⟩
    repeat (first | refine ⟨_, rfl, ?_⟩ | refine ⟨_, _, rfl, rfl, ?_⟩)
    refine ⟨⟨_, (Same.new hp).seq hL⟩, ?_⟩
    refine for_it (walk_list (xs := ns.map V.int)) (fun i σ H' => Same H H' ∧ ∃ (ds : List Int) (m : Int) (u v : Option V), σ = [some (.ref a), some (.int m), some (.ref p), u, v] ∧ H' p = some (.lst (ds.map V.int)) ∧ ds.length ≤ i ∧ (∀ d ∈ ds, 0 ≤ d) ∧ 0 ≤ m ∧ m < 2305843009213693951)
      ⟨Same.new hp, [], 271828182845904, none, none, rfl, upd_same, Nat.le_refl _, (fun d h => absurd h List.not_mem_nil), by decide, by decide⟩ (fun i σ H' _ h => h.1.seq hL) ?_ ?_
    · rintro i y σ H1 H2 hi ⟨S, ds, m, u, v, rfl, hd, hdl, hd0, m0, m1⟩ ⟨rfl, hy⟩
      obtain ⟨n, hn, rfl⟩ := map_get hy
      rw [List.length_map] at hi
      repeat (first | refine ⟨_, rfl, ?_⟩ | refine ⟨_, _, rfl, rfl, ?_⟩)
      refine ⟨.inl ⟨by omega, by omega⟩, ?_⟩
      repeat (first | refine ⟨_, rfl, ?_⟩ | refine ⟨_, _, rfl, rfl, ?_⟩)
      refine ⟨⟨by decide, by decide, by decide⟩, ?_⟩
      repeat (first | refine ⟨_, rfl, ?_⟩ | refine ⟨_, _, rfl, rfl, ?_⟩)
      refine ⟨(by decide : (0 : Int) < 2 ^ (61 : Int).toNat - 1), ?_⟩
      have mm0 := Int.emod_nonneg (m * 1000033 + n) (show (2 : Int) ^ (61 : Int).toNat - 1 ≠ 0 by decide)
      have mm1 := Int.emod_lt_of_pos (m * 1000033 + n) (show (0 : Int) < 2 ^ (61 : Int).toNat - 1 by decide)
      have e61 : (2 : Int) ^ (61 : Int).toNat - 1 = 2305843009213693951 := by decide
      have mm2 : (m * 1000033 + n) % ((2 : Int) ^ (61 : Int).toNat - 1) < 2305843009213693951 := Int.lt_of_lt_of_le mm1 (Int.le_of_eq e61)
      repeat (first | refine ⟨_, rfl, ?_⟩ | refine ⟨_, _, rfl, rfl, ?_⟩)
      refine ⟨_, _, rfl, ?_⟩
      repeat (first | refine ⟨_, rfl, ?_⟩ | refine ⟨_, _, rfl, rfl, ?_⟩)
      refine ⟨⟨by decide, by decide, by decide⟩, ?_⟩
      repeat (first | refine ⟨_, rfl, ?_⟩ | refine ⟨_, _, rfl, rfl, ?_⟩)
      refine if_two (fun hk => ?_) (fun hk => ?_)
      · repeat (first | refine ⟨_, rfl, ?_⟩ | refine ⟨_, _, rfl, rfl, ?_⟩)
        refine ⟨.inl ⟨rfl, _, SqL.of hd⟩, ?_⟩
        repeat (first | refine ⟨_, rfl, ?_⟩ | refine ⟨_, _, rfl, rfl, ?_⟩)
        refine ⟨⟨by decide, by decide, by decide⟩, ?_⟩
        repeat (first | refine ⟨_, rfl, ?_⟩ | refine ⟨_, _, rfl, rfl, ?_⟩)
        refine ⟨p, _, _, rfl, rfl, hd, small1000 (by rw [List.length_map]; omega), ?_⟩
        refine ⟨ext_same S hp (Same.refl _), ds ++ [_], _, _, _, rfl, by rw [upd_same, List.map_append]; rfl, by rw [List.length_append, List.length_singleton]; omega, ?_, mm0, mm2⟩
        intro d hdm
        rcases List.mem_append.mp hdm with hdm | hdm
        · exact hd0 d hdm
        · rw [List.mem_singleton.mp hdm]
          have : (10 : Int) ^ (18 : Int).toNat ≤ (if (0 : Int) - n > n then 0 - n else n) := hk
          show (0 : Int) ≤ (if (0 : Int) - n > n then 0 - n else n) - 10 ^ (18 : Int).toNat
          omega
      · exact ⟨S, ds, _, _, _, rfl, hd, by omega, hd0, mm0, mm2⟩
    · rintro σ H1 ⟨S, ds, m, u, v, rfl, hd, hdl, hd0, m0, m1⟩
      repeat (first | refine ⟨_, rfl, ?_⟩ | refine ⟨_, _, rfl, rfl, ?_⟩)
      refine ⟨by show 4 ≤ sizeLine; decide, fun r hr => ?_⟩
      rw [List.length_map] at hdl
      have np : p ≠ r := ne_of_none hd hr
      exact q _ r p (S.trans (Same.new hr)) (S.free hr) hp ⟨np, ds, 0, m, 0, upd_same, (Same.new hr) _ _ hd, by omega, hd0, by decide, m0, m1, by decide, by decide⟩
end Dr
namespace Dr
open PySem L2
theorem SC__law_draw : FnScope ["source", "many", "drawn", "mixed"] ["source", "many"] (defScope s__law_draw) := ⟨rfl, rfl, rfl, by decide +kernel, rfl, by decide +kernel, by decide +kernel⟩

theorem ok__law_draw {P : Program} {w : World} {K : PySem.W.Frag} {mg : Str → Option Value} {base : Heap} (T : Txt K mg)  : FnOk P w K mg base CX0 1 T.a__law_draw T.fd__law_draw ["source", "many"] (sp_law_drawS K) := by
  have SC := SC__law_draw
  refine T.F__law_draw.ok SC (fun vs H Q E h => ?_) (fun cdv A outer s H vs Q E hr h => ?_)
  · obtain ⟨r, q0, lim, c, rfl, hR, hc, l0, l1, q⟩ := h
    rfl
  · obtain ⟨r, q0, lim, c, rfl, hR, hc, l0, l1, q⟩ := h
    refine ⟨_, (C8.pss_cut (ps_while PassesOwn.never (PW.pt (pw_and (pt_cmpR op_lt (pe_ix (ix_listK (K := K) rfl) (pv 0) pe_int (fun _ _ => rfl)) pe_int (nomark _)) (pw_and1 (pt_cmpR (op_neDK (K := K) rfl hr.units) (pe_ix (ix_listK (K := K) rfl) (pv 0) pe_int (fun _ _ => rfl)) (pe_lst pa_nil) (nomark _))))) (pss_one (ps_asg (pe_bmK (K := K) rfl PySem.F.plainAttrs_list PySem.F.slot_list_pop PySem.F.type_list_pop mt_popAt (pe_ix (ix_listK (K := K) rfl) (pv 0) pe_int (fun _ _ => rfl)) (pa_cons pe_int pa_nil)) (pg_sub (pv 0) pe_int set_list))))
       (pss_cons (ps_if (pt_cmpR op_ge (pe_ix (ix_listK (K := K) rfl) (pv 0) pe_int (fun _ _ => rfl)) pe_int (nomark _)) (pss_cons (ps_set (i := 2) SC.nd rfl (by first | exact Or.inl rfl | exact Or.inr rfl) (pe_op op_mod (pe_ix (ix_listK (K := K) rfl) (pv 0) pe_int (fun _ _ => rfl)) (pv 1)))
       (pss_cons (ps_asg (pe_op op_fdivW (pe_ix (ix_listK (K := K) rfl) (pv 0) pe_int (fun _ _ => rfl)) (pv 1)) (pg_sub (pv 0) pe_int set_list))
       (pss_one (ps_ret (pv 2)))))
       pss_nil)
       (pss_cons (ps_asg (pe_op op_add (pe_ix (ix_listK (K := K) rfl) (pv 0) pe_int (fun _ _ => rfl)) pe_int) (pg_sub (pv 0) pe_int set_list))
       (pss_cons (ps_set (i := 3) SC.nd rfl (by first | exact Or.inl rfl | exact Or.inr rfl) (pe_op op_mul (pe_op op_add (pe_ix (ix_listK (K := K) rfl) (pv 0) pe_int (fun _ _ => rfl)) pe_int) (pe_op op_pow (pe_op op_add (pe_ix (ix_listK (K := K) rfl) (pv 0) pe_int (fun _ _ => rfl)) pe_int) pe_int)))
       (pss_cons (ps_set (i := 3) SC.nd rfl (by first | exact Or.inl rfl | exact Or.inr rfl) (pe_op op_mod (pe_op op_add (pv 3) (pe_op op_mul pe_int (pe_ix (ix_listK (K := K) rfl) (pv 0) pe_int (fun _ _ => rfl)))) (pe_op op_sub (pe_op op_pow pe_int pe_int) pe_int)))
       (pss_one (ps_ret (pe_op op_mod (pe_op op_fdiv (pe_op op_mod (pe_op op_powW (pv 3) pe_int) (pe_op op_add (pe_op op_pow pe_int pe_int) pe_int)) pe_int) (pv 1))))))))), ?_⟩
    obtain ⟨nq, ds, a, m, n, h1, h2, h3, h4, h5, h6, h7, h8, h9⟩ := hR
    refine ⟨fun σ' H' => ∃ (ds : List Int) (a n : Int), σ' = [some (.ref r), some (.int lim), none, none] ∧ Same (hidL [r, q0] H) (hidL [r, q0] H') ∧ H' r = some (.lst [.ref q0, .int a, .int m, .int n]) ∧ H' q0 = some (.lst (ds.map V.int)) ∧ ds.length ≤ 1000 ∧ (∀ d ∈ ds, 0 ≤ d) ∧ 0 ≤ a ∧ 0 ≤ n ∧ n ≤ c, ?_, ?_⟩
    · refine ⟨fun k σ' H' => ∃ (ds : List Int) (a n : Int), σ' = [some (.ref r), some (.int lim), none, none] ∧ k = ds.length ∧ Same (hidL [r, q0] H) (hidL [r, q0] H') ∧ H' r = some (.lst [.ref q0, .int a, .int m, .int n]) ∧ H' q0 = some (.lst (ds.map V.int)) ∧ ds.length ≤ 1000 ∧ (∀ d ∈ ds, 0 ≤ d) ∧ 0 ≤ a ∧ 0 ≤ n ∧ n ≤ c,
        ⟨_, ds, a, n, rfl, rfl, Same.refl _, h1, h2, h3, h4, h5, h8, h9⟩, ?_⟩
      clear h1 h2 h3 h4 h5 h8 h9 ds a n
      rintro k σ' H1 ⟨ds, a, n, rfl, rfl, S1, g1, g2, g3, g4, g5, g8, g9⟩
      repeat (first | refine ⟨_, rfl, ?_⟩ | refine ⟨_, _, rfl, rfl, ?_⟩)
      refine ⟨r, _, 1, .int a, rfl, rfl, SqL.of g1, at_of (j := 1) rfl rfl, ?_⟩
      repeat (first | refine ⟨_, rfl, ?_⟩ | refine ⟨_, _, rfl, rfl, ?_⟩)
      refine if_two (fun ha => ?_) (fun ha => ?_)
      · repeat (first | refine ⟨_, rfl, ?_⟩ | refine ⟨_, _, rfl, rfl, ?_⟩)
        refine ⟨r, _, 0, .ref q0, rfl, rfl, SqL.of g1, at_of (j := 0) rfl rfl, ?_⟩
        repeat (first | refine ⟨_, rfl, ?_⟩ | refine ⟨_, _, rfl, rfl, ?_⟩)
        refine ⟨by show 0 ≤ sizeLine; decide, fun e he => ?_⟩
        have SE := Same.new (o := .lst []) he
        refine ⟨dIs ds, .list [], dp_is (SqL.of (SE _ _ g2)), .lst (SqL.of upd_same) .nil, shaped_is _, by decide +kernel, ?_⟩
        have S2 := S1.trans (hidL_new (rs := [r, q0]) (o := .lst []) he)
        have gg1 := SE _ _ g1
        have gg2 := SE _ _ g2
        generalize upd H1 e (.lst []) = H2 at S2 gg1 gg2 ⊢
        cases ds with
        | nil =>
          rw [show PyData.eqv (dIs []) (.list []) = true from eqv_nil, Bool.not_true]
          repeat (first | refine ⟨_, rfl, ?_⟩ | refine ⟨_, _, rfl, rfl, ?_⟩)
          refine iteF (A := True) ?_
          exact ⟨[], a, n, rfl, S2, gg1, gg2, g3, g4, g5, g8, g9⟩
        | cons d0 ds =>
          rw [show PyData.eqv (dIs (d0 :: ds)) (.list []) = false from eqv_no _ _, Bool.not_false]
          repeat (first | refine ⟨_, rfl, ?_⟩ | refine ⟨_, _, rfl, rfl, ?_⟩)
          refine iteT (B := True) ?_
          refine ⟨_, fun σ' H' h => ⟨ds.length, by show ds.length < ds.length + 1; omega, h⟩, ?_⟩
          repeat (first | refine ⟨_, rfl, ?_⟩ | refine ⟨_, _, rfl, rfl, ?_⟩)
          refine ⟨r, _, 0, .ref q0, rfl, rfl, SqL.of gg1, at_of (j := 0) rfl rfl, ?_⟩
          repeat (first | refine ⟨_, rfl, ?_⟩ | refine ⟨_, _, rfl, rfl, ?_⟩)
          refine ⟨.inl ⟨rfl, _, SqL.of gg2⟩, ?_⟩
          repeat (first | refine ⟨_, rfl, ?_⟩ | refine ⟨_, _, rfl, rfl, ?_⟩)
          refine ⟨q0, _, 0, 0, .int d0, rfl, rfl, gg2, by decide, by decide, (ixN_seq (ixN_nat (n := ((d0 :: ds).map V.int).length) (i := 0) (by simp))).1, rfl, ?_⟩
          repeat (first | refine ⟨_, rfl, ?_⟩ | refine ⟨_, _, rfl, rfl, ?_⟩)
          refine ⟨r, _, _, 1, rfl, rfl, by rw [upd_ne (Ne.symm nq)]; exact gg1, rfl, ?_⟩
          refine ⟨ds, d0, n, rfl, rfl, (S2.trans (hidL_upd (p := q0) (by simp))).trans (hidL_upd (p := r) (by simp)), upd_same, by rw [upd_ne nq]; exact upd_same, ?_, fun d hd => g4 d (List.mem_cons_of_mem _ hd), g4 d0 List.mem_cons_self, g8, g9⟩
          have g3' : ds.length + 1 ≤ 1000 := g3
          omega
      · exact ⟨ds, a, n, rfl, S1, g1, g2, g3, g4, g5, g8, g9⟩
    clear h1 h2 h3 h4 h5 h8 h9 ds a n
    rintro σ' H1 ⟨ds, a, n, rfl, S1, g1, g2, g3, g4, g5, g8, g9⟩
    repeat (first | refine ⟨_, rfl, ?_⟩ | refine ⟨_, _, rfl, rfl, ?_⟩)
    refine ⟨r, _, 1, .int a, rfl, rfl, SqL.of g1, at_of (j := 1) rfl rfl, ?_⟩
    repeat (first | refine ⟨_, rfl, ?_⟩ | refine ⟨_, _, rfl, rfl, ?_⟩)
    refine if_two (fun ha => ?_) (fun ha => ?_)
    · repeat (first | refine ⟨_, rfl, ?_⟩ | refine ⟨_, _, rfl, rfl, ?_⟩)
      refine ⟨r, _, 1, .int a, rfl, rfl, SqL.of g1, at_of (j := 1) rfl rfl, ?_⟩
      repeat (first | refine ⟨_, rfl, ?_⟩ | refine ⟨_, _, rfl, rfl, ?_⟩)
      refine ⟨l0, ?_⟩
      repeat (first | refine ⟨_, rfl, ?_⟩ | refine ⟨_, _, rfl, rfl, ?_⟩)
      refine ⟨r, _, 1, .int a, rfl, rfl, SqL.of g1, at_of (j := 1) rfl rfl, ?_⟩
      repeat (first | refine ⟨_, rfl, ?_⟩ | refine ⟨_, _, rfl, rfl, ?_⟩)
      refine ⟨wide_div (b := 60) l0 (Nat.lt_of_le_of_lt (by omega : lim.natAbs ≤ 1000000000000000) (by decide)) (by decide) (by decide), ?_⟩
      repeat (first | refine ⟨_, rfl, ?_⟩ | refine ⟨_, _, rfl, rfl, ?_⟩)
      refine ⟨r, _, _, 1, rfl, rfl, g1, rfl, ?_⟩
      repeat (first | refine ⟨_, rfl, ?_⟩ | refine ⟨_, _, rfl, rfl, ?_⟩)
      refine q _ _ (S1.trans (hidL_upd (p := r) (by simp))) ⟨nq, ds, a / lim, m, n, upd_same, by rw [upd_ne nq]; exact g2, g3, g4, Int.ediv_nonneg g5 (by omega), h6, h7, g8, by omega⟩ (Int.emod_nonneg _ (by omega)) (Int.emod_lt_of_pos _ l0)
    · repeat (first | refine ⟨_, rfl, ?_⟩ | refine ⟨_, _, rfl, rfl, ?_⟩)
      refine ⟨r, _, 3, .int n, rfl, rfl, SqL.of g1, at_of (j := 3) rfl rfl, ?_⟩
      repeat (first | refine ⟨_, rfl, ?_⟩ | refine ⟨_, _, rfl, rfl, ?_⟩)
      refine ⟨r, _, _, 3, rfl, rfl, g1, rfl, ?_⟩
      have k1 : upd H1 r (.lst ([V.ref q0, .int a, .int m, .int n].set 3 (.int (n + 1)))) r = some (.lst [.ref q0, .int a, .int m, .int (n + 1)]) := upd_same
      have k2 : upd H1 r (.lst ([V.ref q0, .int a, .int m, .int n].set 3 (.int (n + 1)))) q0 = some (.lst (ds.map V.int)) := by rw [upd_ne nq]; exact g2
      have S2 := S1.trans (hidL_upd (rs := [r, q0]) (p := r) (o := .lst ([V.ref q0, .int a, .int m, .int n].set 3 (.int (n + 1)))) (by simp))
      repeat (first | refine ⟨_, rfl, ?_⟩ | refine ⟨_, _, rfl, rfl, ?_⟩)
      generalize upd H1 r _ = H2 at k1 k2 S2 ⊢
      repeat (first | refine ⟨_, rfl, ?_⟩ | refine ⟨_, _, rfl, rfl, ?_⟩)
      refine ⟨r, _, 2, .int m, rfl, rfl, SqL.of k1, at_of (j := 2) rfl rfl, ?_⟩
      repeat (first | refine ⟨_, rfl, ?_⟩ | refine ⟨_, _, rfl, rfl, ?_⟩)
      refine ⟨r, _, 3, .int (n + 1), rfl, rfl, SqL.of k1, at_of (j := 3) rfl rfl, ?_⟩
      repeat (first | refine ⟨_, rfl, ?_⟩ | refine ⟨_, _, rfl, rfl, ?_⟩)
      refine ⟨⟨by decide, by decide, by show (n + 1 + 3).natAbs < 2 ^ 64; omega⟩, ?_⟩
      repeat (first | refine ⟨_, rfl, ?_⟩ | refine ⟨_, _, rfl, rfl, ?_⟩)
      refine ⟨.inl ⟨by omega, by omega⟩, ?_⟩
      repeat (first | refine ⟨_, rfl, ?_⟩ | refine ⟨_, _, rfl, rfl, ?_⟩)
      refine ⟨r, _, 3, .int (n + 1), rfl, rfl, SqL.of k1, at_of (j := 3) rfl rfl, ?_⟩
      repeat (first | refine ⟨_, rfl, ?_⟩ | refine ⟨_, _, rfl, rfl, ?_⟩)
      refine ⟨.inl ⟨by decide, by decide⟩, ?_⟩
      repeat (first | refine ⟨_, rfl, ?_⟩ | refine ⟨_, _, rfl, rfl, ?_⟩)
      refine ⟨⟨by decide, by decide, by decide⟩, ?_⟩
      repeat (first | refine ⟨_, rfl, ?_⟩ | refine ⟨_, _, rfl, rfl, ?_⟩)
      refine ⟨(by decide : (0 : Int) < 2 ^ (61 : Int).toNat - 1), ?_⟩
      have mm0 := Int.emod_nonneg ((m + 7) * (n + 1 + 3) ^ (3 : Int).toNat + 1000081 * (n + 1)) (show (2 : Int) ^ (61 : Int).toNat - 1 ≠ 0 by decide)
      have mm1 := Int.emod_lt_of_pos ((m + 7) * (n + 1 + 3) ^ (3 : Int).toNat + 1000081 * (n + 1)) (show (0 : Int) < 2 ^ (61 : Int).toNat - 1 by decide)
      have mm2 : ((m + 7) * (n + 1 + 3) ^ (3 : Int).toNat + 1000081 * (n + 1)) % ((2 : Int) ^ (61 : Int).toNat - 1) < 2 ^ 61 := Int.lt_of_lt_of_le mm1 (by decide)
      repeat (first | refine ⟨_, rfl, ?_⟩ | refine ⟨_, _, rfl, rfl, ?_⟩)
      refine ⟨pow5_ok (by
        have e : (2 : Nat) ^ 61 < 2 ^ 200 := by decide
        have e2 : ((2 : Int) ^ 61) = ((2 ^ 61 : Nat) : Int) := by decide
        rw [e2] at mm2
        show (((m + 7) * (n + 1 + 3) ^ (3 : Int).toNat + 1000081 * (n + 1)) % ((2 : Int) ^ (61 : Int).toNat - 1)).natAbs < 2 ^ 200
        generalize ((m + 7) * (n + 1 + 3) ^ (3 : Int).toNat + 1000081 * (n + 1)) % ((2 : Int) ^ (61 : Int).toNat - 1) = x at mm0 mm2
        omega), ?_⟩
      repeat (first | refine ⟨_, rfl, ?_⟩ | refine ⟨_, _, rfl, rfl, ?_⟩)
      refine ⟨⟨by decide, by decide, by decide⟩, ?_⟩
      repeat (first | refine ⟨_, rfl, ?_⟩ | refine ⟨_, _, rfl, rfl, ?_⟩)
      refine ⟨(by decide : (0 : Int) < 10 ^ (18 : Int).toNat + 9), ?_⟩
      repeat (first | refine ⟨_, rfl, ?_⟩ | refine ⟨_, _, rfl, rfl, ?_⟩)
      refine ⟨⟨by decide, by decide⟩, ?_⟩
      repeat (first | refine ⟨_, rfl, ?_⟩ | refine ⟨_, _, rfl, rfl, ?_⟩)
      refine ⟨l0, ?_⟩
      exact q _ _ S2 ⟨nq, ds, a, m, n + 1, k1, k2, g3, g4, g5, h6, h7, by omega, by omega⟩ (Int.emod_nonneg _ (by omega)) (Int.emod_lt_of_pos _ l0)
end Dr
namespace Dr
open PySem L2
theorem SC__law_shuffled : FnScope ["source", "items", "left", "k"] ["source", "items"] (defScope s__law_shuffled) := ⟨rfl, rfl, rfl, by decide +kernel, rfl, by decide +kernel, by decide +kernel⟩

theorem ok__law_shuffled {P : Program} {w : World} {K : PySem.W.Frag} {mg : Str → Option Value} {base : Heap} (T : Txt K mg) (G__law_draw : FnOk P w K mg base CX0 1 T.a__law_draw T.fd__law_draw ["source", "many"] (sp_law_drawS K)) : FnOk P w K mg base CX0 2 T.a__law_shuffled T.fd__law_shuffled ["source", "items"] (sp_shufF K) := by
  have SC := SC__law_shuffled
  refine T.F__law_shuffled.ok SC (fun vs H Q E h => ?_) (fun cdv A outer s H vs Q E hr h => ?_)
  · obtain ⟨r, q0, a, qs, c, rfl, hR, hc, hF, hT, hq, fin⟩ := h
    rfl
  · obtain ⟨r, q0, a, qs, c, rfl, hR, hc, hF, hT, hq, fin⟩ := h
    refine ⟨_, (pss_cons (ps_set (i := 2) SC.nd rfl (by first | exact Or.inl rfl | exact Or.inr rfl) (pe_callTy (call_listF K) (by rfl) T.n_list (by decide +kernel) (pa_cons (pv 1) pa_nil)))
       (pss_one (ps_ret (pe_frz (pe_lcV (own := [("k", 3)]) rfl SC.nd (pi_range1 (by rfl) T.n_range (pa_cons (pe_callB call_lenT (by rfl) T.n_len (by decide +kernel) (pa_cons (pv 2) pa_nil)) pa_nil)) (blkOk_by (N := ["source", "items", "left", "k"]) (sc := defScope s__law_shuffled) (by decide +kernel)) (fun _ _ _ _ _ => by exact pg_name (i := 3) SC.nd rfl (by first | exact Or.inl rfl | exact Or.inr rfl)) (fun _ _ _ _ _ => by exact pts_nil) (fun _ _ _ _ _ => by exact pev_pop (pv 2) (pa_cons (pe_call G__law_draw (hr.mono (by decide)) (by rfl) T.m__law_draw T.F__law_draw.kp T.b__law_draw .nil pass0 (pa_cons (pv 0) (pa_cons (pe_callB call_lenT (by rfl) T.n_len (by decide +kernel) (pa_cons (pv 2) pa_nil)) pa_nil))) pa_nil))))))), ?_⟩
    repeat (first | refine ⟨_, rfl, ?_⟩ | refine ⟨_, _, rfl, rfl, ?_⟩)
    refine ⟨a, qs, rfl, hF, fun L hLn => ?_⟩
    have LL := upd_at (o := TLst L (qs.map tv)) hLn
    have S1 : Same (hidL [r, q0] H) (hidL [r, q0] (upd H L (TLst L (qs.map tv)))) := hidL_new hLn
    have hR1 := hR.new (o := TLst L (qs.map tv)) hLn
    have nin' := hR.nin hLn
    generalize upd H L (TLst L (qs.map tv)) = H1 at LL S1 hR1 ⊢
    repeat (first | refine ⟨_, rfl, ?_⟩ | refine ⟨_, _, rfl, rfl, ?_⟩)
    refine ⟨L, _, rfl, LL, by rw [List.length_map]; exact Nat.le_trans hq (by decide), ?_⟩
    rw [List.length_map]
    repeat (first | refine ⟨_, rfl, ?_⟩ | refine ⟨_, _, rfl, rfl, ?_⟩)
    refine ⟨by omega, by omega, fun D hD => ?_⟩
    have nL := nin'
    refine lcv_it walk_range (fun i H' => ∃ got rest : List Tx, Same (hidL [r, q0] H) (hidL [r, q0] H') ∧ Src H' r q0 (c + i) ∧ H' L = some (TLst L (rest.map tv)) ∧ H' D = some (TLst D (got.map tv)) ∧ (got ++ rest).Perm qs ∧ got.length = i) ⟨[], qs, S1.trans (hidL_new hD), hR1.new hD, (Same.new hD) _ _ LL, upd_same, List.Perm.refl _, rfl⟩ (fun _ _ _ _ => trivial) ?_ ?_
    · rintro i y H2 H3 hi ⟨got, rest, S2, R2, hl, hd, hp, hg⟩ ⟨rfl, rfl⟩
      refine ⟨rfl, ?_⟩
      have hlen := hp.length_eq
      rw [List.length_append, hg] at hlen
      repeat (first | refine ⟨_, rfl, ?_⟩ | refine ⟨_, _, rfl, rfl, ?_⟩)
      refine ⟨L, _, rfl, hl, ?_⟩
      repeat (first | refine ⟨_, rfl, ?_⟩ | refine ⟨_, _, rfl, rfl, ?_⟩)
      refine ⟨L, _, rfl, hl, by rw [List.length_map]; exact Nat.le_trans (by omega : rest.length ≤ 1000) (by decide), ?_⟩
      rw [List.length_map]
      refine ⟨r, q0, _, c + i, rfl, R2, by omega, by omega, by omega, fun H4 n4 S4 R4 a0 a1 => ?_⟩
      obtain ⟨k, rfl⟩ : ∃ k : Nat, n4 = (k : Int) := ⟨n4.toNat, by omega⟩
      obtain ⟨x, hx⟩ := get_of_lt (l := rest) (i := k) (by omega)
      have hl4 := extL_get S4 nL hl
      have nD : D ∉ [r, q0] := hR1.nin hD
      have hd4 := extL_get S4 nD hd
      refine ⟨(k : Int), k, rest.map tv, tv x, rfl, hl4, by rw [List.length_map]; exact Nat.le_trans (by omega : rest.length ≤ 1000) (by decide), by omega, by omega, ixN_nat (by rw [List.length_map]; omega), by rw [List.getElem?_map, hx]; rfl, ?_⟩
      have nLD : D ≠ L := fun z => by
        rw [z, LL] at hD
        cases hD
      rw [erase_map]
      have hd5 : upd H4 L (TLst L ((rest.eraseIdx k).map tv)) D = some (TLst D (got.map tv)) := by rw [upd_ne nLD]; exact hd4
      refine ⟨got.map tv, hd5, by rw [List.length_map]; exact small1000 (by omega), ?_⟩
      refine ⟨got ++ [x], rest.eraseIdx k, extL_upd (extL_upd (S2.trans S4) nL hLn) nD (extL_free S1 nD hD), ((R4.upd nL).upd nD).mono (by omega), by rw [upd_ne (Ne.symm nLD)]; exact upd_same, by rw [upd_same, List.map_append]; rfl, pop_perm hp hx, by rw [List.length_append, hg]; rfl⟩
    · rintro H' ⟨got, rest, S2, R2, hl, hd, hp, hg⟩
      have hlen := hp.length_eq
      rw [List.length_append, hg] at hlen
      have hr0 : rest = [] := List.eq_nil_of_length_eq_zero (by omega)
      rw [hr0, List.append_nil] at hp
      refine ⟨D, got, rfl, hd, Nat.le_trans (by omega : got.length ≤ 1000) (by decide), fun u hu => ?_⟩
      repeat (first | refine ⟨_, rfl, ?_⟩ | refine ⟨_, _, rfl, rfl, ?_⟩)
      have nD : D ∉ [r, q0] := hR1.nin hD
      refine fin _ D got (extL_upd S2 nD (extL_free S1 nD hD)) ((R2.upd nD).mono (by omega)) (extL_free S1 nD hD) nD hu (hT.perm hp.symm) hp
theorem ok__law_shuffled_P {P : Program} {w : World} {K : PySem.W.Frag} {mg : Str → Option Value} {base : Heap} (T : Txt K mg) (G__law_draw : FnOk P w K mg base CX0 1 T.a__law_draw T.fd__law_draw ["source", "many"] (sp_law_drawS K)) : FnOk P w K mg base CX0 2 T.a__law_shuffled T.fd__law_shuffled ["source", "items"] (sp_shufP K) := by
  have SC := SC__law_shuffled
  refine T.F__law_shuffled.ok SC (fun vs H Q E h => ?_) (fun cdv A outer s H vs Q E hr h => ?_)
  · obtain ⟨r, q0, z, c, rfl, hR, hc, hz, fin⟩ := h
    rfl
  · obtain ⟨r, q0, z, c, rfl, hR, hc, hz, fin⟩ := h
    refine ⟨_, (pss_cons (ps_set (i := 2) SC.nd rfl (by first | exact Or.inl rfl | exact Or.inr rfl) (pe_callTy (call_list_text rfl) (by rfl) T.n_list (by decide +kernel) (pa_cons (pv 1) pa_nil)))
       (pss_one (ps_ret (pe_lc (own := [("k", 3)]) rfl SC.nd (pi_range1 (by rfl) T.n_range (pa_cons (pe_callB (call_len_seqK (K := K) rfl) (by rfl) T.n_len (by decide +kernel) (pa_cons (pv 2) pa_nil)) pa_nil)) (blkOk_by (N := ["source", "items", "left", "k"]) (sc := defScope s__law_shuffled) (by decide +kernel)) (fun _ _ _ _ _ => by exact pg_name (i := 3) SC.nd rfl (by first | exact Or.inl rfl | exact Or.inr rfl)) (fun _ _ _ _ _ => by exact pts_nil) (fun _ _ _ _ _ => by exact (pe_bmK (K := K) rfl PySem.F.plainAttrs_list PySem.F.slot_list_pop PySem.F.type_list_pop mt_popAt (pv 2) (pa_cons (pe_call G__law_draw (hr.mono (by decide)) (by rfl) T.m__law_draw T.F__law_draw.kp T.b__law_draw .nil pass0 (pa_cons (pv 0) (pa_cons (pe_callB (call_len_seqK (K := K) rfl) (by rfl) T.n_len (by decide +kernel) (pa_cons (pv 2) pa_nil)) pa_nil))) pa_nil))))))), ?_⟩
    repeat (first | refine ⟨_, rfl, ?_⟩ | refine ⟨_, _, rfl, rfl, ?_⟩)
    refine ⟨Nat.le_trans hz (by decide), fun L hLn => ?_⟩
    have hz2 : z.cps.toList.length ≤ 1000 := by simpa using hz
    rw [show (z.cps.toList.map fun c => V.str ⟨#[c]⟩) = (z.cps.toList.map sg).map V.str by rw [List.map_map]; rfl]
    have LL := upd_at (o := .lst ((z.cps.toList.map sg).map V.str)) hLn
    have S1 : Same (hidL [r, q0] H) (hidL [r, q0] (upd H L (.lst ((z.cps.toList.map sg).map V.str)))) := hidL_new hLn
    have hR1 := hR.new (o := .lst ((z.cps.toList.map sg).map V.str)) hLn
    have nL := hR.nin hLn
    generalize upd H L (.lst ((z.cps.toList.map sg).map V.str)) = H1 at LL S1 hR1 ⊢
    repeat (first | refine ⟨_, rfl, ?_⟩ | refine ⟨_, _, rfl, rfl, ?_⟩)
    refine ⟨_, _, rfl, .inl (SqL.of LL), ?_⟩
    rw [List.length_map, List.length_map]
    repeat (first | refine ⟨_, rfl, ?_⟩ | refine ⟨_, _, rfl, rfl, ?_⟩)
    refine ⟨by omega, by omega, fun D hD => ?_⟩
    have nD : D ∉ [r, q0] := hR1.nin hD
    have hDH := extL_free S1 nD hD
    have nLD : D ≠ L := fun z => by
      rw [z, LL] at hD
      cases hD
    refine lc_it walk_range (fun i H' => ∃ got rest : List Str, Same (hidL [r, q0] H) (hidL [r, q0] H') ∧ Src H' r q0 (c + i) ∧ H' L = some (.lst (rest.map V.str)) ∧ H' D = some (.lst (got.map V.str)) ∧ (got ++ rest).Perm (z.cps.toList.map sg) ∧ got.length = i) ⟨[], _, S1.trans (hidL_new hD), hR1.new hD, (Same.new hD) _ _ LL, upd_same, List.Perm.refl _, rfl⟩ (fun _ _ _ _ => trivial) ?_ ?_
    · rintro i y H2 H3 hi ⟨got, rest, S2, R2, hl, hd, hp, hg⟩ ⟨rfl, rfl⟩
      refine ⟨rfl, ?_⟩
      have hlen := hp.length_eq
      rw [List.length_append, hg, List.length_map] at hlen
      repeat (first | refine ⟨_, rfl, ?_⟩ | refine ⟨_, _, rfl, rfl, ?_⟩)
      refine ⟨.inl ⟨rfl, _, SqL.of hl⟩, ?_⟩
      repeat (first | refine ⟨_, rfl, ?_⟩ | refine ⟨_, _, rfl, rfl, ?_⟩)
      refine ⟨_, _, rfl, .inl (SqL.of hl), ?_⟩
      rw [List.length_map]
      refine ⟨r, q0, _, c + i, rfl, R2, by omega, by omega, by omega, fun H4 n4 S4 R4 a0 a1 => ?_⟩
      obtain ⟨j, x, rfl, hj, hx, _, _⟩ := pick (xs := rest) a0 a1
      refine ⟨L, _, _, j, .str x, rfl, rfl, extL_get S4 nL hl, by omega, by omega, (ixN_seq (by rw [List.length_map]; exact ixN_nat hj)).1, by rw [List.getElem?_map, hx]; rfl, ?_⟩
      have hd4 := extL_get S4 nD hd
      refine ⟨_, by rw [upd_ne nLD]; exact hd4, by rw [List.length_map]; exact small1000 (by omega), ?_⟩
      refine ⟨got ++ [x], rest.eraseIdx j, extL_upd (extL_upd (S2.trans S4) nL hLn) nD hDH, ((R4.upd nL).upd nD).mono (by omega), ?_, ?_, pop_permA hp hx, by rw [List.length_append, hg]; rfl⟩
      · rw [upd_ne (Ne.symm nLD), upd_same, erase_map]
      · rw [upd_same, List.map_append]; rfl
    · rintro H' ⟨got, rest, S2, R2, hl, hd, hp, hg⟩
      have hlen := hp.length_eq
      rw [List.length_append, hg, List.length_map] at hlen
      have hr0 : rest = [] := List.eq_nil_of_length_eq_zero (by omega)
      rw [hr0, List.append_nil] at hp
      exact fin _ _ _ S2 (R2.mono (by omega)) hDH nD hd hp
theorem ok__law_shuffled_T {P : Program} {w : World} {K : PySem.W.Frag} {mg : Str → Option Value} {base : Heap} (T : Txt K mg) (G__law_draw : FnOk P w K mg base CX0 1 T.a__law_draw T.fd__law_draw ["source", "many"] (sp_law_drawS K)) : FnT P w K mg base CX0 2 T.a__law_shuffled T.fd__law_shuffled ["source", "items"] (sp_shufT K) := by
  have SC := SC__law_shuffled
  refine okT T.F__law_shuffled SC (fun vs H Q E h => ?_) (fun cdv A outer s H vs Q E hr h => ?_)
  · obtain ⟨r, q0, z, c, rfl, hR, hc, hz, hq0, fin⟩ := h
    rfl
  · obtain ⟨r, q0, z, c, rfl, hR, hc, hz, hq0, fin⟩ := h
    refine ⟨_, (psst_cons (pst_set (i := 2) SC.nd rfl (by first | exact Or.inl rfl | exact Or.inr rfl) (pet_list rfl (by rfl) T.n_list (by decide +kernel) (pv 1))) (PSsT.of (pss_one (ps_ret (pe_frz (pe_lcV (own := [("k", 3)]) rfl SC.nd (pi_range1 (by rfl) T.n_range (pa_cons (pe_callB call_lenT (by rfl) T.n_len (by decide +kernel) (pa_cons (pv 2) pa_nil)) pa_nil)) (blkOk_by (N := ["source", "items", "left", "k"]) (sc := defScope s__law_shuffled) (by decide +kernel)) (fun _ _ _ _ _ => by exact pg_name (i := 3) SC.nd rfl (by first | exact Or.inl rfl | exact Or.inr rfl)) (fun _ _ _ _ _ => by exact pts_nil) (fun _ _ _ _ _ => by exact pev_pop (pv 2) (pa_cons (pe_call G__law_draw (hr.mono (by decide)) (by rfl) T.m__law_draw T.F__law_draw.kp T.b__law_draw .nil pass0 (pa_cons (pv 0) (pa_cons (pe_callB call_lenT (by rfl) T.n_len (by decide +kernel) (pa_cons (pv 2) pa_nil)) pa_nil))) pa_nil)))))))), ?_⟩
    repeat (first | refine ⟨_, rfl, ?_⟩ | refine ⟨_, _, rfl, rfl, ?_⟩)
    refine ⟨hz, Nat.le_trans hq0 (by decide), fun L t0 hLn ht0 => ?_⟩
    obtain ⟨qs, eqs⟩ : ∃ qs, qs = sgs z.cps.toList t0 := ⟨_, rfl⟩
    have hT : Tks qs := by rw [eqs]; exact sgs_tks _ ht0
    have hq1 : qs.map (·.1) = z.cps.toList.map sg := by rw [eqs]; exact sgs_fst _ _
    have hq : qs.length ≤ 1000 := by
      have e := congrArg List.length hq1
      rw [List.length_map, List.length_map] at e
      rw [e]
      simpa using hq0
    rw [sgs_signs, ← eqs]
    have LL := upd_at (o := TLst L (qs.map tv)) hLn
    have S1 : Same (hidL [r, q0] H) (hidL [r, q0] (upd H L (TLst L (qs.map tv)))) := hidL_new hLn
    have hR1 := hR.new (o := TLst L (qs.map tv)) hLn
    have nin' := hR.nin hLn
    generalize upd H L (TLst L (qs.map tv)) = H1 at LL S1 hR1 ⊢
    repeat (first | refine ⟨_, rfl, ?_⟩ | refine ⟨_, _, rfl, rfl, ?_⟩)
    refine ⟨L, _, rfl, LL, by rw [List.length_map]; exact Nat.le_trans hq (by decide), ?_⟩
    rw [List.length_map]
    repeat (first | refine ⟨_, rfl, ?_⟩ | refine ⟨_, _, rfl, rfl, ?_⟩)
    refine ⟨by omega, by omega, fun D hD => ?_⟩
    have nL := nin'
    refine lcv_it walk_range (fun i H' => ∃ got rest : List Tx, Same (hidL [r, q0] H) (hidL [r, q0] H') ∧ Src H' r q0 (c + i) ∧ H' L = some (TLst L (rest.map tv)) ∧ H' D = some (TLst D (got.map tv)) ∧ (got ++ rest).Perm qs ∧ got.length = i) ⟨[], qs, S1.trans (hidL_new hD), hR1.new hD, (Same.new hD) _ _ LL, upd_same, List.Perm.refl _, rfl⟩ (fun _ _ _ _ => trivial) ?_ ?_
    · rintro i y H2 H3 hi ⟨got, rest, S2, R2, hl, hd, hp, hg⟩ ⟨rfl, rfl⟩
      refine ⟨rfl, ?_⟩
      have hlen := hp.length_eq
      rw [List.length_append, hg] at hlen
      repeat (first | refine ⟨_, rfl, ?_⟩ | refine ⟨_, _, rfl, rfl, ?_⟩)
      refine ⟨L, _, rfl, hl, ?_⟩
      repeat (first | refine ⟨_, rfl, ?_⟩ | refine ⟨_, _, rfl, rfl, ?_⟩)
      refine ⟨L, _, rfl, hl, by rw [List.length_map]; exact Nat.le_trans (by omega : rest.length ≤ 1000) (by decide), ?_⟩
      rw [List.length_map]
      refine ⟨r, q0, _, c + i, rfl, R2, by omega, by omega, by omega, fun H4 n4 S4 R4 a0 a1 => ?_⟩
      obtain ⟨k, rfl⟩ : ∃ k : Nat, n4 = (k : Int) := ⟨n4.toNat, by omega⟩
      obtain ⟨x, hx⟩ := get_of_lt (l := rest) (i := k) (by omega)
      have hl4 := extL_get S4 nL hl
      have nD : D ∉ [r, q0] := hR1.nin hD
      have hd4 := extL_get S4 nD hd
      refine ⟨(k : Int), k, rest.map tv, tv x, rfl, hl4, by rw [List.length_map]; exact Nat.le_trans (by omega : rest.length ≤ 1000) (by decide), by omega, by omega, ixN_nat (by rw [List.length_map]; omega), by rw [List.getElem?_map, hx]; rfl, ?_⟩
      have nLD : D ≠ L := fun z => by
        rw [z, LL] at hD
        cases hD
      rw [erase_map]
      have hd5 : upd H4 L (TLst L ((rest.eraseIdx k).map tv)) D = some (TLst D (got.map tv)) := by rw [upd_ne nLD]; exact hd4
      refine ⟨got.map tv, hd5, by rw [List.length_map]; exact small1000 (by omega), ?_⟩
      refine ⟨got ++ [x], rest.eraseIdx k, extL_upd (extL_upd (S2.trans S4) nL hLn) nD (extL_free S1 nD hD), ((R4.upd nL).upd nD).mono (by omega), by rw [upd_ne (Ne.symm nLD)]; exact upd_same, by rw [upd_same, List.map_append]; rfl, pop_perm hp hx, by rw [List.length_append, hg]; rfl⟩
    · rintro H' ⟨got, rest, S2, R2, hl, hd, hp, hg⟩
      have hlen := hp.length_eq
      rw [List.length_append, hg] at hlen
      have hr0 : rest = [] := List.eq_nil_of_length_eq_zero (by omega)
      rw [hr0, List.append_nil] at hp
      refine ⟨D, got, rfl, hd, Nat.le_trans (by omega : got.length ≤ 1000) (by decide), fun u hu => ?_⟩
      repeat (first | refine ⟨_, rfl, ?_⟩ | refine ⟨_, _, rfl, rfl, ?_⟩)
      have nD : D ∉ [r, q0] := hR1.nin hD
      refine fin _ D got (extL_upd S2 nD (extL_free S1 nD hD)) ((R2.upd nD).mono (by omega)) (extL_free S1 nD hD) nD hu (hT.perm hp.symm) (by rw [← hq1]; exact hp.map _)
end Dr
namespace Dr
open PySem L2
theorem SC__law_line : FnScope ["source", "most", "letters", "k"] ["source", "most"] (defScope s__law_line) := ⟨rfl, rfl, rfl, by decide +kernel, rfl, by decide +kernel, by decide +kernel⟩

theorem ok__law_line {P : Program} {w : World} {K : PySem.W.Frag} {mg : Str → Option Value} {base : Heap} (T : Txt K mg) (G__law_shuffled : FnOk P w K mg base CX0 2 T.a__law_shuffled T.fd__law_shuffled ["source", "items"] (sp_shufF K)) (G__law_shuffled_P : FnOk P w K mg base CX0 2 T.a__law_shuffled T.fd__law_shuffled ["source", "items"] (sp_shufP K)) (G__law_shuffled_T : FnT P w K mg base CX0 2 T.a__law_shuffled T.fd__law_shuffled ["source", "items"] (sp_shufT K)) (G__law_draw : FnOk P w K mg base CX0 1 T.a__law_draw T.fd__law_draw ["source", "many"] (sp_law_drawS K)) : FnOk P w K mg base CX0 3 T.a__law_line T.fd__law_line ["source", "most"] (sp_lineS K) := by
  have SC := SC__law_line
  refine T.F__law_line.ok SC (fun vs H Q E h => ?_) (fun cdv A outer s H vs Q E hr h => ?_)
  · obtain ⟨r, q0, most, c, rfl, hR, hc, l0, l1, fin⟩ := h
    rfl
  · obtain ⟨r, q0, most, c, rfl, hR, hc, l0, l1, fin⟩ := h
    refine ⟨_, (pss_cons (ps_set (i := 2) SC.nd rfl (by first | exact Or.inl rfl | exact Or.inr rfl) (pe_slice sl_told (pe_callTc G__law_shuffled_T (hr.mono (by decide)) (by rfl) T.m__law_shuffled T.F__law_shuffled.kp T.b__law_shuffled pass0 (pv 0)) po_none (po_some (pe_ix (ix_listK (K := K) rfl) (pe_lst (pa_cons pe_int (pa_cons pe_int (pa_cons pe_int (pa_cons pe_int (pa_cons pe_int pa_nil)))))) (pe_call G__law_draw (hr.mono (by decide)) (by rfl) T.m__law_draw T.F__law_draw.kp T.b__law_draw .nil pass0 (pa_cons (pv 0) (pa_cons pe_int pa_nil))) (fun _ _ => rfl)))))
       (pss_one (ps_ret (pe_bmK (K := K) rfl PySem.F.plainAttrs_str PySem.F.slot_str_join PySem.F.type_str_join mt_join pe_str (pa_cons (pe_lc (own := [("k", 3)]) rfl SC.nd (pi_range1 (by rfl) T.n_range (pa_cons (pe_call G__law_draw (hr.mono (by decide)) (by rfl) T.m__law_draw T.F__law_draw.kp T.b__law_draw .nil pass0 (pa_cons (pv 0) (pa_cons (pe_op op_add (pv 1) pe_int) pa_nil))) pa_nil)) (blkOk_by (N := ["source", "most", "letters", "k"]) (sc := defScope s__law_line) (by decide +kernel)) (fun _ _ _ _ _ => by exact pg_name (i := 3) SC.nd rfl (by first | exact Or.inl rfl | exact Or.inr rfl)) (fun _ _ _ _ _ => by exact pts_nil) (fun _ _ _ _ _ => by exact (pe_ix (ix_listK (K := K) rfl) (pv 2) (pe_call G__law_draw (hr.mono (by decide)) (by rfl) T.m__law_draw T.F__law_draw.kp T.b__law_draw .nil pass0 (pa_cons (pv 0) (pa_cons (pe_callB (call_len_seqK (K := K) rfl) (by rfl) T.n_len (by decide +kernel) (pa_cons (pv 2) pa_nil)) pa_nil))) (fun _ _ => rfl)))) pa_nil))))), ?_⟩
    repeat (first | refine ⟨_, rfl, ?_⟩ | refine ⟨_, _, rfl, rfl, ?_⟩)
    refine ⟨r, q0, "abcdef", c, rfl, hR, by omega, by decide +kernel, by decide +kernel, fun H1 p ps S1 R1 f1 n1 hF hT hp => ?_⟩
    rw [abc_sg] at hp
    repeat (first | refine ⟨_, rfl, ?_⟩ | refine ⟨_, _, rfl, rfl, ?_⟩)
    refine ⟨by show 5 ≤ sizeLine; decide, fun m hm => ?_⟩
    have nm := R1.nin hm
    repeat (first | refine ⟨_, rfl, ?_⟩ | refine ⟨_, _, rfl, rfl, ?_⟩)
    refine ⟨r, q0, 5, c + 1000, rfl, R1.new hm, by omega, by decide, by decide, fun H2 n2 S2 R2 a0 a1 => ?_⟩
    obtain ⟨lo, hlo, elo⟩ := pick_ints (ns := [1, 2, 2, 3, 6]) a0 (by simpa using a1)
    refine ⟨m, _, _, _, rfl, rfl, SqL.of (extL_get S2 nm upd_same), elo, ?_⟩
    have S12 := S1.trans ((hidL_new hm).trans S2)
    have hlo2 : 1 ≤ lo ∧ lo ≤ 6 := by simp at hlo; omega
    obtain ⟨k, rfl⟩ : ∃ k : Nat, lo = (k : Int) := ⟨lo.toNat, by omega⟩
    repeat (first | refine ⟨_, rfl, ?_⟩ | refine ⟨_, _, rfl, rfl, ?_⟩)
    refine ⟨p, ps, rfl, hF.ext ((hidL_new hm).trans S2) n1, fun p3 u3 hp3 hF3 => ?_⟩
    rw [cutT_upto] at hF3
    obtain ⟨hL, hk⟩ := lett_abc hT hp (n := k) (by omega) (by omega)
    generalize ps.take k = qs at hF3 hL hk
    have n3 := R2.nin hp3
    have S13 := S12.trans (hidL_new (o := u3) hp3)
    have R3 := R2.new (o := u3) hp3
    generalize upd H2 p3 u3 = H3 at hF3 S13 R3 ⊢
    repeat (first | refine ⟨_, rfl, ?_⟩ | refine ⟨_, _, rfl, rfl, ?_⟩)
    refine ⟨rfl, ?_⟩
    repeat (first | refine ⟨_, rfl, ?_⟩ | refine ⟨_, _, rfl, rfl, ?_⟩)
    refine ⟨r, q0, most + 1, c + 1001, rfl, R3, by omega, by omega, by omega, fun H4 n4 S4 R4 b0 b1 => ?_⟩
    repeat (first | refine ⟨_, rfl, ?_⟩ | refine ⟨_, _, rfl, rfl, ?_⟩)
    refine ⟨by omega, by omega, fun D hD => ?_⟩
    have nD := R4.nin hD
    have hDn3 := extL_free S4 nD hD
    refine lc_it walk_range (fun i H' => Same (hidL [r, q0] H3) (hidL [r, q0] H') ∧ Src H' r q0 (c + 1002 + i) ∧ ∃ cs : List Nat, H' D = some (.lst ((cs.map sg).map V.str)) ∧ cs.length = i ∧ ∀ x ∈ cs, x ∈ colN) ⟨extL_upd S4 nD hDn3, R4.new hD, [], upd_same, rfl, fun x hx => absurd hx List.not_mem_nil⟩ (fun _ _ _ _ => trivial) ?_ ?_
    · rintro i y H5 H6 hi ⟨S, R, cs, hl, hlen, hc0⟩ ⟨rfl, rfl⟩
      refine ⟨rfl, ?_⟩
      have hF5 := hF3.ext S n3
      repeat (first | refine ⟨_, rfl, ?_⟩ | refine ⟨_, _, rfl, rfl, ?_⟩)
      refine ⟨_, _, rfl, .inl hF5.sq, ?_⟩
      rw [List.length_map]
      have hl1 := hL.pos
      have hl6 := hL.six
      refine ⟨r, q0, _, c + 1002 + i, rfl, R, by omega, by omega, by omega, fun H7 n7 S7 R7 d0 d1 => ?_⟩
      obtain ⟨x, hx, ex⟩ := pick_T (ps := qs) d0 d1
      refine ⟨_, _, _, _, rfl, rfl, (hF5.ext S7 n3).sq, ex, ?_⟩
      obtain ⟨y, hy, ey⟩ := isC_iff.mp (hL.col x hx)
      rw [show tV x = V.str (sg y) from congrArg V.str ey]
      have hl7 := extL_get S7 nD hl
      refine ⟨_, hl7, by rw [List.length_map, List.length_map]; exact small1000 (by omega), ?_⟩
      refine ⟨extL_upd (S.trans S7) nD hDn3, (R7.upd nD).mono (by omega), cs ++ [y], by rw [upd_same, List.map_append, List.map_append]; rfl, by rw [List.length_append, hlen]; rfl, fun w hw => ?_⟩
      rcases List.mem_append.mp hw with hw | hw
      · exact hc0 w hw
      · rw [List.mem_singleton.mp hw]; exact hy
    · rintro H' ⟨S, R, cs, hl, hlen, hc0⟩
      repeat (first | refine ⟨_, rfl, ?_⟩ | refine ⟨_, _, rfl, rfl, ?_⟩)
      refine ⟨_, _, cs.map sg, rfl, rfl, .inl (SqL.of hl), ?_, ?_⟩
      · rw [sum_sg]
        show cs.length + _ * 0 ≤ 16777216
        omega
      · rw [join_sg]
        exact fin _ _ (S13.trans S) (R.mono (by omega)) hc0 (by show (cs.length : Int) ≤ most; omega)
end Dr
namespace Dr
open PySem L2
theorem SC__law_one_call : FnScope ["source", "letters", "pair", "kind"] ["source", "letters"] (defScope s__law_one_call) := ⟨rfl, rfl, rfl, by decide +kernel, rfl, by decide +kernel, by decide +kernel⟩

theorem ok__law_one_call {P : Program} {w : World} {K : PySem.W.Frag} {mg : Str → Option Value} {base : Heap} (T : Txt K mg) (G__law_shuffled : FnOk P w K mg base CX0 2 T.a__law_shuffled T.fd__law_shuffled ["source", "items"] (sp_shufF K)) (G__law_shuffled_P : FnOk P w K mg base CX0 2 T.a__law_shuffled T.fd__law_shuffled ["source", "items"] (sp_shufP K)) (G__law_shuffled_T : FnT P w K mg base CX0 2 T.a__law_shuffled T.fd__law_shuffled ["source", "items"] (sp_shufT K)) (G__law_draw : FnOk P w K mg base CX0 1 T.a__law_draw T.fd__law_draw ["source", "many"] (sp_law_drawS K)) : FnOk P w K mg base CX0 3 T.a__law_one_call T.fd__law_one_call ["source", "letters"] (sp_one_callS K) := by
  have SC := SC__law_one_call
  refine T.F__law_one_call.ok SC (fun vs H Q E h => ?_) (fun cdv A outer s H vs Q E hr h => ?_)
  · obtain ⟨r, q0, a, qs, c, rfl, hR, hc, hF, hL, h2, fin⟩ := h
    rfl
  · obtain ⟨r, q0, a, qs, c, rfl, hR, hc, hF, hL, h2, fin⟩ := h
    refine ⟨_, (pss_cons (ps_set (i := 2) SC.nd rfl (by first | exact Or.inl rfl | exact Or.inr rfl) (pe_slice sl_told (pe_call G__law_shuffled (hr.mono (by decide)) (by rfl) T.m__law_shuffled T.F__law_shuffled.kp T.b__law_shuffled .nil pass0 (pa_cons (pv 0) (pa_cons (pv 1) pa_nil))) po_none (po_some pe_int)))
       (pss_cons (ps_set (i := 3) SC.nd rfl (by first | exact Or.inl rfl | exact Or.inr rfl) (pe_ix (ix_listK (K := K) rfl) (pe_lst (pa_cons pe_int (pa_cons pe_int (pa_cons (pe_op op_add pe_int (pe_call G__law_draw (hr.mono (by decide)) (by rfl) T.m__law_draw T.F__law_draw.kp T.b__law_draw .nil pass0 (pa_cons (pv 0) (pa_cons pe_int pa_nil)))) (pa_cons (pe_op op_add pe_int (pe_call G__law_draw (hr.mono (by decide)) (by rfl) T.m__law_draw T.F__law_draw.kp T.b__law_draw .nil pass0 (pa_cons (pv 0) (pa_cons pe_int pa_nil)))) (pa_cons pe_str (pa_cons pe_str pa_nil))))))) (pe_call G__law_draw (hr.mono (by decide)) (by rfl) T.m__law_draw T.F__law_draw.kp T.b__law_draw .nil pass0 (pa_cons (pv 0) (pa_cons pe_int pa_nil))) (fun _ _ => rfl)))
       (pss_one (ps_ret (pe_tupF (ip := 2) (pv 3) rfl (.inl rfl)))))), ?_⟩
    repeat (first | refine ⟨_, rfl, ?_⟩ | refine ⟨_, _, rfl, rfl, ?_⟩)
    refine ⟨r, q0, a, qs, c, rfl, hR, by omega, hF, hL.tk, Nat.le_trans hL.six (by decide), fun H1 p ps S1 R1 f1 n1 hP hT hp => ?_⟩
    repeat (first | refine ⟨_, rfl, ?_⟩ | refine ⟨_, _, rfl, rfl, ?_⟩)
    refine ⟨p, ps, rfl, hP, fun p2 u2 hp2 hF2 => ?_⟩
    have n2 := R1.nin hp2
    have S2 := S1.trans (hidL_new (o := u2) hp2)
    have R2 := R1.new (o := u2) hp2
    rw [show (2 : Int) = ((2 : Nat) : Int) from rfl, cutT_upto] at hF2
    generalize upd H1 p2 u2 = H2 at hF2 S2 R2 ⊢
    repeat (first | refine ⟨_, rfl, ?_⟩ | refine ⟨_, _, rfl, rfl, ?_⟩)
    refine ⟨r, q0, 3, c + 1000, rfl, R2, by omega, by decide, by decide, fun H3 d1 S3 R3 a0 a1 => ?_⟩
    repeat (first | refine ⟨_, rfl, ?_⟩ | refine ⟨_, _, rfl, rfl, ?_⟩)
    refine ⟨r, q0, 20, c + 1001, rfl, R3, by omega, by decide, by decide, fun H4 d2 S4 R4 b0 b1 => ?_⟩
    repeat (first | refine ⟨_, rfl, ?_⟩ | refine ⟨_, _, rfl, rfl, ?_⟩)
    refine ⟨by show 6 ≤ sizeLine; decide, fun m hm => ?_⟩
    have nm := R4.nin hm
    repeat (first | refine ⟨_, rfl, ?_⟩ | refine ⟨_, _, rfl, rfl, ?_⟩)
    refine ⟨r, q0, 6, c + 1002, rfl, R4.new hm, by omega, by decide, by decide, fun H5 d3 S5 R5 c0 c1 => ?_⟩
    obtain ⟨j, v, rfl, hj, hv, ev, hvm⟩ := pick (xs := [V.int 1, .int 1, .int (1 + d1), .int (1 + d2), .str "all", .str "swap"]) c0 c1
    obtain ⟨k, rfl, hk, hkl⟩ := kind_menu2 a0 a1 b0 b1 hvm
    refine ⟨m, _, _, _, rfl, rfl, SqL.of (extL_get S5 nm upd_same), ev, ?_⟩
    have S25 := S3.trans (S4.trans ((hidL_new hm).trans S5))
    have hF5 := hF2.ext S25 n2
    repeat (first | refine ⟨_, rfl, ?_⟩ | refine ⟨_, _, rfl, rfl, ?_⟩)
    have hpl : 2 ≤ ps.length := Nat.le_trans h2 (Nat.le_of_eq hp.length_eq.symm)
    obtain ⟨y, hy⟩ := get_of_lt (l := ps) (i := 0) (by omega)
    obtain ⟨z, hz⟩ := get_of_lt (l := ps) (i := 1) (by omega)
    refine ⟨p2, ps.take 2, y, z, rfl, hF5, by rw [List.getElem?_take]; exact hy, by rw [List.getElem?_take]; exact hz, fun t u ht hP => ?_⟩
    have hym := List.mem_of_getElem? hy
    have hzm := List.mem_of_getElem? hz
    have ntq := R5.nin ht
    have ne2 : y.2 ≠ z.2 := fun e => by
      have a1 : (ps.map (·.2))[0]? = some y.2 := by rw [List.getElem?_map, hy]; rfl
      have a2 : (ps.map (·.2))[1]? = some y.2 := by rw [List.getElem?_map, hz, e]; rfl
      have := (List.getElem?_inj (by rw [List.length_map]; omega) hT.1).mp (a1.trans a2.symm)
      omega
    have ne1 : y.1 ≠ z.1 := fun e => by
      have nd : (ps.map (·.1)).Nodup := (hp.map _).nodup_iff.mpr hL.nd
      have a1 : (ps.map (·.1))[0]? = some y.1 := by rw [List.getElem?_map, hy]; rfl
      have a2 : (ps.map (·.1))[1]? = some y.1 := by rw [List.getElem?_map, hz, e]; rfl
      have := (List.getElem?_inj (by rw [List.length_map]; omega) nd).mp (a1.trans a2.symm)
      omega
    refine fin _ t ⟨k, y.1, z.1⟩ (extL_upd (S2.trans S25) ntq (extL_free (S2.trans S25) ntq ht)) ((R5.upd ntq).mono (by omega)) ntq (let ⟨o, _, e, _⟩ := hP.is; ⟨o, _, by rw [upd_same, e]⟩) (tpair_tcl hP ntq (hT.2 _ hym) (hT.2 _ hzm) ne2) ?_ hkl
    have cy : isC y.1 = true := hL.col y (hp.mem_iff.mp hym)
    have cz : isC z.1 = true := hL.col z (hp.mem_iff.mp hzm)
    show (k.ok && (isC y.1 && (isC z.1 && !decide (y.1 = z.1)))) = true
    rw [hk, cy, cz, decide_eq_false ne1]
    rfl
end Dr
namespace Dr
open PySem L2
theorem SC__law_orders : FnScope ["source", "most", "letters", "k"] ["source", "most"] (defScope s__law_orders) := ⟨rfl, rfl, rfl, by decide +kernel, rfl, by decide +kernel, by decide +kernel⟩

theorem ok__law_orders {P : Program} {w : World} {K : PySem.W.Frag} {mg : Str → Option Value} {base : Heap} (T : Txt K mg) (G__law_shuffled : FnOk P w K mg base CX0 2 T.a__law_shuffled T.fd__law_shuffled ["source", "items"] (sp_shufF K)) (G__law_shuffled_P : FnOk P w K mg base CX0 2 T.a__law_shuffled T.fd__law_shuffled ["source", "items"] (sp_shufP K)) (G__law_shuffled_T : FnT P w K mg base CX0 2 T.a__law_shuffled T.fd__law_shuffled ["source", "items"] (sp_shufT K)) (G__law_draw : FnOk P w K mg base CX0 1 T.a__law_draw T.fd__law_draw ["source", "many"] (sp_law_drawS K)) (G__law_one_call : FnOk P w K mg base CX0 3 T.a__law_one_call T.fd__law_one_call ["source", "letters"] (sp_one_callS K)) : FnOk P w K mg base CX0 4 T.a__law_orders T.fd__law_orders ["source", "most"] (sp_ordersS K) := by
  have SC := SC__law_orders
  refine T.F__law_orders.ok SC (fun vs H Q E h => ?_) (fun cdv A outer s H vs Q E hr h => ?_)
  · obtain ⟨r, q0, most, c, rfl, hR, hc, l0, l1, fin⟩ := h
    rfl
  · obtain ⟨r, q0, most, c, rfl, hR, hc, l0, l1, fin⟩ := h
    refine ⟨_, (pss_cons (ps_set (i := 2) SC.nd rfl (by first | exact Or.inl rfl | exact Or.inr rfl) (pe_slice sl_told (pe_callTc G__law_shuffled_T (hr.mono (by decide)) (by rfl) T.m__law_shuffled T.F__law_shuffled.kp T.b__law_shuffled pass0 (pv 0)) po_none (po_some (pe_ix (ix_listK (K := K) rfl) (pe_lst (pa_cons pe_int (pa_cons pe_int (pa_cons pe_int pa_nil)))) (pe_call G__law_draw (hr.mono (by decide)) (by rfl) T.m__law_draw T.F__law_draw.kp T.b__law_draw .nil pass0 (pa_cons (pv 0) (pa_cons pe_int pa_nil))) (fun _ _ => rfl)))))
       (pss_one (ps_ret (pe_lc (own := [("k", 3)]) rfl SC.nd (pi_range1 (by rfl) T.n_range (pa_cons (pe_call G__law_draw (hr.mono (by decide)) (by rfl) T.m__law_draw T.F__law_draw.kp T.b__law_draw .nil pass0 (pa_cons (pv 0) (pa_cons (pe_op op_add (pv 1) pe_int) pa_nil))) pa_nil)) (blkOk_by (N := ["source", "most", "letters", "k"]) (sc := defScope s__law_orders) (by decide +kernel)) (fun _ _ _ _ _ => by exact pg_name (i := 3) SC.nd rfl (by first | exact Or.inl rfl | exact Or.inr rfl)) (fun _ _ _ _ _ => by exact pts_nil) (fun _ _ _ _ _ => by exact (pe_call G__law_one_call (hr.mono (by decide)) (by rfl) T.m__law_one_call T.F__law_one_call.kp T.b__law_one_call .nil pass0 (pa_cons (pv 0) (pa_cons (pv 2) pa_nil)))))))), ?_⟩
    repeat (first | refine ⟨_, rfl, ?_⟩ | refine ⟨_, _, rfl, rfl, ?_⟩)
    refine ⟨r, q0, "abcdef", c, rfl, hR, by omega, by decide +kernel, by decide +kernel, fun H1 p ps S1 R1 f1 n1 hF hT hp => ?_⟩
    rw [abc_sg] at hp
    repeat (first | refine ⟨_, rfl, ?_⟩ | refine ⟨_, _, rfl, rfl, ?_⟩)
    refine ⟨by show 3 ≤ sizeLine; decide, fun m hm => ?_⟩
    have nm := R1.nin hm
    repeat (first | refine ⟨_, rfl, ?_⟩ | refine ⟨_, _, rfl, rfl, ?_⟩)
    refine ⟨r, q0, 3, c + 1000, rfl, R1.new hm, by omega, by decide, by decide, fun H2 n2 S2 R2 a0 a1 => ?_⟩
    obtain ⟨lo, hlo, elo⟩ := pick_ints (ns := [2, 3, 6]) a0 (by simpa using a1)
    refine ⟨m, _, _, _, rfl, rfl, SqL.of (extL_get S2 nm upd_same), elo, ?_⟩
    have S12 := S1.trans ((hidL_new hm).trans S2)
    have hlo2 : 2 ≤ lo ∧ lo ≤ 6 := by simp at hlo; omega
    obtain ⟨k, rfl⟩ : ∃ k : Nat, lo = (k : Int) := ⟨lo.toNat, by omega⟩
    repeat (first | refine ⟨_, rfl, ?_⟩ | refine ⟨_, _, rfl, rfl, ?_⟩)
    refine ⟨p, ps, rfl, hF.ext ((hidL_new hm).trans S2) n1, fun p3 u3 hp3 hF3 => ?_⟩
    rw [cutT_upto] at hF3
    obtain ⟨hL, hk⟩ := lett_abc hT hp (n := k) (by omega) (by omega)
    generalize ps.take k = qs at hF3 hL hk
    have n3 := R2.nin hp3
    have S13 := S12.trans (hidL_new (o := u3) hp3)
    have R3 := R2.new (o := u3) hp3
    generalize upd H2 p3 u3 = H3 at hF3 S13 R3 ⊢
    repeat (first | refine ⟨_, rfl, ?_⟩ | refine ⟨_, _, rfl, rfl, ?_⟩)
    refine ⟨r, q0, most + 1, c + 1001, rfl, R3, by omega, by omega, by omega, fun H4 n4 S4 R4 b0 b1 => ?_⟩
    repeat (first | refine ⟨_, rfl, ?_⟩ | refine ⟨_, _, rfl, rfl, ?_⟩)
    refine ⟨by omega, by omega, fun D hD => ?_⟩
    have nD := R4.nin hD
    have hDn3 := extL_free S4 nD hD
    refine lc_it walk_range (fun i H' => Same (hidL [r, q0] H3) (hidL [r, q0] H') ∧ Src H' r q0 (c + 1002 + 1010 * i) ∧ ∃ (ts : List Addr) (cs : List Cl), H' D = some (.lst (ts.map V.ref)) ∧ ts.length = i ∧ ts.length = cs.length ∧ (∀ cl ∈ cs, cl.ok = true ∧ Cl.le 20 cl) ∧ ∀ (j : Nat) (t : Addr) (cl : Cl), ts[j]? = some t → cs[j]? = some cl → t ∉ [r, q0] ∧ t ≠ D ∧ TCl K (hidL [r, q0] H') t cl)
      ⟨extL_upd S4 nD hDn3, R4.new hD, [], [], upd_same, rfl, rfl, fun _ h => absurd h List.not_mem_nil, fun j t cl h => by simp at h⟩ (fun _ _ _ _ => trivial) ?_ ?_
    · rintro i y H5 H6 hi ⟨S, R, ts, cs, hl, hi2, hlen, hok, hall⟩ ⟨rfl, rfl⟩
      refine ⟨rfl, ?_⟩
      have hF5 := hF3.ext S n3
      repeat (first | refine ⟨_, rfl, ?_⟩ | refine ⟨_, _, rfl, rfl, ?_⟩)
      refine ⟨r, q0, p3, qs, _, rfl, R, by omega, hF5, hL, by omega, fun H7 t cl S7 R7 nt hTt hTC hcl hle => ?_⟩
      have hl7 := extL_get S7 nD hl
      have ntD : t ≠ D := fun e => by
        obtain ⟨o, vs, e2⟩ := hTt
        rw [e, hl7] at e2
        cases e2
      refine ⟨_, hl7, by rw [List.length_map]; exact small1000 (by omega), ?_⟩
      refine ⟨extL_upd (S.trans S7) nD hDn3, (R7.upd nD).mono (by omega), ts ++ [t], cs ++ [cl], by rw [upd_same, List.map_append]; rfl, by simp [hi2], by simp [hlen], ?_, ?_⟩
      · intro x hx
        rcases List.mem_append.mp hx with hx | hx
        · exact hok x hx
        · rw [List.mem_singleton.mp hx]; exact ⟨hcl, hle⟩
      · intro j t' cl' h1 h2
        by_cases hj : j < ts.length
        · rw [List.getElem?_append_left hj] at h1
          rw [List.getElem?_append_left (by omega)] at h2
          obtain ⟨a1, a2, a3⟩ := hall j t' cl' h1 h2
          exact ⟨a1, a2, (a3.same S7).at (hidL_upd_at a2)⟩
        · have hj2 := lt_of_get h1
          rw [List.length_append, List.length_singleton] at hj2
          have ej : j = ts.length := by omega
          subst ej
          rw [List.getElem?_append_right (Nat.le_refl _)] at h1
          rw [List.getElem?_append_right (by omega)] at h2
          simp only [Nat.sub_self, List.getElem?_cons_zero, Option.some.injEq, hlen] at h1 h2
          subst h1
          have h2' : cl = cl' := by simpa using h2
          subst h2'
          exact ⟨nt, ntD, hTC.at (hidL_upd_at ntD)⟩
    · rintro H' ⟨S, R, ts, cs, hl, hi2, hlen, hok, hall⟩
      refine fin _ D cs (S13.trans S) (R.mono (by omega)) (extL_free S13 nD hDn3) nD ⟨ts, SqL.of (hidL_get nD hl), hlen, fun j t cl h1 h2 => ?_⟩ (fun x hx => (hok x hx).1) (fun x hx => (hok x hx).2) (by omega)
      obtain ⟨a1, a2, a3⟩ := hall j t cl h1 h2
      exact a3
end Dr
namespace Dr
open PySem L2
theorem SC__law_renamed : FnScope ["names", "line", "letter"] ["names", "line"] (defScope s__law_renamed) := ⟨rfl, rfl, rfl, by decide +kernel, rfl, by decide +kernel, by decide +kernel⟩

theorem ok__law_renamed {P : Program} {w : World} {K : PySem.W.Frag} {mg : Str → Option Value} {base : Heap} (T : Txt K mg)  : FnOk P w K mg base CX0 1 T.a__law_renamed T.fd__law_renamed ["names", "line"] (sp_renamed K) := by
  have SC := SC__law_renamed
  refine T.F__law_renamed.ok SC (fun vs H Q E h => ?_) (fun cdv A outer s H vs Q E hr h => ?_)
  · obtain ⟨p, ps, z, rfl, hF, hL, h6, hz, hc, fin⟩ := h
    rfl
  · obtain ⟨p, ps, z, rfl, hF, hL, h6, hz, hc, fin⟩ := h
    refine ⟨_, (pss_one (ps_ret (pe_bmK (K := K) rfl PySem.F.plainAttrs_str PySem.F.slot_str_join PySem.F.type_str_join mt_join pe_str (pa_cons (pe_lc (own := [("letter", 2)]) rfl SC.nd (pi_str (pv 1)) (blkOk_by (N := ["names", "line", "letter"]) (sc := defScope s__law_renamed) (by decide +kernel)) (fun _ _ _ _ _ => by exact pg_name (i := 2) SC.nd rfl (by first | exact Or.inl rfl | exact Or.inr rfl)) (fun _ _ _ _ _ => by exact pts_nil) (fun _ _ _ _ _ => by exact (pe_ix (ix_listK (K := K) rfl) (pv 0) (pe_bmK (K := K) rfl PySem.F.plainAttrs_str PySem.F.slot_str_index PySem.F.type_str_index mt_sindex pe_str (pa_cons (pv 2) pa_nil)) (fun _ _ => rfl)))) pa_nil)))), ?_⟩
    repeat (first | refine ⟨_, rfl, ?_⟩ | refine ⟨_, _, rfl, rfl, ?_⟩)
    refine ⟨rfl, ?_⟩
    repeat (first | refine ⟨_, rfl, ?_⟩ | refine ⟨_, _, rfl, rfl, ?_⟩)
    intro D hD
    refine lc_it walk_str (fun i H' => Same H H' ∧ H' D = some (.lst ((((z.cps.toList.map (renT ps)).take i).map sg).map V.str))) ⟨Same.new hD, upd_same⟩ (fun _ _ _ _ => trivial) ?_ ?_
    · rintro i y H2 H3 hi ⟨S, hd⟩ ⟨rfl, c, hcc, rfl⟩
      have hc' : z.cps.toList[i]? = some c := by simpa using hcc
      have cm := hc c (List.mem_of_getElem? hc')
      obtain ⟨rest, occ⟩ := abc_index (isC_col cm)
      obtain ⟨q, hq, _, eq⟩ := renT_get hL h6 cm
      refine ⟨rfl, ?_⟩
      repeat (first | refine ⟨_, rfl, ?_⟩ | refine ⟨_, _, rfl, rfl, ?_⟩)
      refine ⟨rfl, ?_⟩
      repeat (first | refine ⟨_, rfl, ?_⟩ | refine ⟨_, _, rfl, rfl, ?_⟩)
      refine ⟨_, _, _, rest, rfl, rfl, occ, ?_⟩
      refine ⟨p, _, _, _, rfl, rfl, (hF.same S).sq, at_of rfl (by rw [List.getElem?_map, hq]; rfl), ?_⟩
      refine ⟨_, hd, ?_, ext_same S hD (Same.refl _), ?_⟩
      · rw [List.length_map, List.length_map]
        exact Nat.lt_of_le_of_lt (List.length_take_le _ _) (Nat.lt_of_lt_of_le hi (Nat.le_trans hz (by decide)))
      · rw [upd_same, take_one (l := z.cps.toList.map (renT ps)) (x := renT ps c) (by rw [List.getElem?_map, hc']; rfl), List.map_append, List.map_append]
        show _ = some (HO.lst (_ ++ [V.str (sg (renT ps c))]))
        rw [eq]
    rintro H2 ⟨S, hd⟩
    rw [List.take_of_length_le (by rw [List.length_map, Array.length_toList]; exact Nat.le_refl _)] at hd
    repeat (first | refine ⟨_, rfl, ?_⟩ | refine ⟨_, _, rfl, rfl, ?_⟩)
    refine ⟨_, _, (z.cps.toList.map (renT ps)).map sg, rfl, rfl, .inl (SqL.of hd), ?_, ?_⟩
    · rw [sum_sg, List.length_map, Array.length_toList]
      show z.cps.size + _ * 0 ≤ 16777216
      omega
    · rw [join_sg]
      exact fin _ S
theorem ok__law_renamed_V {P : Program} {w : World} {K : PySem.W.Frag} {mg : Str → Option Value} {base : Heap} (T : Txt K mg)  : FnV P w K mg base CX0 1 T.a__law_renamed T.fd__law_renamed ["names", "line"] (spv_renamed K) := by
  have SC := SC__law_renamed
  refine okV T.F__law_renamed SC (fun vs H Q E h => ?_) (fun cdv A outer s H vs Q E hr h => ?_)
  · obtain ⟨p, ps, x, z, rfl, hF, hx, hz, h1, fin⟩ := h
    rfl
  · obtain ⟨p, ps, x, z, rfl, hF, hx, hz, h1, fin⟩ := h
    refine ⟨_, (pssv_ret (pev_join pe_str (pa_cons ((pe_lcV (own := [("letter", 2)]) rfl SC.nd (pi_str (pv 1)) (blkOk_by (N := ["names", "line", "letter"]) (sc := defScope s__law_renamed) (by decide +kernel)) (fun _ _ _ _ _ => by exact pg_name (i := 2) SC.nd rfl (by first | exact Or.inl rfl | exact Or.inr rfl)) (fun _ _ _ _ _ => by exact pts_nil) (fun _ _ _ _ _ => by exact (pev_ix (pv 0) (pe_bmK (K := K) rfl PySem.F.plainAttrs_str PySem.F.slot_str_index PySem.F.type_str_index mt_sindex pe_str (pa_cons (pv 2) pa_nil)) (fun _ _ => by rfl))))) pa_nil))), ?_⟩
    repeat (first | refine ⟨_, rfl, ?_⟩ | refine ⟨_, _, rfl, rfl, ?_⟩)
    dsimp only [tNil]
    intro D hD
    refine lcv_it walk_str (fun i H' => Same H H' ∧ H' D = some (TLst D (([z].take i).map tv))) ⟨Same.new hD, upd_same⟩ (fun _ _ _ _ => trivial) ?_ ?_
    · rintro i y H2 H3 hi ⟨S, hd⟩ ⟨rfl, c, hc, rfl⟩
      have hi1 : i < 1 := hi
      obtain rfl : i = 0 := by omega
      obtain rfl : x = c := by simpa [sg] using hc
      obtain ⟨rest, occ⟩ := abc_index (isC_col hx)
      refine ⟨rfl, ?_⟩
      unfold tIxV
      repeat (first | refine ⟨_, rfl, ?_⟩ | refine ⟨_, _, rfl, rfl, ?_⟩)
      refine ⟨rfl, ?_⟩
      repeat (first | refine ⟨_, rfl, ?_⟩ | refine ⟨_, _, rfl, rfl, ?_⟩)
      refine ⟨_, _, _, rest, rfl, rfl, occ, ?_⟩
      refine ⟨p, ps, _, z, rfl, rfl, hF.same S, hz, ?_⟩
      exact ⟨_, hd, by show 0 < sizeLine; decide, ext_same S hD (Same.refl _), upd_same⟩
    rintro H2 ⟨S, hd⟩
    repeat (first | refine ⟨_, rfl, ?_⟩ | refine ⟨_, _, rfl, rfl, ?_⟩)
    refine ⟨D, [z], rfl, hd, ?_, fun q e => ?_, fun h => absurd rfl (h z)⟩
    · show z.1.length + 0 + 1 * 0 ≤ 16777216
      omega
    · cases e
      exact ⟨⟨.str z.1, ⟨_, rfl⟩⟩, fin _ S⟩
end Dr
namespace Dr
open PySem L2
theorem SC__law_calls_right : FnScope ["line", "old", "new", "number", "slowly", "swapped", "after", "apart", "k"] ["line", "old", "new", "number"] (defScope s__law_calls_right) := ⟨rfl, rfl, rfl, by decide +kernel, rfl, by decide +kernel, by decide +kernel⟩

theorem ok__law_calls_right {P : Program} {w : World} {K : PySem.W.Frag} {mg : Str → Option Value} {base : Heap} (T : Txt K mg) (G_run_drill : FnOk P w K mg base CX0 5 T.a_run_drill T.fd_run_drill ["drill", "row"] (sp_run_drill K)) : FnA P w K mg base CX0 6 T.a__law_calls_right T.fd__law_calls_right ["line", "old", "new", "number"] (sp_calls_right K) := by
  have SC := SC__law_calls_right
  refine okA T.F__law_calls_right SC (fun vs us H Q E h => ?_) (fun cdv A outer s H vs us Q E hr h => ?_)
  · obtain ⟨z, a, b, m, u0, u3, rfl, rfl, hz, hc, ha, hb, ta, tb, tab, ab, m1, m2, fin⟩ := h
    rfl
  · obtain ⟨z, a, b, m, u0, u3, rfl, rfl, hz, hc, ha, hb, ta, tb, tab, ab, m1, m2, fin⟩ := h
    refine ⟨_, (kss_cons (ks_set (i := 4) SC.nd rfl (by first | exact Or.inl rfl | exact Or.inr rfl) (kv (i := 0) rfl (by first | exact Or.inl rfl | exact Or.inr (Or.inl rfl) | exact Or.inr (Or.inr rfl))))
       (kss_cons (ks_while (passes_of rfl) (ktcmp kinS (kv (i := 1) rfl (by first | exact Or.inl rfl | exact Or.inr (Or.inl rfl) | exact Or.inr (Or.inr rfl))) (kv (i := 4) rfl (by first | exact Or.inl rfl | exact Or.inr (Or.inl rfl) | exact Or.inr (Or.inr rfl))) (by rfl))
       (kss_cons (ks_setX (i := 4) SC.nd rfl (by first | exact Or.inl rfl | exact Or.inr rfl) (pxt_call G_run_drill (hr.mono (by decide)) (by rfl) T.m_run_drill T.F_run_drill.kp T.b_run_drill pass0 (patk_x (pxt_lst1 (kt_tup3 (kt_any kint) (kt_name (i := 1) rfl) (kt_name (i := 2) rfl))) (patk_x (pxt_of (kv (i := 4) rfl (by first | exact Or.inl rfl | exact Or.inr (Or.inl rfl) | exact Or.inr (Or.inr rfl)))) patk_nil))))
       kss_nil))
       (kss_cons (ks_ifX (ptx_cmp kneS (pxt_call G_run_drill (hr.mono (by decide)) (by rfl) T.m_run_drill T.F_run_drill.kp T.b_run_drill pass0 (patk_x (pxt_lst1 (kt_tup3 (kt_any kstr) (kt_name (i := 1) rfl) (kt_name (i := 2) rfl))) (patk_x (pxt_of (kv (i := 0) rfl (by first | exact Or.inl rfl | exact Or.inr (Or.inl rfl) | exact Or.inr (Or.inr rfl)))) patk_nil))) (pxt_of (kv (i := 4) rfl (by first | exact Or.inl rfl | exact Or.inr (Or.inl rfl) | exact Or.inr (Or.inr rfl)))) (by rfl))
       (kss_cons (ks_plain (ps_ret pe_bl))
       kss_nil)
       kss_nil)
       (kss_cons (ks_setX (i := 5) SC.nd rfl (by first | exact Or.inl rfl | exact Or.inr rfl) (pxt_call G_run_drill (hr.mono (by decide)) (by rfl) T.m_run_drill T.F_run_drill.kp T.b_run_drill pass0 (patk_x (pxt_lst1 (kt_tup3 (kt_any kstr) (kt_name (i := 1) rfl) (kt_name (i := 2) rfl))) (patk_x (pxt_of (kv (i := 0) rfl (by first | exact Or.inl rfl | exact Or.inr (Or.inl rfl) | exact Or.inr (Or.inr rfl)))) patk_nil))))
       (kss_cons (ks_ifX (ptx_w (pwx_or (ptx_cmp kneS (pxt_of (kv (i := 5) rfl (by first | exact Or.inl rfl | exact Or.inr (Or.inl rfl) | exact Or.inr (Or.inr rfl)))) (pxt_call G_run_drill (hr.mono (by decide)) (by rfl) T.m_run_drill T.F_run_drill.kp T.b_run_drill pass0 (patk_x (pxt_lst1 (kt_tup3 (kt_any kstr) (kt_name (i := 2) rfl) (kt_name (i := 1) rfl))) (patk_x (pxt_of (kv (i := 0) rfl (by first | exact Or.inl rfl | exact Or.inr (Or.inl rfl) | exact Or.inr (Or.inr rfl)))) patk_nil))) (by rfl)) (pwx_or1 (ptx_cmp kneS (pxt_call G_run_drill (hr.mono (by decide)) (by rfl) T.m_run_drill T.F_run_drill.kp T.b_run_drill pass0 (patk_x (pxt_lst1 (kt_tup3 (kt_any kstr) (kt_name (i := 1) rfl) (kt_name (i := 2) rfl))) (patk_x (pxt_of (kv (i := 5) rfl (by first | exact Or.inl rfl | exact Or.inr (Or.inl rfl) | exact Or.inr (Or.inr rfl)))) patk_nil))) (pxt_of (kv (i := 0) rfl (by first | exact Or.inl rfl | exact Or.inr (Or.inl rfl) | exact Or.inr (Or.inr rfl)))) (by rfl)))))
       (kss_cons (ks_plain (ps_ret pe_bl))
       kss_nil)
       kss_nil)
       (kss_cons (ks_setX (i := 6) SC.nd rfl (by first | exact Or.inl rfl | exact Or.inr rfl) (pxt_call G_run_drill (hr.mono (by decide)) (by rfl) T.m_run_drill T.F_run_drill.kp T.b_run_drill pass0 (patk_x (pxt_lst1 (kt_tup3 (kt_any (kv (i := 3) rfl (by first | exact Or.inl rfl | exact Or.inr (Or.inl rfl) | exact Or.inr (Or.inr rfl)))) (kt_name (i := 1) rfl) (kt_name (i := 2) rfl))) (patk_x (pxt_of (kv (i := 0) rfl (by first | exact Or.inl rfl | exact Or.inr (Or.inl rfl) | exact Or.inr (Or.inr rfl)))) patk_nil))))
       (kss_cons (ks_plain (ps_setLc (i := 7) (own := [("k", 8)]) rfl SC.nd rfl rfl (sw_true rfl rfl rfl (by decide +kernel)) (pi_range1 (by rfl) T.n_range (pa_cons (pe_callB call_len_str (by rfl) T.n_len (by decide +kernel) (pa_cons (pv 0) pa_nil)) pa_nil)) (blkOk_by (N := ["line", "old", "new", "number", "slowly", "swapped", "after", "apart", "k"]) (sc := defScope s__law_calls_right) (by decide +kernel)) (fun _ _ _ _ _ => by exact pg_name (i := 8) SC.nd rfl (by first | exact Or.inl rfl | exact Or.inr rfl)) (fun _ _ _ _ _ => by exact (pts_one (pt_cmpR op_ne (pe_ix ix_str (pv 0) (pv 8) (fun _ _ => rfl)) (pe_ix ix_str (pv 6) (pv 8) (fun _ _ => rfl)) (nomark _)))) (fun _ _ _ _ _ => by exact (pv 8))))
       (kss_cons (ks_plain (ps_ret (pe_and (pe_cmpR op_eq (pe_callB (call_len_seqK (K := K) rfl) (by rfl) T.n_len (by decide +kernel) (pa_cons (pv 7) pa_nil)) (pe_callTy call_int1 (by rfl) T.n_int (by decide +kernel) (pa_cons (pe_cmpR op_le (pv 3) (pe_bmK (K := K) rfl PySem.F.plainAttrs_str PySem.F.slot_str_count PySem.F.type_str_count mt_count (pv 0) (pa_cons (pv 1) pa_nil)) (nomark _)) pa_nil)) (nomark _)) (pe_one (pe_cmpR op_eq (pe_bmK (K := K) rfl PySem.F.plainAttrs_str PySem.F.slot_str_count PySem.F.type_str_count mt_count (pv 6) (pa_cons (pv 2) pa_nil)) (pe_op op_add (pe_bmK (K := K) rfl PySem.F.plainAttrs_str PySem.F.slot_str_count PySem.F.type_str_count mt_count (pv 0) (pa_cons (pv 2) pa_nil)) (pe_callB (call_len_seqK (K := K) rfl) (by rfl) T.n_len (by decide +kernel) (pa_cons (pv 7) pa_nil))) (nomark _))))))
       kss_nil)))))))), ?_⟩
    obtain ⟨A, hA, eA⟩ := isC_iff.mp ha
    obtain ⟨B, hB, eB⟩ := isC_iff.mp hb
    have AB : A ≠ B := fun e => ab (by rw [eA, eB, e])
    obtain ⟨L, eL⟩ : ∃ L, L = z.cps.toList := ⟨_, rfl⟩
    have ez : z = rowOf L := by rw [eL]; show z = ⟨z.cps.toList.toArray⟩; rw [Array.toArray_toList]
    have hLs : L.length ≤ 1000 := by rw [eL]; simpa using hz
    rw [← eL] at hc
    repeat (first | refine ⟨_, rfl, ?_⟩ | refine ⟨_, _, rfl, rfl, ?_⟩)
    refine ⟨fun n σ' H' => ∃ l : List Nat, n = l.count A ∧ Same H H' ∧ l.length = L.length ∧ (∀ x ∈ l, x ∈ colN) ∧ l.map (allF A B) = L.map (allF A B) ∧ σ' = [some (.str z), some (.str a.1), some (.str b.1), some (.int m), some (.str (rowOf l)), none, none, none, none],
      ⟨_, L, rfl, Same.refl _, rfl, hc, rfl, by rw [← ez]; rfl⟩, ?_⟩
    rintro n σ' H' ⟨l, rfl, S, hl, hc', hm, rfl⟩
    repeat (first | refine ⟨_, rfl, ?_⟩ | refine ⟨_, _, rfl, rfl, ?_⟩)
    have rl : ∀ l : List Nat, (rowOf l).cps.toList = l := fun l => rfl
    have okc : ∀ k : Kd, k.ok = true → (Cl.mk k a.1 b.1).ok = true := fun k hk => Cl.mk_ok (k := k) (a := a.1) (b := b.1) hk ha hb ab
    have one : ∀ (k : Kd) (l : List Nat), runs [⟨k, a.1, b.1⟩] l = run1 (twoC k A B) l := fun k l => by rw [eA, eB]; rfl
    refine ⟨A, rowOf l, by rw [eA], rfl, ?_⟩
    refine ⟨_, rfl, ?_⟩
    rw [rl]
    by_cases hin : A ∈ l
    · rw [decide_eq_true hin]
      refine iteT (B := True) ?_
      refine ⟨fun σ3 H3 => ∃ l2 : List Nat, l2.count A + 1 = l.count A ∧ Same H H3 ∧ l2.length = L.length ∧ (∀ x ∈ l2, x ∈ colN) ∧ l2.map (allF A B) = L.map (allF A B) ∧ σ3 = [some (.str z), some (.str a.1), some (.str b.1), some (.int m), some (.str (rowOf l2)), none, none, none, none],
        fun σ3 H3 ⟨l2, e1, e2⟩ => ⟨l2.count A, by omega, l2, rfl, e2⟩, ?_⟩
      repeat (first | refine ⟨_, rfl, ?_⟩ | refine ⟨_, _, rfl, rfl, ?_⟩)
      intro w1 r1
      refine ⟨tv a, by simp [forget, tau0], ?_⟩
      refine ⟨tv b, by simp [forget, tau0], ?_⟩
      refine ⟨V.int 1, a, b, r1, rfl, rfl, fun t u ht hP => ?_⟩
      intro p hp
      repeat (first | refine ⟨_, rfl, ?_⟩ | refine ⟨_, _, rfl, rfl, ?_⟩)
      intro w2 _ w3 _
      have S2 := S.trans ((Same.new (o := u) ht).trans (Same.new (o := .lst [.ref t]) hp))
      refine ⟨p, [⟨.m 1, a.1, b.1⟩], rowOf l, rfl, dr1 (k := .m 1) hP ht hp ta tb tab, fun c hcm => ?_, fun c hcm => ?_, ?_, hc', fun H4 S4 => ?_⟩
      · rw [List.mem_singleton.mp hcm]; exact okc _ (by decide)
      · rw [List.mem_singleton.mp hcm]; exact fun n e => by cases e; decide
      · show l.toArray.size ≤ 1000
        rw [List.size_toArray]; omega
      rw [rl, one]
      have hv := twoC_ok (k := .m 1) (by decide) hA hB AB
      exact ⟨⟨_, one_less hA hB AB hin, S2.trans S4, by rw [run1_len]; exact hl, run1_col hv hc', (all_one hA hB AB l).trans hm, rfl⟩, fun p hp => by simpa [forget, tau0] using hp⟩
    rw [decide_eq_false hin]
    refine iteF (A := True) ?_
    have size : ∀ l : List Nat, l.length ≤ 1000 → (rowOf l).cps.size ≤ 1000 := fun l h => by show l.toArray.size ≤ 1000; rw [List.size_toArray]; exact h
    have hl2 : l = L.map (allF A B) := by rw [← hm, all_none hin]
    rw [ez]
    repeat (first | refine ⟨_, rfl, ?_⟩ | refine ⟨_, _, rfl, rfl, ?_⟩)
    intro w1 r1
    refine ⟨tv a, by simp [forget, tau0], ?_⟩
    refine ⟨tv b, by simp [forget, tau0], ?_⟩
    refine ⟨V.str "all", a, b, r1, rfl, rfl, fun t1 u1 ht1 hP1 => ?_⟩
    intro p1 hp1
    repeat (first | refine ⟨_, rfl, ?_⟩ | refine ⟨_, _, rfl, rfl, ?_⟩)
    intro w2 _ w3 _
    have U1 := S.trans ((Same.new (o := u1) ht1).trans (Same.new (o := .lst [.ref t1]) hp1))
    refine ⟨p1, [⟨.s "all", a.1, b.1⟩], rowOf L, rfl, dr1 (k := .s "all") hP1 ht1 hp1 ta tb tab, fun c hcm => ?_, fun c hcm => ?_, size _ (by omega), hc, fun G1 V1 => ?_⟩
    · rw [List.mem_singleton.mp hcm]; exact okc _ (by decide)
    · rw [List.mem_singleton.mp hcm]; exact fun n e => by cases e
    rw [rl, one]
    have T1 := U1.trans V1
    repeat (first | refine ⟨_, rfl, ?_⟩ | refine ⟨_, _, rfl, rfl, ?_⟩)
    rw [run_allN hA hB AB, ← hl2]
    rw [decide_eq_true rfl, Bool.not_true]
    refine iteF (A := True) ?_
    have okd : ∀ k : Kd, k.ok = true → (Cl.mk k b.1 a.1).ok = true := fun k hk => Cl.mk_ok (k := k) (a := b.1) (b := a.1) hk hb ha (Ne.symm ab)
    have oned : ∀ (k : Kd) (l : List Nat), runs [⟨k, b.1, a.1⟩] l = run1 (twoC k B A) l := fun k l => by rw [eA, eB]; rfl
    repeat (first | refine ⟨_, rfl, ?_⟩ | refine ⟨_, _, rfl, rfl, ?_⟩)
    intro w1 r1
    refine ⟨tv a, by simp [forget, tau0], ?_⟩
    refine ⟨tv b, by simp [forget, tau0], ?_⟩
    refine ⟨V.str "swap", a, b, r1, rfl, rfl, fun t2 u2 ht2 hP2 => ?_⟩
    intro p2 hp2
    repeat (first | refine ⟨_, rfl, ?_⟩ | refine ⟨_, _, rfl, rfl, ?_⟩)
    intro w2 _ w3 _
    have U2 := T1.trans ((Same.new (o := u2) ht2).trans (Same.new (o := .lst [.ref t2]) hp2))
    refine ⟨p2, [⟨.s "swap", a.1, b.1⟩], rowOf (L), rfl, dr1 (k := .s "swap") hP2 ht2 hp2 ta tb tab, fun c hcm => ?_, fun c hcm => ?_, size _ (by first | exact hLs | (rw [run1_len]; exact hLs)), hc, fun G2 V2 => ?_⟩
    · rw [List.mem_singleton.mp hcm]; exact okc _ (by decide)
    · rw [List.mem_singleton.mp hcm]; exact fun n e => by cases e
    rw [rl, one]
    have T2 := U2.trans V2
    repeat (first | refine ⟨_, rfl, ?_⟩ | refine ⟨_, _, rfl, rfl, ?_⟩)
    intro w1 r1
    refine ⟨tv b, by simp [forget, tau0], ?_⟩
    refine ⟨tv a, by simp [forget, tau0], ?_⟩
    refine ⟨V.str "swap", b, a, r1, rfl, rfl, fun t3 u3 ht3 hP3 => ?_⟩
    intro p3 hp3
    repeat (first | refine ⟨_, rfl, ?_⟩ | refine ⟨_, _, rfl, rfl, ?_⟩)
    intro w2 _ w3 _
    have U3 := T2.trans ((Same.new (o := u3) ht3).trans (Same.new (o := .lst [.ref t3]) hp3))
    refine ⟨p3, [⟨.s "swap", b.1, a.1⟩], rowOf (L), rfl, dr1 (k := .s "swap") hP3 ht3 hp3 tb ta (Ne.symm tab), fun c hcm => ?_, fun c hcm => ?_, size _ (by first | exact hLs | (rw [run1_len]; exact hLs)), hc, fun G3 V3 => ?_⟩
    · rw [List.mem_singleton.mp hcm]; exact okd _ (by decide)
    · rw [List.mem_singleton.mp hcm]; exact fun n e => by cases e
    rw [rl, oned]
    have T3 := U3.trans V3
    repeat (first | refine ⟨_, rfl, ?_⟩ | refine ⟨_, _, rfl, rfl, ?_⟩)
    rw [← swp_other hA hB AB]
    rw [decide_eq_true rfl, Bool.not_true]
    refine iteF (A := True) ?_
    repeat (first | refine ⟨_, rfl, ?_⟩ | refine ⟨_, _, rfl, rfl, ?_⟩)
    intro w1 r1
    refine ⟨tv a, by simp [forget, tau0], ?_⟩
    refine ⟨tv b, by simp [forget, tau0], ?_⟩
    refine ⟨V.str "swap", a, b, r1, rfl, rfl, fun t4 u4 ht4 hP4 => ?_⟩
    intro p4 hp4
    repeat (first | refine ⟨_, rfl, ?_⟩ | refine ⟨_, _, rfl, rfl, ?_⟩)
    intro w2 _ w3 _
    have U4 := T3.trans ((Same.new (o := u4) ht4).trans (Same.new (o := .lst [.ref t4]) hp4))
    refine ⟨p4, [⟨.s "swap", a.1, b.1⟩], rowOf (run1 (twoC (.s "swap") A B) L), rfl, dr1 (k := .s "swap") hP4 ht4 hp4 ta tb tab, fun c hcm => ?_, fun c hcm => ?_, size _ (by first | exact hLs | (rw [run1_len]; exact hLs)), fun x hx => run1_col (twoC_ok (k := .s "swap") (by decide) hA hB AB) hc x hx, fun G4 V4 => ?_⟩
    · rw [List.mem_singleton.mp hcm]; exact okc _ (by decide)
    · rw [List.mem_singleton.mp hcm]; exact fun n e => by cases e
    rw [rl, one]
    have T4 := U4.trans V4
    repeat (first | refine ⟨_, rfl, ?_⟩ | refine ⟨_, _, rfl, rfl, ?_⟩)
    rw [swp2_id hA hB AB]
    rw [decide_eq_true rfl, Bool.not_true]
    refine iteF (A := True) ?_
    repeat (first | refine ⟨_, rfl, ?_⟩ | refine ⟨_, _, rfl, rfl, ?_⟩)
    intro w1 r1
    refine ⟨tv a, by simp [forget, tau0], ?_⟩
    refine ⟨tv b, by simp [forget, tau0], ?_⟩
    refine ⟨V.int m, a, b, r1, rfl, rfl, fun t5 u5 ht5 hP5 => ?_⟩
    intro p5 hp5
    repeat (first | refine ⟨_, rfl, ?_⟩ | refine ⟨_, _, rfl, rfl, ?_⟩)
    intro w2 _ w3 _
    have U5 := T4.trans ((Same.new (o := u5) ht5).trans (Same.new (o := .lst [.ref t5]) hp5))
    refine ⟨p5, [⟨.m m, a.1, b.1⟩], rowOf (L), rfl, dr1 (k := .m m) hP5 ht5 hp5 ta tb tab, fun c hcm => ?_, fun c hcm => ?_, size _ (by first | exact hLs | (rw [run1_len]; exact hLs)), hc, fun G5 V5 => ?_⟩
    · rw [List.mem_singleton.mp hcm]; exact okc _ (decide_eq_true m1)
    · rw [List.mem_singleton.mp hcm]; exact fun n e => by cases e; exact Int.le_trans m2 (by decide)
    rw [rl, one]
    have T5 := U5.trans V5
    obtain ⟨M, eM⟩ : ∃ M, M = run1 (twoC (.m m) A B) L := ⟨_, rfl⟩
    have lM : M.length = L.length := by rw [eM, run1_len]
    rw [← eM]
    have hsz : (rowOf L).length ≤ sizeLine := Nat.le_trans (size L hLs) (by decide)
    have hszM : (rowOf M).length ≤ sizeLine := Nat.le_trans (size M (by omega)) (by decide)
    have eln : (rowOf L).length = L.length := by show L.toArray.size = _; rw [List.size_toArray]
    repeat (first | refine ⟨_, rfl, ?_⟩ | refine ⟨_, _, rfl, rfl, ?_⟩)
    refine ⟨hsz, ?_⟩
    rw [eln]
    repeat (first | refine ⟨_, rfl, ?_⟩ | refine ⟨_, _, rfl, rfl, ?_⟩)
    refine ⟨by omega, by omega, fun Dd hDd => ?_⟩
    refine lc_it walk_range (fun i F => Same H F ∧ F Dd = some (.lst (((List.range i).filter fun j => !decide (L[j]? = M[j]?)).map fun (k : Nat) => V.int (k : Int)))) ⟨T5.trans (Same.new hDd), upd_same⟩ (fun _ _ _ _ => trivial) ?_ ?_
    · rintro i y F F' hi ⟨SF, hF⟩ ⟨rfl, rfl⟩
      have hi' : i < L.length := by omega
      obtain ⟨x, hx⟩ := get_of_lt hi'
      obtain ⟨x2, hx2⟩ := get_of_lt (l := M) (i := i) (by omega)
      refine ⟨rfl, ?_⟩
      repeat (first | refine ⟨_, rfl, ?_⟩ | refine ⟨_, _, rfl, rfl, ?_⟩)
      refine ⟨rowOf L, 0 + (i : Nat), x, rfl, rfl, hsz, by rw [Int.zero_add]; exact atI_nat hx, ?_⟩
      repeat (first | refine ⟨_, rfl, ?_⟩ | refine ⟨_, _, rfl, rfl, ?_⟩)
      refine ⟨rowOf M, 0 + (i : Nat), x2, rfl, rfl, hszM, by rw [Int.zero_add]; exact atI_nat hx2, ?_⟩
      have hd0 := T5.free hDd
      refine ⟨rfl, _, rfl, if_two_not (fun h => ?_) (fun h => ?_)⟩
      · have ne : ¬ (L[i]? = M[i]?) := fun e => h (by rw [hx, hx2] at e; rw [Option.some.inj e])
        repeat (first | refine ⟨_, rfl, ?_⟩ | refine ⟨_, _, rfl, rfl, ?_⟩)
        refine ⟨_, hF, ?_, ext_same SF hd0 (Same.refl _), ?_⟩
        · rw [List.length_map]
          exact Nat.lt_of_le_of_lt (Nat.le_trans (List.length_filter_le _ _) (by rw [List.length_range]; omega : (List.range i).length ≤ 1000)) (by decide)
        · rw [upd_same, List.range_succ, List.filter_append, List.filter_cons_of_pos (by rw [decide_eq_false ne]; rfl), List.filter_nil, List.map_append]
          show some (HO.lst (_ ++ [V.int (0 + (i : Nat))])) = some (HO.lst (_ ++ [V.int (i : Int)]))
          rw [Int.zero_add]
      · have e : L[i]? = M[i]? := by
          have h2 : x = x2 := by have := congrArg (fun v => match v with | V.str s => s.cps.toList | _ => []) h; simpa using this
          rw [hx, hx2, h2]
        refine ⟨SF, ?_⟩
        rw [hF, List.range_succ, List.filter_append, List.filter_cons_of_neg (by rw [decide_eq_true e]; decide), List.filter_nil, List.append_nil]
    rintro F ⟨SF, hF⟩
    have ap := apart_one m1 hA hB AB L
    rw [← eM] at ap
    have hn : ((L.length : Nat) : Int).toNat = L.length := by omega
    rw [hn] at hF
    repeat (first | refine ⟨_, rfl, ?_⟩ | refine ⟨_, _, rfl, rfl, ?_⟩)
    refine ⟨Dd, _, rfl, .inl (SqL.of hF), ?_⟩
    rw [List.length_map]
    repeat (first | refine ⟨_, rfl, ?_⟩ | refine ⟨_, _, rfl, rfl, ?_⟩)
    refine ⟨rfl, ?_⟩
    have cA : Txt.count (rowOf L) a.1 = L.count A := by rw [eA]; exact txt_count _ _
    have cB : Txt.count (rowOf L) b.1 = L.count B := by rw [eB]; exact txt_count _ _
    have cM : Txt.count (rowOf M) b.1 = M.count B := by rw [eB]; exact txt_count _ _
    have mo := more_other m1 hA hB AB L
    rw [← eM] at mo
    repeat (first | refine ⟨_, rfl, ?_⟩ | refine ⟨_, _, rfl, rfl, ?_⟩)
    rw [cA]
    refine .inr ⟨_, rfl, ?_⟩
    have e1 : (((List.range L.length).filter fun j => !decide (L[j]? = M[j]?)).length : Int) = if decide (m ≤ ((L.count A : Nat) : Int)) = true then 1 else 0 := by
      have ap' : ((List.range L.length).filter fun j => !decide (L[j]? = M[j]?)).length = if m ≤ (L.count A : Nat) then 1 else 0 := ap
      rw [ap']
      by_cases q : m ≤ ((L.count A : Nat) : Int)
      · rw [if_pos q, if_pos (decide_eq_true q)]; rfl
      · rw [if_neg q, if_neg (by rw [decide_eq_false q]; decide)]; rfl
    rw [← e1]
    refine ⟨rfl, _, rfl, ?_⟩
    rw [decide_eq_true rfl]
    refine iteT (B := True) ?_
    repeat (first | refine ⟨_, rfl, ?_⟩ | refine ⟨_, _, rfl, rfl, ?_⟩)
    refine ⟨rfl, ?_⟩
    repeat (first | refine ⟨_, rfl, ?_⟩ | refine ⟨_, _, rfl, rfl, ?_⟩)
    refine ⟨rfl, ?_⟩
    repeat (first | refine ⟨_, rfl, ?_⟩ | refine ⟨_, _, rfl, rfl, ?_⟩)
    refine ⟨Dd, _, rfl, .inl (SqL.of hF), ?_⟩
    rw [List.length_map, cM, cB]
    repeat (first | refine ⟨_, rfl, ?_⟩ | refine ⟨_, _, rfl, rfl, ?_⟩)
    refine ⟨rfl, ?_⟩
    have e2 : ((M.count B : Nat) : Int) = ((L.count B : Nat) : Int) + ((((List.range L.length).filter fun j => !decide (L[j]? = M[j]?)).length : Nat) : Int) := by
      rw [mo, show ((List.range L.length).filter fun j => !decide (L[j]? = M[j]?)).length = if m ≤ (L.count A : Nat) then 1 else 0 from ap]
      omega
    rw [e2, decide_eq_true rfl]
    exact fin _ SF
end Dr
namespace Dr
open PySem L2
theorem SC_law : FnScope ["script", "source", "k", "turn", "line", "orders", "names", "renamed", "kind", "old", "new"] ["script"] (defScope s_law) := ⟨rfl, rfl, rfl, by decide +kernel, rfl, by decide +kernel, by decide +kernel⟩

theorem ok_law {P : Program} {w : World} {K : PySem.W.Frag} {mg : Str → Option Value} {base : Heap} (T : Txt K mg) (G__law_source : FnOk P w K mg base CX0 1 T.a__law_source T.fd__law_source ["script"] (sp_law_source K)) (G__law_line : FnOk P w K mg base CX0 3 T.a__law_line T.fd__law_line ["source", "most"] (sp_lineS K)) (G__law_draw : FnOk P w K mg base CX0 1 T.a__law_draw T.fd__law_draw ["source", "many"] (sp_law_drawS K)) (G__law_orders : FnOk P w K mg base CX0 4 T.a__law_orders T.fd__law_orders ["source", "most"] (sp_ordersS K)) (G__law_shuffled : FnOk P w K mg base CX0 2 T.a__law_shuffled T.fd__law_shuffled ["source", "items"] (sp_shufF K)) (G__law_shuffled_P : FnOk P w K mg base CX0 2 T.a__law_shuffled T.fd__law_shuffled ["source", "items"] (sp_shufP K)) (G__law_shuffled_T : FnT P w K mg base CX0 2 T.a__law_shuffled T.fd__law_shuffled ["source", "items"] (sp_shufT K)) (G__law_renamed : FnOk P w K mg base CX0 1 T.a__law_renamed T.fd__law_renamed ["names", "line"] (sp_renamed K)) (G__law_renamed_V : FnV P w K mg base CX0 1 T.a__law_renamed T.fd__law_renamed ["names", "line"] (spv_renamed K)) (G_run_drill : FnOk P w K mg base CX0 5 T.a_run_drill T.fd_run_drill ["drill", "row"] (sp_run_drill K)) (G__law_calls_right : FnA P w K mg base CX0 6 T.a__law_calls_right T.fd__law_calls_right ["line", "old", "new", "number"] (sp_calls_right K)) : FnG P w K mg base CX0 7 T.a_law T.fd_law ["script"] (sp_law K) := by
  have SC := SC_law
  refine okG T.F_law SC (fun vs H Q E h => ?_) (fun cdv A outer s H vs Q E hr gd h => ?_)
  · obtain ⟨a, ns, rfl, hS, h63, q0⟩ := h
    rfl
  · obtain ⟨a, ns, rfl, hS, h63, q0⟩ := h
    refine ⟨_, (pss_cons (ps_set (i := 1) SC.nd rfl (by first | exact Or.inl rfl | exact Or.inr rfl) (pe_call G__law_source (hr.mono (by decide)) (by rfl) T.m__law_source T.F__law_source.kp T.b__law_source .nil pass0 (pa_cons (pv 0) pa_nil)))
       (pss_cons (ps_for PassesOwn.never rfl (pi_range1 (by rfl) T.n_range (pa_cons (pe_op op_add pe_int (pe_callB (call_min2 rfl) (by rfl) T.n_min (by decide +kernel) (pa_cons pe_int (pa_cons (pe_callB (call_len_seqK (K := K) rfl) (by rfl) T.n_len (by decide +kernel) (pa_cons (pv 0) pa_nil)) pa_nil)))) pa_nil)) (pg_name (i := 2) SC.nd rfl (by first | exact Or.inl rfl | exact Or.inr rfl))
       (pss_one (ps_for PassesOwn.never rfl (pi_range1 (by rfl) T.n_range (pa_cons pe_int pa_nil)) (pg_name (i := 3) SC.nd rfl (by first | exact Or.inl rfl | exact Or.inr rfl))
       (pss_cons (ps_set (i := 4) SC.nd rfl (by first | exact Or.inl rfl | exact Or.inr rfl) (pe_call G__law_line (hr.mono (by decide)) (by rfl) T.m__law_line T.F__law_line.kp T.b__law_line .nil pass0 (pa_cons (pv 1) (pa_cons (pe_ix (ix_listK (K := K) rfl) (pe_lst (pa_cons pe_int (pa_cons pe_int pa_nil))) (pe_call G__law_draw (hr.mono (by decide)) (by rfl) T.m__law_draw T.F__law_draw.kp T.b__law_draw .nil pass0 (pa_cons (pv 1) (pa_cons pe_int pa_nil))) (fun _ _ => rfl)) pa_nil))))
       (pss_cons (ps_set (i := 5) SC.nd rfl (by first | exact Or.inl rfl | exact Or.inr rfl) (pe_call G__law_orders (hr.mono (by decide)) (by rfl) T.m__law_orders T.F__law_orders.kp T.b__law_orders .nil pass0 (pa_cons (pv 1) (pa_cons pe_int pa_nil))))
       (pss_cons (ps_set (i := 6) SC.nd rfl (by first | exact Or.inl rfl | exact Or.inr rfl) (pe_callTc G__law_shuffled_T (hr.mono (by decide)) (by rfl) T.m__law_shuffled T.F__law_shuffled.kp T.b__law_shuffled pass0 (pv 1)))
       (pss_cons (ps_setLc (i := 7) (own := [("kind", 8), ("old", 9), ("new", 10)]) rfl SC.nd rfl rfl (sw_true rfl rfl rfl (by decide +kernel)) (pi_list (pv 5)) (blkOk_by (N := ["script", "source", "k", "turn", "line", "orders", "names", "renamed", "kind", "old", "new"]) (sc := defScope s_law) (by decide +kernel)) (fun _ _ _ _ _ => by exact pg_tupK (K := K) 3 rfl rfl (pgs_cons (pg_name (i := 8) SC.nd rfl (by first | exact Or.inl rfl | exact Or.inr rfl)) (pgs_cons (pg_name (i := 9) SC.nd rfl (by first | exact Or.inl rfl | exact Or.inr rfl)) (pgs_cons (pg_name (i := 10) SC.nd rfl (by first | exact Or.inl rfl | exact Or.inr rfl)) pgs_nil)))) (fun _ _ _ _ _ => by exact pts_nil) (fun _ _ _ _ _ => by exact (pe_ofX (kt_tup3 (kt_any (kv (i := 8) rfl (by first | exact Or.inl rfl | exact Or.inr (Or.inl rfl) | exact Or.inr (Or.inr rfl)))) (kt_of (kcallV G__law_renamed_V (hr.mono (by decide)) (by rfl) T.m__law_renamed T.F__law_renamed.kp T.b__law_renamed pass0 (ka_cons (kv (i := 6) rfl (by first | exact Or.inl rfl | exact Or.inr (Or.inl rfl) | exact Or.inr (Or.inr rfl))) (ka_cons (kv (i := 9) rfl (by first | exact Or.inl rfl | exact Or.inr (Or.inl rfl) | exact Or.inr (Or.inr rfl))) ka_nil)))) (kt_of (kcallV G__law_renamed_V (hr.mono (by decide)) (by rfl) T.m__law_renamed T.F__law_renamed.kp T.b__law_renamed pass0 (ka_cons (kv (i := 6) rfl (by first | exact Or.inl rfl | exact Or.inr (Or.inl rfl) | exact Or.inr (Or.inr rfl))) (ka_cons (kv (i := 10) rfl (by first | exact Or.inl rfl | exact Or.inr (Or.inl rfl) | exact Or.inr (Or.inr rfl))) ka_nil))))))))
       (pss_cons (ps_if (pt_cmpR op_ne (pe_call G_run_drill (hr.mono (by decide)) (by rfl) T.m_run_drill T.F_run_drill.kp T.b_run_drill .nil pass0 (pa_cons (pv 7) (pa_cons (pe_call G__law_renamed (hr.mono (by decide)) (by rfl) T.m__law_renamed T.F__law_renamed.kp T.b__law_renamed .nil pass0 (pa_cons (pv 6) (pa_cons (pv 4) pa_nil))) pa_nil))) (pe_call G__law_renamed (hr.mono (by decide)) (by rfl) T.m__law_renamed T.F__law_renamed.kp T.b__law_renamed .nil pass0 (pa_cons (pv 6) (pa_cons (pe_call G_run_drill (hr.mono (by decide)) (by rfl) T.m_run_drill T.F_run_drill.kp T.b_run_drill .nil pass0 (pa_cons (pv 5) (pa_cons (pv 4) pa_nil))) pa_nil))) (nomark _)) (pss_one (ps_ret pe_bl))
       pss_nil)
       (pss_one (ps_if (pt_not (pt_val (pe_ofT (pet_callF G__law_calls_right (hr.mono (by decide)) (by rfl) T.m__law_calls_right T.F__law_calls_right.kp T.b__law_calls_right pass0 (pat_cons (kt_any (kv (i := 4) rfl (by first | exact Or.inl rfl | exact Or.inr (Or.inl rfl) | exact Or.inr (Or.inr rfl)))) (pat_cons (kt_of (kvix (kv (i := 6) rfl (by first | exact Or.inl rfl | exact Or.inr (Or.inl rfl) | exact Or.inr (Or.inr rfl))) kint (fun _ _ => rfl))) (pat_cons (kt_of (kvix (kv (i := 6) rfl (by first | exact Or.inl rfl | exact Or.inr (Or.inl rfl) | exact Or.inr (Or.inr rfl))) kint (fun _ _ => rfl))) (pat_cons (kt_any (kop kadd kint (kcall G__law_draw (hr.mono (by decide)) (by rfl) T.m__law_draw T.F__law_draw.kp T.b__law_draw pass0 (ka_cons (kv (i := 1) rfl (by first | exact Or.inl rfl | exact Or.inr (Or.inl rfl) | exact Or.inr (Or.inr rfl))) (ka_cons (kix (kixN (K := K) rfl) (klst (ka_cons kint (ka_cons kint ka_nil))) (kcall G__law_draw (hr.mono (by decide)) (by rfl) T.m__law_draw T.F__law_draw.kp T.b__law_draw pass0 (ka_cons (kv (i := 1) rfl (by first | exact Or.inl rfl | exact Or.inr (Or.inl rfl) | exact Or.inr (Or.inr rfl))) (ka_cons kint ka_nil))) (fun _ _ => rfl)) ka_nil))))) pat_nil)))))))) (pss_one (ps_ret pe_bl))
       pss_nil))))))))))
       (pss_one (ps_ret pe_bl)))), ?_⟩
    repeat (first | refine ⟨_, rfl, ?_⟩ | refine ⟨_, _, rfl, rfl, ?_⟩)
    refine ⟨a, ns, rfl, hS, by omega, fun H1 r q S1 nr nq R1 => ?_⟩
    repeat (first | refine ⟨_, rfl, ?_⟩ | refine ⟨_, _, rfl, rfl, ?_⟩)
    refine ⟨_, _, rfl, .inl (S1.seq hS), ?_⟩
    rw [List.length_map]
    refine ⟨_, _, rfl, ?_⟩
    repeat (first | refine ⟨_, rfl, ?_⟩ | refine ⟨_, _, rfl, rfl, ?_⟩)
    generalize hn : (3 : Int) + (if (ns.length : Int) < 8 then (ns.length : Int) else 8) = n
    have hn11 : 0 ≤ n ∧ n ≤ 11 := by rw [← hn]; split <;> omega
    refine ⟨by omega, by omega, ?_⟩
    refine for_it walk_range (fun i σ H' => Src H' r q (i * 330000) ∧ ∃ u2 u3 u4 u5 u6 u7 u8 u9 u10 : Option V, σ = [some (.ref a), some (.ref r), u2, u3, u4, u5, u6, u7, u8, u9, u10])
      ⟨R1, none, none, none, none, none, none, none, none, none, rfl⟩ (fun _ _ _ _ _ => trivial) ?_ ?_
    rotate_left
    · rintro σ H2 ⟨R2, u2, u3, u4, u5, u6, u7, u8, u9, u10, rfl⟩
      repeat (first | refine ⟨_, rfl, ?_⟩ | refine ⟨_, _, rfl, rfl, ?_⟩)
      exact q0 _
    rintro i y σ H2 H2' hi ⟨R2, u2, u3, u4, u5, u6, u7, u8, u9, u10, rfl⟩ ⟨rfl, rfl⟩
    have hc : i * 330000 ≤ 3630000 := by omega
    obtain ⟨c, ec⟩ : ∃ c, c = i * 330000 := ⟨_, rfl⟩
    rw [← ec] at R2 hc
    repeat (first | refine ⟨_, rfl, ?_⟩ | refine ⟨_, _, rfl, rfl, ?_⟩)
    refine ⟨by decide, by decide, ?_⟩
    refine for_it walk_range (fun j σ H' => Src H' r q (c + j * 110000) ∧ ∃ u3 u4 u5 u6 u7 u8 u9 u10 : Option V, σ = [some (.ref a), some (.ref r), some (.int (0 + (i : Nat))), u3, u4, u5, u6, u7, u8, u9, u10])
      ⟨R2, _, _, _, _, _, _, _, _, rfl⟩ (fun _ _ _ _ _ => trivial) ?_ ?_
    rotate_left
    · rintro σ H3 ⟨R3, u3, u4, u5, u6, u7, u8, u9, u10, rfl⟩
      have hc3 : c + 3 * 110000 ≤ (i + 1) * 330000 := by omega
      exact ⟨R3.mono hc3, _, _, _, _, _, _, _, _, _, rfl⟩
    rintro j y σ H3 H3' hj ⟨R3, u3, u4, u5, u6, u7, u8, u9, u10, rfl⟩ ⟨rfl, rfl⟩
    have hj3 : j < 3 := hj
    obtain ⟨d, ed⟩ : ∃ d, d = c + j * 110000 := ⟨_, rfl⟩
    have hd : d ≤ 300000000 := by omega
    rw [← ed] at R3
    
    repeat (first | refine ⟨_, rfl, ?_⟩ | refine ⟨_, _, rfl, rfl, ?_⟩)
    refine ⟨by show 2 ≤ sizeLine; decide, fun m hm => ?_⟩
    have nm := R3.nin hm
    repeat (first | refine ⟨_, rfl, ?_⟩ | refine ⟨_, _, rfl, rfl, ?_⟩)
    refine ⟨r, q, 2, d, rfl, R3.new hm, by omega, by decide, by decide, fun H4 n4 S4 R4 m0 m1 => ?_⟩
    obtain ⟨lo, hlo, elo⟩ := pick_ints (ns := [7, 60]) m0 (by simpa using m1)
    have hlo2 : 0 ≤ lo ∧ lo ≤ 60 := by simp at hlo; omega
    refine ⟨m, _, _, _, rfl, rfl, SqL.of (extL_get S4 nm upd_same), elo, ?_⟩
    refine ⟨r, q, lo, _, rfl, R4, by omega, by omega, by omega, fun H5 z S5 R5 hz hzl => ?_⟩
    have hzs : z.cps.size ≤ 60 := by omega
    repeat (first | refine ⟨_, rfl, ?_⟩ | refine ⟨_, _, rfl, rfl, ?_⟩)
    refine ⟨r, q, 8, d + 3001, rfl, R5.mono (by omega), by omega, by decide, by decide, fun H8 od D S8 R8 fo no hD hok hle hlen => ?_⟩
    repeat (first | refine ⟨_, rfl, ?_⟩ | refine ⟨_, _, rfl, rfl, ?_⟩)
    refine ⟨r, q, "abcdef", _, rfl, R8, by omega, by decide +kernel, by decide +kernel, fun H9 np ps S9 R9 f9 n9 hF hT hp => ?_⟩
    rw [abc_sg] at hp
    have l6 : ps.length = 6 := by
      have := hp.length_eq
      rw [List.length_map] at this
      exact this
    obtain ⟨hL, _⟩ := lett_abc hT hp (n := 6) (by decide) (by decide)
    rw [List.take_of_length_le (by omega)] at hL
    have hD9 : DrillT K H9 od D := (hD.same S9).same hidL_same
    have RN := ren_of hL l6
    obtain ⟨ts, hts, htl, hall⟩ := id hD9
    repeat (first | refine ⟨_, rfl, ?_⟩ | refine ⟨_, _, rfl, rfl, ?_⟩)
    refine ⟨⟨_, hts⟩, fun X1 hX => ?_⟩
    refine lc_it (walk_list (xs := ts.map V.ref)) (fun i F => Same H9 F ∧ ∃ as : List Addr, as.length = i ∧ F X1 = some (.lst (as.map V.ref)) ∧ ∀ (j : Nat) (t : Addr) (c : Cl), as[j]? = some t → D[j]? = some c → t ≠ X1 ∧ TCl K F t (rnC (renT ps) c))
      ⟨Same.new hX, [], rfl, upd_same, fun j t c h => by simp at h⟩ (fun i F _ h => h.1.seq hts) ?_ ?_
    · rintro i2 y F F' hi2 ⟨SF, as, la, hA, tA⟩ ⟨rfl, hy⟩
      obtain ⟨t, ht, rfl⟩ := map_get hy
      obtain ⟨cl, hcl⟩ := get_of_lt (l := D) (i := i2) (by rw [← htl]; exact lt_of_get ht)
      have hcm := List.mem_of_getElem? hcl
      obtain ⟨xa, xb, pa, pb, ea, eb, hxa, hxb, hpa, hpb, la1, lb1, ea2, eb2, a0, b0, ab⟩ := ren_call hL l6 (hok cl hcm)
      have TC : ∀ G : Hp, Same H9 G → SqT K G t [cl.k.v, .str (sg xa), .str (sg xb)] := fun G S => by
        have h := Same.sqT S (hall i2 t cl ht hcl).1
        rw [← ea, ← eb]
        exact h
      refine ⟨t, _, rfl, TC _ SF, rfl, ?_⟩
      refine ⟨_, _, rfl, _, _, rfl, _, _, rfl, rfl, ?_⟩
      refine ⟨rfl, ?_⟩
      repeat (first | refine ⟨_, rfl, ?_⟩ | refine ⟨_, _, rfl, rfl, ?_⟩)
      dsimp only [tNoTau]
      intro w1 r1
      repeat (first | refine ⟨_, rfl, ?_⟩ | refine ⟨_, _, rfl, rfl, ?_⟩)
      refine ⟨np, ps, xa, pa, rfl, hF.same SF, hxa, hpa, la1, fun G1 T1 => ?_⟩
      repeat (first | refine ⟨_, rfl, ?_⟩ | refine ⟨_, _, rfl, rfl, ?_⟩)
      refine ⟨np, ps, xb, pb, rfl, hF.same (SF.trans T1), hxb, hpb, lb1, fun G2 T2 => ?_⟩
      refine ⟨cl.k.v, pa, pb, r1, rfl, rfl, fun t2 u2 ht2 hP2 => ?_⟩
      have hA2 := T2 _ _ (T1 _ _ hA)
      have hne : t2 ≠ X1 := fun e => by rw [e, hA2] at ht2; cases ht2
      have ST := SF.trans (T1.trans T2)
      have hl2 : as.length < 1000 := by rw [List.length_map] at hi2; omega
      refine ⟨_, by rw [upd_ne (Ne.symm hne)]; exact hA2, by rw [List.length_map]; exact small1000 (Nat.le_of_lt hl2), ?_⟩
      refine ⟨ext_same (ST.trans (Same.new ht2)) hX (Same.refl _), as ++ [t2], by simp [la], by rw [upd_same, List.map_append]; rfl, fun j2 t' c h1 h2 => ?_⟩
      by_cases hj : j2 < as.length
      · rw [List.getElem?_append_left hj] at h1
        obtain ⟨n1, q1⟩ := tA j2 t' c h1 h2
        exact ⟨n1, (((q1.same T1).same T2).same (Same.new ht2)).at fun o e => by rw [upd_ne n1]; exact e⟩
      · have hj2 : j2 = as.length := by
          have := lt_of_get h1
          simp at this
          omega
        subst hj2
        have e1 : t' = t2 := by simpa using h1.symm
        subst e1
        rw [la, hcl] at h2
        cases h2
        exact ⟨hne, (tpair_tc (c := rnC (renT ps) cl) hP2 ea2 eb2 fun _ => ⟨a0, b0, ab⟩).at fun o e => by rw [upd_ne hne]; exact e⟩
    rintro F ⟨SF, as, la, hA, tA⟩
    have hDR : DrillT K F X1 (D.map (rnC (renT ps))) := ⟨as, SqL.of hA, by rw [la, List.length_map, List.length_map, htl], fun j t c' a b => by
      obtain ⟨c0, hc0, rfl⟩ := map_get b
      exact (tA j t c0 a hc0).2⟩
    have hF2 : TF F np ps := hF.same SF
    have hle60 : ∀ cl ∈ D, Cl.le (2 ^ 60) cl := fun cl hcl k hk => Int.le_trans (hle cl hcl k hk) (by decide)
    have okR : ∀ c ∈ D.map (rnC (renT ps)), c.ok = true := fun c hc => by
      obtain ⟨c0, h0, rfl⟩ := List.mem_map.mp hc
      exact rnC_ok RN (hok c0 h0)
    have leR : ∀ c ∈ D.map (rnC (renT ps)), Cl.le (2 ^ 60) c := fun c hc => by
      obtain ⟨c0, h0, rfl⟩ := List.mem_map.mp hc
      exact hle60 c0 h0
    have ez : z.cps.toList.length ≤ 60 := by simpa using hzs
    have szl : ∀ l : List Nat, l.length ≤ 60 → (rowOf l).cps.size ≤ 1000 := fun l h => by show l.toArray.size ≤ 1000; rw [List.size_toArray]; omega
    have cR : ∀ x ∈ z.cps.toList.map (renT ps), x ∈ colN := fun x hx => by
      obtain ⟨y, hy, rfl⟩ := List.mem_map.mp hx
      exact RN.col y (hz y hy)
    repeat (first | refine ⟨_, rfl, ?_⟩ | refine ⟨_, _, rfl, rfl, ?_⟩)
    refine ⟨np, ps, z, rfl, hF2, hL, l6, by omega, hz, fun G1 T1 => ?_⟩
    repeat (first | refine ⟨_, rfl, ?_⟩ | refine ⟨_, _, rfl, rfl, ?_⟩)
    refine ⟨X1, D.map (rnC (renT ps)), _, rfl, hDR.same T1, okR, leR, szl _ (by rw [List.length_map]; exact ez), cR, fun G2 T2 => ?_⟩
    repeat (first | refine ⟨_, rfl, ?_⟩ | refine ⟨_, _, rfl, rfl, ?_⟩)
    refine ⟨od, D, z, rfl, hD9.same (SF.trans (T1.trans T2)), hok, hle60, by omega, hz, fun G3 T3 => ?_⟩
    repeat (first | refine ⟨_, rfl, ?_⟩ | refine ⟨_, _, rfl, rfl, ?_⟩)
    refine ⟨np, ps, _, rfl, hF2.same (T1.trans (T2.trans T3)), hL, l6, szl _ (by rw [runs_len]; exact ez), runs_col hok hz, fun G4 T4 => ?_⟩
    have eren : (V.str (rowOf (runs (D.map (rnC (renT ps))) (rowOf (z.cps.toList.map (renT ps))).cps.toList))) = V.str (rowOf ((rowOf (runs D z.cps.toList)).cps.toList.map (renT ps))) :=
      congrArg (fun l => V.str (rowOf l)) (runs_ren RN hok hz)
    refine ⟨rfl, _, rfl, if_two_not (fun h => absurd eren h) (fun _ => ?_)⟩
    have T14 := SF.trans (T1.trans (T2.trans (T3.trans T4)))
    have R10 := R9.same T14
    have hF4 := hF.same T14
    obtain ⟨n0, h0⟩ := get_of_lt (l := ps) (i := 0) (by omega)
    obtain ⟨n1, h1⟩ := get_of_lt (l := ps) (i := 1) (by omega)
    repeat (first | refine ⟨_, rfl, ?_⟩ | refine ⟨_, _, rfl, rfl, ?_⟩)
    dsimp only [tNoTau]
    intro w1 r1
    refine ⟨_, r1, ?_⟩
    repeat (first | refine ⟨_, rfl, ?_⟩ | refine ⟨_, _, rfl, rfl, ?_⟩)
    refine ⟨np, ps, 0, n0, rfl, rfl, .inl hF4, h0, ?_⟩
    refine ⟨V.str n0.1, ⟨_, rfl⟩, ?_⟩
    repeat (first | refine ⟨_, rfl, ?_⟩ | refine ⟨_, _, rfl, rfl, ?_⟩)
    refine ⟨np, ps, 1, n1, rfl, rfl, .inl hF4, h1, ?_⟩
    refine ⟨V.str n1.1, ⟨_, rfl⟩, ?_⟩
    repeat (first | refine ⟨_, rfl, ?_⟩ | refine ⟨_, _, rfl, rfl, ?_⟩)
    refine ⟨by show 2 ≤ sizeLine; decide, fun m2 hm2 => ?_⟩
    have nm2 := R10.nin hm2
    repeat (first | refine ⟨_, rfl, ?_⟩ | refine ⟨_, _, rfl, rfl, ?_⟩)
    refine ⟨r, q, 2, _, rfl, R10.new hm2, by omega, by decide, by decide, fun HB nb SB RB b0 b1 => ?_⟩
    obtain ⟨jn, rfl, lo3, elo3, c3, c20⟩ : ∃ jn : Nat, nb = (jn : Int) ∧ ∃ lo3 : Int, ([V.int 3, V.int 20] : List V)[jn]? = some (.int lo3) ∧ 3 ≤ lo3 ∧ lo3 ≤ 20 := by
      rcases (show nb = 0 ∨ nb = 1 by omega) with rfl | rfl
      · exact ⟨0, rfl, 3, rfl, by decide, by decide⟩
      · exact ⟨1, rfl, 20, rfl, by decide, by decide⟩
    refine ⟨m2, _, jn, _, rfl, rfl, .inl (SqL.of (extL_get SB nm2 upd_same)), elo3, ?_⟩
    repeat (first | refine ⟨_, rfl, ?_⟩ | refine ⟨_, _, rfl, rfl, ?_⟩)
    refine ⟨r, q, lo3, _, rfl, RB, by omega, by omega, by omega, fun HC nc SC3 RC c0 c1 => ?_⟩
    refine ⟨_, _, rfl, rfl, ?_⟩
    intro w2 r2
    refine ⟨_, r2, ?_⟩
    have m0' := List.mem_of_getElem? h0
    have m1' := List.mem_of_getElem? h1
    have nd1 : n0.1 ≠ n1.1 := fun e => by
      have a1 : (ps.map (·.1))[0]? = some n0.1 := by rw [List.getElem?_map, h0]; rfl
      have a2 : (ps.map (·.1))[1]? = some n0.1 := by rw [List.getElem?_map, h1, e]; rfl
      have := (List.getElem?_inj (by rw [List.length_map]; omega) hL.nd).mp (a1.trans a2.symm)
      omega
    have nd2 : n0.2 ≠ n1.2 := fun e => by
      have a1 : (ps.map (·.2))[0]? = some n0.2 := by rw [List.getElem?_map, h0]; rfl
      have a2 : (ps.map (·.2))[1]? = some n0.2 := by rw [List.getElem?_map, h1, e]; rfl
      have := (List.getElem?_inj (by rw [List.length_map]; omega) hL.tk.1).mp (a1.trans a2.symm)
      omega
    refine ⟨z, n0, n1, 1 + nc, w1, w2, rfl, rfl, by omega, hz, hL.col _ m0', hL.col _ m1', hL.tk.2 _ m0', hL.tk.2 _ m1', nd2, nd1, by omega, by omega, fun HD SD => ?_⟩
    refine ⟨true, rfl, ?_⟩
    refine iteF (A := True) ?_
    have hdc : d ≤ c + j * 110000 := by omega
    exact ⟨(RC.same SD).mono (by omega), _, _, _, _, _, _, _, _, rfl⟩
end Dr
namespace Dr
open PySem L2 PyProof.Rows
theorem all_mk {l : PySem.W.OpenLaw} {w : World} {K : PySem.W.Frag} {h : Heap} {mg : Str → Option Value} {fa : Addr} (X : K.In h) (G : h.Ns mainGlobals mg) (hfa : mg "law" = some (.ref fa))
    {f_is_colour : Addr} {od_is_colour an_is_colour : Option Addr} {sl_is_colour : Array (Option Value)} {oc_is_colour kV_is_colour dc_is_colour pm_is_colour cd_is_colour ct_is_colour : Value}
    {f_is_kind : Addr} {od_is_kind an_is_kind : Option Addr} {sl_is_kind : Array (Option Value)} {oc_is_kind kV_is_kind dc_is_kind pm_is_kind cd_is_kind ct_is_kind : Value}
    {f_is_call : Addr} {od_is_call an_is_call : Option Addr} {sl_is_call : Array (Option Value)} {oc_is_call kV_is_call dc_is_call pm_is_call cd_is_call ct_is_call : Value}
    {f_check_row : Addr} {od_check_row an_check_row : Option Addr} {sl_check_row : Array (Option Value)} {oc_check_row kV_check_row dc_check_row pm_check_row cd_check_row ct_check_row : Value}
    {f_check_drill : Addr} {od_check_drill an_check_drill : Option Addr} {sl_check_drill : Array (Option Value)} {oc_check_drill kV_check_drill dc_check_drill pm_check_drill cd_check_drill ct_check_drill : Value}
    {f_find_wearer : Addr} {od_find_wearer an_find_wearer : Option Addr} {sl_find_wearer : Array (Option Value)} {oc_find_wearer kV_find_wearer dc_find_wearer pm_find_wearer cd_find_wearer ct_find_wearer : Value}
    {f_recolour_one : Addr} {od_recolour_one an_recolour_one : Option Addr} {sl_recolour_one : Array (Option Value)} {oc_recolour_one kV_recolour_one dc_recolour_one pm_recolour_one cd_recolour_one ct_recolour_one : Value}
    {f_swap_colours : Addr} {od_swap_colours an_swap_colours : Option Addr} {sl_swap_colours : Array (Option Value)} {oc_swap_colours kV_swap_colours dc_swap_colours pm_swap_colours cd_swap_colours ct_swap_colours : Value}
    {f_run_call : Addr} {od_run_call an_run_call : Option Addr} {sl_run_call : Array (Option Value)} {oc_run_call kV_run_call dc_run_call pm_run_call cd_run_call ct_run_call : Value}
    {f_run_calls : Addr} {od_run_calls an_run_calls : Option Addr} {sl_run_calls : Array (Option Value)} {oc_run_calls kV_run_calls dc_run_calls pm_run_calls cd_run_calls ct_run_calls : Value}
    {f_run_drill : Addr} {od_run_drill an_run_drill : Option Addr} {sl_run_drill : Array (Option Value)} {oc_run_drill kV_run_drill dc_run_drill pm_run_drill cd_run_drill ct_run_drill : Value}
    {f__law_source : Addr} {od__law_source an__law_source : Option Addr} {sl__law_source : Array (Option Value)} {oc__law_source kV__law_source dc__law_source pm__law_source cd__law_source ct__law_source : Value}
    {f__law_draw : Addr} {od__law_draw an__law_draw : Option Addr} {sl__law_draw : Array (Option Value)} {oc__law_draw kV__law_draw dc__law_draw pm__law_draw cd__law_draw ct__law_draw : Value}
    {f__law_shuffled : Addr} {od__law_shuffled an__law_shuffled : Option Addr} {sl__law_shuffled : Array (Option Value)} {oc__law_shuffled kV__law_shuffled dc__law_shuffled pm__law_shuffled cd__law_shuffled ct__law_shuffled : Value}
    {f__law_line : Addr} {od__law_line an__law_line : Option Addr} {sl__law_line : Array (Option Value)} {oc__law_line kV__law_line dc__law_line pm__law_line cd__law_line ct__law_line : Value}
    {f__law_one_call : Addr} {od__law_one_call an__law_one_call : Option Addr} {sl__law_one_call : Array (Option Value)} {oc__law_one_call kV__law_one_call dc__law_one_call pm__law_one_call cd__law_one_call ct__law_one_call : Value}
    {f__law_orders : Addr} {od__law_orders an__law_orders : Option Addr} {sl__law_orders : Array (Option Value)} {oc__law_orders kV__law_orders dc__law_orders pm__law_orders cd__law_orders ct__law_orders : Value}
    {f__law_renamed : Addr} {od__law_renamed an__law_renamed : Option Addr} {sl__law_renamed : Array (Option Value)} {oc__law_renamed kV__law_renamed dc__law_renamed pm__law_renamed cd__law_renamed ct__law_renamed : Value}
    {f__law_calls_right : Addr} {od__law_calls_right an__law_calls_right : Option Addr} {sl__law_calls_right : Array (Option Value)} {oc__law_calls_right kV__law_calls_right dc__law_calls_right pm__law_calls_right cd__law_calls_right ct__law_calls_right : Value}
    {f_law : Addr} {od_law an_law : Option Addr} {sl_law : Array (Option Value)} {oc_law kV_law dc_law pm_law cd_law ct_law : Value}
    {f_COLOURS : Addr} {t0_COLOURS : Tok} {t1_COLOURS : Tok} {t2_COLOURS : Tok} {t3_COLOURS : Tok} {t4_COLOURS : Tok} {t5_COLOURS : Tok} {n_COLOURS : Nat} {sl_COLOURS : Array (Option Value)}
    (h1_is_colour : PySem.W.nsIn K mainGlobals "is_colour" = some (some (.ref f_is_colour)))
    (h2_is_colour : K.lookup f_is_colour = some ⟨oc_is_colour, od_is_colour, .func (PySem.W.fnOf "is_colour" "is_colour" (defArgs s_is_colour) (defBody s_is_colour) (defScope s_is_colour) .none kV_is_colour dc_is_colour pm_is_colour an_is_colour cd_is_colour ct_is_colour), sl_is_colour⟩)
    (h3_is_colour : PySem.W.codeIn K cd_is_colour "is_colour" = true) (h4_is_colour : PySem.W.keepIn K (.ref f_is_colour) = true)
    (h1_is_kind : PySem.W.nsIn K mainGlobals "is_kind" = some (some (.ref f_is_kind)))
    (h2_is_kind : K.lookup f_is_kind = some ⟨oc_is_kind, od_is_kind, .func (PySem.W.fnOf "is_kind" "is_kind" (defArgs s_is_kind) (defBody s_is_kind) (defScope s_is_kind) .none kV_is_kind dc_is_kind pm_is_kind an_is_kind cd_is_kind ct_is_kind), sl_is_kind⟩)
    (h3_is_kind : PySem.W.codeIn K cd_is_kind "is_kind" = true) (h4_is_kind : PySem.W.keepIn K (.ref f_is_kind) = true)
    (h1_is_call : PySem.W.nsIn K mainGlobals "is_call" = some (some (.ref f_is_call)))
    (h2_is_call : K.lookup f_is_call = some ⟨oc_is_call, od_is_call, .func (PySem.W.fnOf "is_call" "is_call" (defArgs s_is_call) (defBody s_is_call) (defScope s_is_call) .none kV_is_call dc_is_call pm_is_call an_is_call cd_is_call ct_is_call), sl_is_call⟩)
    (h3_is_call : PySem.W.codeIn K cd_is_call "is_call" = true) (h4_is_call : PySem.W.keepIn K (.ref f_is_call) = true)
    (h1_check_row : PySem.W.nsIn K mainGlobals "check_row" = some (some (.ref f_check_row)))
    (h2_check_row : K.lookup f_check_row = some ⟨oc_check_row, od_check_row, .func (PySem.W.fnOf "check_row" "check_row" (defArgs s_check_row) (defBody s_check_row) (defScope s_check_row) .none kV_check_row dc_check_row pm_check_row an_check_row cd_check_row ct_check_row), sl_check_row⟩)
    (h3_check_row : PySem.W.codeIn K cd_check_row "check_row" = true) (h4_check_row : PySem.W.keepIn K (.ref f_check_row) = true)
    (h1_check_drill : PySem.W.nsIn K mainGlobals "check_drill" = some (some (.ref f_check_drill)))
    (h2_check_drill : K.lookup f_check_drill = some ⟨oc_check_drill, od_check_drill, .func (PySem.W.fnOf "check_drill" "check_drill" (defArgs s_check_drill) (defBody s_check_drill) (defScope s_check_drill) .none kV_check_drill dc_check_drill pm_check_drill an_check_drill cd_check_drill ct_check_drill), sl_check_drill⟩)
    (h3_check_drill : PySem.W.codeIn K cd_check_drill "check_drill" = true) (h4_check_drill : PySem.W.keepIn K (.ref f_check_drill) = true)
    (h1_find_wearer : PySem.W.nsIn K mainGlobals "find_wearer" = some (some (.ref f_find_wearer)))
    (h2_find_wearer : K.lookup f_find_wearer = some ⟨oc_find_wearer, od_find_wearer, .func (PySem.W.fnOf "find_wearer" "find_wearer" (defArgs s_find_wearer) (defBody s_find_wearer) (defScope s_find_wearer) .none kV_find_wearer dc_find_wearer pm_find_wearer an_find_wearer cd_find_wearer ct_find_wearer), sl_find_wearer⟩)
    (h3_find_wearer : PySem.W.codeIn K cd_find_wearer "find_wearer" = true) (h4_find_wearer : PySem.W.keepIn K (.ref f_find_wearer) = true)
    (h1_recolour_one : PySem.W.nsIn K mainGlobals "recolour_one" = some (some (.ref f_recolour_one)))
    (h2_recolour_one : K.lookup f_recolour_one = some ⟨oc_recolour_one, od_recolour_one, .func (PySem.W.fnOf "recolour_one" "recolour_one" (defArgs s_recolour_one) (defBody s_recolour_one) (defScope s_recolour_one) .none kV_recolour_one dc_recolour_one pm_recolour_one an_recolour_one cd_recolour_one ct_recolour_one), sl_recolour_one⟩)
    (h3_recolour_one : PySem.W.codeIn K cd_recolour_one "recolour_one" = true) (h4_recolour_one : PySem.W.keepIn K (.ref f_recolour_one) = true)
    (h1_swap_colours : PySem.W.nsIn K mainGlobals "swap_colours" = some (some (.ref f_swap_colours)))
    (h2_swap_colours : K.lookup f_swap_colours = some ⟨oc_swap_colours, od_swap_colours, .func (PySem.W.fnOf "swap_colours" "swap_colours" (defArgs s_swap_colours) (defBody s_swap_colours) (defScope s_swap_colours) .none kV_swap_colours dc_swap_colours pm_swap_colours an_swap_colours cd_swap_colours ct_swap_colours), sl_swap_colours⟩)
    (h3_swap_colours : PySem.W.codeIn K cd_swap_colours "swap_colours" = true) (h4_swap_colours : PySem.W.keepIn K (.ref f_swap_colours) = true)
    (h1_run_call : PySem.W.nsIn K mainGlobals "run_call" = some (some (.ref f_run_call)))
    (h2_run_call : K.lookup f_run_call = some ⟨oc_run_call, od_run_call, .func (PySem.W.fnOf "run_call" "run_call" (defArgs s_run_call) (defBody s_run_call) (defScope s_run_call) .none kV_run_call dc_run_call pm_run_call an_run_call cd_run_call ct_run_call), sl_run_call⟩)
    (h3_run_call : PySem.W.codeIn K cd_run_call "run_call" = true) (h4_run_call : PySem.W.keepIn K (.ref f_run_call) = true)
    (h1_run_calls : PySem.W.nsIn K mainGlobals "run_calls" = some (some (.ref f_run_calls)))
    (h2_run_calls : K.lookup f_run_calls = some ⟨oc_run_calls, od_run_calls, .func (PySem.W.fnOf "run_calls" "run_calls" (defArgs s_run_calls) (defBody s_run_calls) (defScope s_run_calls) .none kV_run_calls dc_run_calls pm_run_calls an_run_calls cd_run_calls ct_run_calls), sl_run_calls⟩)
    (h3_run_calls : PySem.W.codeIn K cd_run_calls "run_calls" = true) (h4_run_calls : PySem.W.keepIn K (.ref f_run_calls) = true)
    (h1_run_drill : PySem.W.nsIn K mainGlobals "run_drill" = some (some (.ref f_run_drill)))
    (h2_run_drill : K.lookup f_run_drill = some ⟨oc_run_drill, od_run_drill, .func (PySem.W.fnOf "run_drill" "run_drill" (defArgs s_run_drill) (defBody s_run_drill) (defScope s_run_drill) .none kV_run_drill dc_run_drill pm_run_drill an_run_drill cd_run_drill ct_run_drill), sl_run_drill⟩)
    (h3_run_drill : PySem.W.codeIn K cd_run_drill "run_drill" = true) (h4_run_drill : PySem.W.keepIn K (.ref f_run_drill) = true)
    (h1__law_source : PySem.W.nsIn K mainGlobals "_law_source" = some (some (.ref f__law_source)))
    (h2__law_source : K.lookup f__law_source = some ⟨oc__law_source, od__law_source, .func (PySem.W.fnOf "_law_source" "_law_source" (defArgs s__law_source) (defBody s__law_source) (defScope s__law_source) .none kV__law_source dc__law_source pm__law_source an__law_source cd__law_source ct__law_source), sl__law_source⟩)
    (h3__law_source : PySem.W.codeIn K cd__law_source "_law_source" = true) (h4__law_source : PySem.W.keepIn K (.ref f__law_source) = true)
    (h1__law_draw : PySem.W.nsIn K mainGlobals "_law_draw" = some (some (.ref f__law_draw)))
    (h2__law_draw : K.lookup f__law_draw = some ⟨oc__law_draw, od__law_draw, .func (PySem.W.fnOf "_law_draw" "_law_draw" (defArgs s__law_draw) (defBody s__law_draw) (defScope s__law_draw) .none kV__law_draw dc__law_draw pm__law_draw an__law_draw cd__law_draw ct__law_draw), sl__law_draw⟩)
    (h3__law_draw : PySem.W.codeIn K cd__law_draw "_law_draw" = true) (h4__law_draw : PySem.W.keepIn K (.ref f__law_draw) = true)
    (h1__law_shuffled : PySem.W.nsIn K mainGlobals "_law_shuffled" = some (some (.ref f__law_shuffled)))
    (h2__law_shuffled : K.lookup f__law_shuffled = some ⟨oc__law_shuffled, od__law_shuffled, .func (PySem.W.fnOf "_law_shuffled" "_law_shuffled" (defArgs s__law_shuffled) (defBody s__law_shuffled) (defScope s__law_shuffled) .none kV__law_shuffled dc__law_shuffled pm__law_shuffled an__law_shuffled cd__law_shuffled ct__law_shuffled), sl__law_shuffled⟩)
    (h3__law_shuffled : PySem.W.codeIn K cd__law_shuffled "_law_shuffled" = true) (h4__law_shuffled : PySem.W.keepIn K (.ref f__law_shuffled) = true)
    (h1__law_line : PySem.W.nsIn K mainGlobals "_law_line" = some (some (.ref f__law_line)))
    (h2__law_line : K.lookup f__law_line = some ⟨oc__law_line, od__law_line, .func (PySem.W.fnOf "_law_line" "_law_line" (defArgs s__law_line) (defBody s__law_line) (defScope s__law_line) .none kV__law_line dc__law_line pm__law_line an__law_line cd__law_line ct__law_line), sl__law_line⟩)
    (h3__law_line : PySem.W.codeIn K cd__law_line "_law_line" = true) (h4__law_line : PySem.W.keepIn K (.ref f__law_line) = true)
    (h1__law_one_call : PySem.W.nsIn K mainGlobals "_law_one_call" = some (some (.ref f__law_one_call)))
    (h2__law_one_call : K.lookup f__law_one_call = some ⟨oc__law_one_call, od__law_one_call, .func (PySem.W.fnOf "_law_one_call" "_law_one_call" (defArgs s__law_one_call) (defBody s__law_one_call) (defScope s__law_one_call) .none kV__law_one_call dc__law_one_call pm__law_one_call an__law_one_call cd__law_one_call ct__law_one_call), sl__law_one_call⟩)
    (h3__law_one_call : PySem.W.codeIn K cd__law_one_call "_law_one_call" = true) (h4__law_one_call : PySem.W.keepIn K (.ref f__law_one_call) = true)
    (h1__law_orders : PySem.W.nsIn K mainGlobals "_law_orders" = some (some (.ref f__law_orders)))
    (h2__law_orders : K.lookup f__law_orders = some ⟨oc__law_orders, od__law_orders, .func (PySem.W.fnOf "_law_orders" "_law_orders" (defArgs s__law_orders) (defBody s__law_orders) (defScope s__law_orders) .none kV__law_orders dc__law_orders pm__law_orders an__law_orders cd__law_orders ct__law_orders), sl__law_orders⟩)
    (h3__law_orders : PySem.W.codeIn K cd__law_orders "_law_orders" = true) (h4__law_orders : PySem.W.keepIn K (.ref f__law_orders) = true)
    (h1__law_renamed : PySem.W.nsIn K mainGlobals "_law_renamed" = some (some (.ref f__law_renamed)))
    (h2__law_renamed : K.lookup f__law_renamed = some ⟨oc__law_renamed, od__law_renamed, .func (PySem.W.fnOf "_law_renamed" "_law_renamed" (defArgs s__law_renamed) (defBody s__law_renamed) (defScope s__law_renamed) .none kV__law_renamed dc__law_renamed pm__law_renamed an__law_renamed cd__law_renamed ct__law_renamed), sl__law_renamed⟩)
    (h3__law_renamed : PySem.W.codeIn K cd__law_renamed "_law_renamed" = true) (h4__law_renamed : PySem.W.keepIn K (.ref f__law_renamed) = true)
    (h1__law_calls_right : PySem.W.nsIn K mainGlobals "_law_calls_right" = some (some (.ref f__law_calls_right)))
    (h2__law_calls_right : K.lookup f__law_calls_right = some ⟨oc__law_calls_right, od__law_calls_right, .func (PySem.W.fnOf "_law_calls_right" "_law_calls_right" (defArgs s__law_calls_right) (defBody s__law_calls_right) (defScope s__law_calls_right) .none kV__law_calls_right dc__law_calls_right pm__law_calls_right an__law_calls_right cd__law_calls_right ct__law_calls_right), sl__law_calls_right⟩)
    (h3__law_calls_right : PySem.W.codeIn K cd__law_calls_right "_law_calls_right" = true) (h4__law_calls_right : PySem.W.keepIn K (.ref f__law_calls_right) = true)
    (h1_law : PySem.W.nsIn K mainGlobals "law" = some (some (.ref f_law)))
    (h2_law : K.lookup f_law = some ⟨oc_law, od_law, .func (PySem.W.fnOf "law" "law" (defArgs s_law) (defBody s_law) (defScope s_law) .none kV_law dc_law pm_law an_law cd_law ct_law), sl_law⟩)
    (h3_law : PySem.W.codeIn K cd_law "law" = true) (h4_law : PySem.W.keepIn K (.ref f_law) = true)
    (h1_COLOURS : PySem.W.nsIn K mainGlobals "COLOURS" = some (some (.ref f_COLOURS)))
    (h2_COLOURS : K.lookup f_COLOURS = some ⟨.type "tuple", none, .seq #[.str "a" t0_COLOURS, .str "b" t1_COLOURS, .str "c" t2_COLOURS, .str "d" t3_COLOURS, .str "e" t4_COLOURS, .str "f" t5_COLOURS] n_COLOURS, sl_COLOURS⟩)
    (z_isinstance : PySem.W.nsIn K mainGlobals "isinstance" = some none)
    (z_str : PySem.W.nsIn K mainGlobals "str" = some none)
    (z_enumerate : PySem.W.nsIn K mainGlobals "enumerate" = some none)
    (z_range : PySem.W.nsIn K mainGlobals "range" = some none)
    (z_max : PySem.W.nsIn K mainGlobals "max" = some none)
    (z_list : PySem.W.nsIn K mainGlobals "list" = some none)
    (z_len : PySem.W.nsIn K mainGlobals "len" = some none)
    (z_int : PySem.W.nsIn K mainGlobals "int" = some none)
    (z_min : PySem.W.nsIn K mainGlobals "min" = some none)
    : ∃ fd : FuncData, (∀ (s : Shared) (v : Value), BindsTo s fd ⟨[v], []⟩ [("script", v)]) ∧ ∀ base : Heap, K.In base → base.Ns mainGlobals mg → FnG l.prog w K mg base CX0 7 fa fd ["script"] (sp_law K) := by
  have e : f_law = fa := by
    have e := (PySem.W.mg_of X G h1_law).symm.trans hfa
    injection e with e
    injection e
  subst e
  let T : Txt K mg := {
    a_is_colour := f_is_colour,
    fd_is_colour := PySem.W.fnOf "is_colour" "is_colour" (defArgs s_is_colour) (defBody s_is_colour) (defScope s_is_colour) .none kV_is_colour dc_is_colour pm_is_colour an_is_colour cd_is_colour ct_is_colour,
    F_is_colour := fun_mk (st := s_is_colour) h2_is_colour h3_is_colour h4_is_colour,
    m_is_colour := PySem.W.mg_of X G h1_is_colour,
    b_is_colour := (fun_mk (st := s_is_colour) h2_is_colour h3_is_colour h4_is_colour).binds (ps := ["text"]) fun _ _ _ _ _ _ us hl => match us, hl with | [_], _ => rfl,
    a_is_kind := f_is_kind,
    fd_is_kind := PySem.W.fnOf "is_kind" "is_kind" (defArgs s_is_kind) (defBody s_is_kind) (defScope s_is_kind) .none kV_is_kind dc_is_kind pm_is_kind an_is_kind cd_is_kind ct_is_kind,
    F_is_kind := fun_mk (st := s_is_kind) h2_is_kind h3_is_kind h4_is_kind,
    m_is_kind := PySem.W.mg_of X G h1_is_kind,
    b_is_kind := (fun_mk (st := s_is_kind) h2_is_kind h3_is_kind h4_is_kind).binds (ps := ["kind"]) fun _ _ _ _ _ _ us hl => match us, hl with | [_], _ => rfl,
    a_is_call := f_is_call,
    fd_is_call := PySem.W.fnOf "is_call" "is_call" (defArgs s_is_call) (defBody s_is_call) (defScope s_is_call) .none kV_is_call dc_is_call pm_is_call an_is_call cd_is_call ct_is_call,
    F_is_call := fun_mk (st := s_is_call) h2_is_call h3_is_call h4_is_call,
    m_is_call := PySem.W.mg_of X G h1_is_call,
    b_is_call := (fun_mk (st := s_is_call) h2_is_call h3_is_call h4_is_call).binds (ps := ["call"]) fun _ _ _ _ _ _ us hl => match us, hl with | [_], _ => rfl,
    a_check_row := f_check_row,
    fd_check_row := PySem.W.fnOf "check_row" "check_row" (defArgs s_check_row) (defBody s_check_row) (defScope s_check_row) .none kV_check_row dc_check_row pm_check_row an_check_row cd_check_row ct_check_row,
    F_check_row := fun_mk (st := s_check_row) h2_check_row h3_check_row h4_check_row,
    m_check_row := PySem.W.mg_of X G h1_check_row,
    b_check_row := (fun_mk (st := s_check_row) h2_check_row h3_check_row h4_check_row).binds (ps := ["row"]) fun _ _ _ _ _ _ us hl => match us, hl with | [_], _ => rfl,
    a_check_drill := f_check_drill,
    fd_check_drill := PySem.W.fnOf "check_drill" "check_drill" (defArgs s_check_drill) (defBody s_check_drill) (defScope s_check_drill) .none kV_check_drill dc_check_drill pm_check_drill an_check_drill cd_check_drill ct_check_drill,
    F_check_drill := fun_mk (st := s_check_drill) h2_check_drill h3_check_drill h4_check_drill,
    m_check_drill := PySem.W.mg_of X G h1_check_drill,
    b_check_drill := (fun_mk (st := s_check_drill) h2_check_drill h3_check_drill h4_check_drill).binds (ps := ["drill"]) fun _ _ _ _ _ _ us hl => match us, hl with | [_], _ => rfl,
    a_find_wearer := f_find_wearer,
    fd_find_wearer := PySem.W.fnOf "find_wearer" "find_wearer" (defArgs s_find_wearer) (defBody s_find_wearer) (defScope s_find_wearer) .none kV_find_wearer dc_find_wearer pm_find_wearer an_find_wearer cd_find_wearer ct_find_wearer,
    F_find_wearer := fun_mk (st := s_find_wearer) h2_find_wearer h3_find_wearer h4_find_wearer,
    m_find_wearer := PySem.W.mg_of X G h1_find_wearer,
    b_find_wearer := (fun_mk (st := s_find_wearer) h2_find_wearer h3_find_wearer h4_find_wearer).binds (ps := ["row", "number", "colour"]) fun _ _ _ _ _ _ us hl => match us, hl with | [_, _, _], _ => rfl,
    a_recolour_one := f_recolour_one,
    fd_recolour_one := PySem.W.fnOf "recolour_one" "recolour_one" (defArgs s_recolour_one) (defBody s_recolour_one) (defScope s_recolour_one) .none kV_recolour_one dc_recolour_one pm_recolour_one an_recolour_one cd_recolour_one ct_recolour_one,
    F_recolour_one := fun_mk (st := s_recolour_one) h2_recolour_one h3_recolour_one h4_recolour_one,
    m_recolour_one := PySem.W.mg_of X G h1_recolour_one,
    b_recolour_one := (fun_mk (st := s_recolour_one) h2_recolour_one h3_recolour_one h4_recolour_one).binds (ps := ["row", "number", "source", "target"]) fun _ _ _ _ _ _ us hl => match us, hl with | [_, _, _, _], _ => rfl,
    a_swap_colours := f_swap_colours,
    fd_swap_colours := PySem.W.fnOf "swap_colours" "swap_colours" (defArgs s_swap_colours) (defBody s_swap_colours) (defScope s_swap_colours) .none kV_swap_colours dc_swap_colours pm_swap_colours an_swap_colours cd_swap_colours ct_swap_colours,
    F_swap_colours := fun_mk (st := s_swap_colours) h2_swap_colours h3_swap_colours h4_swap_colours,
    m_swap_colours := PySem.W.mg_of X G h1_swap_colours,
    b_swap_colours := (fun_mk (st := s_swap_colours) h2_swap_colours h3_swap_colours h4_swap_colours).binds (ps := ["row", "source", "target"]) fun _ _ _ _ _ _ us hl => match us, hl with | [_, _, _], _ => rfl,
    a_run_call := f_run_call,
    fd_run_call := PySem.W.fnOf "run_call" "run_call" (defArgs s_run_call) (defBody s_run_call) (defScope s_run_call) .none kV_run_call dc_run_call pm_run_call an_run_call cd_run_call ct_run_call,
    F_run_call := fun_mk (st := s_run_call) h2_run_call h3_run_call h4_run_call,
    m_run_call := PySem.W.mg_of X G h1_run_call,
    b_run_call := (fun_mk (st := s_run_call) h2_run_call h3_run_call h4_run_call).binds (ps := ["call", "row"]) fun _ _ _ _ _ _ us hl => match us, hl with | [_, _], _ => rfl,
    a_run_calls := f_run_calls,
    fd_run_calls := PySem.W.fnOf "run_calls" "run_calls" (defArgs s_run_calls) (defBody s_run_calls) (defScope s_run_calls) .none kV_run_calls dc_run_calls pm_run_calls an_run_calls cd_run_calls ct_run_calls,
    F_run_calls := fun_mk (st := s_run_calls) h2_run_calls h3_run_calls h4_run_calls,
    m_run_calls := PySem.W.mg_of X G h1_run_calls,
    b_run_calls := (fun_mk (st := s_run_calls) h2_run_calls h3_run_calls h4_run_calls).binds (ps := ["drill", "row"]) fun _ _ _ _ _ _ us hl => match us, hl with | [_, _], _ => rfl,
    a_run_drill := f_run_drill,
    fd_run_drill := PySem.W.fnOf "run_drill" "run_drill" (defArgs s_run_drill) (defBody s_run_drill) (defScope s_run_drill) .none kV_run_drill dc_run_drill pm_run_drill an_run_drill cd_run_drill ct_run_drill,
    F_run_drill := fun_mk (st := s_run_drill) h2_run_drill h3_run_drill h4_run_drill,
    m_run_drill := PySem.W.mg_of X G h1_run_drill,
    b_run_drill := (fun_mk (st := s_run_drill) h2_run_drill h3_run_drill h4_run_drill).binds (ps := ["drill", "row"]) fun _ _ _ _ _ _ us hl => match us, hl with | [_, _], _ => rfl,
    a__law_source := f__law_source,
    fd__law_source := PySem.W.fnOf "_law_source" "_law_source" (defArgs s__law_source) (defBody s__law_source) (defScope s__law_source) .none kV__law_source dc__law_source pm__law_source an__law_source cd__law_source ct__law_source,
    F__law_source := fun_mk (st := s__law_source) h2__law_source h3__law_source h4__law_source,
    m__law_source := PySem.W.mg_of X G h1__law_source,
    b__law_source := (fun_mk (st := s__law_source) h2__law_source h3__law_source h4__law_source).binds (ps := ["script"]) fun _ _ _ _ _ _ us hl => match us, hl with | [_], _ => rfl,
    a__law_draw := f__law_draw,
    fd__law_draw := PySem.W.fnOf "_law_draw" "_law_draw" (defArgs s__law_draw) (defBody s__law_draw) (defScope s__law_draw) .none kV__law_draw dc__law_draw pm__law_draw an__law_draw cd__law_draw ct__law_draw,
    F__law_draw := fun_mk (st := s__law_draw) h2__law_draw h3__law_draw h4__law_draw,
    m__law_draw := PySem.W.mg_of X G h1__law_draw,
    b__law_draw := (fun_mk (st := s__law_draw) h2__law_draw h3__law_draw h4__law_draw).binds (ps := ["source", "many"]) fun _ _ _ _ _ _ us hl => match us, hl with | [_, _], _ => rfl,
    a__law_shuffled := f__law_shuffled,
    fd__law_shuffled := PySem.W.fnOf "_law_shuffled" "_law_shuffled" (defArgs s__law_shuffled) (defBody s__law_shuffled) (defScope s__law_shuffled) .none kV__law_shuffled dc__law_shuffled pm__law_shuffled an__law_shuffled cd__law_shuffled ct__law_shuffled,
    F__law_shuffled := fun_mk (st := s__law_shuffled) h2__law_shuffled h3__law_shuffled h4__law_shuffled,
    m__law_shuffled := PySem.W.mg_of X G h1__law_shuffled,
    b__law_shuffled := (fun_mk (st := s__law_shuffled) h2__law_shuffled h3__law_shuffled h4__law_shuffled).binds (ps := ["source", "items"]) fun _ _ _ _ _ _ us hl => match us, hl with | [_, _], _ => rfl,
    a__law_line := f__law_line,
    fd__law_line := PySem.W.fnOf "_law_line" "_law_line" (defArgs s__law_line) (defBody s__law_line) (defScope s__law_line) .none kV__law_line dc__law_line pm__law_line an__law_line cd__law_line ct__law_line,
    F__law_line := fun_mk (st := s__law_line) h2__law_line h3__law_line h4__law_line,
    m__law_line := PySem.W.mg_of X G h1__law_line,
    b__law_line := (fun_mk (st := s__law_line) h2__law_line h3__law_line h4__law_line).binds (ps := ["source", "most"]) fun _ _ _ _ _ _ us hl => match us, hl with | [_, _], _ => rfl,
    a__law_one_call := f__law_one_call,
    fd__law_one_call := PySem.W.fnOf "_law_one_call" "_law_one_call" (defArgs s__law_one_call) (defBody s__law_one_call) (defScope s__law_one_call) .none kV__law_one_call dc__law_one_call pm__law_one_call an__law_one_call cd__law_one_call ct__law_one_call,
    F__law_one_call := fun_mk (st := s__law_one_call) h2__law_one_call h3__law_one_call h4__law_one_call,
    m__law_one_call := PySem.W.mg_of X G h1__law_one_call,
    b__law_one_call := (fun_mk (st := s__law_one_call) h2__law_one_call h3__law_one_call h4__law_one_call).binds (ps := ["source", "letters"]) fun _ _ _ _ _ _ us hl => match us, hl with | [_, _], _ => rfl,
    a__law_orders := f__law_orders,
    fd__law_orders := PySem.W.fnOf "_law_orders" "_law_orders" (defArgs s__law_orders) (defBody s__law_orders) (defScope s__law_orders) .none kV__law_orders dc__law_orders pm__law_orders an__law_orders cd__law_orders ct__law_orders,
    F__law_orders := fun_mk (st := s__law_orders) h2__law_orders h3__law_orders h4__law_orders,
    m__law_orders := PySem.W.mg_of X G h1__law_orders,
    b__law_orders := (fun_mk (st := s__law_orders) h2__law_orders h3__law_orders h4__law_orders).binds (ps := ["source", "most"]) fun _ _ _ _ _ _ us hl => match us, hl with | [_, _], _ => rfl,
    a__law_renamed := f__law_renamed,
    fd__law_renamed := PySem.W.fnOf "_law_renamed" "_law_renamed" (defArgs s__law_renamed) (defBody s__law_renamed) (defScope s__law_renamed) .none kV__law_renamed dc__law_renamed pm__law_renamed an__law_renamed cd__law_renamed ct__law_renamed,
    F__law_renamed := fun_mk (st := s__law_renamed) h2__law_renamed h3__law_renamed h4__law_renamed,
    m__law_renamed := PySem.W.mg_of X G h1__law_renamed,
    b__law_renamed := (fun_mk (st := s__law_renamed) h2__law_renamed h3__law_renamed h4__law_renamed).binds (ps := ["names", "line"]) fun _ _ _ _ _ _ us hl => match us, hl with | [_, _], _ => rfl,
    a__law_calls_right := f__law_calls_right,
    fd__law_calls_right := PySem.W.fnOf "_law_calls_right" "_law_calls_right" (defArgs s__law_calls_right) (defBody s__law_calls_right) (defScope s__law_calls_right) .none kV__law_calls_right dc__law_calls_right pm__law_calls_right an__law_calls_right cd__law_calls_right ct__law_calls_right,
    F__law_calls_right := fun_mk (st := s__law_calls_right) h2__law_calls_right h3__law_calls_right h4__law_calls_right,
    m__law_calls_right := PySem.W.mg_of X G h1__law_calls_right,
    b__law_calls_right := (fun_mk (st := s__law_calls_right) h2__law_calls_right h3__law_calls_right h4__law_calls_right).binds (ps := ["line", "old", "new", "number"]) fun _ _ _ _ _ _ us hl => match us, hl with | [_, _, _, _], _ => rfl,
    a_law := f_law,
    fd_law := PySem.W.fnOf "law" "law" (defArgs s_law) (defBody s_law) (defScope s_law) .none kV_law dc_law pm_law an_law cd_law ct_law,
    F_law := fun_mk (st := s_law) h2_law h3_law h4_law,
    m_law := PySem.W.mg_of X G h1_law,
    b_law := (fun_mk (st := s_law) h2_law h3_law h4_law).binds (ps := ["script"]) fun _ _ _ _ _ _ us hl => match us, hl with | [_], _ => rfl,
    a_COLOURS := f_COLOURS,
    m_COLOURS := PySem.W.mg_of X G h1_COLOURS,
    c_COLOURS := fun H => .inr ⟨_, _, _, h2_COLOURS, rfl, rfl, by show 6 ≤ sizeLine; decide, by show Vals colV [.str "a" t0_COLOURS, .str "b" t1_COLOURS, .str "c" t2_COLOURS, .str "d" t3_COLOURS, .str "e" t4_COLOURS, .str "f" t5_COLOURS]; exact (.cons ⟨_, rfl⟩ (.cons ⟨_, rfl⟩ (.cons ⟨_, rfl⟩ (.cons ⟨_, rfl⟩ (.cons ⟨_, rfl⟩ (.cons ⟨_, rfl⟩ .nil))))))⟩,
    t_COLOURS := ⟨_, h2_COLOURS, rfl, rfl⟩,
    n_isinstance := PySem.W.mg_none_of X G z_isinstance,
    n_str := PySem.W.mg_none_of X G z_str,
    n_enumerate := PySem.W.mg_none_of X G z_enumerate,
    n_range := PySem.W.mg_none_of X G z_range,
    n_max := PySem.W.mg_none_of X G z_max,
    n_list := PySem.W.mg_none_of X G z_list,
    n_len := PySem.W.mg_none_of X G z_len,
    n_int := PySem.W.mg_none_of X G z_int,
    n_min := PySem.W.mg_none_of X G z_min }
  refine ⟨PySem.W.fnOf "law" "law" (defArgs s_law) (defBody s_law) (defScope s_law) .none kV_law dc_law pm_law an_law cd_law ct_law, fun s v => .of_eq rfl, fun base _ _ => ?_⟩
  have G__law_source := ok__law_source (P := l.prog) (w := w) (base := base) T 
  have G__law_draw := ok__law_draw (P := l.prog) (w := w) (base := base) T 
  have G__law_shuffled := ok__law_shuffled (P := l.prog) (w := w) (base := base) T G__law_draw
  have G__law_shuffled_P := ok__law_shuffled_P (P := l.prog) (w := w) (base := base) T G__law_draw
  have G__law_shuffled_T := ok__law_shuffled_T (P := l.prog) (w := w) (base := base) T G__law_draw
  have G__law_line := ok__law_line (P := l.prog) (w := w) (base := base) T G__law_shuffled G__law_shuffled_P G__law_shuffled_T G__law_draw
  have G__law_one_call := ok__law_one_call (P := l.prog) (w := w) (base := base) T G__law_shuffled G__law_shuffled_P G__law_shuffled_T G__law_draw
  have G__law_orders := ok__law_orders (P := l.prog) (w := w) (base := base) T G__law_shuffled G__law_shuffled_P G__law_shuffled_T G__law_draw G__law_one_call
  have G__law_renamed := ok__law_renamed (P := l.prog) (w := w) (base := base) T 
  have G__law_renamed_V := ok__law_renamed_V (P := l.prog) (w := w) (base := base) T 
  have G_is_colour := ok_is_colour (P := l.prog) (w := w) (base := base) T 
  have G_is_kind := ok_is_kind (P := l.prog) (w := w) (base := base) T 
  have G_is_call := ok_is_call (P := l.prog) (w := w) (base := base) T G_is_colour G_is_kind
  have G_check_drill := ok_check_drill (P := l.prog) (w := w) (base := base) T G_is_call
  have G_check_row := ok_check_row (P := l.prog) (w := w) (base := base) T G_is_colour
  have G_swap_colours := ok_swap_colours (P := l.prog) (w := w) (base := base) T 
  have G_find_wearer := ok_find_wearer (P := l.prog) (w := w) (base := base) T 
  have G_recolour_one := ok_recolour_one (P := l.prog) (w := w) (base := base) T G_find_wearer
  have G_run_call := ok_run_call (P := l.prog) (w := w) (base := base) T G_swap_colours G_recolour_one
  have G_run_calls := ok_run_calls (P := l.prog) (w := w) (base := base) T G_run_call
  have G_run_drill := ok_run_drill (P := l.prog) (w := w) (base := base) T G_check_drill G_check_row G_run_calls
  have G__law_calls_right := ok__law_calls_right (P := l.prog) (w := w) (base := base) T G_run_drill
  exact ok_law T G__law_source G__law_line G__law_draw G__law_orders G__law_shuffled G__law_shuffled_P G__law_shuffled_T G__law_renamed G__law_renamed_V G_run_drill G__law_calls_right
theorem walk {l : PySem.W.OpenLaw} {q : Program} {loose : List Str} {XP : (Str → Option Value) → Heap → Prop} {YP : World → Heap → Prop} {d : DefRec} {K : Params → PySem.W.Frag} (hn : l.most = some 63) (hdf : d.params.defaults = [])
    (hY : ∀ (w : World) (h : Heap), YP w h → (K w.params).In h)
    (F : ∀ (w : World) (mg : Str → Option Value) (fa : Addr) (h : Heap), (K w.params).In h → h.Ns mainGlobals mg → mg d.name = some (.ref fa) → ∃ fd : FuncData, (∀ (s : Shared) (u : Value), BindsTo s fd ⟨[u], []⟩ [("script", u)]) ∧
      ∀ base : Heap, (K w.params).In base → base.Ns mainGlobals mg → FnG l.prog w (K w.params) mg base CX0 7 fa fd ["script"] (sp_law (K w.params))) :
    PySem.W.WalkO q loose XP YP l.row.toRowW d [] (fun f vs => PySem.call f vs) :=
  walk_G (n := 63) (k := 7) (K := K) (sp := sp_law) hn (by decide) hdf ⟨rfl, by decide, by decide⟩ hY F (fun K H a ns hl hS => ⟨a, ns, rfl, hS, hl, fun _ => rfl⟩)
end Dr
open PySem PySem.W PyProof.Rows in
set_option maxRecDepth 100000 in
set_option maxHeartbeats 0 in
theorem PySem.Challenge.cw_drillrow_k06_whole_equivalent_drills_holds : PySem.Challenge.rw_drillrow_k06_whole_equivalent_drills.Holds := by
  w_on; o_law; k_head; (case hw => w_witness2)
  k_fill
  refine Dr.walk (l := PySem.Challenge.rw_drillrow_k06_whole_equivalent_drills) rfl rfl (fun w h Y => PySem.W.kIn_of Y) ?F
  case F =>
    intro w mg fa h KX G hmg
    refine' Dr.all_mk KX G hmg ?h1_is_colour ?h2_is_colour ?h3_is_colour ?h4_is_colour ?h1_is_kind ?h2_is_kind ?h3_is_kind ?h4_is_kind ?h1_is_call ?h2_is_call ?h3_is_call ?h4_is_call ?h1_check_row ?h2_check_row ?h3_check_row ?h4_check_row ?h1_check_drill ?h2_check_drill ?h3_check_drill ?h4_check_drill ?h1_find_wearer ?h2_find_wearer ?h3_find_wearer ?h4_find_wearer ?h1_recolour_one ?h2_recolour_one ?h3_recolour_one ?h4_recolour_one ?h1_swap_colours ?h2_swap_colours ?h3_swap_colours ?h4_swap_colours ?h1_run_call ?h2_run_call ?h3_run_call ?h4_run_call ?h1_run_calls ?h2_run_calls ?h3_run_calls ?h4_run_calls ?h1_run_drill ?h2_run_drill ?h3_run_drill ?h4_run_drill ?h1__law_source ?h2__law_source ?h3__law_source ?h4__law_source ?h1__law_draw ?h2__law_draw ?h3__law_draw ?h4__law_draw ?h1__law_shuffled ?h2__law_shuffled ?h3__law_shuffled ?h4__law_shuffled ?h1__law_line ?h2__law_line ?h3__law_line ?h4__law_line ?h1__law_one_call ?h2__law_one_call ?h3__law_one_call ?h4__law_one_call ?h1__law_orders ?h2__law_orders ?h3__law_orders ?h4__law_orders ?h1__law_renamed ?h2__law_renamed ?h3__law_renamed ?h4__law_renamed ?h1__law_calls_right ?h2__law_calls_right ?h3__law_calls_right ?h4__law_calls_right ?h1_law ?h2_law ?h3_law ?h4_law ?h1_COLOURS ?h2_COLOURS ?z_isinstance ?z_str ?z_enumerate ?z_range ?z_max ?z_list ?z_len ?z_int ?z_min
    (case h1_is_colour => k_is)
    (case h2_is_colour => k_is)
    (case h3_is_colour => k_is)
    (case h4_is_colour => k_is)
    (case h1_is_kind => k_is)
    (case h2_is_kind => k_is)
    (case h3_is_kind => k_is)
    (case h4_is_kind => k_is)
    (case h1_is_call => k_is)
    (case h2_is_call => k_is)
    (case h3_is_call => k_is)
    (case h4_is_call => k_is)
    (case h1_check_row => k_is)
    (case h2_check_row => k_is)
    (case h3_check_row => k_is)
    (case h4_check_row => k_is)
    (case h1_check_drill => k_is)
    (case h2_check_drill => k_is)
    (case h3_check_drill => k_is)
    (case h4_check_drill => k_is)
    (case h1_find_wearer => k_is)
    (case h2_find_wearer => k_is)
    (case h3_find_wearer => k_is)
    (case h4_find_wearer => k_is)
    (case h1_recolour_one => k_is)
    (case h2_recolour_one => k_is)
    (case h3_recolour_one => k_is)
    (case h4_recolour_one => k_is)
    (case h1_swap_colours => k_is)
    (case h2_swap_colours => k_is)
    (case h3_swap_colours => k_is)
    (case h4_swap_colours => k_is)
    (case h1_run_call => k_is)
    (case h2_run_call => k_is)
    (case h3_run_call => k_is)
    (case h4_run_call => k_is)
    (case h1_run_calls => k_is)
    (case h2_run_calls => k_is)
    (case h3_run_calls => k_is)
    (case h4_run_calls => k_is)
    (case h1_run_drill => k_is)
    (case h2_run_drill => k_is)
    (case h3_run_drill => k_is)
    (case h4_run_drill => k_is)
    (case h1__law_source => k_is)
    (case h2__law_source => k_is)
    (case h3__law_source => k_is)
    (case h4__law_source => k_is)
    (case h1__law_draw => k_is)
    (case h2__law_draw => k_is)
    (case h3__law_draw => k_is)
    (case h4__law_draw => k_is)
    (case h1__law_shuffled => k_is)
    (case h2__law_shuffled => k_is)
    (case h3__law_shuffled => k_is)
    (case h4__law_shuffled => k_is)
    (case h1__law_line => k_is)
    (case h2__law_line => k_is)
    (case h3__law_line => k_is)
    (case h4__law_line => k_is)
    (case h1__law_one_call => k_is)
    (case h2__law_one_call => k_is)
    (case h3__law_one_call => k_is)
    (case h4__law_one_call => k_is)
    (case h1__law_orders => k_is)
    (case h2__law_orders => k_is)
    (case h3__law_orders => k_is)
    (case h4__law_orders => k_is)
    (case h1__law_renamed => k_is)
    (case h2__law_renamed => k_is)
    (case h3__law_renamed => k_is)
    (case h4__law_renamed => k_is)
    (case h1__law_calls_right => k_is)
    (case h2__law_calls_right => k_is)
    (case h3__law_calls_right => k_is)
    (case h4__law_calls_right => k_is)
    (case h1_law => k_is)
    (case h2_law => k_is)
    (case h3_law => k_is)
    (case h4_law => k_is)
    (case h1_COLOURS => k_is)
    (case h2_COLOURS => k_is)
    (case z_isinstance => k_is)
    (case z_str => k_is)
    (case z_enumerate => k_is)
    (case z_range => k_is)
    (case z_max => k_is)
    (case z_list => k_is)
    (case z_len => k_is)
    (case z_int => k_is)
    (case z_min => k_is)
