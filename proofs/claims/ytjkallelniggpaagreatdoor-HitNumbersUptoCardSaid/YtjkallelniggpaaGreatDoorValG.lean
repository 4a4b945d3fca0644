/-
  A whole value is in form: the document's way.
-/
import Derived.Test.YtjkallelniggpaaGreatDoorValF
import Derived.Test.YtjkallelniggpaaGreatDoorDocOne
import Derived.Test.YtjkallelniggpaaGreatDoorBb
import Derived.Lib.SlicesS
namespace Go.Proofs.YtjkallelniggpaaGreatDoor
open Go.RowKit Word Txt
attribute [local go_sem] setCell_drewN cell?_ext frozen?_ext shape?_ext setCell_ext lt_1' ne_1' en_1' le_1' lt_2' ne_2' en_2' le_2' lt_3' ne_3' en_3' le_3' lt_4' ne_4' en_4' le_4' lt_5' ne_5' en_5' le_5' lt_6' ne_6' en_6' le_6' lt_7' ne_7' en_7' le_7' lt_8' ne_8' en_8' le_8' lt_9' ne_9' en_9' le_9' lt_10' ne_10' en_10' le_10' lt_11' ne_11' en_11' le_11' lt_12' ne_12' en_12' le_12'

/-- what the document asks of the fields of a kind that are one thing -/
def ok3B (k : Int) (neg : Bool) (c : Nat) (s : Int) (t : ByteArray) (day : Int) : Bool :=
  if k = 2 then formB neg c s else if k = 3 then isText t && decide (t.size ≤ 1000) else if k = 4 then decide (1 ≤ day) && decide (day ≤ 3652059) else true
theorem form_doc (k : Int) (yes neg : Bool) (c : Nat) (s : Int) (t : ByteArray) (day : Int) (l : List V) (ns : List ByteArray) :
    (V.mk k yes neg c s t day l ns).form = ((decide (0 ≤ k) && decide (k ≤ 6)) && (bareB k yes neg c s t day l.length ns.length && (ok3B k neg c s t day && ((k != 6 || decide (ns.length = l.length)) && (distB ns && formL l))))) := by
  unfold V.form
  rw [soundB_is]
  unfold ok3B
  cases hb : bareB k yes neg c s t day l.length ns.length
  · simp
  have hn : k ≠ 6 → distB ns = true := fun h => by
    unfold bareB at hb
    simp only [Bool.and_eq_true, Bool.or_eq_true, decide_eq_true_eq, beq_iff_eq] at hb
    have h0 : ns.length = 0 := by rcases hb.2.2.2.2.2 with h1 | h1; exact absurd h1 h; exact h1
    rw [List.length_eq_zero_iff.1 h0]
    simp [distB]
  by_cases h2 : k = 2
  · subst h2; rw [hn (by omega)]; simp
  by_cases h3 : k = 3
  · subst h3; rw [hn (by omega)]; simp
  by_cases h4 : k = 4
  · subst h4; rw [hn (by omega)]; simp
  by_cases h6 : k = 6
  · subst h6; simp [Bool.and_assoc]
  rw [if_neg h2, if_neg h3, if_neg h4, if_neg h6, if_neg h2, if_neg h3, if_neg h4, hn h6]
  have h6' : (k == 6) = false := beq_eq_false_iff_ne.2 h6
  simp [h6', bne]
theorem castNe (a b : Nat) : ((a : Int) != (b : Int)) = !decide (a = b) := by by_cases h : a = b <;> simp [h, bne]; omega
/-- the first m names are names, and none stands twice -/
def NOK (ns : List ByteArray) (m : Nat) : Prop := (∀ x ∈ ns.take m, nameB x = true) ∧ (ns.take m).Nodup
/-- s is none of the first q -/
def NEQ (ns : List ByteArray) (s : ByteArray) (q : Nat) : Prop := ∀ x ∈ ns.take q, x ≠ s
theorem takeSnoc {α : Type} (l : List α) (m : Nat) (h : m < l.length) : l.take (m + 1) = l.take m ++ [l[m]] := by rw [List.take_add_one, List.getElem?_eq_getElem h]; rfl
theorem NOK.step {ns : List ByteArray} {m : Nat} (h : NOK ns m) (hm : m < ns.length) (h1 : nameB ns[m] = true) (h2 : NEQ ns ns[m] m) : NOK ns (m + 1) := by
  unfold NOK
  rw [takeSnoc ns m hm]
  refine ⟨fun x hx => ?_, List.nodup_append.2 ⟨h.2, by simp, fun a ha b hb e => ?_⟩⟩
  · rcases List.mem_append.1 hx with h3 | h3
    · exact h.1 x h3
    · simp at h3; subst h3; exact h1
  · simp at hb; subst hb e; exact h2 _ ha rfl
theorem NOK.all {ns : List ByteArray} (h : NOK ns ns.length) : distB ns = true := by
  unfold NOK at h
  rw [List.take_length] at h
  unfold distB
  rw [List.all_eq_true.2 h.1, decide_eq_true h.2]; rfl
theorem distB_bad {ns : List ByteArray} {x : ByteArray} (hx : x ∈ ns) (h : nameB x = false) : distB ns = false := by
  unfold distB
  rw [show ns.all nameB = false from by rw [List.all_eq_false]; exact ⟨x, hx, by rw [h]; simp⟩]; rfl
theorem distB_twice {ns : List ByteArray} {q m : Nat} (hq : q < m) (hm : m < ns.length) (h : ns[q]'(by omega) = ns[m]) : distB ns = false := by
  unfold distB
  rw [decide_eq_false (fun hn => by exact List.pairwise_iff_getElem.1 hn q m (by omega) hm hq h)]; simp
end Go.Proofs.YtjkallelniggpaaGreatDoor
