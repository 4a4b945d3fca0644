/-
  The names of a context are names, and none stands twice; the fields that a kind uses are allowed.
-/
import Derived.Test.YtdmmpknpoephnaaDoorValA
import Derived.Test.YtdmmpknpoephnaaDoorValB
import Derived.Test.YtdmmpknpoephnaaDoorDecTwo
import Derived.Test.YtdmmpknpoephnaaDoorValid
namespace Go.Proofs.YtdmmpknpoephnaaDoor
open Go.RowKit Go.Maps Go.WideMaps Word Txt
attribute [local go_sem] setCell_drewN cell?_ext frozen?_ext shape?_ext setCell_ext lt_1' ne_1' en_1' le_1' lt_2' ne_2' en_2' le_2' lt_3' ne_3' en_3' le_3' lt_4' ne_4' en_4' le_4' lt_5' ne_5' en_5' le_5' lt_6' ne_6' en_6' le_6' lt_7' ne_7' en_7' le_7' lt_8' ne_8' en_8' le_8' lt_9' ne_9' en_9' le_9' lt_10' ne_10' en_10' le_10' lt_11' ne_11' en_11' le_11' lt_12' ne_12' en_12' le_12'

open Classical in
/-- is it a name? -/
noncomputable def nameB (s : ByteArray) : Bool := decide (IsName s)
open Classical in
/-- are all names, and does none stand twice? -/
noncomputable def distB (ns : List ByteArray) : Bool := ns.all nameB && decide ns.Nodup
theorem name_is (s : ByteArray) (w : World) : Calls Tryd.prog 54 #[.string s] w fun e w' => e = .returned (.bool (nameB s)) ∧ w = w' := by
  unfold nameB
  by_cases h : IsName s
  · simpa [h] using name_yes s h w
  · simpa [h] using name_no s h w
set_option maxRecDepth 100000 in
theorem distinct_nil (w : World) (cap : Nat) (p : Option Addr) :
    Calls Tryd.prog 44 #[.slice p 0 cap] w fun e w' => e = .returned (.bool (distB [])) ∧ Below w.heap.size w w' := by
  have hb : distB [] = true := by simp [distB]
  rw [hb]
  clear hb
  have HP := Lib.hid (fun w => places_nil w cap p)
  have hsz : Maps.size (PM [] 0) = 0 := rfl
  go_enter Tryd.func44, Tryd.ntmps44
  go_wp2
  refine wp_loop_rounds 1 ?_
  rw [rounds_succ]
  go_wp2_with (first
    | (go_at_call 55; (with_reducible refine (HP.out _).mono ?_); rintro e w1 ⟨rfl, hown, hb1⟩)
    | (at_len; refine wpList_len_own _ rfl _ 84 rfl 9 3 Tryd.underlying84 _ _ _ _ rfl hown ?_))
  go_ret
  exact ⟨rfl, hb1⟩
set_option maxRecDepth 100000 in
theorem distinct_row (ns : List ByteArray) (g o cap : Nat) (w : World) (hl : ns.length ≤ 1048576) (hg : g < w.heap.size) (hc : NamesAt w g ns o) (hsz : ∀ x ∈ ns, x.size ≤ 1048576) :
    Calls Tryd.prog 44 #[.slice (some ⟨g, o, none⟩) ns.length cap] w fun e w' => e = .returned (.bool (distB ns)) ∧ Below w.heap.size w w' := by
  have HP := Lib.hid (places_any ns g o cap w hl hg hc hsz)
  obtain ⟨len, hlen⟩ : ∃ len, len = ns.length := ⟨_, rfl⟩
  have HC := Lib.hid (fun i hi => NamesAt.get hc i hi)
  have HL := Lib.hid hlen
  have hin : ((Maps.size (PM ns len) : Int) == (len : Int)) = decide ns.Nodup := by
    have := size_all ns
    rw [hlen]
    by_cases h : Maps.size (PM ns ns.length) = ns.length
    · rw [decide_eq_true (this.1 h), h]; simp
    · rw [decide_eq_false (fun e => h (this.2 e))]; simp; omega
  rw [← hlen] at HP hl ⊢
  clear hc hlen
  go_enter Tryd.func44, Tryd.ntmps44
  go_wp2
  go_loopw [7] (fun i wr => ∃ k : Nat, k ≤ len ∧ i = .int .i64 k ∧ wr = w ∧ (∀ x ∈ ns.take k, nameB x = true)) (fun i _ => len - (intOf i).toNat)
  case atStart => exact ⟨0, Nat.zero_le _, rfl, rfl, by simp⟩
  case round =>
    obtain ⟨k, hk, rfl, rfl, hall0⟩ := hrel
    have hall := Lib.hid hall0
    clear hall0
    by_cases hkl : k < len
    · have hi : (k : Int) < len := by omega
      have hkn : k < ns.length := by have := HL.out; omega
      obtain ⟨s, hs⟩ : ∃ s, s = ns[k] := ⟨_, rfl⟩
      have hcx : wr.cell? ⟨g, o + k, none⟩ = some (.string s) := by rw [hs]; exact HC.out k hkn
      have HN := Lib.hid (name_is s wr)
      have HS := Lib.hid (show ns.take (k + 1) = ns.take k ++ [s] by rw [hs, List.take_add_one, List.getElem?_eq_getElem hkn]; rfl)
      have HM := Lib.hid (show s ∈ ns by rw [hs]; exact List.getElem_mem hkn)
      clear hs hkn hin
      obtain ⟨b, hb⟩ : ∃ b, b = nameB s := ⟨_, rfl⟩
      rw [← hb] at HN
      cases b
      · have HB := Lib.hid (show distB ns = false by unfold distB; rw [show ns.all nameB = false from by rw [List.all_eq_false]; exact ⟨s, HM.out, by rw [← hb]; simp⟩]; rfl)
        clear hb
        go_wp2_with (first
          | (go_at_call 54; ((with_reducible refine (HN.out).mono ?_); rintro e w' ⟨rfl, rfl⟩)))
        go_ret
        exact ⟨by rw [HB.out]; rfl, Below.refl _ _⟩
      · have HB := Lib.hid hb.symm
        clear hb
        go_wp2_with (first
          | (go_at_call 54; ((with_reducible refine (HN.out).mono ?_); rintro e w' ⟨rfl, rfl⟩)))
        go_roundw
        case rel => exact ⟨k + 1, by omega, by go_num, (by first | exact trivial | rfl), fun x hx => by
          rw [HS.out] at hx
          rcases List.mem_append.1 hx with h | h
          · exact hall.out x h
          · simp at h; subst h; exact HB.out⟩
        case measure => simp [intOf]; omega
    · obtain rfl : k = len := by omega
      have hi : ¬ (k : Int) < k := by omega
      have HB := Lib.hid (show distB ns = decide ns.Nodup by
        unfold distB
        rw [show ns.all nameB = true from List.all_eq_true.2 (fun x hx => hall.out x (by rw [HL.out, List.take_length]; exact hx))]
        simp)
      go_wp2_with (first
        | (go_at_call 55; (with_reducible refine HP.out.mono ?_); rintro e w1 ⟨rfl, hown, hb1⟩)
        | (at_len; refine wpList_len_own _ rfl _ 84 rfl 9 3 Tryd.underlying84 _ _ _ _ rfl hown ?_))
      go_ret
      exact ⟨by rw [HB.out]; rfl, hb1⟩
theorem distinct_any (n : Nat) (ns : List ByteArray) (nv : Value) (w : World) (hl : ns.length ≤ 1048576) (hn : NSl n w ns nv) (hsz : ∀ x ∈ ns, x.size ≤ 1048576) :
    Calls Tryd.prog 44 #[nv] w fun e w' => e = .returned (.bool (distB ns)) ∧ Below w.heap.size w w' := by
  rcases hn with ⟨rfl, p, c, rfl⟩ | ⟨g, o, cap, rfl, _, hg, hc⟩
  · exact distinct_nil w c p
  · exact distinct_row ns g o cap w hl hg hc hsz
end Go.Proofs.YtdmmpknpoephnaaDoor
