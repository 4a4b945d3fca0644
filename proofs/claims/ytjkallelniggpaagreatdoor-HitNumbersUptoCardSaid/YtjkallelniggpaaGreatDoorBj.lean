/-
  A value's plain fields: which are zero; as the program asks it (others, blank) and as the document does (bare).
  Names of a context: places (a map from each name to its last place), distinct.
-/
import Derived.Test.YtjkallelniggpaaGreatDoorVal
import Derived.Maps.OwnSet
import Derived.Maps.OwnOps
import Derived.StringKeys
namespace Go.Proofs.YtjkallelniggpaaGreatDoor
open Go.RowKit Word Txt
attribute [local go_sem] setCell_drewN cell?_ext frozen?_ext shape?_ext setCell_ext lt_1' ne_1' en_1' le_1' lt_2' ne_2' en_2' le_2' lt_3' ne_3' en_3' le_3' lt_4' ne_4' en_4' le_4' lt_5' ne_5' en_5' le_5' lt_6' ne_6' en_6' le_6' lt_7' ne_7' en_7' le_7' lt_8' ne_8' en_8' le_8' lt_9' ne_9' en_9' le_9' lt_10' ne_10' en_10' le_10' lt_11' ne_11' en_11' le_11' lt_12' ne_12' en_12' le_12'

/-- a decimal that is zero in all its fields -/
def numZ (neg : Bool) (c : Nat) (s : Int) : Bool := !neg && (decide (c = 0) && decide (s = 0))
theorem numZ_hl (neg : Bool) (c : Nat) (s : Int) : numZ neg c s = (!neg && (decide (hi c = 0) && (decide (lo c = 0) && decide (s = 0)))) := by
  unfold numZ
  by_cases h : c = 0
  · subst h; simp [hi, lo]
  · have : ¬ (hi c = 0 ∧ lo c = 0) := by unfold hi lo; omega
    by_cases h1 : hi c = 0 <;> by_cases h2 : lo c = 0 <;> simp_all
theorem sizeZ (t : ByteArray) : decide (t.size = 0) = t.toList.isEmpty := by
  rw [ByteArray.toList_eq]
  obtain ⟨⟨l⟩⟩ := t
  cases l <;> simp [ByteArray.size]
theorem castZ (n : Nat) : ((n : Int) == 0) = decide (n = 0) := by by_cases h : n = 0 <;> simp [h]
/-- what blank answers -/
def blankB (yes neg : Bool) (c : Nat) (s : Int) (t : ByteArray) (day : Int) (nl nn : Nat) : Bool :=
  !yes && (numZ neg c s && (decide (t.size = 0) && (decide (day = 0) && (decide (nl = 0) && decide (nn = 0)))))
theorem blank_any (k : Int) (yes neg : Bool) (c : Nat) (s : Int) (t : ByteArray) (day : Int) (pl pn : Option Addr) (nl cl nn cn : Nat) (w : World) :
    Calls Tryz.prog 58 #[VC k yes neg c s t day (.slice pl nl cl) (.slice pn nn cn)] w fun e w' =>
      e = .returned (.bool (blankB yes neg c s t day nl nn)) ∧ Below w.heap.size w w' := by
  unfold blankB
  rw [numZ_hl, sizeZ]
  cases yes
  · go_enter Tryz.func58, Tryz.ntmps58
    go_wp2
    all_goals
      go_ret
      exact ⟨by simp [castZ, *], by (repeat' (first | (with_reducible exact Below.refl _ _) | (with_reducible assumption) | (with_reducible refine Below.alloc ?_ ?_ _) | (with_reducible refine below_drewN ?_ _) | (with_reducible refine below_drew ?_) | (with_reducible refine below_ext ?_ ?_ _ _) | (with_reducible refine Below.setCell ?_ ?_ _) | (simp; done) | (simp; omega) | omega))⟩
  · go_enter Tryz.func58, Tryz.ntmps58
    go_wp2
    go_ret
    exact ⟨rfl, by (repeat' (first | (with_reducible exact Below.refl _ _) | (with_reducible assumption) | (with_reducible refine Below.alloc ?_ ?_ _) | (with_reducible refine below_drewN ?_ _) | (with_reducible refine below_drew ?_) | (with_reducible refine below_ext ?_ ?_ _ _) | (with_reducible refine Below.setCell ?_ ?_ _) | (simp; done) | (simp; omega) | omega))⟩
/-- a value without the fields that its kind uses -/
def oth (k : Int) (yes neg : Bool) (c : Nat) (s : Int) (t : ByteArray) (day : Int) (pl : Option Addr) (nl cl : Nat) (pn : Option Addr) (nn cn : Nat) : Value :=
  VC k (if k = 1 then false else yes) (if k = 2 then false else neg) (if k = 2 then 0 else c) (if k = 2 then 0 else s) (if k = 3 then ⟨#[]⟩ else t) (if k = 4 then 0 else day)
    (.slice (if k = 5 ∨ k = 6 then none else pl) (if k = 5 ∨ k = 6 then 0 else nl) (if k = 5 ∨ k = 6 then 0 else cl)) (.slice (if k = 6 then none else pn) (if k = 6 then 0 else nn) (if k = 6 then 0 else cn))
set_option maxHeartbeats 4000000 in
theorem others_any (k : Int) (yes neg : Bool) (c : Nat) (s : Int) (t : ByteArray) (day : Int) (pl pn : Option Addr) (nl cl nn cn : Nat) (w : World) :
    Calls Tryz.prog 59 #[VC k yes neg c s t day (.slice pl nl cl) (.slice pn nn cn)] w fun e w' => e = .returned (oth k yes neg c s t day pl nl cl pn nn cn) ∧ Below w.heap.size w w' := by
  have z1 : ((hi 0 : Nat) : Int) = 0 := rfl
  have z2 : ((lo 0 : Nat) : Int) = 0 := rfl
  unfold oth
  go_enter Tryz.func59, Tryz.ntmps59
  go_wp2
  all_goals
    go_returns
    exact ⟨by simp_all, by (repeat' (first | (with_reducible exact Below.refl _ _) | (with_reducible assumption) | (with_reducible refine Below.alloc ?_ ?_ _) | (with_reducible refine below_drewN ?_ _) | (with_reducible refine below_drew ?_) | (with_reducible refine below_ext ?_ ?_ _ _) | (with_reducible refine Below.setCell ?_ ?_ _) | (simp; done) | (simp; omega) | omega))⟩
/-- both ask the same of what is of a kind that is one -/
theorem bare_blank (k : Int) (hk : 0 ≤ k) (hk6 : k ≤ 6) (yes neg : Bool) (c : Nat) (s : Int) (t : ByteArray) (day : Int) (nl nn : Nat) :
    blankB (if k = 1 then false else yes) (if k = 2 then false else neg) (if k = 2 then 0 else c) (if k = 2 then 0 else s) (if k = 3 then ⟨#[]⟩ else t) (if k = 4 then 0 else day)
      (if k = 5 ∨ k = 6 then 0 else nl) (if k = 6 then 0 else nn) = bareB k yes neg c s t day nl nn := by
  unfold blankB bareB numZ
  have h : k = 0 ∨ k = 1 ∨ k = 2 ∨ k = 3 ∨ k = 4 ∨ k = 5 ∨ k = 6 := by omega
  have hz : (⟨#[]⟩ : ByteArray).size = 0 := rfl
  rcases h with rfl | rfl | rfl | rfl | rfl | rfl | rfl <;> simp [hz]
end Go.Proofs.YtjkallelniggpaaGreatDoor
namespace Go.Proofs.YtjkallelniggpaaGreatDoor
open Go.RowKit Go.Maps Go.WideMaps Word Txt
attribute [local go_sem] setCell_drewN cell?_ext frozen?_ext shape?_ext setCell_ext lt_1' ne_1' en_1' le_1' lt_2' ne_2' en_2' le_2' lt_3' ne_3' en_3' le_3' lt_4' ne_4' en_4' le_4' lt_5' ne_5' en_5' le_5' lt_6' ne_6' en_6' le_6' lt_7' ne_7' en_7' le_7' lt_8' ne_8' en_8' le_8' lt_9' ne_9' en_9' le_9' lt_10' ne_10' en_10' le_10' lt_11' ne_11' en_11' le_11' lt_12' ne_12' en_12' le_12'

theorem nmLaw : Keyed Tryz.prog 9 := string_keyed Tryz.underlying9
theorem zeroInt (w : World) : (zeroValue 3).run Tryz.prog w = .ok (.int .i64 0) w := by kernel_rfl
/-- the places of the first k names -/
def PM (ns : List ByteArray) : Nat → DataW Unit
  | 0 => .map []
  | k + 1 => (PM ns k).put (.string (ns.getD k ByteArray.empty).data.toList) (.lit (.int .i64 (k : Int)))
theorem run_makeMapN (n : Int) (w : World) : (Instr.makeMap 121 (some (.int .i64 n))).run Tryz.prog w = .ok (.map (some w.heap.size)) (w.alloc (.map #[] 0)) := by
  simp [Instr.makeMap, run_underlying Tryz.underlying121, asIntOf, go_sem]
set_option maxRecDepth 100000 in
theorem places_nil (w : World) (cap : Nat) (p : Option Addr) :
    Calls Tryz.prog 98 #[.slice p 0 cap] w fun e w' => e = .returned (.map (some w.heap.size)) ∧ w'.ownsMap Tryz.prog 9 (plainElem Tryz.prog 3) w.heap.size 0 (PM [] 0) ∧ Below w.heap.size w w' := by
  have hmm := run_makeMapN 0 w
  go_enter Tryz.func98, Tryz.ntmps98
  go_wp2
  refine wp_loop_rounds 1 ?_
  rw [rounds_succ]
  go_wp2
  go_ret
  exact ⟨rfl, World.ownsMap_made _ _ _ _, (Below.refl _ _).alloc (Nat.le_refl _) _⟩
set_option maxRecDepth 100000 in
theorem places_any (ns : List ByteArray) (g o cap : Nat) (w : World) (hl : ns.length ≤ 1048576) (hg : g < w.heap.size) (hc : NamesAt w g ns o) (hsz : ∀ x ∈ ns, x.size ≤ 1048576) :
    Calls Tryz.prog 98 #[.slice (some ⟨g, o, none⟩) ns.length cap] w fun e w' => e = .returned (.map (some w.heap.size)) ∧ w'.ownsMap Tryz.prog 9 (plainElem Tryz.prog 3) w.heap.size ns.length (PM ns ns.length) ∧ Below w.heap.size w w' := by
  have hmm := run_makeMapN (ns.length : Int) w
  obtain ⟨len, hlen⟩ : ∃ len, len = ns.length := ⟨_, rfl⟩
  have HC := Lib.hid (fun i hi => NamesAt.get hc i hi)
  rw [← hlen] at hmm hl ⊢
  have HL := Lib.hid hlen
  clear hc hlen
  go_enter Tryz.func98, Tryz.ntmps98
  go_wp2
  go_loopw [11] (fun i wr => ∃ k : Nat, k ≤ len ∧ i = .int .i64 k ∧ wr.ownsMap Tryz.prog 9 (plainElem Tryz.prog 3) w.heap.size k (PM ns k) ∧ Below w.heap.size w wr) (fun i _ => len - (intOf i).toNat)
  case atStart => exact ⟨0, Nat.zero_le _, rfl, World.ownsMap_made _ _ _ _, (Below.refl _ _).alloc (Nat.le_refl _) _⟩
  case round =>
    obtain ⟨k, hk, rfl, hown, hnx⟩ := hrel
    by_cases hkl : k < len
    · have hi : (k : Int) < len := by omega
      have hkn : k < ns.length := by have := HL.out; omega
      obtain ⟨s, hs⟩ : ∃ s, s = ns.getD k ByteArray.empty := ⟨_, rfl⟩
      have hs' : s = ns[k] := by rw [hs]; simp [List.getD, List.getElem?_eq_getElem hkn]
      have hcx : wr.cell? ⟨g, o + k, none⟩ = some (.string s) := by rw [hs']; exact (hnx.cell (p := ⟨g, _, none⟩) hg).trans (HC.out k hkn)
      have hss : s.size ≤ maxLen := by rw [hs']; have := hsz _ (List.getElem_mem hkn); unfold maxLen; omega
      have hkey : keyOf Tryz.prog 9 (.string s) = some (.string s.data.toList) := keyOf_string_mk Tryz.underlying9 hss
      have hstep : PM ns (k + 1) = (PM ns k).put (.string s.data.toList) (.lit (.int .i64 (k : Int))) := by rw [hs]; rfl
      have HS := Lib.hid hstep
      clear hs hs' hstep hkn
      go_wp2_with (first
        | (at_mapUpdate; refine wpList_mapUpdate_own _ rfl _ _ _ 121 rfl 9 3 nmLaw Tryz.underlying121 _ w.heap.size k _ rfl hown (by unfold maxLen; omega) _ _ _ rfl rfl hkey _ [] (plainElem_int Tryz.underlying3 (WalkArith.wf_i64 (by omega))) ?_)
        | go_in)
      intro w1 hown1 hgrow1
      have R1 := HS.out.symm ▸ hown1
      have R2 := hnx.grown hgrow1 hnx.size (fun j hj => by cases hj; exact Nat.le_refl _)
      clear hown1 hgrow1 hown hcx
      go_wp2
      go_roundw
      case rel => exact ⟨k + 1, by omega, by go_num, R1, R2⟩
      case measure => simp [intOf]; omega
    · obtain rfl : k = len := by omega
      have hi : ¬ (k : Int) < k := by omega
      go_wp2
      go_ret
      exact ⟨rfl, hown, hnx⟩
theorem data_inj {x y : ByteArray} (h : x.data.toList = y.data.toList) : x = y := by
  obtain ⟨⟨a⟩⟩ := x
  obtain ⟨⟨b⟩⟩ := y
  simp at h
  rw [h]
theorem key_ne {x y : ByteArray} (h : x ≠ y) : (Lit.string x.data.toList) ≠ Lit.string y.data.toList := fun e => h (data_inj (by simpa using e))
theorem key_is (x : ByteArray) : WideAt.IsKeyLit (Lit.string x.data.toList) := by first | trivial | exact ⟨_, rfl⟩ | simp [WideAt.IsKeyLit]
theorem tidy_PM (ns : List ByteArray) : ∀ k, Tidy (PM ns k)
  | 0 => tidy_empty
  | k + 1 => (tidy_PM ns k).put (key_is _) _
theorem has_PM (ns : List ByteArray) (x : ByteArray) : ∀ k, k ≤ ns.length → (Maps.has (PM ns k) (.string x.data.toList) = true ↔ x ∈ ns.take k)
  | 0, _ => by simp [PM, has_eq]
  | k + 1, hk => by
    have ih := has_PM ns x k (by omega)
    have hg : ns.getD k ByteArray.empty = ns[k] := by simp [List.getD, List.getElem?_eq_getElem (show k < ns.length by omega)]
    rw [List.take_add_one, List.getElem?_eq_getElem (show k < ns.length by omega)]
    simp only [PM, hg, Option.toList, List.mem_append, List.mem_singleton]
    by_cases hx : x = ns[k]
    · subst hx
      rw [has_put_same (tidy_PM ns k).isMap (key_is _)]
      simp
    · rw [has_put_other (key_ne hx), ih]
      simp [hx]
theorem size_PM (ns : List ByteArray) : ∀ k, k ≤ ns.length → Maps.size (PM ns k) ≤ k ∧ (Maps.size (PM ns k) = k ↔ (ns.take k).Nodup)
  | 0, _ => by simp [PM, size_eq]
  | k + 1, hk => by
    obtain ⟨ih1, ih2⟩ := size_PM ns k (by omega)
    have hh := has_PM ns (ns.getD k ByteArray.empty) k (by omega)
    have hg : ns.getD k ByteArray.empty = ns[k] := by simp [List.getD, List.getElem?_eq_getElem (show k < ns.length by omega)]
    have hs := size_put (k := .string (ns.getD k ByteArray.empty).data.toList) (tidy_PM ns k) (.lit (.int .i64 (k : Int)))
    have ht : ns.take (k + 1) = ns.take k ++ [ns[k]] := by rw [List.take_add_one, List.getElem?_eq_getElem (show k < ns.length by omega)]; rfl
    rw [ht]
    show Maps.size ((PM ns k).put _ _) ≤ k + 1 ∧ (Maps.size ((PM ns k).put _ _) = k + 1 ↔ _)
    rw [hs]
    by_cases hin : ns[k] ∈ ns.take k
    · rw [if_pos (hh.2 (hg ▸ hin))]
      refine ⟨by omega, ⟨fun h => by omega, fun h => ?_⟩⟩
      exact ((List.nodup_append.1 h).2.2 _ hin _ (by simp) rfl).elim
    · have hf : ¬ Maps.has (PM ns k) (.string (ns.getD k ByteArray.empty).data.toList) = true := fun h => hin (hg ▸ hh.1 h)
      rw [if_neg hf]
      refine ⟨by omega, ⟨fun h => ?_, fun h => ?_⟩⟩
      · refine List.nodup_append.2 ⟨ih2.1 (by omega), by simp, fun a ha b hb e => ?_⟩
        simp at hb
        subst hb e
        exact hin ha
      · have := ih2.2 (List.nodup_append.1 h).1
        omega
theorem size_all (ns : List ByteArray) : Maps.size (PM ns ns.length) = ns.length ↔ ns.Nodup := by
  have := (size_PM ns ns.length (Nat.le_refl _)).2
  rwa [List.take_length] at this
end Go.Proofs.YtjkallelniggpaaGreatDoor
