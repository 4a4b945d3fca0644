/-
  The document's decoder agrees with the language's; the contract of Chars, and of the document's Valid.
-/
import Derived.Test.YtdmmpknpoephnaaDoorOne
import Derived.Test.YtdmmpknpoephnaaDoorCharsLaid
namespace Go.Proofs.YtdmmpknpoephnaaDoor
open Go.RowKit Txt
attribute [local go_sem] setCell_drewN cell?_ext frozen?_ext shape?_ext setCell_ext lt_1' ne_1' en_1' le_1' lt_2' ne_2' en_2' le_2' lt_3' ne_3' en_3' le_3' lt_4' ne_4' en_4' le_4' lt_5' ne_5' en_5' le_5' lt_6' ne_6' en_6' le_6' lt_7' ne_7' en_7' le_7' lt_8' ne_8' en_8' le_8' lt_9' ne_9' en_9' le_9' lt_10' ne_10' en_10' le_10' lt_11' ne_11' en_11' le_11' lt_12' ne_12' en_12' le_12'

theorem lead_of {x : Nat} (h : 192 ≤ x) (h' : x < 248) : ∃ n c0 l, Lead x n c0 l ∧ ((n = 2 ∧ x < 224 ∧ c0 = x % 32 ∧ l = 128) ∨ (n = 3 ∧ 224 ≤ x ∧ x < 240 ∧ c0 = x % 16 ∧ l = 2048) ∨ (n = 4 ∧ 240 ≤ x ∧ c0 = x % 8 ∧ l = 65536)) := by
  by_cases h1 : x < 224
  · exact ⟨2, _, _, .inl ⟨h, h1, rfl, rfl, rfl⟩, .inl ⟨rfl, h1, rfl, rfl⟩⟩
  · by_cases h2 : x < 240
    · exact ⟨3, _, _, .inr (.inl ⟨by omega, h2, rfl, rfl, rfl⟩), .inr (.inl ⟨rfl, by omega, h2, rfl, rfl⟩)⟩
    · exact ⟨4, _, _, .inr (.inr ⟨by omega, h', rfl, rfl, rfl⟩), .inr (.inr ⟨rfl, by omega, rfl, rfl⟩)⟩
theorem one_ex (s : ByteArray) (i : Nat) (hi : i < s.size) (hs : s.size ≤ 140737488351232) : ∃ (c n : Int) (ok : Bool), Rel s i c n ok ∧
    ∀ w, Calls Tryd.prog 46 #[.string s, .int .i64 i] w fun e w' => e = .returned (.tuple #[.int .i64 c, .int .i64 n, .bool ok]) ∧ w = w' := by
  have hD := Lib.decode_at s i
  have hlt : (s[i]'hi).toNat < 256 := UInt8.toNat_lt _
  have hg := get_of s i hi
  rw [hg] at hD
  obtain ⟨x, hx⟩ : ∃ x, x = (s[i]'hi).toNat := ⟨_, rfl⟩
  by_cases h128 : (s[i]'hi).toNat < 128
  · refine ⟨_, 1, true, rel_of s i _ 1 true _ hD (.inl ?_), fun w => one_ascii s i hi h128 w⟩
    unfold Lib.decodeN
    rw [if_pos h128]
    exact ⟨rfl, rfl, rfl, fun h => by omega⟩
  by_cases hlead : 192 ≤ (s[i]'hi).toNat ∧ (s[i]'hi).toNat < 248
  · obtain ⟨n, c0, l, hL, hn⟩ := lead_of hlead.1 hlead.2
    by_cases ht : ∀ j, 1 ≤ j → j < n → Tl s (i + j)
    · refine ⟨_, _, _, ?_, fun w => one_yes s i hi hs n c0 l hL ht w⟩
      rcases hn with ⟨rfl, h1, rfl, rfl⟩ | ⟨rfl, h0, h1, rfl, rfl⟩ | ⟨rfl, h0, rfl, rfl⟩
      · have t1 := ht 1 (by omega) (by omega)
        have e := dec_two (n := s.size - i) (b2 := (s.get! (i + 2)).toNat) (b3 := (s.get! (i + 3)).toNat) hlead.1 h1 (by have := t1.1; omega) t1.2
        rw [e] at hD
        have ha : acc s i ((s[i]'hi).toNat % 32) (2 - 1) = (s[i]'hi).toNat % 32 * 64 + (s.get! (i + 1)).toNat % 64 := rfl
        rw [ha]
        refine rel_of s i _ _ _ _ hD ?_
        by_cases g : (s[i]'hi).toNat % 32 * 64 + (s.get! (i + 1)).toNat % 64 ≥ 128
        · rw [if_pos g]
          exact .inl ⟨decide_eq_true (by omega), rfl, rfl, fun h => by simp at h⟩
        · rw [if_neg g]
          exact .inr ⟨rfl, .inl (decide_eq_false (by omega))⟩
      · have t1 := ht 1 (by omega) (by omega)
        have t2 := ht 2 (by omega) (by omega)
        have e := dec_three (n := s.size - i) (b3 := (s.get! (i + 3)).toNat) h0 h1 (by have := t2.1; omega) t1.2 t2.2
        rw [e] at hD
        have ha : acc s i ((s[i]'hi).toNat % 16) (3 - 1) = (s[i]'hi).toNat % 16 * 4096 + (s.get! (i + 1)).toNat % 64 * 64 + (s.get! (i + 2)).toNat % 64 := by
          show ((s[i]'hi).toNat % 16 * 64 + (s.get! (i + 1)).toNat % 64) * 64 + (s.get! (i + 2)).toNat % 64 = _
          omega
        rw [ha]
        refine rel_of s i _ _ _ _ hD ?_
        obtain ⟨v, hv⟩ : ∃ v, v = (s[i]'hi).toNat % 16 * 4096 + (s.get! (i + 1)).toNat % 64 * 64 + (s.get! (i + 2)).toNat % 64 := ⟨_, rfl⟩
        rw [← hv]
        have hv2 : v < 65536 := by omega
        by_cases g : v ≥ 2048 ∧ (v < 55296 ∨ (57344 ≤ v ∧ v ≤ 1114111))
        · rw [if_pos g]
          exact .inl ⟨decide_eq_true (by omega), rfl, rfl, fun h => by simp at h⟩
        · rw [if_neg g]
          by_cases g2 : v < 2048
          · exact .inr ⟨rfl, .inl (decide_eq_false (by omega))⟩
          · exact .inr ⟨rfl, .inr (.inr (by omega))⟩
      · have t1 := ht 1 (by omega) (by omega)
        have t2 := ht 2 (by omega) (by omega)
        have t3 := ht 3 (by omega) (by omega)
        have e := dec_four (n := s.size - i) h0 hlead.2 (by have := t3.1; omega) t1.2 t2.2 t3.2
        rw [e] at hD
        have ha : acc s i ((s[i]'hi).toNat % 8) (4 - 1) = (s[i]'hi).toNat % 8 * 262144 + (s.get! (i + 1)).toNat % 64 * 4096 + (s.get! (i + 2)).toNat % 64 * 64 + (s.get! (i + 3)).toNat % 64 := by
          show (((s[i]'hi).toNat % 8 * 64 + (s.get! (i + 1)).toNat % 64) * 64 + (s.get! (i + 2)).toNat % 64) * 64 + (s.get! (i + 3)).toNat % 64 = _
          omega
        rw [ha]
        refine rel_of s i _ _ _ _ hD ?_
        obtain ⟨v, hv⟩ : ∃ v, v = (s[i]'hi).toNat % 8 * 262144 + (s.get! (i + 1)).toNat % 64 * 4096 + (s.get! (i + 2)).toNat % 64 * 64 + (s.get! (i + 3)).toNat % 64 := ⟨_, rfl⟩
        rw [← hv]
        by_cases g : v ≥ 65536 ∧ (v < 55296 ∨ (57344 ≤ v ∧ v ≤ 1114111))
        · rw [if_pos g]
          exact .inl ⟨decide_eq_true (by omega), rfl, rfl, fun h => by simp at h⟩
        · rw [if_neg g]
          by_cases g2 : v < 65536
          · exact .inr ⟨rfl, .inl (decide_eq_false (by omega))⟩
          · exact .inr ⟨rfl, .inr (.inl (by omega))⟩
    · refine ⟨0, 0, false, rel_of s i 0 0 false _ hD (.inr ⟨?_, .inl rfl⟩), fun w => one_no s i hi hs n c0 l hL ht w⟩
      refine dec_bad (by omega) ⟨fun g => ht ?_, fun g => ht ?_, fun g => ht ?_⟩
      · rcases hn with ⟨rfl, _⟩ | ⟨rfl, h0, _⟩ | ⟨rfl, h0, _⟩
        · intro j h1 h2; obtain rfl : j = 1 := by omega
          exact ⟨by omega, g.2.2⟩
        · omega
        · omega
      · rcases hn with ⟨rfl, h0, _⟩ | ⟨rfl, h0, _⟩ | ⟨rfl, h0, _⟩
        · omega
        · intro j h1 h2
          have h3 : j = 1 ∨ j = 2 := by omega
          rcases h3 with rfl | rfl
          · exact ⟨by omega, g.2.1.2⟩
          · exact ⟨by omega, g.2.2.2⟩
        · omega
      · rcases hn with ⟨rfl, h0, _⟩ | ⟨rfl, h0, h1, _⟩ | ⟨rfl, h0, _⟩
        · omega
        · omega
        · intro j h1 h2
          have h3 : j = 1 ∨ j = 2 ∨ j = 3 := by omega
          rcases h3 with rfl | rfl | rfl
          · exact ⟨by omega, g.2.1.2⟩
          · exact ⟨by omega, g.2.2.1.2⟩
          · exact ⟨by omega, g.2.2.2.2⟩
  · refine ⟨0, 0, false, rel_of s i 0 0 false _ hD (.inr ⟨?_, .inl rfl⟩), fun w => one_bad s i hi (by omega) w⟩
    exact dec_bad (by omega) ⟨fun g => by omega, fun g => by omega, fun g => by omega⟩
end Go.Proofs.YtdmmpknpoephnaaDoor
