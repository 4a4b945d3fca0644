/-
  A scope with several labels: what holds at every jump to each of them, and a measure that falls from jump to jump.
-/
import Derived.Test.YtonajmngchfjeaaDoorProg
import Derived.RowKit
import Derived.Scope
import Derived.WalkMore
import Derived.ScopeJumps
namespace Go.Proofs.YtonajmngchfjeaaDoor
open Go.RowKit

/-- as Q; by a goto: what the label asks -/
def toLabel (J : Nat → Act → World → Prop) (Q : Exit → Act → World → Prop) : Exit → Act → World → Prop
  | .goto l, a, w => J l a w
  | e, a, w => Q e a w
section
variable {J : Nat → Act → World → Prop} {Q : Exit → Act → World → Prop} {a : Act} {w : World}
@[go_sem] theorem toLabel_goto (l : Nat) : toLabel J Q (.goto l) a w = J l a w := rfl
@[go_sem] theorem toLabel_normal : toLabel J Q .normal a w = Q .normal a w := rfl
@[go_sem] theorem toLabel_exit (id : Nat) : toLabel J Q (.exit id) a w = Q (.exit id) a w := rfl
@[go_sem] theorem toLabel_ret : toLabel J Q .ret a w = Q .ret a w := rfl
@[go_sem] theorem toLabel_panic (ch : List PanicEntry) : toLabel J Q (.panic ch) a w = Q (.panic ch) a w := rfl
end
theorem wp_labels {P : Program} {a : Act} {w : World} {Q : Exit → Act → World → Prop} {c : Code} (J : Nat → Act → World → Prop) (μ : Nat → Act → World → Nat)
    (first : c.wp P (toLabel J Q) a w)
    (pass : ∀ l a w, J l a w → ∃ rest, findLabel c l = some rest ∧ rest.wp P (toLabel (fun l' a' w' => J l' a' w' ∧ μ l' a' w' < μ l a w) Q) a w) : (Code.scope c).wp P Q a w := by
  intro b k cs
  have hg : ∀ l rest, findLabel c l = some rest → gotoIn l (.inScope c :: k) = some (.code rest :: .inScope c :: k) := fun l rest h => by simp [gotoIn, h]
  have key : ∀ n l a w rest, μ l a w = n → J l a w → findLabel c l = some rest → ∃ e a' w', Q e a' w' ∧ Arrives P (lone (b.at a (.code rest :: .inScope c :: k)) cs w) b k cs e a' w' := by
    intro n
    induction n using Nat.strongRecOn with
    | _ n ih =>
      intro l a w rest hn hJ hr
      obtain ⟨r2, hr2, hp⟩ := pass l a w hJ
      obtain rfl : r2 = rest := Option.some.inj (hr2.symm.trans hr)
      obtain ⟨e, a₁, w₁, hq, harr⟩ := hp b (.inScope c :: k) cs
      cases e with
      | normal => exact ⟨.normal, a₁, w₁, hq, Steps.trans harr (.one step_inScope)⟩
      | exit id => exact ⟨.exit id, a₁, w₁, hq, fun k' hk => harr k' (by simp [exitTo, hk])⟩
      | goto l' =>
        obtain ⟨hJ', hlt⟩ := hq
        obtain ⟨r3, hr3, _⟩ := pass l' a₁ w₁ hJ'
        obtain ⟨e₂, a₂, w₂, hq₂, harr₂⟩ := ih _ (by omega) l' a₁ w₁ r3 rfl hJ' hr3
        exact ⟨e₂, a₂, w₂, hq₂, .of_steps (harr _ (hg _ _ hr3)) harr₂⟩
      | ret => exact ⟨_, a₁, w₁, hq, harr⟩
      | panic ch => exact ⟨_, a₁, w₁, hq, harr⟩
      | outgrown => exact ⟨_, a₁, w₁, hq, harr⟩
  obtain ⟨e, a₁, w₁, hq, harr⟩ := first b (.inScope c :: k) cs
  cases e with
  | normal => exact ⟨.normal, a₁, w₁, hq, .head step_scope (Steps.trans harr (.one step_inScope))⟩
  | exit id => exact ⟨.exit id, a₁, w₁, hq, fun k' hk => .head step_scope (harr k' (by simp [exitTo, hk]))⟩
  | goto l' =>
    obtain ⟨r3, hr3, _⟩ := pass l' a₁ w₁ hq
    obtain ⟨e₂, a₂, w₂, hq₂, harr₂⟩ := key _ l' a₁ w₁ r3 rfl hq hr3
    exact ⟨e₂, a₂, w₂, hq₂, .of_steps (.head step_scope (harr _ (hg _ _ hr3))) harr₂⟩
  | ret => exact ⟨_, a₁, w₁, hq, .of_steps (.one step_scope) harr⟩
  | panic ch => exact ⟨_, a₁, w₁, hq, .of_steps (.one step_scope) harr⟩
  | outgrown => exact ⟨_, a₁, w₁, hq, .of_steps (.one step_scope) harr⟩
theorem toLabel_mono {J J' : Nat → Act → World → Prop} {Q : Exit → Act → World → Prop} (h : ∀ l a w, J l a w → J' l a w) : ∀ e a w, toLabel J Q e a w → toLabel J' Q e a w := by
  intro e a w hq
  cases e <;> first | exact h _ _ _ hq | exact hq
/-- the passes first: the way to the first label may use them; what stands behind a label is named -/
theorem wp_labels2 {P : Program} {a : Act} {w : World} {Q : Exit → Act → World → Prop} {c : Code} (J : Nat → Act → World → Prop) (μ : Nat → Act → World → Nat)
    (pass : ∀ l a w, J l a w → ∃ rest, findLabel c l = some (.seq .skip rest) ∧ rest.wp P (toLabel (fun l' a' w' => J l' a' w' ∧ μ l' a' w' < μ l a w) Q) a w)
    (first : (∀ l a w, J l a w → ∀ rest, findLabel c l = some (.seq .skip rest) → rest.wp P (toLabel J Q) a w) → c.wp P (toLabel J Q) a w) : (Code.scope c).wp P Q a w :=
  wp_labels J μ (first fun l a w hJ rest hr => by
    obtain ⟨r, hr2, hw⟩ := pass l a w hJ
    have e := Option.some.inj (hr2.symm.trans hr)
    injection e with _ e2
    subst e2
    exact Code.wp_mono (toLabel_mono fun _ _ _ h => h.1) hw) fun l a w hJ => by
      obtain ⟨r, hr, hw⟩ := pass l a w hJ
      exact ⟨_, hr, wp_seq (wp_skip hw)⟩
end Go.Proofs.YtonajmngchfjeaaDoor
