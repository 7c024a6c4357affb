/- What a transaction in memory is, and its bytes. -/
import Derived.Test.YtkdkihacpjhgmaaXE
import Derived.Test.YtkdkihacpjhgmaaXB
namespace Go.Proofs.Ytkdkihacpjhgmaa
set_option linter.unusedSimpArgs false
set_option linter.unusedVariables false
open Go.RowKit

theorem TxAt.pok {w : World} {B : Nat} {t : MTx} (h : TxAt w B t) : t.p.ok :=
  ⟨fun x hx => by
    simp only [MTx.p, List.mem_map] at hx
    obtain ⟨y, hy, rfl⟩ := hx
    exact (h.iat y hy).ok, h.ook, h.v0, h.v1, h.lock⟩
theorem layB_b8 {t : PTx} (ho : t.ok) (b : Bool) : B8 (layB t b) := by
  have htxt : ∀ s : List Nat, B8 s → B8 (txt s) := fun s hs c hc => by
    unfold txt at hc
    rcases List.mem_append.1 hc with hc | hc
    · exact M.compB_lt _ c hc
    · exact hs c hc
  intro c hc
  rw [layB_r] at hc
  simp only [List.mem_append] at hc
  rcases hc with hc | hc | hc | hc | hc | hc | hc | hc
  · exact M.leB_lt _ _ c hc
  · cases b <;> simp at hc; omega
  · exact M.compB_lt _ c hc
  · obtain ⟨x, hx, hc⟩ := List.mem_flatMap.1 hc
    have ok := ho.ins x hx
    unfold inB at hc
    simp only [List.mem_append] at hc
    rcases hc with ((hc | hc) | hc) | hc
    · exact ok.idb c hc
    · exact M.leB_lt _ _ c hc
    · exact htxt _ ok.sc c hc
    · exact M.leB_lt _ _ c hc
  · exact M.compB_lt _ c hc
  · obtain ⟨x, hx, hc⟩ := List.mem_flatMap.1 hc
    have ok := ho.outs x hx
    unfold outB at hc
    simp only [List.mem_append] at hc
    rcases hc with hc | hc
    · exact M.leB_lt _ _ c hc
    · exact htxt _ ok.sc c hc
  · cases b with
    | false => simp at hc
    | true =>
      simp only [if_true] at hc
      obtain ⟨x, hx, hc⟩ := List.mem_flatMap.1 hc
      have ok := ho.ins x hx
      unfold witB at hc
      simp only [List.mem_append] at hc
      rcases hc with hc | hc
      · exact M.compB_lt _ c hc
      · obtain ⟨p, hp, hc⟩ := List.mem_flatMap.1 hc
        exact htxt _ (ok.wit p hp).1 c hc
  · exact M.leB_lt _ _ c hc
end Go.Proofs.Ytkdkihacpjhgmaa
