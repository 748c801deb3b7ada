/- The document's Step, whole. -/
import Derived.Test.YtdbnfafafhdolaaRSA
import Derived.Test.YtdbnfafafhdolaaRSB
import Derived.Test.YtdbnfafafhdolaaRSC
import Derived.Test.YtdbnfafafhdolaaRSD
import Derived.Test.YtdbnfafafhdolaaRSE
import Derived.Test.YtdbnfafafhdolaaRSF
import Derived.Test.YtdbnfafafhdolaaRSG
import Derived.Test.YtdbnfafafhdolaaRSH
namespace Go.Proofs.Ytdbnfafafhdolaa
open Go Go.RowKit
set_option linter.unusedVariables false

theorem rstep_any {c : List Int} {arg data : Int} {m : Ms} {ca sa : Option Addr} {cc sc : Nat} {w : World} (hc : Came w ca c.length cc c) (hs : Nums w sa m.stk.length sc m.stk) (hnil : sa = none → m.stk.length = 0 ∧ sc = 0) (hF : Fit c arg data m) (herr : m.fin = false → m.err = 0) :
    Calls Try.prog 20 #[.agg (mcl (.slice ca c.length cc) (.slice sa m.stk.length sc) arg data m)] w (RPost w c.length c arg data (stepP c arg data m)) := by
  obtain ⟨pc, stk, G, F, E⟩ := m
  have hs2 : Nums w sa stk.length sc stk := hs
  have hnil2 : sa = none → stk.length = 0 ∧ sc = 0 := hnil
  clear hs hnil
  have hs := hs2
  have hnil := hnil2
  clear hs2 hnil2
  show Calls _ _ #[.agg (mcl (.slice ca c.length cc) (.slice sa stk.length sc) arg data ⟨pc, stk, G, F, E⟩)] _ _
  have hpn : pc ≤ c.length := hF.pc
  cases F
  case true => exact rstep_fin rfl rfl hc hs hnil hF
  have hE : E = 0 := herr rfl
  subst hE
  clear herr
  by_cases hG : G < 1
  · exact rstep_gas rfl rfl hc hs hnil hF hG
  have hG : 1 ≤ G := by omega
  by_cases hend : pc = c.length
  · subst hend
    exact rstep_end rfl rfl hc hs hnil hF hG
  have hlt : pc < c.length := by omega
  obtain ⟨s, hsg⟩ : ∃ s, c.getD pc 0 = s := ⟨_, rfl⟩
  have hby : Byte s := by rw [← hsg]; exact getD_byte hF.bytes _
  have hst : ∀ (h0 : 0 < s) (h1 : s ≠ 1) (h13 : s ≠ 13) (h15 : s ≤ 15), (stk.length < takesP s ∨ 16 < stk.length - takesP s + putsP s) → Calls Try.prog 20 #[.agg (mcl (.slice ca c.length cc) (.slice sa stk.length sc) arg data ⟨pc, stk, G, false, 0⟩)] w (RPost w c.length c arg data (stepP c arg data ⟨pc, stk, G, false, 0⟩)) := by
    intro h0 h1 h13 h15 h
    by_cases hlow : stk.length < takesP s
    · exact rstep_few rfl rfl hc hs hnil hF hG hlt hsg h0 h1 h13 h15 hlow h
    · exact rstep_many rfl rfl hc hs hnil hF hG hlt hsg h0 h1 h13 h15 (by omega) h
  rcases sign_cases hby with rfl | rfl | rfl | rfl | rfl | rfl | rfl | rfl | rfl | rfl | rfl | rfl | rfl | rfl | rfl | rfl | h
  · exact rstep_stop rfl rfl hc hs hnil hF hG hlt hsg
  · clear hst
    by_cases hcut : c.length < pc + 1 + 8
    · exact rstep_1cut rfl rfl hc hs hnil hF hG hlt hsg hcut
    by_cases hroom : 16 < stk.length + 1
    · exact rstep_1many rfl rfl hc hs hnil hF hG hlt hsg (by omega) hroom
    · exact rstep_1 rfl rfl hc hs hnil hF hG hlt hsg (by omega) (by omega)
  · by_cases h : stk.length < 2 ∨ 16 < stk.length - 2 + 1
    · exact hst (by decide) (by decide) (by decide) (by decide) h
    obtain ⟨D, hD⟩ : ∃ D, stk.length = D + 2 := ⟨stk.length - 2, by omega⟩
    clear hst
    have hs' : Nums w sa stk.length sc stk := hs
    have hnil' : sa = none → stk.length = 0 ∧ sc = 0 := hnil
    show Calls _ _ #[.agg (mcl (.slice ca c.length cc) (.slice sa stk.length sc) arg data ⟨pc, stk, G, false, 0⟩)] _ _
    rw [hD] at hs' hnil' h ⊢
    exact rstep_2 rfl hD.symm hc hs' hnil' hF hG hlt hsg (by omega) rfl rfl
  · by_cases h : stk.length < 2 ∨ 16 < stk.length - 2 + 1
    · exact hst (by decide) (by decide) (by decide) (by decide) h
    obtain ⟨D, hD⟩ : ∃ D, stk.length = D + 2 := ⟨stk.length - 2, by omega⟩
    clear hst
    have hs' : Nums w sa stk.length sc stk := hs
    have hnil' : sa = none → stk.length = 0 ∧ sc = 0 := hnil
    show Calls _ _ #[.agg (mcl (.slice ca c.length cc) (.slice sa stk.length sc) arg data ⟨pc, stk, G, false, 0⟩)] _ _
    rw [hD] at hs' hnil' h ⊢
    exact rstep_3 rfl hD.symm hc hs' hnil' hF hG hlt hsg (by omega) rfl rfl
  · by_cases h : stk.length < 2 ∨ 16 < stk.length - 2 + 1
    · exact hst (by decide) (by decide) (by decide) (by decide) h
    obtain ⟨D, hD⟩ : ∃ D, stk.length = D + 2 := ⟨stk.length - 2, by omega⟩
    clear hst
    have hs' : Nums w sa stk.length sc stk := hs
    have hnil' : sa = none → stk.length = 0 ∧ sc = 0 := hnil
    show Calls _ _ #[.agg (mcl (.slice ca c.length cc) (.slice sa stk.length sc) arg data ⟨pc, stk, G, false, 0⟩)] _ _
    rw [hD] at hs' hnil' h ⊢
    exact rstep_4 rfl hD.symm hc hs' hnil' hF hG hlt hsg (by omega) rfl rfl
  · by_cases h : stk.length < 2 ∨ 16 < stk.length - 2 + 1
    · exact hst (by decide) (by decide) (by decide) (by decide) h
    obtain ⟨D, hD⟩ : ∃ D, stk.length = D + 2 := ⟨stk.length - 2, by omega⟩
    clear hst
    have hs' : Nums w sa stk.length sc stk := hs
    have hnil' : sa = none → stk.length = 0 ∧ sc = 0 := hnil
    show Calls _ _ #[.agg (mcl (.slice ca c.length cc) (.slice sa stk.length sc) arg data ⟨pc, stk, G, false, 0⟩)] _ _
    rw [hD] at hs' hnil' h ⊢
    exact rstep_5 rfl hD.symm hc hs' hnil' hF hG hlt hsg (by omega) rfl rfl
  · by_cases h : stk.length < 2 ∨ 16 < stk.length - 2 + 1
    · exact hst (by decide) (by decide) (by decide) (by decide) h
    obtain ⟨D, hD⟩ : ∃ D, stk.length = D + 2 := ⟨stk.length - 2, by omega⟩
    clear hst
    have hs' : Nums w sa stk.length sc stk := hs
    have hnil' : sa = none → stk.length = 0 ∧ sc = 0 := hnil
    show Calls _ _ #[.agg (mcl (.slice ca c.length cc) (.slice sa stk.length sc) arg data ⟨pc, stk, G, false, 0⟩)] _ _
    rw [hD] at hs' hnil' h ⊢
    exact rstep_6 rfl hD.symm hc hs' hnil' hF hG hlt hsg (by omega) rfl rfl
  · by_cases h : stk.length < 2 ∨ 16 < stk.length - 2 + 1
    · exact hst (by decide) (by decide) (by decide) (by decide) h
    obtain ⟨D, hD⟩ : ∃ D, stk.length = D + 2 := ⟨stk.length - 2, by omega⟩
    clear hst
    have hs' : Nums w sa stk.length sc stk := hs
    have hnil' : sa = none → stk.length = 0 ∧ sc = 0 := hnil
    show Calls _ _ #[.agg (mcl (.slice ca c.length cc) (.slice sa stk.length sc) arg data ⟨pc, stk, G, false, 0⟩)] _ _
    rw [hD] at hs' hnil' h ⊢
    exact rstep_7 rfl hD.symm hc hs' hnil' hF hG hlt hsg (by omega) rfl rfl
  · by_cases h : stk.length < 1 ∨ 16 < stk.length - 1 + 2
    · exact hst (by decide) (by decide) (by decide) (by decide) h
    obtain ⟨D, hD⟩ : ∃ D, stk.length = D + 1 := ⟨stk.length - 1, by omega⟩
    clear hst
    have hs' : Nums w sa stk.length sc stk := hs
    have hnil' : sa = none → stk.length = 0 ∧ sc = 0 := hnil
    show Calls _ _ #[.agg (mcl (.slice ca c.length cc) (.slice sa stk.length sc) arg data ⟨pc, stk, G, false, 0⟩)] _ _
    rw [hD] at hs' hnil' h ⊢
    exact rstep_8 rfl hD.symm hc hs' hnil' hF hG hlt hsg (by omega) rfl
  · by_cases h : stk.length < 2 ∨ 16 < stk.length - 2 + 2
    · exact hst (by decide) (by decide) (by decide) (by decide) h
    obtain ⟨D, hD⟩ : ∃ D, stk.length = D + 2 := ⟨stk.length - 2, by omega⟩
    clear hst
    have hs' : Nums w sa stk.length sc stk := hs
    have hnil' : sa = none → stk.length = 0 ∧ sc = 0 := hnil
    show Calls _ _ #[.agg (mcl (.slice ca c.length cc) (.slice sa stk.length sc) arg data ⟨pc, stk, G, false, 0⟩)] _ _
    rw [hD] at hs' hnil' h ⊢
    exact rstep_9 rfl hD.symm hc hs' hnil' hF hG hlt hsg (by omega) rfl rfl
  · by_cases h : stk.length < 1 ∨ 16 < stk.length - 1 + 0
    · exact hst (by decide) (by decide) (by decide) (by decide) h
    obtain ⟨D, hD⟩ : ∃ D, stk.length = D + 1 := ⟨stk.length - 1, by omega⟩
    clear hst
    have hs' : Nums w sa stk.length sc stk := hs
    have hnil' : sa = none → stk.length = 0 ∧ sc = 0 := hnil
    show Calls _ _ #[.agg (mcl (.slice ca c.length cc) (.slice sa stk.length sc) arg data ⟨pc, stk, G, false, 0⟩)] _ _
    rw [hD] at hs' hnil' h ⊢
    exact rstep_10 rfl hD.symm hc hs' hnil' hF hG hlt hsg (by omega) rfl
  · by_cases h : stk.length < 0 ∨ 16 < stk.length - 0 + 1
    · exact hst (by decide) (by decide) (by decide) (by decide) h
    have h' : ¬ (stk.length < 0 ∨ 16 < stk.length - 0 + 1) := h
    exact rstep_11 rfl rfl hc hs hnil hF hG hlt hsg (by omega)
  · by_cases h : stk.length < 0 ∨ 16 < stk.length - 0 + 1
    · exact hst (by decide) (by decide) (by decide) (by decide) h
    have h' : ¬ (stk.length < 0 ∨ 16 < stk.length - 0 + 1) := h
    exact rstep_12 rfl rfl hc hs hnil hF hG hlt hsg (by omega)
  · clear hst
    by_cases hcut : c.length < pc + 1 + 1
    · exact rstep_13cut rfl rfl hc hs hnil hF hG hlt hsg hcut
    obtain ⟨kN, hvk⟩ : ∃ kN : Nat, c.getD (pc + 1) 0 = (kN : Int) := by
      have hk := getD_byte hF.bytes (pc + 1)
      unfold Byte at hk
      exact ⟨(c.getD (pc + 1) 0).toNat, by omega⟩
    by_cases hroom : stk.length < 1
    · exact rstep_13few rfl rfl hc hs hnil hF hG hlt hsg (by omega) hvk hroom
    obtain ⟨D, hD⟩ : ∃ D, stk.length = D + 1 := ⟨stk.length - 1, by omega⟩
    have hs' : Nums w sa stk.length sc stk := hs
    have hnil' : sa = none → stk.length = 0 ∧ sc = 0 := hnil
    show Calls _ _ #[.agg (mcl (.slice ca c.length cc) (.slice sa stk.length sc) arg data ⟨pc, stk, G, false, 0⟩)] _ _
    rw [hD] at hs' hnil' ⊢
    by_cases hb0 : stk.getD D 0 = 0
    · by_cases hfar : c.length < kN
      · exact rstep_13far rfl hD.symm hc hs' hnil' hF hG hlt hsg (by omega) hvk rfl hb0 hfar
      · exact rstep_13 rfl hD.symm hc hs' hnil' hF hG hlt hsg (by omega) hvk rfl hb0 (by omega)
    · exact rstep_13no rfl hD.symm hc hs' hnil' hF hG hlt hsg (by omega) hvk rfl hb0
  · by_cases h : stk.length < 1 ∨ 16 < stk.length - 1 + 1
    · exact hst (by decide) (by decide) (by decide) (by decide) h
    obtain ⟨D, hD⟩ : ∃ D, stk.length = D + 1 := ⟨stk.length - 1, by omega⟩
    clear hst
    have hs' : Nums w sa stk.length sc stk := hs
    have hnil' : sa = none → stk.length = 0 ∧ sc = 0 := hnil
    show Calls _ _ #[.agg (mcl (.slice ca c.length cc) (.slice sa stk.length sc) arg data ⟨pc, stk, G, false, 0⟩)] _ _
    rw [hD] at hs' hnil' h ⊢
    exact rstep_14 rfl hD.symm hc hs' hnil' hF hG hlt hsg (by omega) rfl
  · by_cases h : stk.length < 1 ∨ 16 < stk.length - 1 + 1
    · exact hst (by decide) (by decide) (by decide) (by decide) h
    obtain ⟨D, hD⟩ : ∃ D, stk.length = D + 1 := ⟨stk.length - 1, by omega⟩
    clear hst
    have hs' : Nums w sa stk.length sc stk := hs
    have hnil' : sa = none → stk.length = 0 ∧ sc = 0 := hnil
    show Calls _ _ #[.agg (mcl (.slice ca c.length cc) (.slice sa stk.length sc) arg data ⟨pc, stk, G, false, 0⟩)] _ _
    rw [hD] at hs' hnil' h ⊢
    exact rstep_15 rfl hD.symm hc hs' hnil' hF hG hlt hsg (by omega) rfl
  · exact rstep_none rfl rfl hc hs hnil hF hG hlt hsg h hby.2
end Go.Proofs.Ytdbnfafafhdolaa
