/- The program's lay of any tree without repeats of nothing. -/
import Derived.Test.YtjmbimgofceanaaG43
import Derived.Test.YtjmbimgofceanaaG44
import Derived.Test.YtjmbimgofceanaaG46
namespace Go.Proofs.Ytjmbimgofceanaa
open Go.RowKit
attribute [local go_sem ↓] Go.wp_at_zero Go.wp_at_succ

theorem wb_cell {u : World} {Y k : Nat} {x : Value} (h : WB u Y) (hx : (#[Value.nilFunc, .func (.func 45) #[] #[], .func (.func 46) #[] #[], .func (.func 47) #[] #[], .func (.func 48) #[] #[], .func (.func 49) #[] #[], .func (.func 50) #[] #[], .func (.func 51) #[] #[]] : Array Value)[k]? = some x) : u.cell? ⟨Y, k, none⟩ = some x := by
  unfold WB at h
  simp only [World.cell?, h]
  simpa using hx
theorem blay_any {w0 : World} {B : Nat} {t : Tn} {x : Nd} (h : NwAt (fun b => b ≠ B) w0 t x) : (plc t).2 = true → tidy t = true → LayV w0 B t x := by
  induction h with
  | mk k s subs mn mx a n c vs hn hl hm hr hin ih =>
    intro hp hti
    obtain ⟨hsh, hsub⟩ := plc_subs hp
    rw [tidy, Bool.and_eq_true] at hti
    have hts := (tidys_iff _).1 hti.2
    have hs : ∀ (i : Nat) (t : Tn) (v : Nd), subs[i]? = some t → vs[i]? = some v → LayV w0 B t v := fun i t v ht hv => ih i t v ht hv (hsub t (List.mem_of_getElem? ht)) (hts t (List.mem_of_getElem? ht))
    rcases shp_kind hsh with rfl | rfl | rfl | rfl | rfl | rfl | rfl
    · exact disp_any (k := 1) rfl (by decide) ent45 (fun u Y h => wb_cell h rfl) (way_1 hn hl hm hr hs)
    · exact disp_any (k := 2) rfl (by decide) ent46 (fun u Y h => wb_cell h rfl) (way_2 hn hl hm hr hs)
    · exact disp_any (k := 3) rfl (by decide) ent47 (fun u Y h => wb_cell h rfl) (way_seq hn hl hm hr hs)
    · exact disp_any (k := 4) rfl (by decide) ent48 (fun u Y h => wb_cell h rfl) (way_alt hn hl hm hr hs)
    · obtain ⟨h1, hmn, hmx⟩ := shp_five hsh
      match subs, vs, hn, hl, h1 with
      | [u], [v], hn, hl, _ =>
        have hn : n = 1 := hn
        subst hn
        have hpl : placesOf u ≠ 1 := by
          have h2 := hti.1
          rw [Bool.or_eq_true] at h2
          rcases h2 with h2 | h2
          · exact absurd rfl (of_decide_eq_true h2)
          · exact of_decide_eq_true h2
        exact disp_any (k := 5) rfl (by decide) ent49 (fun u Y h => wb_cell h rfl) (way_times hr (hs 0 u v rfl rfl) hpl hmn hmx)
      | [u], [], hn, hl, _ => simp at hn hl; omega
      | [u], _ :: _ :: _, hn, hl, _ => simp at hn hl; omega
    · exact disp_any (k := 6) rfl (by decide) ent50 (fun u Y h => wb_cell h rfl) (way_6 hn hl hm hr hs (by unfold shapedT at hsh; simp at hsh; exact hsh.1.2))
    · exact disp_any (k := 7) rfl (by decide) ent51 (fun u Y h => wb_cell h rfl) (way_7 hn hl hm hr hs (by unfold shapedT at hsh; simp at hsh; exact hsh.1.2))
end Go.Proofs.Ytjmbimgofceanaa
