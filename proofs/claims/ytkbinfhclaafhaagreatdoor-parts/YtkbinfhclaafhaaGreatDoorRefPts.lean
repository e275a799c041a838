import Derived.Test.YtkbinfhclaafhaaGreatDoorRefToks
import Derived.Test.YtkbinfhclaafhaaGreatDoorPtLen
namespace Go.Proofs.YtkbinfhclaafhaaGreatDoor
open Go.RowKit

/-! The document's parts. -/
theorem docV_snoc (l : List PR) (t : PR) : docV (l ++ [t]) = docV l ++ [.int .i64 t.line, .int .i64 t.kind, .int .i64 t.from_, .int .i64 t.to_, .int .i64 t.body, .int .i64 t.end_] := by simp [docV]
theorem docD_len (s : ByteArray) (hz : s.size ≤ 600) : (docD s (toksR s 0) 0 0).length ≤ 600 := by
  have h := partsX_len s
  unfold partsX at h
  rw [if_pos hz] at h
  rw [← parts_doc]; exact h
theorem partsX_doc (s : ByteArray) (hz : s.size ≤ 600) : partsX s = docD s (toksR s 0) 0 0 := by
  unfold partsX
  rw [if_pos hz]
  exact parts_doc s
theorem wi_ge {p lo hi : Nat} (h : lo ≤ hi) : lo ≤ wi p lo hi ∧ wi p lo hi ≤ hi := by
  unfold wi
  split
  · omega
  · split <;> omega
theorem TC.drop {s : ByteArray} : ∀ {l : List Tk} {p : Nat} (i : Nat), TC s p l → ∃ q, p ≤ q ∧ TC s q (l.drop i)
  | l, p, 0, h => ⟨p, Nat.le_refl _, h⟩
  | [], p, i + 1, _ => ⟨p, Nat.le_refl _, by simp [TC]⟩
  | t :: ts, p, i + 1, h => by
    obtain ⟨h1, h2, h3, h4, h5, h6⟩ := h
    obtain ⟨q, hq, hc⟩ := TC.drop i h6
    exact ⟨q, by omega, hc⟩
theorem Tryz.infoDoc : (Tryz.prog.info? 83).map (fun i => (i.zero, i.size, i.bytes)) = some (some (.agg #[.int .i64 0, .int .i64 0, .int .i64 0, .int .i64 0, .int .i64 0, .int .i64 0]), 6, 48) := by kernel_rfl
/-- What the document's Parts answers. -/
def docR (s : ByteArray) : List PR := if s.size ≤ 600 then docD s (toksR s 0) 0 0 else []
theorem docR_eq (s : ByteArray) : docR s = partsX s := by
  unfold docR
  split
  · rename_i h; exact (partsX_doc s h).symm
  · rename_i h; unfold partsX; rw [if_neg h]
/-- Where the inner loop stands: what is told, and what is to come. -/
structure PIn (s : ByteArray) (all : List PR) (o : List PR) (t : Tk) (ts : List Tk) (ln bg fr p : Nat) : Prop where
  bgT : bg ≤ t.T
  lnb : ln ≤ bg
  go : p ≤ t.T → bg ≤ fr ∧ fr ≤ p ∧ o ++ (segR s t.k t.T t.B t.E ln bg fr p ++ docD s ts (endL s t.T ln bg p).1 (endL s t.T ln bg p).2) = all
  done : ¬ p ≤ t.T → o ++ docD s ts ln bg = all
section
variable {s : ByteArray} {all o : List PR} {t : Tk} {ts : List Tk} {ln bg fr p : Nat}
theorem PIn.start (h : o ++ docD s (t :: ts) ln bg = all) (hb : bg ≤ t.F) (hF : t.F < t.T) (hl : ln ≤ bg) : PIn s all o t ts ln bg t.F t.F :=
  ⟨by omega, hl, fun _ => ⟨hb, Nat.le_refl _, h⟩, fun hn => absurd (Nat.le_of_lt hF) hn⟩
theorem PIn.step (h : PIn s all o t ts ln bg fr p) (hp : p < t.T) (hb : ¬ bt s p = 10) : PIn s all o t ts ln bg fr (p + 1) := by
  obtain ⟨h1, h2, h3⟩ := h.go (by omega)
  rw [segR_go hp hb, endL_go hp hb] at h3
  exact ⟨h.bgT, h.lnb, fun _ => ⟨h1, by omega, h3⟩, fun hn => absurd hp hn⟩
theorem PIn.feed (h : PIn s all o t ts ln bg fr p) (hp : p < t.T) (hb : bt s p = 10) : PIn s all (o ++ emitD ln t.k bg fr p t.B t.E) t ts (ln + 1) (p + 1) (p + 1) (p + 1) := by
  obtain ⟨h1, h2, h3⟩ := h.go (by omega)
  rw [segR_nl hp hb, endL_nl hp hb] at h3
  have := h.lnb
  exact ⟨hp, by omega, fun _ => ⟨Nat.le_refl _, Nat.le_refl _, by rw [← h3]; simp only [List.append_assoc]⟩, fun hn => absurd hp hn⟩
theorem PIn.stop (h : PIn s all o t ts ln bg fr p) (hp : p = t.T) : PIn s all (o ++ emitD ln t.k bg fr p t.B t.E) t ts ln bg fr (p + 1) := by
  obtain ⟨h1, h2, h3⟩ := h.go (by omega)
  rw [segR_end (by omega), endL_end (by omega)] at h3
  exact ⟨h.bgT, h.lnb, fun hn => by omega, fun _ => by rw [← h3]; simp only [List.append_assoc]⟩
theorem PIn.len (h : PIn s all o t ts ln bg fr p) : o.length ≤ all.length := by
  by_cases hp : p ≤ t.T
  · rw [← (h.go hp).2.2]; simp
  · rw [← h.done hp]; simp
end
theorem emit_no {ln k bg fr p B E : Nat} (h : ¬ fr < p) : emitD ln k bg fr p B E = [] := if_neg h
theorem emit_code {ln k bg fr p B E : Nat} (h : fr < p) (hk : k = 0) : emitD ln k bg fr p B E = [⟨ln, k, fr - bg, p - bg, 0, 0⟩] := by unfold emitD; rw [if_pos h, if_pos hk, if_pos hk]
theorem emit_word {ln k bg fr p B E : Nat} (h : fr < p) (hk : k ≠ 0) : emitD ln k bg fr p B E = [⟨ln, k, fr - bg, p - bg, wi B fr p - bg, wi E fr p - bg⟩] := by unfold emitD; rw [if_pos h, if_neg hk, if_neg hk]
theorem toks_read {w : World} {B g cap : Nat} {l : List Tk} {e : TypeId} (h : w.ownsRow B e 5 (.slice (some ⟨g, 0, none⟩) l.length cap) l.length (toksV l)) (i : Nat) (hi : i < l.length) : w.cell? ⟨g, i * 5, none⟩ = some (.int .i64 l[i].k) ∧ w.cell? ⟨g, i * 5 + 1, none⟩ = some (.int .i64 l[i].F) ∧ w.cell? ⟨g, i * 5 + 2, none⟩ = some (.int .i64 l[i].T) ∧ w.cell? ⟨g, i * 5 + 3, none⟩ = some (.int .i64 l[i].B) ∧ w.cell? ⟨g, i * 5 + 4, none⟩ = some (.int .i64 l[i].E) := by
  obtain ⟨k0, k1, k2, k3, k4⟩ := toksV_get l i hi
  exact ⟨by rw [World.ownsRow.cellAt h (i * 5) (by omega)]; exact k0, by rw [World.ownsRow.cellAt h (i * 5 + 1) (by omega)]; exact k1, by rw [World.ownsRow.cellAt h (i * 5 + 2) (by omega)]; exact k2, by rw [World.ownsRow.cellAt h (i * 5 + 3) (by omega)]; exact k3, by rw [World.ownsRow.cellAt h (i * 5 + 4) (by omega)]; exact k4⟩
end Go.Proofs.YtkbinfhclaafhaaGreatDoor
