import PyProof.Rows.All
import HandS.ForMost
import HandS.IsInst
import HandS.Style
import HandS.Flow
import KE.GoesEnumKw
import KE.GoesMore
import PyProof.ReprRoads
import HandS.Small
import HandS.Rev
import PyProof.ReprLen
import PyProof.FitsInt
import PyProof.Rows.RegReprOcc
import HandS.Sort
import HandS.Gcd
import KE.KMathGC
import HandS.Wide
import HandS.Iter
import HandS.SortRule
import HandS.SortInts
import HandS.Text
import HandS.Conv
import HandS.TupAny
import HandS.SetFor
import HandS.Strs
import HandS.Defaults
import KE.SortData
import KE.DataMinMax
import HandS.Zip
import HandS.SetKeys
import HandS.TupSets
import HandS.TupMul
import PyProof.TupleIter
import HandS.WideBits
import PyProof.DictUpdate
import PySem.Challenge.RW_chordturn_k60_whole_loop_tables
set_option Elab.async false
set_option linter.all false
set_option maxRecDepth 100000
set_option maxHeartbeats 4000000
/-! DL: a data layer over HandS. Values are told as data (PyData), the heap is out of sight. -/
namespace DL
open PySem PySem.Spec PyProof.Rows L2

abbrev Own := Addr → Prop
abbrev Fg := PySem.W.Frag
open Classical in
/-- the heap without the owned objects: what stays -/
noncomputable def Hs (H : Hp) (O : Own) : Hp := fun b => if O b then none else H b
theorem Hs_in {H : Hp} {O : Own} {b : Addr} {o : HO} (h : H b = some o) (n : ¬ O b) : Hs H O b = some o := by
  unfold Hs; rw [if_neg n]; exact h
theorem Hs_out {H : Hp} {O : Own} {b : Addr} {o : HO} (h : Hs H O b = some o) : H b = some o ∧ ¬ O b := by
  unfold Hs at h
  by_cases n : O b
  · rw [if_pos n] at h; cases h
  · rw [if_neg n] at h; exact ⟨h, n⟩
theorem Hs_sub {H : Hp} {O : Own} : Same (Hs H O) H := fun _ _ h => (Hs_out h).1
theorem Hs_mono {H H' : Hp} {O O' : Own} (h : ∀ b o, H b = some o → ¬ O b → H' b = some o ∧ ¬ O' b) : Same (Hs H O) (Hs H' O') := fun b o e =>
  let ⟨e1, e2⟩ := Hs_out e
  let ⟨f1, f2⟩ := h b o e1 e2
  Hs_in f1 f2

theorem same_sqL {K : Fg} {H H' : Hp} {a : Addr} {xs : List V} (e : Same H H') (h : SqL K H a xs) : SqL K H' a xs := e.seq h
theorem same_sqT {K : Fg} {H H' : Hp} {a : Addr} {xs : List V} (e : Same H H') (h : SqT K H a xs) : SqT K H' a xs := by
  rcases h with (h | ⟨o, h⟩) | h
  · exact .inl (.inl (e _ _ h))
  · exact .inl (.inr ⟨o, e _ _ h⟩)
  · exact .inr h

/-- a key as data -/
def keyE : Key → PyData
  | .inl i => .int i
  | .inr x => .str x
mutual
/-- the value v bears the data d, read in H -/
def Dv (K : Fg) (H : Hp) : PyData → V → Prop
  | .none, v => v = .non
  | .bool b, v => v = .bl b
  | .int i, v => v = .int i
  | .str x, v => v = .str x
  | .list ds, v => ∃ a xs, v = .ref a ∧ SqL K H a xs ∧ DvL K H ds xs
  | .tuple ds, v => ∃ a xs, v = .ref a ∧ SqT K H a xs ∧ DvL K H ds xs
  | .dict kvs, v => ∃ a ws, v = .ref a ∧ H a = some (.dK ws) ∧ DvP K H kvs ws
def DvL (K : Fg) (H : Hp) : List PyData → List V → Prop
  | [], xs => xs = []
  | d :: ds, xs => ∃ y ys, xs = y :: ys ∧ Dv K H d y ∧ DvL K H ds ys
def DvP (K : Fg) (H : Hp) : List (PyData × PyData) → List (Key × V) → Prop
  | [], ws => ws = []
  | (k, d) :: r, ws => ∃ key y ys, ws = (key, y) :: ys ∧ k = keyE key ∧ Dv K H d y ∧ DvP K H r ys
end
mutual
theorem Dv.mono {K : Fg} {H H' : Hp} (e : Same H H') : ∀ {d : PyData} {v : V}, Dv K H d v → Dv K H' d v
  | .none, _, h => h
  | .bool _, _, h => h
  | .int _, _, h => h
  | .str _, _, h => h
  | .list ds, _, h => by
    obtain ⟨a, xs, e1, h1, h2⟩ := h
    exact ⟨a, xs, e1, same_sqL e h1, DvL.mono e h2⟩
  | .tuple ds, _, h => by
    obtain ⟨a, xs, e1, h1, h2⟩ := h
    exact ⟨a, xs, e1, same_sqT e h1, DvL.mono e h2⟩
  | .dict kvs, _, h => by
    obtain ⟨a, ws, e1, h1, h2⟩ := h
    exact ⟨a, ws, e1, e _ _ h1, DvP.mono e h2⟩
theorem DvL.mono {K : Fg} {H H' : Hp} (e : Same H H') : ∀ {ds : List PyData} {xs : List V}, DvL K H ds xs → DvL K H' ds xs
  | [], _, h => h
  | d :: ds, _, h => by
    obtain ⟨y, ys, e1, h1, h2⟩ := h
    exact ⟨y, ys, e1, Dv.mono e h1, DvL.mono e h2⟩
theorem DvP.mono {K : Fg} {H H' : Hp} (e : Same H H') : ∀ {r : List (PyData × PyData)} {ws : List (Key × V)}, DvP K H r ws → DvP K H' r ws
  | [], _, h => h
  | (k, d) :: r, _, h => by
    obtain ⟨key, y, ys, e1, e2, h1, h2⟩ := h
    exact ⟨key, y, ys, e1, e2, Dv.mono e h1, DvP.mono e h2⟩
end
theorem DvL.length {K : Fg} {H : Hp} : ∀ {ds : List PyData} {xs : List V}, DvL K H ds xs → xs.length = ds.length
  | [], _, h => by
    have h' : _ = [] := h
    rw [h']; rfl
  | _ :: ds, _, h => by
    obtain ⟨y, ys, e1, _, h2⟩ := h
    rw [e1, List.length_cons, List.length_cons, DvL.length h2]
theorem DvL.get {K : Fg} {H : Hp} : ∀ {ds : List PyData} {xs : List V} {i : Nat} {d : PyData}, DvL K H ds xs → ds[i]? = some d → ∃ x, xs[i]? = some x ∧ Dv K H d x
  | [], _, _, _, _, e => by simp at e
  | d0 :: ds, _, 0, d, h, e => by
    obtain ⟨y, ys, e1, h1, _⟩ := h
    have e' : d0 = d := by simpa using e
    exact ⟨y, by rw [e1]; rfl, e' ▸ h1⟩
  | d0 :: ds, _, i + 1, d, h, e => by
    obtain ⟨y, ys, e1, _, h2⟩ := h
    obtain ⟨x, q1, q2⟩ := DvL.get (i := i) (d := d) h2 (by simpa using e)
    exact ⟨x, by rw [e1]; simpa using q1, q2⟩
theorem DvL.getV {K : Fg} {H : Hp} {ds : List PyData} {xs : List V} {i : Nat} {x : V} (h : DvL K H ds xs) (e : xs[i]? = some x) : ∃ d, ds[i]? = some d ∧ Dv K H d x := by
  have hl := h.length
  have hi : i < ds.length := by rw [← hl]; exact (List.getElem?_eq_some_iff.mp e).1
  obtain ⟨y, q1, q2⟩ := h.get (List.getElem?_eq_getElem hi)
  rw [e] at q1
  cases q1
  exact ⟨_, List.getElem?_eq_getElem hi, q2⟩
theorem DvL.app {K : Fg} {H : Hp} : ∀ {ds es : List PyData} {xs ys : List V}, DvL K H ds xs → DvL K H es ys → DvL K H (ds ++ es) (xs ++ ys)
  | [], _, _, _, h, g => by
    have h' : _ = [] := h
    rw [h']; exact g
  | d :: ds, _, _, _, h, g => by
    obtain ⟨y, ys, e1, h1, h2⟩ := h
    rw [e1]
    exact ⟨y, ys ++ _, rfl, h1, DvL.app h2 g⟩
theorem DvL.take {K : Fg} {H : Hp} : ∀ {ds : List PyData} {xs : List V} (n : Nat), DvL K H ds xs → DvL K H (ds.take n) (xs.take n)
  | _, _, 0, _ => rfl
  | [], _, n + 1, h => by
    have h' : _ = [] := h
    rw [h']; rfl
  | d :: ds, _, n + 1, h => by
    obtain ⟨y, ys, e1, h1, h2⟩ := h
    rw [e1]
    exact ⟨y, ys.take n, rfl, h1, DvL.take n h2⟩
theorem DvL.drop {K : Fg} {H : Hp} : ∀ {ds : List PyData} {xs : List V} (n : Nat), DvL K H ds xs → DvL K H (ds.drop n) (xs.drop n)
  | _, _, 0, h => h
  | [], _, n + 1, h => by
    have h' : _ = [] := h
    rw [h']; rfl
  | d :: ds, _, n + 1, h => by
    obtain ⟨y, ys, e1, h1, h2⟩ := h
    rw [e1]
    exact DvL.drop n h2
theorem DvL.set {K : Fg} {H : Hp} {d : PyData} {v : V} (hd : Dv K H d v) : ∀ {ds : List PyData} {xs : List V} (n : Nat), DvL K H ds xs → DvL K H (ds.set n d) (xs.set n v)
  | [], _, n, h => by
    have h' : _ = [] := h
    rw [h']; rfl
  | d0 :: ds, _, 0, h => by
    obtain ⟨y, ys, e1, h1, h2⟩ := h
    rw [e1]
    exact ⟨v, ys, rfl, hd, h2⟩
  | d0 :: ds, _, n + 1, h => by
    obtain ⟨y, ys, e1, h1, h2⟩ := h
    rw [e1]
    exact ⟨y, ys.set n v, rfl, h1, DvL.set hd n h2⟩
theorem DvL.rev {K : Fg} {H : Hp} : ∀ {ds : List PyData} {xs : List V}, DvL K H ds xs → DvL K H ds.reverse xs.reverse
  | [], _, h => by
    have h' : _ = [] := h
    rw [h']; rfl
  | d :: ds, _, h => by
    obtain ⟨y, ys, e1, h1, h2⟩ := h
    rw [e1, List.reverse_cons, List.reverse_cons]
    exact DvL.app (DvL.rev h2) ⟨y, [], rfl, h1, rfl⟩
theorem DvL.ints {K : Fg} {H : Hp} : ∀ {ns : List Int} {xs : List V}, DvL K H (ns.map PyData.int) xs → xs = ns.map V.int
  | [], _, h => h
  | n :: ns, _, h => by
    obtain ⟨y, ys, e1, h1, h2⟩ := h
    have h1' : y = V.int n := h1
    rw [e1, h1', DvL.ints h2]; rfl
theorem DvL.of_ints {K : Fg} {H : Hp} : ∀ (ns : List Int), DvL K H (ns.map PyData.int) (ns.map V.int)
  | [] => rfl
  | n :: ns => ⟨_, _, rfl, rfl, DvL.of_ints ns⟩

/-- the top object is read in H, its items in Hst -/
def Dw (K : Fg) (Hst H : Hp) (d : PyData) (v : V) : Prop :=
  match d with
  | .list ds => ∃ a xs, v = .ref a ∧ SqL K H a xs ∧ DvL K Hst ds xs
  | .tuple ds => ∃ a xs, v = .ref a ∧ SqT K H a xs ∧ DvL K Hst ds xs
  | d => Dv K Hst d v
theorem Dw.of {K : Fg} {Hst H : Hp} (e : Same Hst H) : ∀ {d : PyData} {v : V}, Dv K Hst d v → Dw K Hst H d v
  | .none, _, h => h
  | .bool _, _, h => h
  | .int _, _, h => h
  | .str _, _, h => h
  | .dict _, _, h => h
  | .list ds, _, h => by
    obtain ⟨a, xs, e1, h1, h2⟩ := h
    exact ⟨a, xs, e1, same_sqL e h1, h2⟩
  | .tuple ds, _, h => by
    obtain ⟨a, xs, e1, h1, h2⟩ := h
    exact ⟨a, xs, e1, same_sqT e h1, h2⟩
theorem Dw.dv {K : Fg} {Hst H : Hp} (e : Same Hst H) : ∀ {d : PyData} {v : V}, Dw K Hst H d v → Dv K H d v
  | .none, _, h => h
  | .bool _, _, h => h
  | .int _, _, h => h
  | .str _, _, h => h
  | .dict _, _, h => Dv.mono e (show Dv K Hst (.dict _) _ from h)
  | .list ds, _, h => by
    obtain ⟨a, xs, e1, h1, h2⟩ := h
    exact ⟨a, xs, e1, h1, DvL.mono e h2⟩
  | .tuple ds, _, h => by
    obtain ⟨a, xs, e1, h1, h2⟩ := h
    exact ⟨a, xs, e1, h1, DvL.mono e h2⟩

/-! ### owned objects -/
/-- an object of some make, told by a word over its own addresses -/
structure ResP where
  P : Hp → Addr → List Addr → Prop
  keep : ∀ {H H' : Hp} {a : Addr} {fp : List Addr}, P H a fp → (∀ b ∈ fp, H' b = H b) → P H' a fp
  dom : ∀ {H : Hp} {a : Addr} {fp : List Addr}, P H a fp → ∀ b ∈ fp, H b ≠ none
inductive Ow where
  | lst (ds : List PyData)
  | dk (kvs : List (Key × PyData))
  | dt (kvs : List (List Key × PyData))
  | res (Φ : ResP)
/-- the data of an owned object -/
def Ow.data : Ow → Option PyData
  | .lst ds => some (.list ds)
  | _ => none
def OwnAt (K : Fg) (Hst H : Hp) : Ow → Addr → List Addr → Prop
  | .lst ds, a, fp => fp = [a] ∧ ∃ xs, H a = some (.lst xs) ∧ DvL K Hst ds xs
  | .dk kvs, a, fp => fp = [a] ∧ ∃ ws, H a = some (.dK ws) ∧ kvs.map (·.1) = ws.map (·.1) ∧ DvL K Hst (kvs.map (·.2)) (ws.map (·.2))
  | .dt kvs, a, fp => fp = [a] ∧ ∃ ws, H a = some (.dT ws) ∧ kvs.map (·.1) = ws.map (·.1) ∧ DvL K Hst (kvs.map (·.2)) (ws.map (·.2))
  | .res Φ, a, fp => Φ.P H a fp
theorem OwnAt.keep {K : Fg} {Hst Hst' H H' : Hp} {a : Addr} {fp : List Addr} (e : Same Hst Hst') : ∀ {w : Ow}, OwnAt K Hst H w a fp → (∀ b ∈ fp, H' b = H b) → OwnAt K Hst' H' w a fp
  | .lst ds, h, k => by
    obtain ⟨e1, xs, h1, h2⟩ := h
    subst e1
    exact ⟨rfl, xs, (k a (by simp)).trans h1, DvL.mono e h2⟩
  | .dk kvs, h, k => by
    obtain ⟨e1, ws, h1, h2, h3⟩ := h
    subst e1
    exact ⟨rfl, ws, (k a (by simp)).trans h1, h2, DvL.mono e h3⟩
  | .dt kvs, h, k => by
    obtain ⟨e1, ws, h1, h2, h3⟩ := h
    subst e1
    exact ⟨rfl, ws, (k a (by simp)).trans h1, h2, DvL.mono e h3⟩
  | .res Φ, h, k => Φ.keep h k
theorem OwnAt.dom {K : Fg} {Hst H : Hp} {a : Addr} {fp : List Addr} : ∀ {w : Ow}, OwnAt K Hst H w a fp → ∀ b ∈ fp, H b ≠ none
  | .lst ds, h, b, hb => by
    obtain ⟨e1, xs, h1, h2⟩ := h
    subst e1
    have e : b = a := by simpa using hb
    rw [e, h1]; exact fun z => nomatch z
  | .dk kvs, h, b, hb => by
    obtain ⟨e1, xs, h1, h2⟩ := h
    subst e1
    have e : b = a := by simpa using hb
    rw [e, h1]; exact fun z => nomatch z
  | .dt kvs, h, b, hb => by
    obtain ⟨e1, xs, h1, h2⟩ := h
    subst e1
    have e : b = a := by simpa using hb
    rw [e, h1]; exact fun z => nomatch z
  | .res Φ, h, b, hb => Φ.dom h b hb

/-! ### the frame as data -/
inductive Slot where
  | free
  | val (d : PyData)
  | own (w : Ow)
abbrev DEnv := List Slot
def slot : DEnv → Nat → Slot
  | [], _ => .free
  | s :: _, 0 => s
  | _ :: r, i + 1 => slot r i
def put : DEnv → Nat → Slot → DEnv
  | [], _, _ => []
  | _ :: r, 0, s => s :: r
  | t :: r, i + 1, s => t :: put r i s
theorem put_length : ∀ (ρ : DEnv) (i : Nat) (s : Slot), (put ρ i s).length = ρ.length
  | [], _, _ => rfl
  | _ :: _, 0, _ => rfl
  | _ :: r, i + 1, s => congrArg Nat.succ (put_length r i s)
theorem slot_put : ∀ {ρ : DEnv} {i : Nat} {s : Slot}, i < ρ.length → slot (put ρ i s) i = s
  | [], _, _, h => by simp at h
  | _ :: _, 0, _, _ => rfl
  | _ :: r, i + 1, s, h => slot_put (ρ := r) (i := i) (s := s) (by simpa using h)
theorem slot_put_ne : ∀ {ρ : DEnv} {i j : Nat} {s : Slot}, i ≠ j → slot (put ρ i s) j = slot ρ j
  | [], _, _, _, _ => rfl
  | _ :: _, 0, 0, _, h => absurd rfl h
  | _ :: _, 0, j + 1, _, _ => rfl
  | _ :: _, i + 1, 0, _, _ => rfl
  | _ :: r, i + 1, j + 1, s, h => slot_put_ne (ρ := r) (i := i) (j := j) (s := s) (fun e => h (by rw [e]))
theorem slot_lt : ∀ {ρ : DEnv} {i : Nat}, slot ρ i ≠ .free → i < ρ.length
  | [], _, h => absurd rfl h
  | _ :: _, 0, _ => by simp
  | _ :: r, i + 1, h => by
    have q := slot_lt (ρ := r) (i := i) h
    simpa using q
/-- a result: data that stays, a name's own, or a new object that nobody else knows -/
inductive RV where
  | d (d : PyData)
  | o (i : Nat)
  | n (w : Ow)
/-- what is fixed through a def's body: the heap at the entry, the callers' owned objects, the addresses of an argument that may change -/
structure Fx where
  H0 : Hp
  O0 : Own
  fx : Addr → Prop
  ra : Option Addr
  /-- what stays -/
  S : Hp
abbrev Sg := L2.St
structure Good (K : Fg) (F : Fx) (ρ : DEnv) (O : Own) (σ : Sg) (H : Hp) (A : Nat → Addr) (P : Nat → List Addr) : Prop where
  len : σ.length = ρ.length
  frame : ∀ b o, F.H0 b = some o → ¬ F.fx b → H b = some o
  alive : ∀ b, F.H0 b ≠ none → H b ≠ none
  still : ∀ b o, F.S b = some o → H b = some o ∧ ¬ O b
  base : ∀ b, F.O0 b → O b
  dom0 : ∀ b, F.O0 b → F.H0 b ≠ none
  dom : ∀ b, O b → H b ≠ none
  val : ∀ (i : Nat) (d : PyData), slot ρ i = .val d → ∃ v, σ[i]? = some (some v) ∧ Dv K (Hs H O) d v
  own : ∀ (i : Nat) (w : Ow), slot ρ i = .own w → σ[i]? = some (some (V.ref (A i))) ∧ OwnAt K (Hs H O) H w (A i) (P i) ∧ (∀ b ∈ P i, O b) ∧ ∀ b ∈ P i, F.H0 b = none ∨ (w.data = none ∧ F.fx b)
  sep : ∀ (i j : Nat) (w w' : Ow), slot ρ i = .own w → slot ρ j = .own w' → i ≠ j → ∀ b ∈ P i, b ∉ P j
  pin : ∀ (a : Addr) (w : Ow), F.ra = some a → slot ρ 0 = .own w → A 0 = a
/-- a result is borne by v -/
def Rk (K : Fg) (F : Fx) (ρ : DEnv) (O : Own) (σ : Sg) (H : Hp) (P : Nat → List Addr) : RV → V → List Addr → Prop
  | .d d, v, _ => Dv K (Hs H O) d v
  | .o i, v, _ => σ[i]? = some (some v) ∧ slot ρ i ≠ .free
  | .n w, v, fp => ∃ p, v = .ref p ∧ (∀ b ∈ fp, F.H0 b = none ∧ O b ∧ ∀ (i : Nat) (w : Ow), slot ρ i = .own w → b ∉ P i) ∧ OwnAt K (Hs H O) H w p fp
/-- a step: what stays stays, what is owned by none of the names is as it was, a name that holds something goes on to do so -/
structure Stp (ρ : DEnv) (O : Own) (H : Hp) (P : Nat → List Addr) (ρ' : DEnv) (O' : Own) (H' : Hp) (P' : Nat → List Addr) : Prop where
  st : ∀ b o, H b = some o → ¬ O b → H' b = some o ∧ ¬ O' b
  fr : ∀ b, O b → (∀ (i : Nat) (w : Ow), slot ρ i = .own w → b ∉ P i) → H' b = H b ∧ O' b ∧ ∀ (i : Nat) (w : Ow), slot ρ' i = .own w → b ∉ P' i
  live : ∀ i, slot ρ i ≠ .free → slot ρ' i ≠ .free
  dm : ∀ b, H b ≠ none → H' b ≠ none
theorem Stp.refl {ρ : DEnv} {O : Own} {H : Hp} {P : Nat → List Addr} : Stp ρ O H P ρ O H P := ⟨fun _ _ h n => ⟨h, n⟩, fun _ h n => ⟨rfl, h, n⟩, fun _ h => h, fun _ h => h⟩
theorem Stp.trans {ρ ρ1 ρ2 : DEnv} {O O1 O2 : Own} {H H1 H2 : Hp} {P P1 P2 : Nat → List Addr} (a : Stp ρ O H P ρ1 O1 H1 P1) (b : Stp ρ1 O1 H1 P1 ρ2 O2 H2 P2) : Stp ρ O H P ρ2 O2 H2 P2 :=
  ⟨fun x o h n => let ⟨h1, n1⟩ := a.st x o h n; b.st x o h1 n1, fun x h n => let ⟨e1, h1, n1⟩ := a.fr x h n; let ⟨e2, h2, n2⟩ := b.fr x h1 n1; ⟨e2.trans e1, h2, n2⟩, fun i h => b.live i (a.live i h), fun x h => b.dm x (a.dm x h)⟩
theorem Stp.same {ρ ρ' : DEnv} {O O' : Own} {H H' : Hp} {P P' : Nat → List Addr} (a : Stp ρ O H P ρ' O' H' P') : Same (Hs H O) (Hs H' O') := Hs_mono a.st
theorem Stp.rk {K : Fg} {F : Fx} {ρ ρ' : DEnv} {O O' : Own} {σ : Sg} {H H' : Hp} {P P' : Nat → List Addr} (a : Stp ρ O H P ρ' O' H' P') {r : RV} {v : V} {fp : List Addr} (h : Rk K F ρ O σ H P r v fp) : Rk K F ρ' O' σ H' P' r v fp := by
  cases r with
  | d d => exact Dv.mono a.same h
  | o i => exact ⟨h.1, a.live i h.2⟩
  | n w =>
    obtain ⟨p, e, h1, h4⟩ := h
    refine ⟨p, e, fun b hb => ?_, h4.keep a.same fun b hb => (a.fr b (h1 b hb).2.1 (h1 b hb).2.2).1⟩
    obtain ⟨q1, q2, q3⟩ := a.fr b (h1 b hb).2.1 (h1 b hb).2.2
    exact ⟨(h1 b hb).1, q2, q3⟩
/-- a result's data, as it stands now -/
def view (ρ : DEnv) : RV → Option PyData
  | .d d => some d
  | .n w => w.data
  | .o i => match slot ρ i with
    | .val d => some d
    | .own w => w.data
    | .free => none
/-- a result as data that stays: what was owned is given up -/
def stab (ρ : DEnv) : RV → Option (PyData × DEnv)
  | .d d => some (d, ρ)
  | .n w => match w.data with
    | some d => some (d, ρ)
    | none => none
  | .o i => match slot ρ i with
    | .val d => some (d, ρ)
    | .own w => match w.data with
      | some d => some (d, put ρ i (.val d))
      | none => none
    | .free => none

section
variable {K : Fg} {F : Fx} {ρ : DEnv} {O : Own} {σ : Sg} {H : Hp} {A : Nat → Addr} {P : Nat → List Addr}
theorem ownAt_dw {w : Ow} {a : Addr} {fp : List Addr} {d : PyData} {Hst : Hp} (h : OwnAt K Hst H w a fp) (e : w.data = some d) : Dw K Hst H d (.ref a) := by
  cases w with
  | lst ds =>
    have e' : PyData.list ds = d := Option.some.inj e
    subst e'
    obtain ⟨_, xs, h1, h2⟩ := h
    exact ⟨a, xs, rfl, SqL.of h1, h2⟩
  | dk kvs => cases e
  | dt kvs => cases e
  | res Φ => cases e
theorem view_ok (G : Good K F ρ O σ H A P) {r : RV} {v : V} {d : PyData} {fp : List Addr} (h : Rk K F ρ O σ H P r v fp) (e : view ρ r = some d) : Dw K (Hs H O) H d v := by
  cases r with
  | d d' =>
    have e' : d' = d := Option.some.inj e
    subst e'
    exact Dw.of Hs_sub h
  | n w =>
    obtain ⟨p, rfl, _, h1⟩ := h
    exact ownAt_dw h1 e
  | o i =>
    obtain ⟨h1, _⟩ := h
    unfold view at e
    cases q : slot ρ i with
    | free => simp [q] at e
    | val d' =>
      simp only [q] at e
      have e' : d' = d := Option.some.inj e
      subst e'
      obtain ⟨v', g1, g2⟩ := G.val i d' q
      rw [h1] at g1
      cases g1
      exact Dw.of Hs_sub g2
    | own w =>
      simp only [q] at e
      obtain ⟨g1, g2, _, _⟩ := G.own i w q
      rw [h1] at g1
      cases g1
      exact ownAt_dw g2 e
/-- giving up addresses -/
theorem Good.drop {D : Addr → Prop} {ρ' : DEnv} (G : Good K F ρ O σ H A P) (hD : ∀ b, D b → F.H0 b = none) (hl : ρ'.length = ρ.length)
    (hv : ∀ (i : Nat) (d : PyData), slot ρ' i = .val d → slot ρ i = .val d ∨ ∃ v, σ[i]? = some (some v) ∧ Dv K (Hs H fun b => O b ∧ ¬ D b) d v)
    (ho : ∀ (i : Nat) (w : Ow), slot ρ' i = .own w → slot ρ i = .own w ∧ ∀ b ∈ P i, ¬ D b) : Good K F ρ' (fun b => O b ∧ ¬ D b) σ H A P := by
  have sm : Same (Hs H O) (Hs H fun b => O b ∧ ¬ D b) := Hs_mono fun b o h n => ⟨h, fun z => n z.1⟩
  refine ⟨G.len.trans hl.symm, G.frame, G.alive, fun b o h => ⟨(G.still b o h).1, fun z => (G.still b o h).2 z.1⟩, fun b h => ⟨G.base b h, fun z => G.dom0 b h (hD b z)⟩, G.dom0, fun b h => G.dom b h.1, fun i d e => ?_, fun i w e => ?_, fun i j w w' e e' => ?_, fun a w e1 e2 => G.pin a w e1 (ho 0 w e2).1⟩
  · rcases hv i d e with q | q
    · obtain ⟨v, h1, h2⟩ := G.val i d q
      exact ⟨v, h1, h2.mono sm⟩
    · exact q
  · obtain ⟨q, n⟩ := ho i w e
    obtain ⟨h1, h2, h3, h4⟩ := G.own i w q
    exact ⟨h1, h2.keep sm fun _ _ => rfl, fun b hb => ⟨h3 b hb, n b hb⟩, h4⟩
  · exact G.sep i j w w' (ho i w e).1 (ho j w' e').1
theorem ownAt_one {w : Ow} {a : Addr} {fp : List Addr} {d : PyData} {Hst : Hp} (h : OwnAt K Hst H w a fp) (e : w.data = some d) : fp = [a] := by
  cases w with
  | lst ds => exact h.1
  | dk kvs => exact h.1
  | dt kvs => exact h.1
  | res Φ => cases e
theorem own_stays {w : Ow} {a : Addr} {d : PyData} {O' : Own} (h : OwnAt K (Hs H O) H w a [a]) (e : w.data = some d) (sm : Same (Hs H O) (Hs H O')) (n : ¬ O' a) : Dv K (Hs H O') d (.ref a) := by
  cases w with
  | lst ds =>
    have e' : PyData.list ds = d := Option.some.inj e
    subst e'
    obtain ⟨_, xs, h1, h2⟩ := h
    exact ⟨a, xs, rfl, SqL.of (Hs_in h1 n), DvL.mono sm h2⟩
  | dk kvs => cases e
  | dt kvs => cases e
  | res Φ => cases e
/-- a result that is new is new since the start -/
def Nw (H : Hp) (r : RV) (fp : List Addr) : Prop := ∀ w, r = .n w → ∀ b ∈ fp, H b = none
/-- giving up is a step -/
theorem stab_ok {ρ0 : DEnv} {O0 : Own} {H0 : Hp} {P0 : Nat → List Addr} (hdom : ∀ b, O0 b → H0 b ≠ none) (S : Stp ρ0 O0 H0 P0 ρ O H P) (G : Good K F ρ O σ H A P) {r : RV} {v : V} {d : PyData} {ρ' : DEnv} {fp : List Addr} (h : Rk K F ρ O σ H P r v fp) (hn : Nw H0 r fp) (e : stab ρ r = some (d, ρ')) :
    ∃ O', Good K F ρ' O' σ H A P ∧ Dv K (Hs H O') d v ∧ Stp ρ0 O0 H0 P0 ρ' O' H P := by
  cases r with
  | d d' =>
    have e' : (d', ρ) = (d, ρ') := Option.some.inj e
    cases e'
    exact ⟨O, G, h, S⟩
  | n w =>
    obtain ⟨p, rfl, hf, h4⟩ := h
    unfold stab at e
    cases q : w.data with
    | none => simp [q] at e
    | some d' =>
      simp only [q, Option.some.injEq, Prod.mk.injEq] at e
      obtain ⟨rfl, rfl⟩ := e
      have e1 := ownAt_one h4 q
      subst e1
      have hp : H0 p = none := hn w rfl p (by simp)
      obtain ⟨h1, h2, h3⟩ := hf p (by simp)
      have sm : Same (Hs H O) (Hs H fun b => O b ∧ ¬ b = p) := Hs_mono fun b o h n => ⟨h, fun z => n z.1⟩
      refine ⟨fun b => O b ∧ ¬ b = p, G.drop (D := fun b => b = p) (fun b z => z ▸ h1) rfl (fun i d q => .inl q) (fun i w q => ⟨q, fun b hb z => h3 i w q (z ▸ hb)⟩), own_stays h4 q sm (fun z => z.2 rfl), ⟨fun b o hb n => ?_, fun b hb n => ?_, S.live, S.dm⟩⟩
      · obtain ⟨f1, f2⟩ := S.st b o hb n
        exact ⟨f1, fun z => f2 z.1⟩
      · obtain ⟨f1, f2, f3⟩ := S.fr b hb n
        exact ⟨f1, ⟨f2, fun z => hdom b hb (z ▸ hp)⟩, f3⟩
  | o i =>
    obtain ⟨h1, _⟩ := h
    unfold stab at e
    cases q : slot ρ i with
    | free => simp [q] at e
    | val d' =>
      simp only [q] at e
      have e' : (d', ρ) = (d, ρ') := Option.some.inj e
      cases e'
      obtain ⟨v', g1, g2⟩ := G.val i _ q
      rw [h1] at g1
      cases g1
      exact ⟨O, G, g2, S⟩
    | own w =>
      simp only [q] at e
      cases qd : w.data with
      | none => simp [qd] at e
      | some d' =>
        simp only [qd, Option.some.injEq, Prod.mk.injEq] at e
        obtain ⟨rfl, rfl⟩ := e
        obtain ⟨g1, g2, g3, g4⟩ := G.own i w q
        rw [h1] at g1
        cases g1
        have f1 := ownAt_one g2 qd
        have hil : i < ρ.length := slot_lt (by rw [q]; exact fun z => nomatch z)
        have sm : Same (Hs H O) (Hs H fun b => O b ∧ ¬ b ∈ P i) := Hs_mono fun b o h n => ⟨h, fun z => n z.1⟩
        have st : Dv K (Hs H fun b => O b ∧ ¬ b ∈ P i) d' (.ref (A i)) := own_stays (by rw [f1] at g2; exact g2) qd sm (fun z => z.2 (by rw [f1]; simp))
        have own_back : ∀ (j : Nat) (w2 : Ow), slot (put ρ i (.val d')) j = .own w2 → slot ρ j = .own w2 ∧ i ≠ j := fun j w2 qj => by
          by_cases hj : i = j
          · subst hj
            rw [slot_put hil] at qj
            cases qj
          · rw [slot_put_ne hj] at qj
            exact ⟨qj, hj⟩
        refine ⟨fun b => O b ∧ ¬ b ∈ P i, G.drop (D := fun b => b ∈ P i) (fun b z => (g4 b z).resolve_right fun z => by rw [qd] at z; cases z.1) (put_length _ _ _) (fun j d2 qj => ?_) (fun j w2 qj => ?_), st, ⟨fun b o hb n => ?_, fun b hb n => ?_, fun j hj => ?_, S.dm⟩⟩
        · by_cases hj : i = j
          · subst hj
            rw [slot_put hil] at qj
            cases qj
            exact .inr ⟨_, h1, st⟩
          · rw [slot_put_ne hj] at qj
            exact .inl qj
        · obtain ⟨q1, q2⟩ := own_back j w2 qj
          exact ⟨q1, fun b hb z => G.sep j i w2 w q1 q (fun z => q2 z.symm) b hb z⟩
        · obtain ⟨f1, f2⟩ := S.st b o hb n
          exact ⟨f1, fun z => f2 z.1⟩
        · obtain ⟨f1, f2, f3⟩ := S.fr b hb n
          exact ⟨f1, ⟨f2, f3 i w q⟩, fun j w2 qj => f3 j w2 (own_back j w2 qj).1⟩
        · by_cases hij : i = j
          · subst hij
            rw [slot_put hil]
            exact fun z => nomatch z
          · rw [slot_put_ne hij]
            exact S.live j hj
end
end DL
namespace DL
open PySem PySem.Spec PyProof.Rows L2

/-! ### judgements -/
abbrev DTE := DEnv → (RV → DEnv → Prop) → Prop
abbrev DTA := DEnv → (List RV → DEnv → Prop) → Prop
abbrev DTT := DEnv → (Bool → DEnv → Prop) → Prop
/-- data that stays -/
abbrev DTD := DEnv → (PyData → DEnv → Prop) → Prop
abbrev DTL := DEnv → (List PyData → DEnv → Prop) → Prop
def Sim (K : Fg) (te : TE) (t : DTE) : Prop := ∀ (F : Fx) (ρ : DEnv) (O : Own) (σ : Sg) (H : Hp) (A : Nat → Addr) (P : Nat → List Addr) (Qd : RV → DEnv → Prop) (Q : VK), Good K F ρ O σ H A P → t ρ Qd →
  (∀ r ρ' v fp O' H' A' P', Stp ρ O H P ρ' O' H' P' → Good K F ρ' O' σ H' A' P' → Rk K F ρ' O' σ H' P' r v fp → Nw H r fp → Qd r ρ' → Q v H') → te σ H Q
def SimT (K : Fg) (te : TT) (t : DTT) : Prop := ∀ (F : Fx) (ρ : DEnv) (O : Own) (σ : Sg) (H : Hp) (A : Nat → Addr) (P : Nat → List Addr) (Qd : Bool → DEnv → Prop) (Q : Bool → Hp → Prop), Good K F ρ O σ H A P → t ρ Qd →
  (∀ b ρ' O' H' A' P', Stp ρ O H P ρ' O' H' P' → Good K F ρ' O' σ H' A' P' → Qd b ρ' → Q b H') → te σ H Q
def Rks (K : Fg) (F : Fx) (ρ : DEnv) (O : Own) (σ : Sg) (H : Hp) (P : Nat → List Addr) : List RV → List V → Prop
  | [], vs => vs = []
  | r :: rs, vs => ∃ v ws fp, vs = v :: ws ∧ Rk K F ρ O σ H P r v fp ∧ Rks K F ρ O σ H P rs ws
def SimA (K : Fg) (te : TA) (t : DTA) : Prop := ∀ (F : Fx) (ρ : DEnv) (O : Own) (σ : Sg) (H : Hp) (A : Nat → Addr) (P : Nat → List Addr) (Qd : List RV → DEnv → Prop) (Q : List V → Hp → Prop), Good K F ρ O σ H A P → t ρ Qd →
  (∀ rs ρ' vs O' H' A' P', Stp ρ O H P ρ' O' H' P' → Good K F ρ' O' σ H' A' P' → Rks K F ρ' O' σ H' P' rs vs → Qd rs ρ' → Q vs H') → te σ H Q
def SimL (K : Fg) (te : TA) (t : DTL) : Prop := ∀ (F : Fx) (ρ : DEnv) (O : Own) (σ : Sg) (H : Hp) (A : Nat → Addr) (P : Nat → List Addr) (Qd : List PyData → DEnv → Prop) (Q : List V → Hp → Prop), Good K F ρ O σ H A P → t ρ Qd →
  (∀ ds ρ' vs O' H' A' P', Stp ρ O H P ρ' O' H' P' → Good K F ρ' O' σ H' A' P' → DvL K (Hs H' O') ds vs → Qd ds ρ' → Q vs H') → te σ H Q
def SimD (K : Fg) (te : TE) (t : DTD) : Prop := ∀ (F : Fx) (ρ : DEnv) (O : Own) (σ : Sg) (H : Hp) (A : Nat → Addr) (P : Nat → List Addr) (Qd : PyData → DEnv → Prop) (Q : VK), Good K F ρ O σ H A P → t ρ Qd →
  (∀ d ρ' v O' H' A' P', Stp ρ O H P ρ' O' H' P' → Good K F ρ' O' σ H' A' P' → Dv K (Hs H' O') d v → Qd d ρ' → Q v H') → te σ H Q
/-- an expression -/
def DE (X : Cx) (e : Expr) (t : DTE) : Prop := ∃ te, PE X e te ∧ Sim X.K te t
/-- .. whose value is to stay -/
def DD (X : Cx) (e : Expr) (t : DTD) : Prop := ∃ te, PE X e te ∧ SimD X.K te t
def DT (X : Cx) (e : Expr) (t : DTT) : Prop := ∃ te, PT X e te ∧ SimT X.K te t
def DA (X : Cx) (es : List Expr) (t : DTA) : Prop := ∃ te, PA X es te ∧ SimA X.K te t
def DLs (X : Cx) (es : List Expr) (t : DTL) : Prop := ∃ te, PA X es te ∧ SimL X.K te t

theorem Rks.step {K : Fg} {F : Fx} {ρ ρ' : DEnv} {O O' : Own} {σ : Sg} {H H' : Hp} {P P' : Nat → List Addr} (a : Stp ρ O H P ρ' O' H' P') : ∀ {rs : List RV} {vs : List V}, Rks K F ρ O σ H P rs vs → Rks K F ρ' O' σ H' P' rs vs
  | [], _, h => h
  | r :: rs, _, h => by
    obtain ⟨v, ws, fp, e, h1, h2⟩ := h
    exact ⟨v, ws, fp, e, a.rk h1, Rks.step a h2⟩
/-- the data of several results -/
def views (ρ : DEnv) : List RV → Option (List PyData)
  | [] => some []
  | r :: rs => match view ρ r with
    | some d => match views ρ rs with
      | some ds => some (d :: ds)
      | none => none
    | none => none
def DwL (K : Fg) (Hst H : Hp) : List PyData → List V → Prop
  | [], vs => vs = []
  | d :: ds, vs => ∃ v ws, vs = v :: ws ∧ Dw K Hst H d v ∧ DwL K Hst H ds ws
theorem views_ok {K : Fg} {F : Fx} {ρ : DEnv} {O : Own} {σ : Sg} {H : Hp} {A : Nat → Addr} {P : Nat → List Addr} (G : Good K F ρ O σ H A P) : ∀ {rs : List RV} {vs : List V} {ds : List PyData}, Rks K F ρ O σ H P rs vs → views ρ rs = some ds → DwL K (Hs H O) H ds vs
  | [], _, _, h, e => by
    have e' : [] = _ := Option.some.inj e
    subst e'
    exact h
  | r :: rs, _, _, h, e => by
    obtain ⟨v, ws, fp, e1, h1, h2⟩ := h
    unfold views at e
    cases q : view ρ r with
    | none => simp [q] at e
    | some d =>
      simp only [q] at e
      cases q2 : views ρ rs with
      | none => simp [q2] at e
      | some ds =>
        simp only [q2, Option.some.injEq] at e
        subst e
        exact ⟨v, ws, e1, view_ok G h1 q, views_ok G h2 q2⟩

/-! ### what an operation gives -/
/-- a result of an operation that lets all that is tracked stand -/
def Out (K : Fg) (O : Own) (H : Hp) (rv : RV) (v : V) (H' : Hp) : Prop :=
  Same H H' ∧ match rv with
  | .d d => Dv K (Hs H' O) d v
  | .n w => ∃ p fp, v = .ref p ∧ (∀ b ∈ fp, H b = none ∧ H' b ≠ none) ∧ OwnAt K (Hs H' fun b => O b ∨ b ∈ fp) H' w p fp
  | .o _ => False
theorem Out.sc {K : Fg} {O : Own} {H : Hp} {d : PyData} {v : V} (h : Dv K (Hs H O) d v) : Out K O H (.d d) v H := ⟨Same.refl H, h⟩
theorem same_new {H : Hp} {p : Addr} {o : HO} (h : H p = none) : Same H (upd H p o) := fun b x e => by
  rw [upd_ne (ne_of_none e h)]
  exact e
theorem Out.lst {K : Fg} {O : Own} {H : Hp} {ds : List PyData} {xs : List V} {p : Addr} (hd : ∀ b, O b → H b ≠ none) (hp : H p = none) (h : DvL K (Hs H O) ds xs) : Out K O H (.n (.lst ds)) (.ref p) (upd H p (.lst xs)) := by
  refine ⟨same_new hp, p, [p], rfl, fun b hb => ?_, ⟨rfl, xs, upd_same, DvL.mono (Hs_mono fun b o e n => ?_) h⟩⟩
  · have e : b = p := by simpa using hb
    rw [e, upd_same]
    exact ⟨hp, fun z => nomatch z⟩
  · have hb : b ≠ p := ne_of_none e hp
    exact ⟨by rw [upd_ne hb]; exact e, fun z => z.elim n fun z => hb (by simpa using z)⟩
theorem Out.tup {K : Fg} {O : Own} {H : Hp} {ds : List PyData} {xs : List V} {p : Addr} (hd : ∀ b, O b → H b ≠ none) (hp : H p = none) (h : DvL K (Hs H O) ds xs) : Out K O H (.d (.tuple ds)) (.ref p) (upd H p (.tup xs)) := by
  have sm : Same (Hs H O) (Hs (upd H p (.tup xs)) O) := Hs_mono fun b o e n => ⟨by rw [upd_ne (ne_of_none e hp)]; exact e, n⟩
  exact ⟨same_new hp, p, xs, rfl, SqT.of (Hs_in upd_same fun z => hd p z hp), DvL.mono sm h⟩
theorem Out.fin {K : Fg} {F : Fx} {ρ : DEnv} {O : Own} {σ : Sg} {H H' : Hp} {A : Nat → Addr} {P : Nat → List Addr} {rv : RV} {v : V} (G : Good K F ρ O σ H A P) (h : Out K O H rv v H') :
    ∃ O' fp, Stp ρ O H P ρ O' H' P ∧ Good K F ρ O' σ H' A P ∧ Rk K F ρ O' σ H' P rv v fp ∧ Nw H rv fp := by
  obtain ⟨sm, h⟩ := h
  have kp : ∀ b, O b → H' b = H b := fun b hb => by
    cases q : H b with
    | none => exact absurd q (G.dom b hb)
    | some o => exact sm b o q
  have dmn : ∀ b, H b ≠ none → H' b ≠ none := fun b hb => by
    cases q : H b with
    | none => exact absurd q hb
    | some o => rw [sm b o q]; exact fun z => nomatch z
  cases rv with
  | d d =>
    have sst : Same (Hs H O) (Hs H' O) := Hs_mono fun b o e n => ⟨sm b o e, n⟩
    refine ⟨O, [], ⟨fun b o e n => ⟨sm b o e, n⟩, fun b hb n => ⟨kp b hb, hb, n⟩, fun _ h => h, dmn⟩, ⟨G.len, fun b o e n => sm b o (G.frame b o e n), fun b h => dmn b (G.alive b h), fun b o h => ⟨sm b o (G.still b o h).1, (G.still b o h).2⟩, G.base, G.dom0, fun b hb => dmn b (G.dom b hb), fun i d e => ?_, fun i w e => ?_, G.sep, G.pin⟩, h, fun w e => nomatch e⟩
    · obtain ⟨x, h1, h2⟩ := G.val i d e
      exact ⟨x, h1, h2.mono sst⟩
    · obtain ⟨h1, h2, h3, h4⟩ := G.own i w e
      exact ⟨h1, h2.keep sst fun b hb => kp b (h3 b hb), h3, h4⟩
  | o i => exact h.elim
  | n w =>
    obtain ⟨p, fp, rfl, hf, ho⟩ := h
    have sst : Same (Hs H O) (Hs H' fun b => O b ∨ b ∈ fp) := Hs_mono fun b o e n => ⟨sm b o e, fun z => z.elim n fun z => ne_of_none e (hf b z).1 rfl⟩
    have np : ∀ b, O b → b ∉ fp := fun b hb z => G.dom b hb (hf b z).1
    have h0 : ∀ b ∈ fp, F.H0 b = none := fun b hb => by
      cases q : F.H0 b with
      | none => rfl
      | some o => exact absurd (hf b hb).1 (G.alive b (by rw [q]; exact fun z => (nomatch z)))
    refine ⟨fun b => O b ∨ b ∈ fp, fp, ⟨fun b o e n => ⟨sm b o e, fun z => z.elim n fun z => ne_of_none e (hf b z).1 rfl⟩, fun b hb n => ⟨kp b hb, .inl hb, n⟩, fun _ h => h, dmn⟩, ⟨G.len, fun b o e n => sm b o (G.frame b o e n), fun b h => dmn b (G.alive b h), fun b o h => ⟨sm b o (G.still b o h).1, fun z => z.elim (G.still b o h).2 fun z => ne_of_none (G.still b o h).1 (hf b z).1 rfl⟩, fun b hb => .inl (G.base b hb), G.dom0, fun b hb => ?_, fun i d e => ?_, fun i w e => ?_, G.sep, G.pin⟩, ⟨p, rfl, fun b hb => ⟨h0 b hb, .inr hb, fun i w e hb' => np b ((G.own i w e).2.2.1 b hb') hb⟩, ho⟩, fun w' e1 b hb => (hf b hb).1⟩
    · rcases hb with hb | hb
      · exact dmn b (G.dom b hb)
      · exact (hf b hb).2
    · obtain ⟨x, h1, h2⟩ := G.val i d e
      exact ⟨x, h1, h2.mono sst⟩
    · obtain ⟨h1, h2, h3, h4⟩ := G.own i w e
      exact ⟨h1, h2.keep sst fun b hb => kp b (h3 b hb), fun b hb => .inl (h3 b hb), h4⟩
end DL
namespace DL
open PySem PySem.Spec PyProof.Rows L2

/-- a text of these signs -/
def ofL (l : List Nat) : Str := ⟨l.toArray⟩
theorem ofL_app (a b : List Nat) : ofL a ++ ofL b = ofL (a ++ b) := by
  show Str.mk (a.toArray ++ b.toArray) = Str.mk (a ++ b).toArray
  rw [List.append_toArray]
theorem ofL_len (a : List Nat) : (ofL a).length = a.length := by
  show a.toArray.size = a.length
  simp
theorem ofL_list (a : List Nat) : (ofL a).cps.toList = a := by
  show a.toArray.toList = a
  simp
theorem ofL_inj {a b : List Nat} (h : ofL a = ofL b) : a = b := by
  have := congrArg (fun s : Str => s.cps.toList) h
  simpa [ofL] using this
theorem ofL_eta (s : Str) : ofL s.cps.toList = s := by
  cases s with
  | mk c => simp [ofL]

/-! ### lifting operations -/
abbrev G1 := PyData → (RV → Prop) → Prop
abbrev G2 := PyData → PyData → (RV → Prop) → Prop
abbrev GL := List PyData → (RV → Prop) → Prop
def OpL (K : Fg) (r : R2) (g : G2) : Prop := ∀ (O : Own) (H : Hp) (d e : PyData) (x y : V) (Qd : RV → Prop) (Q : VK), (∀ b, O b → H b ≠ none) → Dw K (Hs H O) H d x → Dw K (Hs H O) H e y → g d e Qd →
  (∀ rv v H', Out K O H rv v H' → Qd rv → Q v H') → r x y H Q
def UnL (K : Fg) (r : V → Hp → VK → Prop) (g : G1) : Prop := ∀ (O : Own) (H : Hp) (d : PyData) (x : V) (Qd : RV → Prop) (Q : VK), (∀ b, O b → H b ≠ none) → Dw K (Hs H O) H d x → g d Qd →
  (∀ rv v H', Out K O H rv v H' → Qd rv → Q v H') → r x H Q
def ClL (K : Fg) (r : List V → Hp → VK → Prop) (g : GL) : Prop := ∀ (O : Own) (H : Hp) (ds : List PyData) (xs : List V) (Qd : RV → Prop) (Q : VK), (∀ b, O b → H b ≠ none) → DwL K (Hs H O) H ds xs → g ds Qd →
  (∀ rv v H', Out K O H rv v H' → Qd rv → Q v H') → r xs H Q
/-- two operations on data in one: by what the data are -/
theorem OpR.or {X : Cx} {f : Value → Value → Sem Value} {r1 r2 : R2} (h1 : OpR X f r1) (h2 : OpR X f r2) : OpR X f (fun x y H Q => r1 x y H Q ∨ r2 x y H Q) := fun pins s σ H x y v u Q I rx ry h =>
  h.elim (h1 pins s σ H x y v u Q I rx ry) (h2 pins s σ H x y v u Q I rx ry)
theorem OpL.or {K : Fg} {r1 r2 : R2} {g1 g2 g : G2} (h1 : OpL K r1 g1) (h2 : OpL K r2 g2) (h : ∀ d e Q, g d e Q → g1 d e Q ∨ g2 d e Q) : OpL K (fun x y H Q => r1 x y H Q ∨ r2 x y H Q) g := fun O H d e x y Qd Q hd hx hy q k =>
  (h d e Qd q).elim (fun q => .inl (h1 O H d e x y Qd Q hd hx hy q k)) fun q => .inr (h2 O H d e x y Qd Q hd hx hy q k)

section
variable {K : Fg}
theorem opl_int {C : Int → Int → Prop} {f : Int → Int → V} {fd : Int → Int → PyData} (hf : ∀ (Hst : Hp) i j, Dv K Hst (fd i j) (f i j)) : OpL K (rI C f) (fun d e Q => match d, e with
    | .int i, .int j => C i j ∧ Q (.d (fd i j))
    | _, _ => False) := fun O H d e x y Qd Q hd hx hy q k => by
  cases d with
  | int i =>
    cases e with
    | int j =>
      have e1 : x = V.int i := hx
      have e2 : y = V.int j := hy
      exact ⟨i, j, e1, e2, q.1, k _ _ H (Out.sc (hf _ i j)) q.2⟩
    | _ => exact (show False from q).elim
  | _ => exact (show False from q).elim
theorem opl_int0 {f : Int → Int → V} {fd : Int → Int → PyData} (hf : ∀ (Hst : Hp) i j, Dv K Hst (fd i j) (f i j)) : OpL K (rI0 f) (fun d e Q => match d, e with
    | .int i, .int j => Q (.d (fd i j))
    | _, _ => False) := fun O H d e x y Qd Q hd hx hy q k => by
  cases d with
  | int i =>
    cases e with
    | int j =>
      have e1 : x = V.int i := hx
      have e2 : y = V.int j := hy
      exact ⟨i, j, e1, e2, k _ _ H (Out.sc (hf _ i j)) q⟩
    | _ => exact (show False from q).elim
  | _ => exact (show False from q).elim

/-! list + list, wherever they stand -/
def rCatL (K : Fg) : R2 := fun x y H Q => ∃ l b xs zs, x = .ref l ∧ y = .ref b ∧ SqL K H l xs ∧ SqL K H b zs ∧ xs.length + zs.length ≤ sizeLine ∧ ∀ p, H p = none → Q (.ref p) (upd H p (.lst (xs ++ zs)))
theorem op_catL {X : Cx} : OpR X (binaryOp .Add) (rCatL X.K) := by
  intro pins s σ H x y v u Q I rx ry h
  obtain ⟨l, b, xs, zs, rfl, rfl, hH, hB, hz, q⟩ := h
  cases rx
  cases ry
  obtain ⟨its, r, pl, _⟩ := I.list hH
  obtain ⟨its2, r2, pl2, _⟩ := I.list hB
  obtain ⟨⟨c1, d1, t1, s1⟩, g1, k1, n1, q1⟩ := pl.isList
  obtain ⟨⟨c2, d2, t2, s2⟩, g2, k2, n2, q2⟩ := pl2.isList
  simp only at k1 q1 k2 q2
  subst k1 q1 k2 q2
  refine concat_meets ⟨_, g1, rfl⟩ ⟨_, g2, rfl⟩ noFill_list_add seq_list_add PySem.F.slot_list_add PySem.F.entry_list_add (PySem.F.args_list_add_2 _ _)
    (list_addW l b its.toArray its2.toArray n1 n2 d1 d2 s1 s2 (by simpa [← r.length, ← r2.length] using hz)) ⟨g1, g2, ?_⟩
  have ea : its.toArray ++ its2.toArray = (its ++ its2).toArray := by simp
  rw [ea]
  refine ⟨.ref s.heap.objs.size, _, I.laid (t' := s.toks) (o := .lst (xs ++ zs)) (fun b ob q => Heap.get?_push_of_some _ q) (Nat.le_refl _) ?_, rfl, q _ (I.hok.fresh (Nat.le_refl _))⟩
  exact ⟨by rw [List.length_append]; exact hz, its ++ its2, 0, r.append r2, Heap.get?_push_size _ rfl⟩
theorem Dw.sc {K : Fg} {Hst H : Hp} {d : PyData} {v : V} (h : Dv K Hst d v) (hs : (match d with | .list _ => False | .tuple _ => False | _ => True)) : Dw K Hst H d v := by
  cases d with
  | list _ => exact hs.elim
  | tuple _ => exact hs.elim
  | _ => exact h
theorem DvL.nil_iff {K : Fg} {H : Hp} {ds : List PyData} {xs : List V} (h : DvL K H ds xs) : xs = [] ↔ ds = [] := by
  have := h.length
  constructor
  · intro e; rw [e] at this; exact List.length_eq_zero_iff.mp this.symm
  · intro e; rw [e] at this; exact List.length_eq_zero_iff.mp this
def gAdd : G2 := fun d e Q => match d, e with
  | .int i, .int j => Q (.d (.int (i + j)))
  | .str a, .str b => a.length + b.length ≤ sizeLine ∧ Q (.d (.str (a ++ b)))
  | .list a, .list b => a.length + b.length ≤ sizeLine ∧ Q (.n (.lst (a ++ b)))
  | .tuple a, .tuple b => a ≠ [] ∧ b ≠ [] ∧ a.length + b.length ≤ sizeLine ∧ Q (.d (.tuple (a ++ b)))
  | _, _ => False
def rAddA (K : Fg) : R2 := fun x y H Q => rI0 (fun i j => .int (i + j)) x y H Q ∨ (∃ i j, x = .str i ∧ y = .str j ∧ i.length + j.length ≤ sizeLine ∧ Q (.str (i ++ j)) H) ∨ rCatL K x y H Q ∨ rCatT K x y H Q
theorem op_addA {X : Cx} : OpR X (binaryOp .Add) (rAddA X.K) := OpR.or op_add (OpR.or op_add_str (OpR.or op_catL op_catT))
theorem opl_add : OpL K (rAddA K) gAdd := fun O H d e x y Qd Q hd hx hy q k => by
  unfold gAdd at q
  split at q
  · exact .inl ⟨_, _, hx, hy, k _ _ H (Out.sc (d := .int _) rfl) q⟩
  · exact .inr (.inl ⟨_, _, hx, hy, q.1, k _ _ H (Out.sc (d := .str _) rfl) q.2⟩)
  · obtain ⟨a, xs, e1, h1, h2⟩ := hx
    obtain ⟨b, ys, e2, g1, g2⟩ := hy
    exact .inr (.inr (.inl ⟨a, b, xs, ys, e1, e2, h1, g1, by rw [h2.length, g2.length]; exact q.1, fun p hp => k _ _ _ (Out.lst hd hp (h2.app g2)) q.2⟩))
  · obtain ⟨a, xs, e1, h1, h2⟩ := hx
    obtain ⟨b, ys, e2, g1, g2⟩ := hy
    exact .inr (.inr (.inr ⟨a, b, xs, ys, e1, e2, h1, g1, fun z => q.1 (h2.nil_iff.mp z), by rw [h2.length, g2.length]; exact q.2.2.1, fun z => absurd (g2.nil_iff.mp z) q.2.1, fun _ p hp => k _ _ _ (Out.tup hd hp (h2.app g2)) q.2.2.2⟩))
  · exact q.elim
def gSub : G2 := fun d e Q => match d, e with
  | .int i, .int j => Q (.d (.int (i - j)))
  | _, _ => False
theorem opl_sub : OpL K (rI0 fun i j => .int (i - j)) gSub := opl_int0 fun _ _ _ => rfl
def gMod : G2 := fun d e Q => match d, e with
  | .int i, .int j => 0 < j ∧ Q (.d (.int (i % j)))
  | _, _ => False
theorem opl_mod : OpL K (rI (fun _ j => 0 < j) fun i j => .int (i % j)) gMod := opl_int fun _ _ _ => rfl
def gDiv : G2 := fun d e Q => match d, e with
  | .int i, .int j => CDiv i j ∧ Q (.d (.int (i / j)))
  | _, _ => False
theorem opl_div : OpL K (rI CDiv fun i j => .int (i / j)) gDiv := opl_int fun _ _ _ => rfl
def gPow : G2 := fun d e Q => match d, e with
  | .int i, .int j => CPow i j ∧ Q (.d (.int (i ^ j.toNat)))
  | _, _ => False
theorem opl_pow : OpL K (rI CPow fun i j => .int (i ^ j.toNat)) gPow := opl_int fun _ _ _ => rfl
def gMulI : G2 := fun d e Q => match d, e with
  | .int i, .int j => CMul i j ∧ Q (.d (.int (i * j)))
  | _, _ => False
theorem opl_mulI : OpL K (rI CMul fun i j => .int (i * j)) gMulI := opl_int fun _ _ _ => rfl
/-! comparisons of ints -/
def gLt : G2 := fun d e Q => match d, e with
  | .int i, .int j => Q (.d (.bool (decide (i < j))))
  | _, _ => False
def gLe : G2 := fun d e Q => match d, e with
  | .int i, .int j => Q (.d (.bool (decide (i ≤ j))))
  | _, _ => False
def gGt : G2 := fun d e Q => match d, e with
  | .int i, .int j => Q (.d (.bool (decide (j < i))))
  | _, _ => False
def gGe : G2 := fun d e Q => match d, e with
  | .int i, .int j => Q (.d (.bool (decide (j ≤ i))))
  | _, _ => False
theorem opl_lt : OpL K (rI0 fun i j => .bl (decide (i < j))) gLt := opl_int0 fun _ _ _ => rfl
theorem opl_le : OpL K (rI0 fun i j => .bl (decide (i ≤ j))) gLe := opl_int0 fun _ _ _ => rfl
theorem opl_gt : OpL K (rI0 fun i j => .bl (decide (j < i))) gGt := opl_int0 fun _ _ _ => rfl
theorem opl_ge : OpL K (rI0 fun i j => .bl (decide (j ≤ i))) gGe := opl_int0 fun _ _ _ => rfl
end
/-! == and != of data -/
mutual
theorem Dv.dp {K : Fg} {H : Hp} : ∀ {d : PyData} {v : V}, Dv K H d v → d.hasDict = false → Dp K H v d
  | .none, _, h, _ => by
    have h' : _ = V.non := h
    rw [h']; exact .non
  | .bool b, _, h, _ => by
    have h' : _ = V.bl b := h
    rw [h']; exact .bl b
  | .int i, _, h, _ => by
    have h' : _ = V.int i := h
    rw [h']; exact .int i
  | .str x, _, h, _ => by
    have h' : _ = V.str x := h
    rw [h']; exact .str x
  | .list ds, _, h, n => by
    obtain ⟨a, xs, e, h1, h2⟩ := h
    rw [e]; exact .lst h1 (DvL.dp h2 (by simpa only [PyData.hasDict] using n))
  | .tuple ds, _, h, n => by
    obtain ⟨a, xs, e, h1, h2⟩ := h
    rw [e]; exact .tup h1 (DvL.dp h2 (by simpa only [PyData.hasDict] using n))
  | .dict _, _, h, n => by simp only [PyData.hasDict] at n; cases n
theorem DvL.dp {K : Fg} {H : Hp} : ∀ {ds : List PyData} {xs : List V}, DvL K H ds xs → PyData.hasDictAll ds = false → DpAll K H xs ds
  | [], _, h, _ => by
    have h' : _ = [] := h
    rw [h']; exact .nil
  | d :: ds, _, h, n => by
    obtain ⟨y, ys, e, h1, h2⟩ := h
    simp only [PyData.hasDictAll, Bool.or_eq_false_iff] at n
    rw [e]; exact .cons (Dv.dp h1 n.1) (DvL.dp h2 n.2)
end
theorem nd_of_shaped {d : PyData} (h : SeqAt.shaped d = true) : d.hasDict = false := PyData.hasDict_of_canLay d (SeqAt.canLay_of_shaped h)
def gEq : G2 := fun d e Q => SeqAt.shaped d = true ∧ SeqAt.shaped e = true ∧ Q (.d (.bool (PyData.eqv d e)))
def gNe : G2 := fun d e Q => SeqAt.shaped d = true ∧ SeqAt.shaped e = true ∧ Q (.d (.bool (!PyData.eqv d e)))
theorem opl_eq {K : Fg} : OpL K (rEqD K) gEq := fun O H d e x y Qd Q hd hx hy q k =>
  ⟨d, e, (Dw.dv Hs_sub hx).dp (nd_of_shaped q.1), (Dw.dv Hs_sub hy).dp (nd_of_shaped q.2.1), q.1, q.2.1, k _ _ H (Out.sc (d := .bool _) rfl) q.2.2⟩
theorem opl_ne {K : Fg} : OpL K (rNeD K) gNe := fun O H d e x y Qd Q hd hx hy q k =>
  ⟨d, e, (Dw.dv Hs_sub hx).dp (nd_of_shaped q.1), (Dw.dv Hs_sub hy).dp (nd_of_shaped q.2.1), q.1, q.2.1, k _ _ H (Out.sc (d := .bool _) rfl) q.2.2⟩
/-! in, not in: flat data -/
def flatD : PyData → Bool
  | .none => true
  | .bool _ => true
  | .int _ => true
  | .str _ => true
  | _ => false
theorem flat_dv {K : Fg} {H : Hp} {d : PyData} {v : V} (h : Dv K H d v) (f : flatD d = true) : flatV v = true := by
  cases d with
  | list _ => cases f
  | tuple _ => cases f
  | dict _ => cases f
  | none => have h' : v = V.non := h; rw [h']; rfl
  | bool b => have h' : v = V.bl b := h; rw [h']; rfl
  | int i => have h' : v = V.int i := h; rw [h']; rfl
  | str s => have h' : v = V.str s := h; rw [h']; rfl
theorem eqV_eqv {K : Fg} {H : Hp} {d e : PyData} {v u : V} (h : Dv K H d v) (g : Dv K H e u) (f : flatD d = true) (f' : flatD e = true) : eqV v u = PyData.eqv d e := by
  cases d <;> first | (cases f; done) | skip
  all_goals (cases e <;> first | (cases f'; done) | skip)
  all_goals (
    have h1 : v = _ := h
    have h2 : u = _ := g
    subst h1; subst h2
    simp [eqV, PyData.eqv])
theorem flat_all {K : Fg} {H : Hp} : ∀ {ds : List PyData} {xs : List V}, DvL K H ds xs → ds.all flatD = true → xs.all flatV = true
  | [], _, h, _ => by
    have h' : _ = [] := h
    rw [h']; rfl
  | d :: ds, _, h, f => by
    obtain ⟨y, ys, e, h1, h2⟩ := h
    rw [List.all_cons, Bool.and_eq_true] at f
    rw [e, List.all_cons, flat_dv h1 f.1, flat_all h2 f.2]; rfl
theorem inV_eqv {K : Fg} {H : Hp} {d : PyData} {v : V} (h : Dv K H d v) (f : flatD d = true) : ∀ {ds : List PyData} {xs : List V}, DvL K H ds xs → ds.all flatD = true → inV v xs = ds.any fun e => PyData.eqv e d
  | [], _, h, _ => by
    have h' : _ = [] := h
    rw [h']; rfl
  | e :: ds, _, hh, ff => by
    obtain ⟨y, ys, e1, h1, h2⟩ := hh
    rw [List.all_cons, Bool.and_eq_true] at ff
    rw [e1]
    show (eqV y v || inV v ys) = (PyData.eqv e d || ds.any fun e => PyData.eqv e d)
    rw [eqV_eqv h1 h ff.1 f, inV_eqv h f h2 ff.2]
def gIn (neg : Bool) : G2 := fun d e Q => flatD d = true ∧ match e with
  | .list ds => ds.all flatD = true ∧ Q (.d (.bool (if neg then !(ds.any fun e => PyData.eqv e d) else ds.any fun e => PyData.eqv e d)))
  | .tuple ds => ds.all flatD = true ∧ Q (.d (.bool (if neg then !(ds.any fun e => PyData.eqv e d) else ds.any fun e => PyData.eqv e d)))
  | _ => False
theorem dw_flat {K : Fg} {Hst H : Hp} {d : PyData} {v : V} (h : Dw K Hst H d v) (f : flatD d = true) : Dv K Hst d v := by
  cases d with
  | list _ => cases f
  | tuple _ => cases f
  | _ => exact h
theorem opl_in {K : Fg} {neg : Bool} : OpL K (rIn K neg) (gIn neg) := fun O H d e x y Qd Q hd hx hy q k => by
  obtain ⟨f, q⟩ := q
  cases e with
  | list ds =>
    obtain ⟨a, xs, e1, h1, h2⟩ := hy
    have hx' := dw_flat hx f
    refine ⟨a, xs, e1, .inl h1, flat_dv hx' f, flat_all h2 q.1, ?_⟩
    rw [inV_eqv hx' f h2 q.1]
    exact k _ _ H (Out.sc (d := .bool _) rfl) q.2
  | tuple ds =>
    obtain ⟨a, xs, e1, h1, h2⟩ := hy
    have hx' := dw_flat hx f
    refine ⟨a, xs, e1, .inr h1, flat_dv hx' f, flat_all h2 q.1, ?_⟩
    rw [inV_eqv hx' f h2 q.1]
    exact k _ _ H (Out.sc (d := .bool _) rfl) q.2
  | _ => exact (show False from q).elim
end DL
namespace DL
open PySem PySem.Spec PyProof.Rows L2

theorem Stp.back {ρ ρ' : DEnv} {O O' : Own} {H H' : Hp} {P P' : Nat → List Addr} (S : Stp ρ O H P ρ' O' H' P') {r : RV} {fp : List Addr} (n : Nw H' r fp) : Nw H r fp := fun w e p hp => by
  cases q : H p with
  | none => rfl
  | some o => exact absurd (n w e p hp) (S.dm p (by rw [q]; exact fun z => nomatch z))

theorem nw_d {H : Hp} {d : PyData} {fp : List Addr} : Nw H (.d d) fp := fun _ z => nomatch z
theorem nw_o {H : Hp} {i : Nat} {fp : List Addr} : Nw H (.o i) fp := fun _ z => nomatch z
section
variable {X : Cx} {e a b c o : Expr} {es rest : List Expr} {pos : Pos} {ta tb tc : DTE} {tt tu : DTT} {tl : DTL} {tas : DTA}

/-! ### names and constants -/
def dName (i : Nat) : DTE := fun ρ Q => match slot ρ i with
  | .free => False
  | _ => Q (.o i) ρ
theorem de_name (i : Nat) {x : Str} {pos : Pos} (hN : X.N[i]? = some x := by rfl) (hv : Vis X.env.scope x := by first | exact Or.inl rfl | exact Or.inr (Or.inl rfl) | exact Or.inr (Or.inr rfl)) (hd : (x == ("__debug__" : Str)) = false := by decide)
    (hcd : (x == ("__classdict__" : Str)) = false := by decide) : DE X (.Name x pos) (dName i) := by
  refine ⟨tVar i, pe_var hN hv hd hcd, fun F ρ O σ H A P Qd Q G q k => ?_⟩
  unfold dName at q
  cases s : slot ρ i with
  | free => simp only [s] at q
  | val d =>
    simp only [s] at q
    obtain ⟨v, h1, _⟩ := G.val i d s
    exact ⟨v, h1, k (.o i) ρ v [] O H A P Stp.refl G ⟨h1, by rw [s]; exact fun z => nomatch z⟩ nw_o q⟩
  | own w =>
    simp only [s] at q
    obtain ⟨h1, _⟩ := G.own i w s
    exact ⟨_, h1, k (.o i) ρ _ [] O H A P Stp.refl G ⟨h1, by rw [s]; exact fun z => nomatch z⟩ nw_o q⟩
def dC (d : PyData) : DTE := fun ρ Q => Q (.d d) ρ
theorem sim_c {K : Fg} {v : V} {d : PyData} (h : ∀ H, Dv K H d v) : Sim K (tC v) (dC d) := fun F ρ O σ H A P Qd Q G q k => k (.d d) ρ v [] O H A P Stp.refl G (h _) nw_d q
theorem de_int {i : Int} {j pos} : DE X (.Constant (.int i) j pos) (dC (.int i)) := ⟨_, pe_int, sim_c fun _ => rfl⟩
theorem de_bl {b : Bool} {j pos} : DE X (.Constant (.bool b) j pos) (dC (.bool b)) := ⟨_, pe_bl, sim_c fun _ => rfl⟩
theorem de_non {j pos} : DE X (.Constant .none j pos) (dC .none) := ⟨_, pe_non, sim_c fun _ => rfl⟩
theorem de_str {x : Str} {j pos} : DE X (.Constant (.str x) j pos) (dC (.str x)) := ⟨_, pe_str, sim_c fun _ => rfl⟩
theorem de_globI {x : Str} {i : Int} {t : Tok} {pos : Pos} (hm : X.mg x = some (.int i t)) (hg : Gl X x := by rfl) (hd : (x == ("__debug__" : Str)) = false := by decide) : DE X (.Name x pos) (dC (.int i)) := ⟨_, pe_glob hg hm (v := .int i) ⟨_, rfl⟩ hd, sim_c fun _ => rfl⟩

/-! ### to stay -/
def dSt (t : DTE) : DTD := fun ρ Q => t ρ fun r ρ' => match stab ρ' r with
  | some (d, ρ'') => Q d ρ''
  | none => False
theorem dd_of (h : DE X e ta) : DD X e (dSt ta) := by
  obtain ⟨te, p, s⟩ := h
  refine ⟨te, p, fun F ρ O σ H A P Qd Q G q k => s F ρ O σ H A P _ _ G q fun r ρ1 v fp1 O1 H1 A1 P1 S1 G1 R1 N1 q1 => ?_⟩
  cases st : stab ρ1 r with
  | none => simp only [st] at q1
  | some pr =>
    obtain ⟨d, ρ2⟩ := pr
    simp only [st] at q1
    obtain ⟨O2, G2, D2, S2⟩ := stab_ok G.dom S1 G1 R1 N1 st
    exact k d ρ2 v O2 H1 A1 P1 S2 G2 D2 q1
def dOf (t : DTD) : DTE := fun ρ Q => t ρ fun d ρ' => Q (.d d) ρ'
def dlNil : DTL := fun ρ Q => Q [] ρ
def dlCons (t : DTE) (u : DTL) : DTL := fun ρ Q => dSt t ρ fun d ρ1 => u ρ1 fun ds ρ2 => Q (d :: ds) ρ2
theorem dl_nil : DLs X [] dlNil := ⟨_, pa_nil, fun F ρ O σ H A P Qd Q G q k => k [] ρ [] O H A P Stp.refl G rfl q⟩
theorem dl_cons (h : DE X e ta) (hr : DLs X es tl) (hs : starEach (e :: es) X.env = (false, eval e X.env) :: starEach es X.env := by rfl) : DLs X (e :: es) (dlCons ta tl) := by
  obtain ⟨te, p, s⟩ := dd_of h
  obtain ⟨tr, pr, sr⟩ := hr
  refine ⟨_, pa_cons p pr hs, fun F ρ O σ H A P Qd Q G q k => s F ρ O σ H A P _ _ G q fun d ρ1 v O1 H1 A1 P1 S1 G1 D1 q1 => sr F ρ1 O1 σ H1 A1 P1 _ _ G1 q1 fun ds ρ2 vs O2 H2 A2 P2 S2 G2 D2 q2 => ?_⟩
  exact k (d :: ds) ρ2 (v :: vs) O2 H2 A2 P2 (S1.trans S2) G2 ⟨v, vs, rfl, D1.mono S2.same, D2⟩ q2
def daNil : DTA := fun ρ Q => Q [] ρ
def daCons (t : DTE) (u : DTA) : DTA := fun ρ Q => t ρ fun r ρ1 => u ρ1 fun rs ρ2 => Q (r :: rs) ρ2
theorem da_nil : DA X [] daNil := ⟨_, pa_nil, fun F ρ O σ H A P Qd Q G q k => k [] ρ [] O H A P Stp.refl G rfl q⟩
theorem da_cons (h : DE X e ta) (hr : DA X es tas) (hs : starEach (e :: es) X.env = (false, eval e X.env) :: starEach es X.env := by rfl) : DA X (e :: es) (daCons ta tas) := by
  obtain ⟨te, p, s⟩ := h
  obtain ⟨tr, pr, sr⟩ := hr
  refine ⟨_, pa_cons p pr hs, fun F ρ O σ H A P Qd Q G q k => s F ρ O σ H A P _ _ G q fun r ρ1 v fp1 O1 H1 A1 P1 S1 G1 R1 N1 q1 => sr F ρ1 O1 σ H1 A1 P1 _ _ G1 q1 fun rs ρ2 vs O2 H2 A2 P2 S2 G2 R2 q2 => ?_⟩
  exact k (r :: rs) ρ2 (v :: vs) O2 H2 A2 P2 (S1.trans S2) G2 ⟨v, vs, fp1, rfl, S2.rk R1, R2⟩ q2

/-! ### operations -/
def d2 (g : G2) (ta tb : DTE) : DTE := fun ρ Q => ta ρ fun r ρ1 => tb ρ1 fun s ρ2 => match view ρ2 r, view ρ2 s with
  | some d, some e => g d e fun rv => Q rv ρ2
  | _, _ => False
theorem sim_2 {K : Fg} {ea eb : TE} {r : R2} {g : G2} (L : OpL K r g) (sa : Sim K ea ta) (sb : Sim K eb tb) : Sim K (tOp r ea eb) (d2 g ta tb) := fun F ρ O σ H A P Qd Q G q k => by
  refine sa F ρ O σ H A P _ _ G q fun r1 ρ1 v1 fp1 O1 H1 A1 P1 S1 G1 R1 N1 q1 => ?_
  refine sb F ρ1 O1 σ H1 A1 P1 _ _ G1 q1 fun r2 ρ2 v2 fp2 O2 H2 A2 P2 S2 G2 R2 N2 q2 => ?_
  cases e1 : view ρ2 r1 with
  | none => simp only [e1] at q2
  | some d =>
    cases e2 : view ρ2 r2 with
    | none => simp only [e1, e2] at q2
    | some d' =>
      simp only [e1, e2] at q2
      refine L O2 H2 d d' v1 v2 _ _ G2.dom (view_ok G2 (S2.rk R1) e1) (view_ok G2 R2 e2) q2 fun rv v H3 o q3 => ?_
      obtain ⟨O3, fo, S3, G3, R3, N3⟩ := o.fin G2
      have S := S1.trans S2
      exact k rv ρ2 v fo O3 H3 A2 P2 (S.trans S3) G3 R3 (S.back N3) q3
theorem de_bin {op : Operator} {r : R2} {g : G2} (ho : OpR X (binaryOp op) r) (L : OpL X.K r g) (ha : DE X a ta) (hb : DE X b tb) : DE X (.BinOp a op b pos) (d2 g ta tb) := by
  obtain ⟨ea, pa, sa⟩ := ha
  obtain ⟨eb, pb, sb⟩ := hb
  exact ⟨_, pe_op ho pa pb, sim_2 L sa sb⟩
theorem de_cmp {op : CmpOp} {r : R2} {g : G2} (ho : OpR X (compareOp op) r) (L : OpL X.K r g) (ha : DE X a ta) (hb : DE X b tb) (hm : behindInMarks op b = false) : DE X (.Compare a [op] [b] pos) (d2 g ta tb) := by
  obtain ⟨ea, pa, sa⟩ := ha
  obtain ⟨eb, pb, sb⟩ := hb
  exact ⟨_, pe_cmpR ho pa pb hm, sim_2 L sa sb⟩
/-- a truth value as a test -/
def dB (t : DTE) : DTT := fun ρ Q => t ρ fun r ρ' => match r with
  | .d (.bool b) => Q b ρ'
  | _ => False
theorem dt_cmp {op : CmpOp} {r : R2} {g : G2} (ho : OpR X (compareOp op) r) (L : OpL X.K r g) (ha : DE X a ta) (hb : DE X b tb) (hm : behindInMarks op b = false) : DT X (.Compare a [op] [b] pos) (dB (d2 g ta tb)) := by
  obtain ⟨ea, pa, sa⟩ := ha
  obtain ⟨eb, pb, sb⟩ := hb
  refine ⟨_, pt_cmpR ho pa pb hm, fun F ρ O σ H A P Qd Q G q k => sim_2 L sa sb F ρ O σ H A P _ _ G q fun r1 ρ1 v1 fp1 O1 H1 A1 P1 S1 G1 R1 N1 q1 => ?_⟩
  cases r1 with
  | d d =>
    cases d with
    | bool b =>
      have e : v1 = V.bl b := R1
      exact ⟨b, e, k b ρ1 O1 H1 A1 P1 S1 G1 q1⟩
    | _ => exact (show False from q1).elim
  | _ => exact (show False from q1).elim
/-! chains a < b < c -/
def dCh (g g' : G2) (ta tb tc : DTE) : DTE := fun ρ Q => ta ρ fun r ρ1 => tb ρ1 fun s ρ2 => match view ρ2 r, view ρ2 s with
  | some d, some e => g d e fun rv => match rv with
    | .d (.bool true) => tc ρ2 fun u ρ3 => match view ρ3 s, view ρ3 u with
      | some e', some f => g' e' f fun rv => Q rv ρ3
      | _, _ => False
    | .d (.bool false) => Q (.d (.bool false)) ρ2
    | _ => False
  | _, _ => False

theorem sim_ch {K : Fg} {ea eb ec : TE} {r r' : R2} {g g' : G2} (L : OpL K r g) (L' : OpL K r' g') (sa : Sim K ea ta) (sb : Sim K eb tb) (sc : Sim K ec tc) : Sim K (tChain r r' ea eb ec) (dCh g g' ta tb tc) := fun F ρ O σ H A P Qd Q G q k => by
  refine sa F ρ O σ H A P _ _ G q fun r1 ρ1 v1 fp1 O1 H1 A1 P1 S1 G1 R1 N1 q1 => ?_
  refine sb F ρ1 O1 σ H1 A1 P1 _ _ G1 q1 fun r2 ρ2 v2 fp2 O2 H2 A2 P2 S2 G2 R2 N2 q2 => ?_
  cases e1 : view ρ2 r1 with
  | none => simp only [e1] at q2
  | some d =>
    cases e2 : view ρ2 r2 with
    | none => simp only [e1, e2] at q2
    | some d' =>
      simp only [e1, e2] at q2
      refine L O2 H2 d d' v1 v2 _ _ G2.dom (view_ok G2 (S2.rk R1) e1) (view_ok G2 R2 e2) q2 fun rv v H3 o q3 => ?_
      obtain ⟨O3, fo, S3, G3, R3, N3⟩ := o.fin G2
      have S := S1.trans S2
      cases rv with
      | d dd =>
        cases dd with
        | bool b =>
          have ev : v = V.bl b := R3
          refine ⟨b, ev, ?_⟩
          cases b with
          | true =>
            refine iteT (sc F ρ2 O3 σ H3 A2 P2 _ _ G3 q3 fun r4 ρ4 v4 fp4 O4 H4 A4 P4 S4 G4 R4 N4 q4 => ?_)
            cases e3 : view ρ4 r2 with
            | none => simp only [e3] at q4
            | some d2 =>
              cases e4 : view ρ4 r4 with
              | none => simp only [e3, e4] at q4
              | some d4 =>
                simp only [e3, e4] at q4
                refine L' O4 H4 d2 d4 v2 v4 _ _ G4.dom (view_ok G4 ((S3.trans S4).rk R2) e3) (view_ok G4 R4 e4) q4 fun rv v H5 o q5 => ?_
                obtain ⟨O5, fo, S5, G5, R5, N5⟩ := o.fin G4
                have S' := (S.trans S3).trans S4
                exact k rv ρ4 v fo O5 H5 A4 P4 (S'.trans S5) G5 R5 (S'.back N5) q5
          | false => exact iteF (k (.d (.bool false)) ρ2 (.bl false) [] O3 H3 A2 P2 (S.trans S3) G3 rfl nw_d q3)
        | _ => exact (show False from q3).elim
      | _ => exact (show False from q3).elim
theorem de_chain {op op' : CmpOp} {r r' : R2} {g g' : G2} (ho : OpR X (compareOp op) r) (L : OpL X.K r g) (ho' : OpR X (compareOp op') r') (L' : OpL X.K r' g') (ha : DE X a ta) (hb : DE X b tb) (hc : DE X c tc) (hm : lastMarks [op, op'] [b, c] = false := by with_unfolding_all rfl) :
    DE X (.Compare a [op, op'] [b, c] pos) (dCh g g' ta tb tc) := by
  obtain ⟨ea, pa, sa⟩ := ha
  obtain ⟨eb, pb, sb⟩ := hb
  obtain ⟨ec, pc, sc⟩ := hc
  exact ⟨_, pe_chain ho ho' pa pb pc hm, sim_ch L L' sa sb sc⟩
theorem dt_chain {op op' : CmpOp} {r r' : R2} {g g' : G2} (ho : OpR X (compareOp op) r) (L : OpL X.K r g) (ho' : OpR X (compareOp op') r') (L' : OpL X.K r' g') (ha : DE X a ta) (hb : DE X b tb) (hc : DE X c tc) (hm : lastMarks [op, op'] [b, c] = false := by with_unfolding_all rfl) :
    DT X (.Compare a [op, op'] [b, c] pos) (dB (dCh g g' ta tb tc)) := by
  obtain ⟨ea, pa, sa⟩ := ha
  obtain ⟨eb, pb, sb⟩ := hb
  obtain ⟨ec, pc, sc⟩ := hc
  refine ⟨_, pt_chain ho ho' pa pb pc hm, fun F ρ O σ H A P Qd Q G q k => sim_ch L L' sa sb sc F ρ O σ H A P _ _ G q fun r1 ρ1 v1 fp1 O1 H1 A1 P1 S1 G1 R1 N1 q1 => ?_⟩
  cases r1 with
  | d d =>
    cases d with
    | bool b =>
      have e : v1 = V.bl b := R1
      exact ⟨b, e, k b ρ1 O1 H1 A1 P1 S1 G1 q1⟩
    | _ => exact (show False from q1).elim
  | _ => exact (show False from q1).elim

/-! ### truth -/
/-- the truth of data -/
def truD : PyData → Option Bool
  | .none => some false
  | .bool b => some b
  | .int i => some (i != 0)
  | .str s => if s.length ≤ sizeLine then some (s.length != 0) else none
  | .list ds => some (!ds.isEmpty)
  | .tuple ds => some (!ds.isEmpty)
  | .dict _ => none
theorem isE {K : Fg} {H : Hp} {ds : List PyData} {xs : List V} (h : DvL K H ds xs) : xs.isEmpty = ds.isEmpty := by
  cases ds with
  | nil => have h' : xs = [] := h; subst h'; rfl
  | cons d ds => obtain ⟨y, ys, e, _, _⟩ := h; rw [e]; rfl
theorem truV_of {K : Fg} {Hst H : Hp} {d : PyData} {v : V} {b : Bool} (h : Dw K Hst H d v) (e : truD d = some b) : TruV K v H b := by
  cases d with
  | none => have h' : v = V.non := h; subst h'; exact (Option.some.inj e).symm
  | bool c => have h' : v = V.bl c := h; subst h'; exact (Option.some.inj e).symm
  | int i => have h' : v = V.int i := h; subst h'; exact (Option.some.inj e).symm
  | str s =>
    have h' : v = V.str s := h
    subst h'
    change (if s.length ≤ sizeLine then some (s.length != 0) else none) = some b at e
    by_cases hs : s.length ≤ sizeLine
    · rw [if_pos hs] at e
      refine ⟨hs, ?_⟩
      rw [← Option.some.inj e]
      by_cases h0 : s.length = 0
      · simp [h0]
      · have : (s.length : Int) ≠ 0 := by omega
        rw [show (s.length != 0) = true from by simpa using h0, show ((s.length : Int) != 0) = true from by simpa using h0]
    · rw [if_neg hs] at e; cases e
  | list ds =>
    obtain ⟨a, xs, e1, h1, h2⟩ := h
    subst e1
    have e' : (!ds.isEmpty) = b := Option.some.inj e
    exact .inl ⟨xs, h1, by rw [isE h2, e']⟩
  | tuple ds =>
    obtain ⟨a, xs, e1, h1, h2⟩ := h
    subst e1
    have e' : (!ds.isEmpty) = b := Option.some.inj e
    exact .inr (.inl ⟨xs, h1, by rw [isE h2, e']⟩)
  | dict _ => exact nomatch (show (none : Option Bool) = some b from e)
/-- any value's truth as a test -/
def dTr (t : DTE) : DTT := fun ρ Q => t ρ fun r ρ' => match view ρ' r with
  | some d => match truD d with
    | some b => Q b ρ'
    | none => False
  | none => False
theorem dt_truth (ha : DE X a ta) (he : ∀ whole, isTrue a X.env whole = (do let v ← whole; standAt a.pos; holding [v] (truthy v)) := by intro _; rfl) : DT X a (dTr ta) := by
  obtain ⟨ea, pa, sa⟩ := ha
  refine ⟨_, pt_truth pa he, fun F ρ O σ H A P Qd Q G q k => sa F ρ O σ H A P _ _ G q fun r1 ρ1 v1 fp1 O1 H1 A1 P1 S1 G1 R1 N1 q1 => ?_⟩
  cases e1 : view ρ1 r1 with
  | none => simp only [e1] at q1
  | some d =>
    simp only [e1] at q1
    cases e2 : truD d with
    | none => simp only [e2] at q1
    | some b =>
      simp only [e2] at q1
      exact ⟨b, truV_of (view_ok G1 R1 e1) e2, k b ρ1 O1 H1 A1 P1 S1 G1 q1⟩
/-! and, or, not as tests -/
def DW (X : Cx) (e : Expr) (t : DTT) : Prop := ∃ te, PW X e te ∧ SimT X.K te t
def dAnd (t u : DTT) : DTT := fun ρ Q => t ρ fun b ρ1 => match b with
  | true => u ρ1 Q
  | false => Q false ρ1
def dOr (t u : DTT) : DTT := fun ρ Q => t ρ fun b ρ1 => match b with
  | true => Q true ρ1
  | false => u ρ1 Q
def dNot (t : DTT) : DTT := fun ρ Q => t ρ fun b ρ1 => Q (!b) ρ1
theorem dw_and1 (h : DT X a tt) : DW X (.BoolOp .And [a] pos) tt := let ⟨te, p, s⟩ := h; ⟨te, pw_and1 p, s⟩
theorem dw_or1 (h : DT X a tt) : DW X (.BoolOp .Or [a] pos) tt := let ⟨te, p, s⟩ := h; ⟨te, pw_or1 p, s⟩
theorem dw_and (h : DT X a tt) (g : DW X (.BoolOp .And (b :: rest) pos) tu) : DW X (.BoolOp .And (a :: b :: rest) pos) (dAnd tt tu) := by
  obtain ⟨te, p, s⟩ := h
  obtain ⟨ue, p2, s2⟩ := g
  refine ⟨_, pw_and p p2, fun F ρ O σ H A P Qd Q G q k => s F ρ O σ H A P _ _ G q fun b ρ1 O1 H1 A1 P1 S1 G1 q1 => ?_⟩
  cases b with
  | true => exact iteT (s2 F ρ1 O1 σ H1 A1 P1 _ _ G1 q1 fun b2 ρ2 O2 H2 A2 P2 S2 G2 q2 => k b2 ρ2 O2 H2 A2 P2 (S1.trans S2) G2 q2)
  | false => exact iteF (k false ρ1 O1 H1 A1 P1 S1 G1 q1)
theorem dw_or (h : DT X a tt) (g : DW X (.BoolOp .Or (b :: rest) pos) tu) : DW X (.BoolOp .Or (a :: b :: rest) pos) (dOr tt tu) := by
  obtain ⟨te, p, s⟩ := h
  obtain ⟨ue, p2, s2⟩ := g
  refine ⟨_, pw_or p p2, fun F ρ O σ H A P Qd Q G q k => s F ρ O σ H A P _ _ G q fun b ρ1 O1 H1 A1 P1 S1 G1 q1 => ?_⟩
  cases b with
  | true => exact iteT (k true ρ1 O1 H1 A1 P1 S1 G1 q1)
  | false => exact iteF (s2 F ρ1 O1 σ H1 A1 P1 _ _ G1 q1 fun b2 ρ2 O2 H2 A2 P2 S2 G2 q2 => k b2 ρ2 O2 H2 A2 P2 (S1.trans S2) G2 q2)
theorem dt_w (h : DW X e tt) : DT X e tt := let ⟨te, p, s⟩ := h; ⟨te, p.pt, s⟩
theorem dt_not (h : DT X a tt) : DT X (.UnaryOp .Not a pos) (dNot tt) := by
  obtain ⟨te, p, s⟩ := h
  exact ⟨_, pt_not p, fun F ρ O σ H A P Qd Q G q k => s F ρ O σ H A P _ _ G q fun b ρ1 O1 H1 A1 P1 S1 G1 q1 => k (!b) ρ1 O1 H1 A1 P1 S1 G1 q1⟩
/-- a if t else b -/
def dIfE (t : DTT) (ta tb : DTE) : DTE := fun ρ Q => t ρ fun b ρ1 => match b with
  | true => ta ρ1 Q
  | false => tb ρ1 Q
theorem de_ifE (hc : DT X c tt) (ha : DE X a ta) (hb : DE X b tb) : DE X (.IfExp c a b pos) (dIfE tt ta tb) := by
  obtain ⟨te, p, s⟩ := hc
  obtain ⟨ea, pa, sa⟩ := ha
  obtain ⟨eb, pb, sb⟩ := hb
  refine ⟨_, pe_ifExp p pa pb, fun F ρ O σ H A P Qd Q G q k => s F ρ O σ H A P _ _ G q fun b ρ1 O1 H1 A1 P1 S1 G1 q1 => ?_⟩
  cases b with
  | true => exact iteT (sa F ρ1 O1 σ H1 A1 P1 _ _ G1 q1 fun r ρ2 v fp2 O2 H2 A2 P2 S2 G2 R2 N2 q2 => k r ρ2 v fp2 O2 H2 A2 P2 (S1.trans S2) G2 R2 (S1.back N2) q2)
  | false => exact iteF (sb F ρ1 O1 σ H1 A1 P1 _ _ G1 q1 fun r ρ2 v fp2 O2 H2 A2 P2 S2 G2 R2 N2 q2 => k r ρ2 v fp2 O2 H2 A2 P2 (S1.trans S2) G2 R2 (S1.back N2) q2)
/-! and, or, not as values, by truth -/
def dTru (ρ : DEnv) (r : RV) (Q : Bool → Prop) : Prop := match view ρ r with
  | some d => match truD d with
    | some b => Q b
    | none => False
  | none => False
theorem dTru_ok {K : Fg} {F : Fx} {ρ : DEnv} {O : Own} {σ : Sg} {H : Hp} {A : Nat → Addr} {P : Nat → List Addr} {r : RV} {v : V} {fp : List Addr} {Q : Bool → Prop} (G : Good K F ρ O σ H A P) (R : Rk K F ρ O σ H P r v fp) (q : dTru ρ r Q) : ∃ b, TruV K v H b ∧ Q b := by
  unfold dTru at q
  cases e1 : view ρ r with
  | none => simp only [e1] at q
  | some d =>
    simp only [e1] at q
    cases e2 : truD d with
    | none => simp only [e2] at q
    | some b =>
      simp only [e2] at q
      exact ⟨b, truV_of (view_ok G R e1) e2, q⟩
def dAndV (ta tb : DTE) : DTE := fun ρ Q => ta ρ fun r ρ1 => dTru ρ1 r fun b => match b with
  | true => tb ρ1 Q
  | false => Q r ρ1
def dOrV (ta tb : DTE) : DTE := fun ρ Q => ta ρ fun r ρ1 => dTru ρ1 r fun b => match b with
  | true => Q r ρ1
  | false => tb ρ1 Q
def dNotV (ta : DTE) : DTE := fun ρ Q => ta ρ fun r ρ1 => dTru ρ1 r fun b => Q (.d (.bool (!b))) ρ1
theorem de_one {op} (h : DE X a ta) : DE X (.BoolOp op [a] pos) ta := let ⟨te, p, s⟩ := h; ⟨te, pe_one p, s⟩
theorem de_and (ha : DE X a ta) (hb : DE X (.BoolOp .And (b :: rest) pos) tb) : DE X (.BoolOp .And (a :: b :: rest) pos) (dAndV ta tb) := by
  obtain ⟨ea, pa, sa⟩ := ha
  obtain ⟨eb, pb, sb⟩ := hb
  refine ⟨_, pe_andT pa pb, fun F ρ O σ H A P Qd Q G q k => sa F ρ O σ H A P _ _ G q fun r ρ1 v fp1 O1 H1 A1 P1 S1 G1 R1 N1 q1 => ?_⟩
  obtain ⟨b, h1, h2⟩ := dTru_ok G1 R1 q1
  refine ⟨b, h1, ?_⟩
  cases b with
  | true => exact iteT (sb F ρ1 O1 σ H1 A1 P1 _ _ G1 h2 fun r ρ2 v fp2 O2 H2 A2 P2 S2 G2 R2 N2 q2 => k r ρ2 v fp2 O2 H2 A2 P2 (S1.trans S2) G2 R2 (S1.back N2) q2)
  | false => exact iteF (k r ρ1 v fp1 O1 H1 A1 P1 S1 G1 R1 N1 h2)
theorem de_or (ha : DE X a ta) (hb : DE X (.BoolOp .Or (b :: rest) pos) tb) : DE X (.BoolOp .Or (a :: b :: rest) pos) (dOrV ta tb) := by
  obtain ⟨ea, pa, sa⟩ := ha
  obtain ⟨eb, pb, sb⟩ := hb
  refine ⟨_, pe_orT pa pb, fun F ρ O σ H A P Qd Q G q k => sa F ρ O σ H A P _ _ G q fun r ρ1 v fp1 O1 H1 A1 P1 S1 G1 R1 N1 q1 => ?_⟩
  obtain ⟨b, h1, h2⟩ := dTru_ok G1 R1 q1
  refine ⟨b, h1, ?_⟩
  cases b with
  | true => exact iteT (k r ρ1 v fp1 O1 H1 A1 P1 S1 G1 R1 N1 h2)
  | false => exact iteF (sb F ρ1 O1 σ H1 A1 P1 _ _ G1 h2 fun r ρ2 v fp2 O2 H2 A2 P2 S2 G2 R2 N2 q2 => k r ρ2 v fp2 O2 H2 A2 P2 (S1.trans S2) G2 R2 (S1.back N2) q2)
theorem de_not (ha : DE X a ta) : DE X (.UnaryOp .Not a pos) (dNotV ta) := by
  obtain ⟨ea, pa, sa⟩ := ha
  refine ⟨_, pe_notT pa, fun F ρ O σ H A P Qd Q G q k => sa F ρ O σ H A P _ _ G q fun r ρ1 v fp1 O1 H1 A1 P1 S1 G1 R1 N1 q1 => ?_⟩
  obtain ⟨b, h1, h2⟩ := dTru_ok G1 R1 q1
  exact ⟨b, h1, k (.d (.bool (!b))) ρ1 (.bl (!b)) [] O1 H1 A1 P1 S1 G1 rfl nw_d h2⟩

/-! ### displays -/
def dTup (t : DTL) : DTE := fun ρ Q => t ρ fun ds ρ1 => ds.length ≤ sizeLine ∧ Q (.d (.tuple ds)) ρ1
def dLst (t : DTL) : DTE := fun ρ Q => t ρ fun ds ρ1 => ds.length ≤ sizeLine ∧ Q (.n (.lst ds)) ρ1
theorem de_tup {x1} (h : DLs X es tl) : DE X (.Tuple es x1 pos) (dTup tl) := by
  obtain ⟨te, p, s⟩ := h
  refine ⟨_, pe_tup p, fun F ρ O σ H A P Qd Q G q k => s F ρ O σ H A P _ _ G q fun ds ρ1 vs O1 H1 A1 P1 S1 G1 D1 q1 => ⟨by rw [D1.length]; exact q1.1, fun p hp => ?_⟩⟩
  obtain ⟨O2, fo, S2, G2, R2, N2⟩ := (Out.tup G1.dom hp D1).fin G1
  exact k (.d (.tuple ds)) ρ1 _ fo O2 _ A1 P1 (S1.trans S2) G2 R2 (S1.back N2) q1.2
theorem de_lst (h : DLs X es tl) : DE X (.List es pos) (dLst tl) := by
  obtain ⟨te, p, s⟩ := h
  refine ⟨_, pe_lst p, fun F ρ O σ H A P Qd Q G q k => s F ρ O σ H A P _ _ G q fun ds ρ1 vs O1 H1 A1 P1 S1 G1 D1 q1 => ⟨by rw [D1.length]; exact q1.1, fun p hp => ?_⟩⟩
  obtain ⟨O2, fo, S2, G2, R2, N2⟩ := (Out.lst G1.dom hp D1).fin G1
  exact k (.n (.lst ds)) ρ1 _ fo O2 _ A1 P1 (S1.trans S2) G2 R2 (S1.back N2) q1.2

/-! ### calls of what is built in -/
def dCl (g : GL) (t : DTA) : DTE := fun ρ Q => t ρ fun rs ρ1 => match views ρ1 rs with
  | some ds => g ds fun rv => Q rv ρ1
  | none => False
theorem sim_cl {K : Fg} {te : TA} {r : List V → Hp → VK → Prop} {g : GL} (L : ClL K r g) (s : SimA K te tas) : Sim K (tCB r te) (dCl g tas) := fun F ρ O σ H A P Qd Q G q k => by
  refine s F ρ O σ H A P _ _ G q fun rs ρ1 vs O1 H1 A1 P1 S1 G1 R1 q1 => ?_
  cases e1 : views ρ1 rs with
  | none => simp only [e1] at q1
  | some ds =>
    simp only [e1] at q1
    refine L O1 H1 ds vs _ _ G1.dom (views_ok G1 R1 e1) q1 fun rv v H3 o q3 => ?_
    obtain ⟨O3, fo, S3, G3, R3, N3⟩ := o.fin G1
    exact k rv ρ1 v fo O3 H3 A1 P1 (S1.trans S3) G3 R3 (S1.back N3) q3
theorem de_callB {x : Str} {p : Pos} {id : String} {r : List V → Hp → VK → Prop} {g : GL} (hc : CallR X (.builtin id) r) (L : ClL X.K r g) (hg : Gl X x) (hm : X.mg x = none) (hv : bootBuiltins x = some (.builtin id)) (ha : DA X (e :: es) tas) (hn : x ≠ "__name__" := by decide) (hdb : (x == ("__debug__" : Str)) = false := by decide)
    (he : starEach (e :: es) X.env = (false, eval e X.env) :: starEach es X.env := by rfl) (hpl : (backTo pos (starEach es X.env)).any (·.1) = false := by rfl) : DE X (.Call (.Name x p) (e :: es) [] pos) (dCl g tas) := by
  obtain ⟨te, pa, s⟩ := ha
  exact ⟨_, pe_callB hc hg hm hv pa hn hdb he hpl, sim_cl L s⟩
theorem de_callTy {x : Str} {p : Pos} {T : String} {r : List V → Hp → VK → Prop} {g : GL} (hc : CallR X (.type T) r) (L : ClL X.K r g) (hg : Gl X x) (hm : X.mg x = none) (hv : bootBuiltins x = some (.type T)) (ha : DA X (e :: es) tas) (hn : x ≠ "__name__" := by decide) (hdb : (x == ("__debug__" : Str)) = false := by decide)
    (he : starEach (e :: es) X.env = (false, eval e X.env) :: starEach es X.env := by rfl) (hpl : (backTo pos (starEach es X.env)).any (·.1) = false := by rfl) : DE X (.Call (.Name x p) (e :: es) [] pos) (dCl g tas) := by
  obtain ⟨te, pa, s⟩ := ha
  exact ⟨_, pe_callTy hc hg hm hv pa hn hdb he hpl, sim_cl L s⟩
end
end DL
namespace DL
open PySem PySem.Spec PyProof.Rows L2

/-! ### statements -/
structure DEnds where
  nx : DEnv → Prop
  rt : RV → DEnv → Prop
  bk : DEnv → Prop := fun _ => False
  ct : DEnv → Prop := fun _ => False
abbrev DTS := DEnds → DEnv → Prop
/-- what a body's end says of the value handed back -/
def Rt (K : Fg) (F : Fx) (O : Own) (H : Hp) : RV → V → Prop
  | .d d, v => Dv K (Hs H O) d v
  | .n w, v => ∃ p fp, v = .ref p ∧ (∀ b ∈ fp, F.H0 b = none ∧ H b ≠ none) ∧ OwnAt K (Hs H fun b => F.O0 b ∨ b ∈ fp) H w p fp
  | .o _, _ => False
/-- the heap behind a body, as its caller sees it -/
structure Aft (K : Fg) (F : Fx) (ρ : DEnv) (O : Own) (H : Hp) : Prop where
  base : ∀ b, F.O0 b → O b
  frame : ∀ b o, F.H0 b = some o → ¬ F.fx b → H b = some o
  alive : ∀ b, F.H0 b ≠ none → H b ≠ none
  io : ∀ a w, F.ra = some a → slot ρ 0 = .own w → ∃ fp, OwnAt K (Hs H fun b => F.O0 b ∨ b ∈ fp) H w a fp ∧ ∀ b ∈ fp, ((F.H0 b = none ∧ H b ≠ none) ∨ F.fx b) ∧ O b
structure EndOk (K : Fg) (F : Fx) (Dd : DEnds) (D : Ends) : Prop where
  nx : ∀ ρ O σ H A P, Good K F ρ O σ H A P → Dd.nx ρ → D.nx σ H
  bk : ∀ ρ O σ H A P, Good K F ρ O σ H A P → Dd.bk ρ → D.bk σ H
  ct : ∀ ρ O σ H A P, Good K F ρ O σ H A P → Dd.ct ρ → D.ct σ H
  rt : ∀ r ρ v O H, Aft K F ρ O H → Rt K F O H r v → Dd.rt r ρ → D.rt v H
/-- io: the first parameter is an object that the def may change -/
def SimS (K : Fg) (io : Bool) (ts : TS) (t : DTS) : Prop := ∀ (F : Fx) (ρ : DEnv) (O : Own) (σ : Sg) (H : Hp) (A : Nat → Addr) (P : Nat → List Addr) (Dd : DEnds) (D : Ends), (io = false → F.ra = none ∧ ∀ b, ¬ F.fx b) → Good K F ρ O σ H A P → EndOk K F Dd D → t Dd ρ → ts D σ H
def DS (X : Cx) (io : Bool) (st : Stmt) (t : DTS) : Prop := ∃ ts, PS X st ts ∧ SimS X.K io ts t
def DSs (X : Cx) (io : Bool) (st : List Stmt) (t : DTS) : Prop := ∃ ts, PSs X st ts ∧ SimS X.K io ts t

/-! ### storing a result at a name -/
def store (ρ : DEnv) (i : Nat) : RV → Option DEnv
  | .d d => some (put ρ i (.val d))
  | .n w => some (put ρ i (.own w))
  | .o j => match stab ρ (.o j) with
    | some (d, ρ') => some (put ρ' i (.val d))
    | none => none
section
variable {K : Fg} {F : Fx} {ρ : DEnv} {O : Own} {σ : Sg} {H : Hp} {A : Nat → Addr} {P : Nat → List Addr}
theorem Good.putV {i : Nat} {d : PyData} {v : V} (G : Good K F ρ O σ H A P) (h : Dv K (Hs H O) d v) : Good K F (put ρ i (.val d)) O (σ.set i (some v)) H A P := by
  have bk : ∀ (j : Nat) (w : Ow), slot (put ρ i (.val d)) j = .own w → slot ρ j = .own w ∧ i ≠ j := fun j w e => by
    by_cases hj : i = j
    · subst hj
      have hl : i < ρ.length := by
        have := slot_lt (ρ := put ρ i (.val d)) (i := i) (by rw [e]; exact fun z => nomatch z)
        rwa [put_length] at this
      rw [slot_put hl] at e
      cases e
    · rw [slot_put_ne hj] at e
      exact ⟨e, hj⟩
  refine ⟨by rw [List.length_set, put_length]; exact G.len, G.frame, G.alive, G.still, G.base, G.dom0, G.dom, fun j d' e => ?_, fun j w e => ?_, fun j k w w' e e' => G.sep j k w w' (bk j w e).1 (bk k w' e').1, fun a w e1 e2 => G.pin a w e1 (bk 0 w e2).1⟩
  · by_cases hj : i = j
    · subst hj
      have hl : i < ρ.length := by
        have := slot_lt (ρ := put ρ i (.val d)) (i := i) (by rw [e]; exact fun z => nomatch z)
        rwa [put_length] at this
      rw [slot_put hl] at e
      cases e
      exact ⟨v, by rw [List.getElem?_set_self (by rw [G.len]; exact hl)], h⟩
    · rw [slot_put_ne hj] at e
      rw [List.getElem?_set_ne hj]
      exact G.val j d' e
  · obtain ⟨e', hj⟩ := bk j w e
    rw [List.getElem?_set_ne hj]
    exact G.own j w e'
theorem Good.putN {i : Nat} {w : Ow} {p : Addr} {fp : List Addr} (G : Good K F ρ O σ H A P) (hi : F.ra ≠ none → i ≠ 0) (hf : ∀ b ∈ fp, F.H0 b = none ∧ O b ∧ ∀ (j : Nat) (w : Ow), slot ρ j = .own w → b ∉ P j) (h : OwnAt K (Hs H O) H w p fp) :
    Good K F (put ρ i (.own w)) O (σ.set i (some (.ref p))) H (fun j => if j = i then p else A j) (fun j => if j = i then fp else P j) := by
  have li : ∀ {s : Slot}, slot (put ρ i (.own w)) i = s → s ≠ .free → i < ρ.length := fun {s} e n => by
    have := slot_lt (ρ := put ρ i (.own w)) (i := i) (by rw [e]; exact n)
    rwa [put_length] at this
  refine ⟨by rw [List.length_set, put_length]; exact G.len, G.frame, G.alive, G.still, G.base, G.dom0, G.dom, fun j d' e => ?_, fun j w' e => ?_, fun j k w1 w2 e e' hjk b hb => ?_, fun a w' e1 e2 => ?_⟩
  · by_cases hj : i = j
    · subst hj
      rw [slot_put (li e fun z => nomatch z)] at e
      cases e
    · rw [slot_put_ne hj] at e
      rw [List.getElem?_set_ne hj]
      exact G.val j d' e
  · by_cases hj : i = j
    · subst hj
      have hl := li e fun z => nomatch z
      rw [slot_put hl] at e
      cases e
      refine ⟨by rw [List.getElem?_set_self (by rw [G.len]; exact hl), if_pos rfl], ?_, fun b hb => ?_, fun b hb => ?_⟩
      · rw [if_pos rfl, if_pos rfl]; exact h
      · rw [if_pos rfl] at hb; exact (hf b hb).2.1
      · rw [if_pos rfl] at hb; exact .inl (hf b hb).1
    · rw [slot_put_ne hj] at e
      rw [List.getElem?_set_ne hj, if_neg (fun z => hj z.symm), if_neg (fun z => hj z.symm)]
      exact G.own j w' e
  · by_cases hj : j = i
    · subst hj
      rw [if_pos rfl] at hb
      rw [slot_put_ne hjk] at e'
      rw [if_neg (fun z => hjk z.symm)]
      exact (hf b hb).2.2 k w2 e'
    · rw [slot_put_ne (fun z => hj z.symm)] at e
      rw [if_neg hj] at hb
      by_cases hk : k = i
      · subst hk
        rw [if_pos rfl]
        exact fun z => (hf b z).2.2 j w1 e hb
      · rw [slot_put_ne (fun z => hk z.symm)] at e'
        rw [if_neg hk]
        exact G.sep j k w1 w2 e e' hjk b hb
  · have hi' : i ≠ 0 := hi (by rw [e1]; exact fun z => nomatch z)
    rw [slot_put_ne hi'] at e2
    rw [if_neg (fun z => hi' z.symm)]
    exact G.pin a w' e1 e2
theorem store_ok {i : Nat} {r : RV} {v : V} {fp : List Addr} {ρ' : DEnv} (G : Good K F ρ O σ H A P) (R : Rk K F ρ O σ H P r v fp) (hi : F.ra ≠ none → i ≠ 0) (e : store ρ i r = some ρ') :
    ∃ O' A' P', Good K F ρ' O' (σ.set i (some v)) H A' P' := by
  cases r with
  | d d =>
    have e' : put ρ i (.val d) = ρ' := Option.some.inj e
    subst e'
    exact ⟨O, A, P, G.putV R⟩
  | n w =>
    have e' : put ρ i (.own w) = ρ' := Option.some.inj e
    subst e'
    obtain ⟨p, rfl, hf, h⟩ := R
    exact ⟨O, _, _, G.putN hi hf h⟩
  | o j =>
    unfold store at e
    cases st : stab ρ (.o j) with
    | none => simp only [st] at e; cases e
    | some pr =>
      obtain ⟨d, ρ1⟩ := pr
      simp only [st, Option.some.injEq] at e
      subst e
      obtain ⟨O1, G1, D1, _⟩ := stab_ok G.dom Stp.refl G R nw_o st
      exact ⟨O1, A, P, G1.putV D1⟩
/-- a name is forgotten -/
theorem Good.forget {i : Nat} (G : Good K F ρ O σ H A P) : Good K F (put ρ i .free) O σ H A P := by
  have bk : ∀ (j : Nat) (s : Slot), s ≠ .free → slot (put ρ i .free) j = s → slot ρ j = s := fun j s n e => by
    by_cases hj : i = j
    · subst hj
      have hl : i < ρ.length := by
        have := slot_lt (ρ := put ρ i .free) (i := i) (by rw [e]; exact n)
        rwa [put_length] at this
      rw [slot_put hl] at e
      exact absurd e.symm n
    · rwa [slot_put_ne hj] at e
  exact ⟨by rw [put_length]; exact G.len, G.frame, G.alive, G.still, G.base, G.dom0, G.dom, fun j d e => G.val j d (bk j _ (fun z => nomatch z) e), fun j w e => G.own j w (bk j _ (fun z => nomatch z) e),
    fun j k w w' e e' => G.sep j k w w' (bk j _ (fun z => nomatch z) e) (bk k _ (fun z => nomatch z) e'), fun a w e1 e2 => G.pin a w e1 (bk 0 _ (fun z => nomatch z) e2)⟩
end

section
variable {X : Cx} {io : Bool} {e a b c o : Expr} {es : List Expr} {st : Stmt} {rest : List Stmt} {pos : Pos} {ta tb tc : DTE} {tt tu : DTT} {t u : DTS}
def dNext : DTS := fun D ρ => D.nx ρ
def dSeq (t u : DTS) : DTS := fun D ρ => t { D with nx := u D } ρ
theorem dss_nil : DSs X io [] dNext := ⟨_, pss_nil, fun F ρ O σ H A P Dd D hio G E q => E.nx ρ O σ H A P G q⟩
theorem dss_cons (h1 : DS X io st t) (h2 : DSs X io rest u) : DSs X io (st :: rest) (dSeq t u) := by
  obtain ⟨t1, p1, s1⟩ := h1
  obtain ⟨t2, p2, s2⟩ := h2
  exact ⟨_, pss_cons p1 p2, fun F ρ O σ H A P Dd D hio G E q => s1 F ρ O σ H A P { Dd with nx := u Dd } { D with nx := t2 D } hio G ⟨fun ρ1 O1 σ1 H1 A1 P1 G1 q1 => s2 F ρ1 O1 σ1 H1 A1 P1 Dd D hio G1 E q1, E.bk, E.ct, E.rt⟩ q⟩
theorem dss_one (h1 : DS X io st t) : DSs X io [st] t := let ⟨t1, p1, s1⟩ := h1; ⟨t1, pss_one p1, s1⟩
theorem ds_pass : DS X io (.Pass pos) dNext := ⟨_, ps_pass, fun F ρ O σ H A P Dd D hio G E q => E.nx ρ O σ H A P G q⟩
def dBreak : DTS := fun D ρ => D.bk ρ
def dCont : DTS := fun D ρ => D.ct ρ
theorem ds_break : DS X io (.Break pos) dBreak := ⟨_, ps_break, fun F ρ O σ H A P Dd D hio G E q => E.bk ρ O σ H A P G q⟩
theorem ds_continue : DS X io (.Continue pos) dCont := ⟨_, ps_continue, fun F ρ O σ H A P Dd D hio G E q => E.ct ρ O σ H A P G q⟩
theorem ds_never : DS X io st (fun _ _ => False) := ⟨tNever, ps_never, fun _ _ _ _ _ _ _ _ _ _ _ _ q => q.elim⟩
theorem dss_never {sts : List Stmt} : DSs X io sts (fun _ _ => False) := ⟨tNever, pss_never, fun _ _ _ _ _ _ _ _ _ _ _ _ q => q.elim⟩
/-- name = e -/
def dSet (i : Nat) (t : DTE) : DTS := fun D ρ => t ρ fun r ρ1 => match store ρ1 i r with
  | some ρ2 => D.nx ρ2
  | none => False
theorem ds_set (i : Nat) {x : Str} {pos' : Pos} (hN : X.N.Nodup) (he : DE X e ta) (hi : X.N[i]? = some x := by rfl) (hx : Loc X.env.scope x := by first | exact Or.inl rfl | exact Or.inr rfl) (hio : io = true → i ≠ 0 := by first | exact (fun z => nomatch z) | exact (fun _ => by decide))
    (hs : swapsWith e (some (.Name x pos')) pos.line X.env = pure false := by rfl) (hf : X.fn x = true ∨ X.env.scope.names.lookup x = some .local := by first | exact .inl rfl | exact .inr rfl | assumption) : DS X io (.Assign [.Name x pos'] e pos) (dSet i ta) := by
  obtain ⟨te, p, s⟩ := he
  refine ⟨_, ps_set hN hi hx p hs hf, fun F ρ O σ H A P Dd D hr G E q => s F ρ O σ H A P _ _ G q fun r ρ1 v fp O1 H1 A1 P1 S1 G1 R1 N1 q1 => ?_⟩
  cases e1 : store ρ1 i r with
  | none => simp only [e1] at q1
  | some ρ2 =>
    simp only [e1] at q1
    obtain ⟨O2, A2, P2, G2⟩ := store_ok G1 R1 (fun z => by
      cases io with
      | true => exact hio rfl
      | false => exact absurd (hr rfl).1 z) e1
    exact E.nx ρ2 O2 _ H1 A2 P2 G2 q1
/-- an expression for what it does -/
def dDrop (t : DTE) : DTS := fun D ρ => t ρ fun _ ρ1 => D.nx ρ1
theorem ds_expr (he : DE X e ta) (hs : swapsWith e none pos.line X.env = pure false := by rfl) : DS X io (.Expr e pos) (dDrop ta) := by
  obtain ⟨te, p, s⟩ := he
  exact ⟨_, ps_expr p hs, fun F ρ O σ H A P Dd D hr G E q => s F ρ O σ H A P _ _ G q fun r ρ1 v fp O1 H1 A1 P1 S1 G1 R1 N1 q1 => E.nx ρ1 O1 σ H1 A1 P1 G1 q1⟩
/-! return -/
def retV (io : Bool) (ρ : DEnv) : RV → Option RV
  | .d d => some (.d d)
  | .n w => some (.n w)
  | .o i => match slot ρ i with
    | .val d => some (.d d)
    | .own (.lst ds) => some (.n (.lst ds))
    | .own (.dk kvs) => if io then none else some (.n (.dk kvs))
    | .own (.dt kvs) => if io then none else some (.n (.dt kvs))
    | .own (.res Φ) => if io then none else some (.n (.res Φ))
    | .free => none
def dRet (io : Bool) (t : DTE) : DTS := fun D ρ => t ρ fun r ρ1 => match retV io ρ1 r with
  | some r' => D.rt r' ρ1
  | none => False
theorem Good.aft {K : Fg} {F : Fx} {ρ : DEnv} {O : Own} {σ : Sg} {H : Hp} {A : Nat → Addr} {P : Nat → List Addr} (G : Good K F ρ O σ H A P) : Aft K F ρ O H := by
  refine ⟨G.base, G.frame, G.alive, fun a w e1 e2 => ?_⟩
  obtain ⟨h1, h2, h3, h4⟩ := G.own 0 w e2
  rw [G.pin a w e1 e2] at h2
  refine ⟨P 0, h2.keep (Hs_mono fun b o e n => ⟨e, fun z => z.elim (fun z => n (G.base b z)) fun z => n (h3 b z)⟩) fun _ _ => rfl, fun b hb => ?_⟩
  refine ⟨?_, h3 b hb⟩
  rcases h4 b hb with z | z
  · exact .inl ⟨z, h2.dom b hb⟩
  · exact .inr z.2
theorem Good.ret {K : Fg} {F : Fx} {ρ : DEnv} {O : Own} {σ : Sg} {H : Hp} {A : Nat → Addr} {P : Nat → List Addr} {r r' : RV} {v : V} {fp : List Addr} {io : Bool} (G : Good K F ρ O σ H A P) (R : Rk K F ρ O σ H P r v fp) (hr : io = false → F.ra = none ∧ ∀ b, ¬ F.fx b) (e : retV io ρ r = some r') : Rt K F O H r' v := by
  have sub : ∀ fq : List Addr, (∀ b ∈ fq, O b) → Same (Hs H O) (Hs H fun b => F.O0 b ∨ b ∈ fq) := fun fq h => Hs_mono fun b o e n => ⟨e, fun z => z.elim (fun z => n (G.base b z)) fun z => n (h b z)⟩
  have sub0 : Same (Hs H O) (Hs H F.O0) := Hs_mono fun b o e n => ⟨e, fun z => n (G.base b z)⟩
  cases r with
  | d d =>
    have e' : RV.d d = r' := Option.some.inj e
    subst e'
    exact R
  | n w =>
    have e' : RV.n w = r' := Option.some.inj e
    subst e'
    obtain ⟨p, rfl, hf, h⟩ := R
    exact ⟨p, fp, rfl, fun b hb => ⟨(hf b hb).1, h.dom b hb⟩, h.keep (sub fp fun b hb => (hf b hb).2.1) fun _ _ => rfl⟩
  | o i =>
    obtain ⟨h1, _⟩ := R
    unfold retV at e
    cases q : slot ρ i with
    | free => simp [q] at e
    | val d =>
      simp only [q] at e
      have e' : RV.d d = r' := Option.some.inj e
      subst e'
      obtain ⟨v', g1, g2⟩ := G.val i d q
      rw [h1] at g1
      cases g1
      exact g2
    | own w =>
      have fin : RV.n w = r' → (w.data ≠ none ∨ io = false) → Rt K F O H r' v := fun e' hw => by
        subst e'
        obtain ⟨g1, g2, g3, g4⟩ := G.own i w q
        rw [h1] at g1
        cases g1
        refine ⟨_, P i, rfl, fun b hb => ⟨(g4 b hb).resolve_right fun z => ?_, g2.dom b hb⟩, g2.keep (sub (P i) g3) fun _ _ => rfl⟩
        rcases hw with hw | hw
        · exact hw z.1
        · exact (hr hw).2 b z.2
      cases w with
      | lst ds => simp only [q] at e; exact fin (Option.some.inj e) (.inl fun z => nomatch z)
      | dk kvs =>
        cases io with
        | true => simp [q] at e
        | false => simp [q] at e; exact fin e (.inr rfl)
      | dt kvs =>
        cases io with
        | true => simp [q] at e
        | false => simp [q] at e; exact fin e (.inr rfl)
      | res Φ =>
        cases io with
        | true => simp [q] at e
        | false => simp [q] at e; exact fin e (.inr rfl)
theorem ds_ret (he : DE X e ta) : DS X io (.Return (some e) pos) (dRet io ta) := by
  obtain ⟨te, p, s⟩ := he
  refine ⟨_, ps_ret p, fun F ρ O σ H A P Dd D hr G E q => s F ρ O σ H A P _ _ G q fun r ρ1 v fp O1 H1 A1 P1 S1 G1 R1 N1 q1 => ?_⟩
  cases e1 : retV io ρ1 r with
  | none => simp only [e1] at q1
  | some r' =>
    simp only [e1] at q1
    exact E.rt r' ρ1 v O1 H1 G1.aft (G1.ret R1 hr e1) q1
def dRetN : DTS := fun D ρ => D.rt (.d .none) ρ
theorem ds_retN : DS X io (.Return none pos) dRetN := ⟨_, ps_retN, fun F ρ O σ H A P Dd D hr G E q => E.rt (.d .none) ρ .non O H G.aft (show Dv X.K (Hs H O) .none .non from rfl) q⟩
/-- if -/
def dIf (c : DTT) (t u : DTS) : DTS := fun D ρ => c ρ fun b ρ1 => match b with
  | true => t D ρ1
  | false => u D ρ1
theorem ds_if {sa sb : List Stmt} (hc : DT X c tt) (ha : DSs X io sa t) (hb : DSs X io sb u) : DS X io (.If c sa sb pos) (dIf tt t u) := by
  obtain ⟨tc, pc, sc⟩ := hc
  obtain ⟨t1, p1, s1⟩ := ha
  obtain ⟨t2, p2, s2⟩ := hb
  refine ⟨_, ps_if pc p1 p2, fun F ρ O σ H A P Dd D hr G E q => sc F ρ O σ H A P _ _ G q fun b ρ1 O1 H1 A1 P1 S1 G1 q1 => ?_⟩
  cases b with
  | true => exact iteT (s1 F ρ1 O1 σ H1 A1 P1 Dd D hr G1 E q1)
  | false => exact iteF (s2 F ρ1 O1 σ H1 A1 P1 Dd D hr G1 E q1)
/-- while: W holds ahead of every test, the number falls -/
def dWhile (c : DTT) (t : DTS) : DTS := fun D ρ => ∃ W : Nat → DEnv → Prop, (∃ m, W m ρ) ∧ ∀ m ρ', W m ρ' → c ρ' fun b ρ1 => match b with
  | true => t { D with nx := fun ρ2 => ∃ m', m' < m ∧ W m' ρ2, ct := fun ρ2 => ∃ m', m' < m ∧ W m' ρ2, bk := D.nx } ρ1
  | false => D.nx ρ1
theorem ds_while {body : List Stmt} (hp : PassesOwn (model X.prog X.w) X.A X.env X.xe) (hc : DT X c tt) (hb : DSs X io body t) : DS X io (.While c body [] pos) (dWhile tt t) := by
  obtain ⟨tc, pc, sc⟩ := hc
  obtain ⟨t1, p1, s1⟩ := hb
  refine ⟨_, ps_while hp pc p1, fun F ρ O σ H A P Dd D hr G E q => ?_⟩
  obtain ⟨W, ⟨m0, w0⟩, turn⟩ := q
  refine ⟨fun m σ' H' => ∃ ρ' O' A' P', Good X.K F ρ' O' σ' H' A' P' ∧ W m ρ', ⟨m0, ρ, O, A, P, G, w0⟩, ?_⟩
  rintro m σ' H' ⟨ρ', O', A', P', G', w'⟩
  refine sc F ρ' O' σ' H' A' P' _ _ G' (turn m ρ' w') fun b ρ1 O1 H1 A1 P1 S1 G1 q1 => ?_
  cases b with
  | false => exact iteF (E.nx ρ1 O1 σ' H1 A1 P1 G1 q1)
  | true =>
    refine iteT ⟨fun σ2 H2 => ∃ m', m' < m ∧ ∃ ρ2 O2 A2 P2, Good X.K F ρ2 O2 σ2 H2 A2 P2 ∧ W m' ρ2, fun σ2 H2 h => h, ?_⟩
    exact s1 F ρ1 O1 σ' H1 A1 P1 { Dd with nx := fun ρ2 => ∃ m', m' < m ∧ W m' ρ2, ct := fun ρ2 => ∃ m', m' < m ∧ W m' ρ2, bk := Dd.nx } _ hr G1 ⟨fun ρ2 O2 σ2 H2 A2 P2 G2 ⟨m', hm, w2⟩ => ⟨m', hm, ρ2, O2, A2, P2, G2, w2⟩, E.nx, fun ρ2 O2 σ2 H2 A2 P2 G2 ⟨m', hm, w2⟩ => ⟨m', hm, ρ2, O2, A2, P2, G2, w2⟩, E.rt⟩ q1
end
end DL
namespace DL
open PySem PySem.Spec PyProof.Rows L2

/-! ### what a loop walks -/
/-- the turns give these data, wherever what stays stays -/
def ItD (K : Fg) (J : It) (S : Hp) (n : Nat) (y : Nat → PyData) : Prop := ∀ (H : Hp) (O : Own), Same S (Hs H O) → (∀ b, O b → H b ≠ none) →
  (∀ i, i < n → J.go i H ∧ ∀ x H', J.yld i H x H' → Out K O H (.d (y i)) x H') ∧ J.stop n H
/-- n turns, the i-th one gives y i -/
abbrev DTI := DEnv → (Nat → (Nat → PyData) → DEnv → Prop) → Prop
def SimI (K : Fg) (wi : TI) (t : DTI) : Prop := ∀ (F : Fx) (ρ : DEnv) (O : Own) (σ : Sg) (H : Hp) (A : Nat → Addr) (P : Nat → List Addr) (Qd : Nat → (Nat → PyData) → DEnv → Prop) (R : It → Hp → Prop), Good K F ρ O σ H A P → t ρ Qd →
  (∀ n y ρ' J O' H' A' P', Stp ρ O H P ρ' O' H' P' → Good K F ρ' O' σ H' A' P' → ItD K J (Hs H' O') n y → Qd n y ρ' → R J H') → wi σ H R
def DI (X : Cx) (tg iter : Expr) (t : DTI) : Prop := ∃ wi, PI X tg iter wi ∧ SimI X.K wi t
/-- a target -/
abbrev DTG := PyData → DEnv → (DEnv → Prop) → Prop
def SimG (K : Fg) (io : Bool) (g : TG) (t : DTG) : Prop := ∀ (F : Fx) (ρ : DEnv) (O : Own) (σ : Sg) (H : Hp) (A : Nat → Addr) (P : Nat → List Addr) (d : PyData) (v : V) (Qd : DEnv → Prop) (Q : Sg → Hp → Prop), Good K F ρ O σ H A P → Dv K (Hs H O) d v → t d ρ Qd →
  (∀ ρ' σ', Good K F ρ' O σ' H A P → Qd ρ' → Q σ' H) → g v σ H Q
def DG (X : Cx) (tg : Expr) (t : DTG) : Prop := ∃ g, PG X tg g ∧ SimG X.K true g t
section
variable {X : Cx} {io : Bool} {e a b c o : Expr} {es : List Expr} {st : Stmt} {rest : List Stmt} {pos : Pos} {ta tb tc : DTE} {tt tu : DTT} {t u : DTS}
def dgName (i : Nat) : DTG := fun d ρ Q => Q (put ρ i (.val d))
theorem dg_name (i : Nat) {x : Str} (hN : X.N.Nodup) (hi : X.N[i]? = some x := by rfl) (hx : Loc X.env.scope x := by first | exact Or.inl rfl | exact Or.inr rfl) (hf : X.fn x = true ∨ X.env.scope.names.lookup x = some .local := by first | exact .inl rfl | exact .inr rfl | assumption) : DG X (.Name x pos) (dgName i) :=
  ⟨_, pg_name hN hi hx hf, fun F ρ O σ H A P d v Qd Q G D q k => k _ _ (G.putV D) q⟩
/-- several targets -/
abbrev DTGs := List PyData → DEnv → (DEnv → Prop) → Prop
def DGs (X : Cx) (es : List Expr) (t : DTGs) : Prop := ∃ g, PGs X es g ∧ ∀ (F : Fx) (ρ : DEnv) (O : Own) (σ : Sg) (H : Hp) (A : Nat → Addr) (P : Nat → List Addr) (ds : List PyData) (vs : List V) (Qd : DEnv → Prop) (Q : Sg → Hp → Prop), Good X.K F ρ O σ H A P → DvL X.K (Hs H O) ds vs → t ds ρ Qd →
  (∀ ρ' σ', Good X.K F ρ' O σ' H A P → Qd ρ' → Q σ' H) → g vs σ H Q
def dgNil : DTGs := fun ds ρ Q => match ds with
  | [] => Q ρ
  | _ => False
def dgCons (t : DTG) (u : DTGs) : DTGs := fun ds ρ Q => match ds with
  | d :: r => t d ρ fun ρ1 => u r ρ1 Q
  | [] => False
theorem dgs_nil : DGs X [] dgNil := ⟨_, pgs_nil, fun F ρ O σ H A P ds vs Qd Q G D q k => by
  cases ds with
  | nil => exact ⟨D, k ρ σ G q⟩
  | cons d r => exact (show False from q).elim⟩
theorem dgs_cons {t : DTG} {u : DTGs} (h1 : DG X e t) (h2 : DGs X es u) (hs : (assignEach (e :: es) X.env).map (·.2) = assign e X.env :: (assignEach es X.env).map (·.2) := by rfl) : DGs X (e :: es) (dgCons t u) := by
  obtain ⟨g1, p1, s1⟩ := h1
  obtain ⟨g2, p2, s2⟩ := h2
  refine ⟨_, pgs_cons p1 p2 hs, fun F ρ O σ H A P ds vs Qd Q G D q k => ?_⟩
  cases ds with
  | nil => exact (show False from q).elim
  | cons d r =>
    obtain ⟨y, ys, e1, D1, D2⟩ := D
    exact ⟨y, ys, e1, s1 F ρ O σ H A P d y _ _ G D1 q fun ρ1 σ1 G1 q1 => s2 F ρ1 O σ1 H A P r ys Qd Q G1 D2 q1 k⟩
def dgTup (n : Nat) (t : DTGs) : DTG := fun d ρ Q => match d with
  | .tuple ds => ds.length = n ∧ t ds ρ Q
  | _ => False
theorem dg_tup {k n : Nat} {t : DTGs} (hc : X.calm = true) (h : DGs X es t) (hn : (assignEach es X.env).length = n := by rfl) (hst : (assignEach es X.env).findIdx? (·.1) = none := by rfl) : DG X (.Tuple es k pos) (dgTup n t) := by
  obtain ⟨g, p, s⟩ := h
  refine ⟨_, pg_tup hc p hn hst, fun F ρ O σ H A P d v Qd Q G D q k => ?_⟩
  cases d with
  | tuple ds =>
    obtain ⟨a, xs, e1, h1, h2⟩ := D
    exact ⟨a, xs, e1, same_sqT Hs_sub h1, by rw [h2.length]; exact q.1, s F ρ O σ H A P ds xs Qd Q G h2 q.2 k⟩
  | _ => exact (show False from q).elim

/-- what stays is put down -/
theorem Good.note {K : Fg} {F : Fx} {ρ : DEnv} {O : Own} {σ : Sg} {H : Hp} {A : Nat → Addr} {P : Nat → List Addr} (G : Good K F ρ O σ H A P) : Good K { F with S := Hs H O } ρ O σ H A P :=
  ⟨G.len, G.frame, G.alive, fun _ _ h => Hs_out h, G.base, G.dom0, G.dom, G.val, G.own, G.sep, G.pin⟩
theorem Good.unnote {K : Fg} {F : Fx} {ρ : DEnv} {O : Own} {σ : Sg} {H : Hp} {A : Nat → Addr} {P : Nat → List Addr} {S : Hp} (G : Good K { F with S := S } ρ O σ H A P) (h : Same F.S S) : Good K F ρ O σ H A P :=
  ⟨G.len, G.frame, G.alive, fun b o e => G.still b o (h b o e), G.base, G.dom0, G.dom, G.val, G.own, G.sep, G.pin⟩
theorem Good.S_sub {K : Fg} {F : Fx} {ρ : DEnv} {O : Own} {σ : Sg} {H : Hp} {A : Nat → Addr} {P : Nat → List Addr} (G : Good K F ρ O σ H A P) : Same F.S (Hs H O) := fun b o e => let ⟨h1, h2⟩ := G.still b o e; Hs_in h1 h2
theorem Aft.S {K : Fg} {F : Fx} {ρ : DEnv} {O : Own} {H : Hp} {S : Hp} (h : Aft K { F with S := S } ρ O H) : Aft K F ρ O H := ⟨h.base, h.frame, h.alive, h.io⟩

/-! ### for -/
def dFor (ti : DTI) (g : DTG) (tb : DTS) : DTS := fun D ρ => ti ρ fun n y ρ1 => ∃ I : Nat → DEnv → Prop, I 0 ρ1 ∧ (∀ i ρ', i < n → I i ρ' → g (y i) ρ' fun ρ2 => tb { D with nx := I (i + 1), ct := I (i + 1), bk := D.nx } ρ2) ∧ ∀ ρ', I n ρ' → D.nx ρ'
theorem ds_for {tg iter : Expr} {body : List Stmt} {ti : DTI} {g : DTG} (hp : PassesOwn (model X.prog X.w) X.A X.env X.xe) (hc : X.calm = true) (hi : DI X tg iter ti) (hg : DG X tg g) (hb : DSs X io body t) (hs : ∀ x, foldedSetIterable iter X.env x = pure x := by intro _; rfl) : DS X io (.For tg iter body [] pos) (dFor ti g t) := by
  obtain ⟨wi, pi, si⟩ := hi
  obtain ⟨tg', pg, sg⟩ := hg
  obtain ⟨ts, pb, sb⟩ := hb
  refine ⟨_, ps_for hp hc pi pg pb hs, fun F ρ O σ H A P Dd D hr G E q => si F ρ O σ H A P _ _ G q fun n y ρ1 J O1 H1 A1 P1 S1 G1 T q1 => ?_⟩
  obtain ⟨I, i0, step, done⟩ := q1
  refine ⟨fun i m σ' H' => m = n - i ∧ i ≤ n ∧ ∃ ρ' O' A' P', Good X.K { F with S := Hs H1 O1 } ρ' O' σ' H' A' P' ∧ I i ρ', ⟨n, by omega, Nat.zero_le _, ρ1, O1, A1, P1, G1.note, i0⟩, ?_⟩
  rintro i m σ' H' ⟨rfl, hin, ρ', O', A', P', G', i'⟩
  obtain ⟨tgo, tstop⟩ := T H' O' G'.S_sub G'.dom
  by_cases hlt : i < n
  · obtain ⟨go, yl⟩ := tgo i hlt
    refine .inr ⟨go, fun σ2 H2 => ∃ ρ2 O2 A2 P2, Good X.K { F with S := Hs H1 O1 } ρ2 O2 σ2 H2 A2 P2 ∧ I (i + 1) ρ2, fun σ2 H2 h => ⟨n - (i + 1), by omega, rfl, hlt, h⟩, fun x H2 hy => ?_⟩
    obtain ⟨O2, fo, S2, G2, R2, N2⟩ := (yl x H2 hy).fin G'
    refine sg _ ρ' O2 σ' H2 A' P' (y i) x _ _ G2 R2 (step i ρ' hlt i') fun ρ3 σ3 G3 q3 => ?_
    refine sb { F with S := Hs H1 O1 } ρ3 O2 σ3 H2 A' P' { Dd with nx := I (i + 1), ct := I (i + 1), bk := Dd.nx } _ hr G3 ⟨fun ρ4 O4 σ4 H4 A4 P4 G4 q4 => ⟨ρ4, O4, A4, P4, G4, q4⟩, fun ρ4 O4 σ4 H4 A4 P4 G4 q4 => E.nx ρ4 O4 σ4 H4 A4 P4 (G4.unnote G1.S_sub) q4, fun ρ4 O4 σ4 H4 A4 P4 G4 q4 => ⟨ρ4, O4, A4, P4, G4, q4⟩, fun r ρ4 v O4 H4 a4 r4 q4 => E.rt r ρ4 v O4 H4 a4.S ?_ q4⟩ q3
    cases r <;> exact r4
  · have e : i = n := by omega
    subst e
    exact .inl ⟨tstop, E.nx ρ' O' σ' H' A' P' (G'.unnote G1.S_sub) (done ρ' i')⟩
end
end DL
namespace DL
open PySem PySem.Spec PyProof.Rows L2
section
variable {X : Cx} {io : Bool} {e a b c o tg : Expr} {es : List Expr} {st : Stmt} {rest : List Stmt} {pos : Pos} {ta tb tc : DTE} {tt tu : DTT} {t u : DTS} {tas : DTA} {tl : DTL}
/-! ### what is walked -/
def dIt (n : Nat) (y : Nat → PyData) (t : DEnv → Prop) : Prop := True
def nth (ds : List PyData) (i : Nat) : PyData := ds.getD i .none
theorem nth_at {ds : List PyData} {i : Nat} {d : PyData} (h : ds[i]? = some d) : nth ds i = d := by
  unfold nth
  rw [List.getD_eq_getElem?_getD, h]; rfl
/-- a list that is walked (given up as one's own) -/
def dItL (t : DTE) : DTI := fun ρ Q => dSt t ρ fun d ρ1 => match d with
  | .list ds => Q ds.length (nth ds) ρ1
  | _ => False
def dItT (t : DTE) : DTI := fun ρ Q => dSt t ρ fun d ρ1 => match d with
  | .tuple ds => Q ds.length (nth ds) ρ1
  | _ => False
def sg (s : Str) (i : Nat) : PyData := .str ⟨#[s.cps.getD i 0]⟩
def dItS (t : DTE) : DTI := fun ρ Q => dSt t ρ fun d ρ1 => match d with
  | .str s => Q s.cps.size (sg s) ρ1
  | _ => False
theorem di_list (h : DE X e ta) : DI X tg e (dItL ta) := by
  obtain ⟨te, p, s⟩ := dd_of h
  refine ⟨_, pi_list p, fun F ρ O σ H A P Qd R G q k => s F ρ O σ H A P _ _ G q fun d ρ1 v O1 H1 A1 P1 S1 G1 D1 q1 => ?_⟩
  cases d with
  | list ds =>
    obtain ⟨a, xs, rfl, h1, h2⟩ := D1
    refine ⟨a, rfl, ⟨xs, same_sqL Hs_sub h1⟩, k _ _ ρ1 _ O1 H1 A1 P1 S1 G1 (fun H O sm dm => ⟨fun i hi => ?_, ?_⟩) q1⟩
    · have hx : SqL X.K H a xs := same_sqL Hs_sub (same_sqL sm h1)
      have hd := List.getElem?_eq_getElem hi
      obtain ⟨x, g1, g2⟩ := h2.get hd
      refine ⟨⟨xs, x, hx, g1⟩, fun y H' hy => ?_⟩
      obtain ⟨rfl, hy⟩ := hy
      have e := hy xs hx
      rw [g1] at e
      cases e
      rw [nth_at hd]
      exact Out.sc (g2.mono sm)
    · exact ⟨xs, same_sqL Hs_sub (same_sqL sm h1), by rw [h2.length]; exact Nat.le_refl _⟩
  | _ => exact (show False from q1).elim
theorem di_tup (h : DE X e ta) : DI X tg e (dItT ta) := by
  obtain ⟨te, p, s⟩ := dd_of h
  refine ⟨_, pi_tup p, fun F ρ O σ H A P Qd R G q k => s F ρ O σ H A P _ _ G q fun d ρ1 v O1 H1 A1 P1 S1 G1 D1 q1 => ?_⟩
  cases d with
  | tuple ds =>
    obtain ⟨a, xs, rfl, h1, h2⟩ := D1
    refine ⟨a, rfl, ⟨xs, same_sqT Hs_sub h1⟩, k _ _ ρ1 _ O1 H1 A1 P1 S1 G1 (fun H O sm dm => ⟨fun i hi => ?_, ?_⟩) q1⟩
    · have hx : SqT X.K H a xs := same_sqT Hs_sub (same_sqT sm h1)
      have hd := List.getElem?_eq_getElem hi
      obtain ⟨x, g1, g2⟩ := h2.get hd
      refine ⟨⟨xs, x, hx, g1⟩, fun y H' hy => ?_⟩
      obtain ⟨rfl, hy⟩ := hy
      have e := hy xs hx
      rw [g1] at e
      cases e
      rw [nth_at hd]
      exact Out.sc (g2.mono sm)
    · exact ⟨xs, same_sqT Hs_sub (same_sqT sm h1), by rw [h2.length]; exact Nat.le_refl _⟩
  | _ => exact (show False from q1).elim
theorem sg_at {s : Str} {i c : Nat} (h : s.cps[i]? = some c) : sg s i = .str ⟨#[c]⟩ := by
  unfold sg
  rw [Array.getD_eq_getD_getElem?, h]; rfl
theorem itD_str {K : Fg} {x : Str} {S : Hp} : ItD K (Its x) S x.cps.size (sg x) := fun H O sm dm => by
  refine ⟨fun i hi => ⟨hi, fun y H' hy => ?_⟩, Nat.le_refl _⟩
  obtain ⟨rfl, c, g1, rfl⟩ := hy
  rw [sg_at g1]
  exact Out.sc (d := .str _) rfl
theorem di_str (h : DE X e ta) : DI X tg e (dItS ta) := by
  obtain ⟨te, p, s⟩ := dd_of h
  refine ⟨_, pi_str p, fun F ρ O σ H A P Qd R G q k => s F ρ O σ H A P _ _ G q fun d ρ1 v O1 H1 A1 P1 S1 G1 D1 q1 => ?_⟩
  cases d with
  | str x =>
    have e : v = V.str x := D1
    exact ⟨x, e, k _ _ ρ1 _ O1 H1 A1 P1 S1 G1 itD_str q1⟩
  | _ => exact (show False from q1).elim
def itI (lo : Int) (i : Nat) : PyData := .int (lo + i)
def dItR1 (t : DTA) : DTI := fun ρ Q => t ρ fun rs ρ1 => match views ρ1 rs with
  | some [.int j] => (-(2 ^ 62) ≤ j ∧ j < 2 ^ 62) ∧ Q j.toNat (itI 0) ρ1
  | _ => False
def dItR2 (t : DTA) : DTI := fun ρ Q => t ρ fun rs ρ1 => match views ρ1 rs with
  | some [.int i, .int j] => (-(2 ^ 62) ≤ i ∧ i < 2 ^ 62 ∧ -(2 ^ 62) ≤ j ∧ j < 2 ^ 62) ∧ Q (j - i).toNat (itI i) ρ1
  | _ => False
theorem itD_rng {K : Fg} {S : Hp} {lo : Int} {n : Nat} : ItD K (Itr lo n) S n (itI lo) := fun H O sm dm =>
  ⟨fun i hi => ⟨hi, fun y H' hy => by
    obtain ⟨rfl, rfl⟩ := hy
    exact Out.sc (d := .int _) rfl⟩, Nat.le_refl _⟩
theorem di_range1 {p : Pos} (hg : Gl X "range") (hm : X.mg "range" = none) (h : DA X [a] tas) (hs : starEach [a] X.env = [(false, eval a X.env)] := by rfl) : DI X tg (.Call (.Name "range" p) [a] [] pos) (dItR1 tas) := by
  obtain ⟨te, pa, s⟩ := h
  refine ⟨_, pi_range1 hg hm pa (hs := hs), fun F ρ O σ H A P Qd R G q k => s F ρ O σ H A P _ _ G q fun rs ρ1 vs O1 H1 A1 P1 S1 G1 R1 q1 => ?_⟩
  cases e1 : views ρ1 rs with
  | none => simp only [e1] at q1
  | some ds =>
    have V1 := views_ok G1 R1 e1
    simp only [e1] at q1
    cases ds with
    | nil => exact (show False from q1).elim
    | cons d ds =>
      cases ds with
      | cons _ _ => cases d <;> exact (show False from q1).elim
      | nil =>
        cases d with
        | int j =>
          obtain ⟨v, ws, e2, V2, V3⟩ := V1
          have e3 : v = V.int j := V2
          have e4 : ws = [] := V3
          exact ⟨j, by rw [e2, e3, e4], q1.1.1, q1.1.2, k _ _ ρ1 _ O1 H1 A1 P1 S1 G1 itD_rng q1.2⟩
        | _ => exact (show False from q1).elim
theorem di_range2 {p : Pos} (hg : Gl X "range") (hm : X.mg "range" = none) (h : DA X [a, b] tas) (hs : starEach [a, b] X.env = [(false, eval a X.env), (false, eval b X.env)] := by rfl) (hs2 : starEach [b] X.env = [(false, eval b X.env)] := by rfl) : DI X tg (.Call (.Name "range" p) [a, b] [] pos) (dItR2 tas) := by
  obtain ⟨te, pa, s⟩ := h
  refine ⟨_, pi_range2 hg hm pa (hs := hs) (hs2 := hs2), fun F ρ O σ H A P Qd R G q k => s F ρ O σ H A P _ _ G q fun rs ρ1 vs O1 H1 A1 P1 S1 G1 R1 q1 => ?_⟩
  cases e1 : views ρ1 rs with
  | none => simp only [e1] at q1
  | some ds =>
    have V1 := views_ok G1 R1 e1
    simp only [e1] at q1
    split at q1
    · next i j heq =>
      cases heq
      obtain ⟨v, ws, e2, V2, v2, ws2, e3, V3, V4⟩ := V1
      have e5 : v = V.int i := V2
      have e6 : v2 = V.int j := V3
      have e7 : ws2 = [] := V4
      exact ⟨i, j, by rw [e2, e3, e5, e6, e7], q1.1, k _ _ ρ1 _ O1 H1 A1 P1 S1 G1 itD_rng q1.2⟩
    · exact q1.elim

/-! ### calls of one's own defs -/
abbrev DSp := List PyData → (RV → Prop) → Prop
def fx0 (H : Hp) (O : Own) : Fx := ⟨H, O, fun _ => False, none, fun _ => none⟩
/-- a def that changes nothing that stood -/
def spD (K : Fg) (sp : DSp) : Sp := fun vs H Q _ => ∃ (O : Own) (ds : List PyData) (Qd : RV → Prop), (∀ b, O b → H b ≠ none) ∧ DvL K (Hs H O) ds vs ∧ sp ds Qd ∧ ∀ r v H', Same H H' → Rt K (fx0 H O) O H' r v → Qd r → Q v H'
theorem Rt.out {K : Fg} {H H' : Hp} {O : Own} {r : RV} {v : V} (sm : Same H H') (h : Rt K (fx0 H O) O H' r v) : Out K O H r v H' := by
  cases r with
  | d d => exact ⟨sm, h⟩
  | o i => exact h.elim
  | n w =>
    obtain ⟨p, fp, e, hf, ho⟩ := h
    exact ⟨sm, p, fp, e, hf, ho⟩
def dCall (sp : DSp) (t : DTL) : DTE := fun ρ Q => t ρ fun ds ρ1 => sp ds fun r => Q r ρ1
theorem sim_call {K : Fg} {te : TA} {sp : DSp} {E : XK} (s : SimL K te tl) : Sim K (tCall (spD K sp) [] E te) (dCall sp tl) := fun F ρ O σ H A P Qd Q G q k => by
  refine s F ρ O σ H A P _ _ G q fun ds ρ1 vs O1 H1 A1 P1 S1 G1 D1 q1 => ?_
  rw [List.append_nil]
  refine ⟨O1, ds, _, G1.dom, D1, q1, fun r v H2 sm rt q2 => ?_⟩
  obtain ⟨O2, fo, S2, G2, R2, N2⟩ := (rt.out sm).fin G1
  exact k r ρ1 v fo O2 H2 A1 P1 (S1.trans S2) G2 R2 (S1.back N2) q2
theorem de_call {CX : CXT} {k : Nat} {f : Addr} {fd : FuncData} {ps : List Str} {sp : DSp} {E : XK} {x : Str} {p : Pos} (Fo : FnOk X.prog X.w X.K X.mg X.base CX k f fd ps (spD X.K sp)) (hr : Room k X.A) (hg : Gl X x) (hm : X.mg x = some (.ref f)) (hk : PySem.W.keepIn X.K (.ref f) = true) (hb : Binds X.K fd ps []) (hx : Passes CX X E)
    (ha : DLs X (e :: es) tl) (hdb : (x == ("__debug__" : Str)) = false := by decide) (he : starEach (e :: es) X.env = (false, eval e X.env) :: starEach es X.env := by rfl) (hpl : (backTo pos (starEach es X.env)).any (·.1) = false := by rfl) : DE X (.Call (.Name x p) (e :: es) [] pos) (dCall sp tl) := by
  obtain ⟨te, pa, s⟩ := ha
  exact ⟨_, pe_call Fo hr hg hm hk hb .nil hx pa hdb he hpl, sim_call s⟩
end
end DL
namespace DL
open PySem PySem.Spec PyProof.Rows L2

/-! ### a def by its body -/
def startD (n : Nat) (ds : List PyData) : DEnv := ds.map Slot.val ++ List.replicate (n - ds.length) .free
theorem slot_app_l : ∀ {a b : DEnv} {i : Nat}, i < a.length → slot (a ++ b) i = slot a i
  | [], _, _, h => by simp at h
  | _ :: _, _, 0, _ => rfl
  | _ :: a, b, i + 1, h => slot_app_l (a := a) (b := b) (i := i) (by simpa using h)
theorem slot_app_r : ∀ {a b : DEnv} {i : Nat}, slot (a ++ b) (a.length + i) = slot b i
  | [], b, i => by simp
  | s :: a, b, i => by
    have e : (s :: a).length + i = (a.length + i) + 1 := by simp; omega
    rw [e]
    exact slot_app_r (a := a) (b := b) (i := i)
theorem slot_free (n i : Nat) : slot (List.replicate n .free) i = .free := by
  induction n generalizing i with
  | zero => rfl
  | succ n ih =>
    cases i with
    | zero => rfl
    | succ i => exact ih i
theorem slot_map {ds : List PyData} : ∀ {i : Nat} {s : Slot}, slot (ds.map Slot.val) i = s → s ≠ .free → ∃ d, ds[i]? = some d ∧ s = .val d := by
  induction ds with
  | nil => intro i s h n; exact absurd h.symm n
  | cons d ds ih =>
    intro i s h n
    cases i with
    | zero => exact ⟨d, rfl, h.symm⟩
    | succ i =>
      obtain ⟨d', h1, h2⟩ := ih (i := i) (s := s) h n
      exact ⟨d', by simpa using h1, h2⟩
theorem startD_slot {n : Nat} {ds : List PyData} {i : Nat} {s : Slot} (h : slot (startD n ds) i = s) (hn : s ≠ .free) : ∃ d, ds[i]? = some d ∧ s = .val d := by
  unfold startD at h
  by_cases hi : i < (ds.map Slot.val).length
  · rw [slot_app_l hi] at h
    exact slot_map h hn
  · obtain ⟨j, rfl⟩ : ∃ j, i = (ds.map Slot.val).length + j := ⟨i - (ds.map Slot.val).length, by omega⟩
    rw [slot_app_r, slot_free] at h
    exact absurd h.symm hn
theorem start_good {K : Fg} {H : Hp} {O : Own} {N : List Str} {ds : List PyData} {vs : List V} (hd : ∀ b, O b → H b ≠ none) (h : DvL K (Hs H O) ds vs) : Good K (fx0 H O) (startD N.length ds) O (start N vs) H (fun _ => 0) (fun _ => []) := by
  have hl := h.length
  refine ⟨?_, fun b o e _ => e, fun b e => e, fun b o e => (nomatch e), fun b e => e, hd, hd, fun i d e => ?_, fun i w e => ?_, fun i j w w' e => ?_, fun a w e => (nomatch e)⟩
  · unfold L2.start startD
    rw [List.length_append, List.length_append, List.length_map, List.length_map, List.length_replicate, List.length_replicate, hl]
  · obtain ⟨d', h1, h2⟩ := startD_slot e fun z => nomatch z
    cases h2
    obtain ⟨x, g1, g2⟩ := h.get h1
    refine ⟨x, ?_, g2⟩
    unfold L2.start
    have hi : i < vs.length := (List.getElem?_eq_some_iff.mp g1).1
    rw [List.getElem?_append_left (by simpa using hi), List.getElem?_map, g1]
    rfl
  · obtain ⟨d', _, h2⟩ := startD_slot e fun z => nomatch z
    cases h2
  · obtain ⟨d', _, h2⟩ := startD_slot e fun z => nomatch z
    cases h2
theorem Rt.weak {K : Fg} {F : Fx} {O : Own} {H : Hp} {r : RV} {v : V} (h : ∀ b, F.O0 b → O b) (rt : Rt K F O H r v) : Rt K F F.O0 H r v := by
  cases r with
  | d d => exact Dv.mono (Hs_mono fun b o e n => ⟨e, fun z => n (h b z)⟩) rt
  | o i => exact rt
  | n w => exact rt
theorem fnD_ok {P : Program} {w : World} {K : Fg} {mg : Str → Option Value} {base : Heap} {x qual : Str} {st : Stmt} {f : Addr} {fd : FuncData} {N ps : List Str} {k : Nat} {sp : DSp} (Fn : Fun K x qual st f fd) (S : FnScope N ps (defScope st)) (len : ∀ ds Q, sp ds Q → ds.length = ps.length)
    (hbody : ∀ (cdv : Value) (A : Around) (outer : List Env) (s : Shared) (H : Hp) (E : XK), Room k (A.deeper (envOfC qual (defScope st) s.heap.objs.size f cdv)) →
      ∃ t, DSs (cxOf CX0 P w K mg base N qual (defScope st) f cdv A outer s H E).nox false (defBody st) t ∧ ∀ ds Qd, sp ds Qd → t { nx := fun _ => Qd (.d .none), rt := fun r _ => Qd r } (startD N.length ds)) :
    FnOk P w K mg base CX0 (k + 1) f fd ps (spD K sp) := by
  refine Fn.ok S (fun vs H Q E h => ?_) fun cdv A outer s H vs Q E hr h => ?_
  · obtain ⟨O, ds, Qd, _, D, q, _⟩ := h
    rw [D.length, len ds Qd q]
  · obtain ⟨O, ds, Qd, hd, D, q, fin⟩ := h
    obtain ⟨t, ⟨ts, p, s⟩, hq⟩ := hbody cdv A outer s H E hr
    refine ⟨ts, p, s (fx0 H O) _ O _ H _ _ _ _ (fun _ => ⟨rfl, fun _ z => z⟩) (start_good hd D) ⟨fun ρ O' σ H' A' P' G q' => ?_, fun _ _ _ _ _ _ _ z => z, fun _ _ _ _ _ _ _ z => z, fun r ρ v O' H' a rt q' => ?_⟩ (hq ds Qd q)⟩
    · exact fin (.d .none) .non H' (fun b o e => G.frame b o e fun z => z) (show Dv K (Hs H' O) .none .non from rfl) q'
    · exact fin r v H' (fun b o e => a.frame b o e fun z => z) (rt.weak a.base) q'

/-! ### a def whose first argument is an object that it may change -/
abbrev DSpI := Ow → List PyData → (PyData → Ow → Prop) → Prop
def spI (K : Fg) (sp : DSpI) : Sp := fun vs H Q _ => ∃ (O : Own) (a : Addr) (fp : List Addr) (wo : Ow) (ds : List PyData) (Qd : PyData → Ow → Prop) (ws : List V), vs = .ref a :: ws ∧ (∀ b, O b → H b ≠ none) ∧ OwnAt K (Hs H O) H wo a fp ∧ (∀ b ∈ fp, O b) ∧ wo.data = none ∧ DvL K (Hs H O) ds ws ∧ sp wo ds Qd ∧
  ∀ d wo' v H' fp', (∀ b o, H b = some o → b ∉ fp → H' b = some o) → (∀ b, H b ≠ none → H' b ≠ none) → OwnAt K (Hs H' fun b => O b ∨ b ∈ fp') H' wo' a fp' → (∀ b ∈ fp', (H b = none ∧ H' b ≠ none) ∨ b ∈ fp) → Dv K (Hs H' fun b => O b ∨ b ∈ fp') d v → Qd d wo' → Q v H'
def fxI (H : Hp) (O : Own) (a : Addr) (fp : List Addr) : Fx := ⟨H, O, fun b => b ∈ fp, some a, fun _ => none⟩
theorem start_goodI {K : Fg} {H : Hp} {O : Own} {N : List Str} {ds : List PyData} {vs : List V} {a : Addr} {fp : List Addr} {w : Ow} (hN : N ≠ []) (hd : ∀ b, O b → H b ≠ none) (ha : OwnAt K (Hs H O) H w a fp) (hf : ∀ b ∈ fp, O b) (hw : w.data = none) (h : DvL K (Hs H O) ds vs) :
    Good K (fxI H O a fp) (.own w :: startD (N.length - 1) ds) O (start N (.ref a :: vs)) H (fun _ => a) (fun _ => fp) := by
  have hl := h.length
  refine ⟨?_, fun b o e _ => e, fun b e => e, fun b o e => (nomatch e), fun b e => e, hd, hd, fun i d e => ?_, fun i w' e => ?_, fun i j w1 w2 e e' hij => ?_, fun a' w' e1 e2 => Option.some.inj e1⟩
  · unfold L2.start startD
    have hn : 0 < N.length := List.length_pos_iff.mpr hN
    simp only [List.length_append, List.length_map, List.length_replicate, List.length_cons, hl]
    omega
  · cases i with
    | zero => cases e
    | succ i =>
      obtain ⟨d', h1, h2⟩ := startD_slot (show slot (startD (N.length - 1) ds) i = .val d from e) fun z => nomatch z
      cases h2
      obtain ⟨x, g1, g2⟩ := h.get h1
      refine ⟨x, ?_, g2⟩
      unfold L2.start
      have hi : i < vs.length := (List.getElem?_eq_some_iff.mp g1).1
      rw [List.getElem?_append_left (by simpa using hi), List.getElem?_map]
      show Option.map some (vs[i]?) = _
      rw [g1]; rfl
  · cases i with
    | zero =>
      have e' : Slot.own w = Slot.own w' := e
      cases e'
      exact ⟨rfl, ha, hf, fun b hb => .inr ⟨hw, hb⟩⟩
    | succ i =>
      obtain ⟨d', _, h2⟩ := startD_slot (show slot (startD (N.length - 1) ds) i = .own w' from e) fun z => nomatch z
      cases h2
  · cases i with
    | succ i =>
      obtain ⟨d', _, h2⟩ := startD_slot (show slot (startD (N.length - 1) ds) i = .own w1 from e) fun z => nomatch z
      cases h2
    | zero =>
      cases j with
      | zero => exact absurd rfl hij
      | succ j =>
        obtain ⟨d', _, h2⟩ := startD_slot (show slot (startD (N.length - 1) ds) j = .own w2 from e') fun z => nomatch z
        cases h2
theorem fnI_ok {P : Program} {w : World} {K : Fg} {mg : Str → Option Value} {base : Heap} {x qual : Str} {st : Stmt} {f : Addr} {fd : FuncData} {N ps : List Str} {k : Nat} {sp : DSpI} (Fn : Fun K x qual st f fd) (S : FnScope N ps (defScope st)) (hN : N ≠ []) (len : ∀ wo ds Q, sp wo ds Q → ds.length + 1 = ps.length)
    (hbody : ∀ (cdv : Value) (A : Around) (outer : List Env) (s : Shared) (H : Hp) (E : XK), Room k (A.deeper (envOfC qual (defScope st) s.heap.objs.size f cdv)) →
      ∃ t, DSs (cxOf CX0 P w K mg base N qual (defScope st) f cdv A outer s H E).nox true (defBody st) t ∧ ∀ wo ds Qd, sp wo ds Qd →
        t { nx := fun ρ => ∃ wo', slot ρ 0 = .own wo' ∧ Qd .none wo', rt := fun r ρ => ∃ d wo', r = .d d ∧ slot ρ 0 = .own wo' ∧ Qd d wo' } (.own wo :: startD (N.length - 1) ds)) :
    FnOk P w K mg base CX0 (k + 1) f fd ps (spI K sp) := by
  refine Fn.ok S (fun vs H Q E h => ?_) fun cdv A outer s H vs Q E hr h => ?_
  · obtain ⟨O, a, fp, wo, ds, Qd, ws, e, _, _, _, _, D, q, _⟩ := h
    rw [e, List.length_cons, D.length, len wo ds Qd q]
  · obtain ⟨O, a, fp, wo, ds, Qd, ws, rfl, hd, ho, hf, hw, D, q, fin⟩ := h
    obtain ⟨t, ⟨ts, p, s⟩, hq⟩ := hbody cdv A outer s H E hr
    have last : ∀ {ρ : DEnv} {O' : Own} {H' : Hp} {d : PyData} {v : V} {wo' : Ow}, Aft K (fxI H O a fp) ρ O' H' → Dv K (Hs H' O') d v → slot ρ 0 = .own wo' → Qd d wo' → Q v H' := fun {ρ O' H' d v wo'} af dv es q' => by
      obtain ⟨fp', g1, g2⟩ := af.io a wo' rfl es
      exact fin d wo' v H' fp' af.frame af.alive g1 (fun b hb => (g2 b hb).1) (Dv.mono (Hs_mono fun b o e n => ⟨e, fun z => z.elim (fun z => n (af.base b z)) fun z => n (g2 b z).2⟩) dv) q'
    refine ⟨ts, p, s (fxI H O a fp) _ O _ H _ _ _ _ (fun z => nomatch z) (start_goodI hN hd ho hf hw D) ⟨fun ρ O' σ H' A' P' G q' => ?_, fun _ _ _ _ _ _ _ z => z, fun _ _ _ _ _ _ _ z => z, fun r ρ v O' H' af rt q' => ?_⟩ (hq wo ds Qd q)⟩
    · obtain ⟨wo', e1, q2⟩ := q'
      exact last G.aft (show Dv K (Hs H' O') .none .non from rfl) e1 q2
    · obtain ⟨d, wo', rfl, e1, q2⟩ := q'
      exact last af rt e1 q2

section
variable {X : Cx} {io : Bool} {e a b c o tg : Expr} {es : List Expr} {pos : Pos} {tl : DTL}
/-- f(name, e, ..): the name's own object may change -/
def dCallI (i : Nat) (sp : DSpI) (t : DTL) : DTE := fun ρ Q => match slot ρ i with
  | .own w0 => w0.data = none ∧ t ρ fun ds ρ1 => match slot ρ1 i with
    | .own w => w.data = none ∧ sp w ds fun d w' => w'.data = none ∧ Q (.d d) (put ρ1 i (.own w'))
    | _ => False
  | _ => False
theorem sim_callI {K : Fg} {te : TA} {sp : DSpI} {E : XK} {i : Nat} (s : SimL K te tl) : Sim K (tCall (spI K sp) [] E (tCons (tVar i) te)) (dCallI i sp tl) := fun F ρ O σ H A P Qd Q G q k => by
  unfold dCallI at q
  cases s0 : slot ρ i with
  | free => simp only [s0] at q
  | val d => simp only [s0] at q
  | own w0 =>
    simp only [s0] at q
    obtain ⟨g1, _⟩ := G.own i w0 s0
    refine ⟨_, g1, s F ρ O σ H A P _ _ G q.2 fun ds ρ1 vs O1 H1 A1 P1 S1 G1 D1 q1 => ?_⟩
    cases s1 : slot ρ1 i with
    | free => simp only [s1] at q1
    | val d => simp only [s1] at q1
    | own w =>
      simp only [s1] at q1
      obtain ⟨f1, f2, f3, f4⟩ := G1.own i w s1
      rw [g1] at f1
      have ea : A i = A1 i := V.ref.inj (Option.some.inj (Option.some.inj f1))
      rw [List.append_nil]
      refine ⟨O1, A i, P1 i, w, ds, _, vs, rfl, G1.dom, ea ▸ f2, f3, q1.1, D1, q1.2, fun d w' v H2 fp' kp dm ow hf dv q2 => ?_⟩
      have hl : i < ρ1.length := slot_lt (by rw [s1]; exact fun z => nomatch z)
      have nfp : ∀ b, O1 b → b ∉ P1 i → b ∉ fp' := fun b hb n z => (hf b z).elim (fun z => G1.dom b hb z.1) n
      have keep : ∀ b, O1 b → b ∉ P1 i → H2 b = H1 b := fun b hb n => by
        cases qq : H1 b with
        | none => exact absurd qq (G1.dom b hb)
        | some o => exact kp b o qq n
      have sst : Same (Hs H1 O1) (Hs H2 fun b => O1 b ∨ b ∈ fp') := Hs_mono fun b o e n => ⟨kp b o e fun z => n (f3 b z), fun z => z.elim n fun z => (hf b z).elim (fun z => ne_of_none e z.1 rfl) fun z => n (f3 b z)⟩
      have bk : ∀ (j : Nat) (w2 : Ow), slot (put ρ1 i (.own w')) j = .own w2 → (j = i ∧ w2 = w') ∨ (j ≠ i ∧ slot ρ1 j = .own w2) := fun j w2 e => by
        by_cases hj : i = j
        · subst hj
          rw [slot_put hl] at e
          cases e
          exact .inl ⟨rfl, rfl⟩
        · rw [slot_put_ne hj] at e
          exact .inr ⟨fun z => hj z.symm, e⟩
      have S2 : Stp ρ1 O1 H1 P1 (put ρ1 i (.own w')) (fun b => O1 b ∨ b ∈ fp') H2 (fun j => if j = i then fp' else P1 j) := by
        refine ⟨fun b o e n => ⟨kp b o e fun z => n (f3 b z), fun z => z.elim n fun z => (hf b z).elim (fun z => ne_of_none e z.1 rfl) fun z => n (f3 b z)⟩, fun b hb n => ⟨keep b hb (n i w s1), .inl hb, fun j w2 e => ?_⟩, fun j hj => ?_, dm⟩
        · rcases bk j w2 e with ⟨rfl, _⟩ | ⟨hj, e'⟩
          · rw [if_pos rfl]; exact nfp b hb (n j w s1)
          · rw [if_neg hj]; exact n j w2 e'
        · by_cases hij : i = j
          · subst hij
            rw [slot_put hl]; exact fun z => nomatch z
          · rw [slot_put_ne hij]; exact hj
      refine k (.d d) _ v [] (fun b => O1 b ∨ b ∈ fp') H2 A1 (fun j => if j = i then fp' else P1 j) (S1.trans S2) ⟨by rw [put_length]; exact G1.len, fun b o e n => ?_, fun b h => dm b (G1.alive b h), fun b o h => ?_, fun b h => .inl (G1.base b h), G1.dom0, fun b h => ?_, fun j d' e => ?_, fun j w2 e => ?_, fun j l w1 w2 e e' hjl b hb => ?_, fun a' w2 e1 e2 => ?_⟩ ?_ nw_d q2.2
      · have e1 := G1.frame b o e n
        by_cases hb : b ∈ P1 i
        · exfalso
          rcases f4 b hb with z | z
          · rw [z] at e; cases e
          · exact n z.2
        · exact kp b o e1 hb
      · obtain ⟨h1, h2⟩ := G1.still b o h
        exact ⟨kp b o h1 fun z => h2 (f3 b z), fun z => z.elim h2 fun z => (hf b z).elim (fun z => ne_of_none h1 z.1 rfl) fun z => h2 (f3 b z)⟩
      · rcases h with h | h
        · exact dm b (G1.dom b h)
        · rcases hf b h with z | z
          · exact z.2
          · exact dm b (G1.dom b (f3 b z))
      · by_cases hj : i = j
        · subst hj
          rw [slot_put hl] at e
          cases e
        · rw [slot_put_ne hj] at e
          obtain ⟨x, h1, h2⟩ := G1.val j d' e
          exact ⟨x, h1, h2.mono sst⟩
      · rcases bk j w2 e with ⟨rfl, rfl⟩ | ⟨hj, e'⟩
        · refine ⟨by rw [g1, ea], by rw [if_pos rfl, ← ea]; exact ow, fun b hb => ?_, fun b hb => ?_⟩
          · rw [if_pos rfl] at hb; exact .inr hb
          · rw [if_pos rfl] at hb
            rcases hf b hb with z | z
            · refine .inl ?_
              cases qq : F.H0 b with
              | none => rfl
              | some o => exact absurd z.1 (G1.alive b (by rw [qq]; exact fun z => nomatch z))
            · exact (f4 b z).imp id fun z => ⟨q2.1, z.2⟩
        · obtain ⟨h1, h2, h3, h4⟩ := G1.own j w2 e'
          rw [if_neg hj]
          exact ⟨h1, h2.keep sst fun b hb => keep b (h3 b hb) (G1.sep j i w2 w e' s1 hj b hb), fun b hb => .inl (h3 b hb), h4⟩
      · rcases bk j w1 e with ⟨rfl, _⟩ | ⟨hj, e1⟩
        · rw [if_pos rfl] at hb
          rcases bk l w2 e' with ⟨rfl, _⟩ | ⟨hk, e2⟩
          · exact absurd rfl hjl
          · rw [if_neg hk]
            intro z
            exact nfp b ((G1.own l w2 e2).2.2.1 b z) (fun y => G1.sep l j w2 w e2 s1 hk b z y) hb
        · rw [if_neg hj] at hb
          rcases bk l w2 e' with ⟨rfl, _⟩ | ⟨hk, e2⟩
          · rw [if_pos rfl]
            exact nfp b ((G1.own j w1 e1).2.2.1 b hb) (G1.sep j l w1 w e1 s1 hj b hb)
          · rw [if_neg hk]
            exact G1.sep j l w1 w2 e1 e2 hjl b hb
      · rcases bk 0 w2 e2 with ⟨h0, _⟩ | ⟨_, e'⟩
        · subst h0
          exact G1.pin a' w e1 s1
        · exact G1.pin a' w2 e1 e'
      · exact dv
end
end DL
namespace DL
open PySem PySem.Spec PyProof.Rows L2
section
variable {K : Fg}
theorem atI_dv {Hst : Hp} {ds : List PyData} {xs : List V} {i : Int} {d : PyData} (h : DvL K Hst ds xs) (e : atI ds i = some d) : ∃ x, atI xs i = some x ∧ Dv K Hst d x := by
  unfold atI at e ⊢
  rw [h.length]
  cases q : ixN ds.length i with
  | none => rw [q] at e; cases e
  | some j =>
    rw [q] at e
    exact h.get e
/-! ### places -/
def gIx : G2 := fun d e Q => match d, e with
  | .list ds, .int i => match atI ds i with
    | some x => Q (.d x)
    | none => False
  | .tuple ds, .int i => match atI ds i with
    | some x => Q (.d x)
    | none => False
  | .str z, .int i => z.length ≤ sizeLine ∧ match atI z.cps.toList i with
    | some c => Q (.d (.str ⟨#[c]⟩))
    | none => False
  | _, _ => False
theorem opl_ix : OpL K (rIx K) gIx := fun O H d e x y Qd Q hd hx hy q k => by
  unfold gIx at q
  split at q
  · obtain ⟨a, xs, e1, h1, h2⟩ := hx
    split at q
    · next x' heq =>
      obtain ⟨v, g1, g2⟩ := atI_dv h2 heq
      exact .inl ⟨a, xs, _, v, e1, hy, h1, g1, k _ _ H (Out.sc g2) q⟩
    · exact q.elim
  · obtain ⟨a, xs, e1, h1, h2⟩ := hx
    split at q
    · next x' heq =>
      obtain ⟨v, g1, g2⟩ := atI_dv h2 heq
      exact .inr (.inl ⟨a, xs, _, v, e1, hy, h1, g1, k _ _ H (Out.sc g2) q⟩)
    · exact q.elim
  · obtain ⟨hz, q⟩ := q
    split at q
    · next c heq => exact .inr (.inr ⟨_, _, c, hx, hy, hz, heq, k _ _ H (Out.sc (d := .str _) rfl) q⟩)
    · exact q.elim
  · exact q.elim
/-! ### built-ins -/
def gLen : GL := fun ds Q => match ds with
  | [.list xs] => Q (.d (.int xs.length))
  | [.tuple xs] => Q (.d (.int xs.length))
  | [.str z] => z.length ≤ sizeLine ∧ Q (.d (.int z.length))
  | _ => False
def rLenA (K : Fg) : List V → Hp → VK → Prop := fun xs H Q => (∃ p ys, xs = [.ref p] ∧ (SqL K H p ys ∨ SqT K H p ys) ∧ Q (.int ys.length) H) ∨ ∃ z, xs = [.str z] ∧ z.length ≤ sizeLine ∧ Q (.int z.length) H
theorem CallR.or {X : Cx} {f : Value} {r1 r2 : List V → Hp → VK → Prop} (h1 : CallR X f r1) (h2 : CallR X f r2) : CallR X f (fun xs H Q => r1 xs H Q ∨ r2 xs H Q) := fun pins s σ H xs us Q I r h =>
  h.elim (h1 pins s σ H xs us Q I r) (h2 pins s σ H xs us Q I r)
theorem call_lenA {X : Cx} : CallR X (.builtin "len") (rLenA X.K) := CallR.or call_len_seq call_len_str
theorem cll_len : ClL K (rLenA K) gLen := fun O H ds xs Qd Q hd hx q k => by
  unfold gLen at q
  split at q
  · obtain ⟨v, ws, e1, h1, h2⟩ := hx
    obtain ⟨a, ys, e2, g1, g2⟩ := h1
    have e3 : ws = [] := h2
    exact .inl ⟨a, ys, by rw [e1, e2, e3], .inl g1, by rw [g2.length]; exact k _ _ H (Out.sc (d := .int _) rfl) q⟩
  · obtain ⟨v, ws, e1, h1, h2⟩ := hx
    obtain ⟨a, ys, e2, g1, g2⟩ := h1
    have e3 : ws = [] := h2
    exact .inl ⟨a, ys, by rw [e1, e2, e3], .inr g1, by rw [g2.length]; exact k _ _ H (Out.sc (d := .int _) rfl) q⟩
  · obtain ⟨v, ws, e1, h1, h2⟩ := hx
    have e2 : v = V.str _ := h1
    have e3 : ws = [] := h2
    exact .inr ⟨_, by rw [e1, e2, e3], q.1, k _ _ H (Out.sc (d := .int _) rfl) q.2⟩
  · exact q.elim
def g2I (f : Int → Int → Int) : GL := fun ds Q => match ds with
  | [.int i, .int j] => Q (.d (.int (f i j)))
  | _ => False
theorem cll_2I {f : Int → Int → Int} : ClL K (fun xs H Q => ∃ i j, xs = [.int i, .int j] ∧ Q (.int (f i j)) H) (g2I f) := fun O H ds xs Qd Q hd hx q k => by
  unfold g2I at q
  split at q
  · obtain ⟨v, ws, e1, h1, v2, ws2, e2, h2, h3⟩ := hx
    have e3 : v = V.int _ := h1
    have e4 : v2 = V.int _ := h2
    have e5 : ws2 = [] := h3
    exact ⟨_, _, by rw [e1, e2, e3, e4, e5], k _ _ H (Out.sc (d := .int _) rfl) q⟩
  · exact q.elim
def gTuple : GL := fun ds Q => match ds with
  | [.list xs] => Q (.d (.tuple xs))
  | [.tuple xs] => False
  | _ => False
theorem cll_tuple : ClL K (fun xs H Q => ∃ p ys, xs = [.ref p] ∧ ((SqL K H p ys ∧ ∀ l, H l = none → Q (.ref l) (upd H l (.tup ys))) ∨ (SqT K H p ys ∧ Q (.ref p) H))) gTuple := fun O H ds xs Qd Q hd hx q k => by
  unfold gTuple at q
  split at q
  · obtain ⟨v, ws, e1, h1, h2⟩ := hx
    obtain ⟨a, ys, e2, g1, g2⟩ := h1
    have e3 : ws = [] := h2
    exact ⟨a, ys, by rw [e1, e2, e3], .inl ⟨g1, fun p hp => k _ _ _ (Out.tup hd hp g2) q⟩⟩
  · exact q.elim
  · exact q.elim
def gList : GL := fun ds Q => match ds with
  | [.list xs] => Q (.n (.lst xs))
  | [.tuple xs] => Q (.n (.lst xs))
  | _ => False
theorem cll_list : ClL K (fun xs H Q => ∃ p ys, xs = [.ref p] ∧ (SqL K H p ys ∨ SqT K H p ys) ∧ ∀ l, H l = none → Q (.ref l) (upd H l (.lst ys))) gList := fun O H ds xs Qd Q hd hx q k => by
  unfold gList at q
  split at q
  · obtain ⟨v, ws, e1, h1, h2⟩ := hx
    obtain ⟨a, ys, e2, g1, g2⟩ := h1
    have e3 : ws = [] := h2
    exact ⟨a, ys, by rw [e1, e2, e3], .inl g1, fun p hp => k _ _ _ (Out.lst hd hp g2) q⟩
  · obtain ⟨v, ws, e1, h1, h2⟩ := hx
    obtain ⟨a, ys, e2, g1, g2⟩ := h1
    have e3 : ws = [] := h2
    exact ⟨a, ys, by rw [e1, e2, e3], .inr g1, fun p hp => k _ _ _ (Out.lst hd hp g2) q⟩
  · exact q.elim
def gInt : GL := fun ds Q => match ds with
  | [.int i] => Q (.d (.int i))
  | [.bool b] => Q (.d (.int (if b then 1 else 0)))
  | _ => False
theorem cll_int : ClL K (fun xs H Q => (∃ i, xs = [.int i] ∧ Q (.int i) H) ∨ ∃ k, xs = [.bl k] ∧ Q (.int (if k then 1 else 0)) H) gInt := fun O H ds xs Qd Q hd hx q k => by
  unfold gInt at q
  split at q
  · obtain ⟨v, ws, e1, h1, h2⟩ := hx
    have e2 : v = V.int _ := h1
    have e3 : ws = [] := h2
    exact .inl ⟨_, by rw [e1, e2, e3], k _ _ H (Out.sc (d := .int _) rfl) q⟩
  · obtain ⟨v, ws, e1, h1, h2⟩ := hx
    have e2 : v = V.bl _ := h1
    have e3 : ws = [] := h2
    exact .inr ⟨_, by rw [e1, e2, e3], k _ _ H (Out.sc (d := .int _) rfl) q⟩
  · exact q.elim
end
section
variable {X : Cx} {io : Bool} {e a b c o tg : Expr} {es : List Expr} {pos : Pos} {ta tb tc : DTE} {tas : DTA} {tl : DTL}
theorem de_ix (ha : DE X a ta) (hb : DE X b tb) (hs : PlainIx b) : DE X (.Subscript a b pos) (d2 gIx ta tb) := by
  obtain ⟨ea, pa, sa⟩ := ha
  obtain ⟨eb, pb, sb⟩ := hb
  exact ⟨_, pe_ix ix_seq pa pb hs, sim_2 opl_ix sa sb⟩

/-! ### slices -/
abbrev DTO := DEnv → (Option Int → DEnv → Prop) → Prop
def DO (X : Cx) (e : Option Expr) (t : DTO) : Prop := ∃ te, PO X e te ∧ ∀ (F : Fx) (ρ : DEnv) (O : Own) (σ : Sg) (H : Hp) (A : Nat → Addr) (P : Nat → List Addr) (Qd : Option Int → DEnv → Prop) (Q : Option Int → Hp → Prop), Good X.K F ρ O σ H A P → t ρ Qd →
  (∀ r ρ' O' H' A' P', Stp ρ O H P ρ' O' H' P' → Good X.K F ρ' O' σ H' A' P' → Qd r ρ' → Q r H') → te σ H Q
def dNo : DTO := fun ρ Q => Q none ρ
def dPart (t : DTE) : DTO := fun ρ Q => t ρ fun r ρ1 => match view ρ1 r with
  | some (.int i) => Q (some i) ρ1
  | _ => False
theorem do_none : DO X none dNo := ⟨_, po_none, fun F ρ O σ H A P Qd Q G q k => k none ρ O H A P Stp.refl G q⟩
theorem do_some (h : DE X e ta) : DO X (some e) (dPart ta) := by
  obtain ⟨te, p, s⟩ := h
  refine ⟨_, po_some p, fun F ρ O σ H A P Qd Q G q k => s F ρ O σ H A P _ _ G q fun r ρ1 v fp O1 H1 A1 P1 S1 G1 R1 N1 q1 => ?_⟩
  cases e1 : view ρ1 r with
  | none => simp only [e1] at q1
  | some d =>
    simp only [e1] at q1
    cases d with
    | int i =>
      have V1 : v = V.int i := view_ok G1 R1 e1
      exact ⟨i, V1, k (some i) ρ1 O1 H1 A1 P1 S1 G1 q1⟩
    | _ => exact (show False from q1).elim
def cutD (ds : List PyData) (lo hi : Option Int) : List PyData := (ds.drop (HT.sIx ds.length 0 lo)).take (HT.sIx ds.length ds.length hi - HT.sIx ds.length 0 lo)
theorem cut_dv {K : Fg} {H : Hp} {ds : List PyData} {xs : List V} {lo hi : Option Int} (h : DvL K H ds xs) : DvL K H (cutD ds lo hi) (cutV xs lo hi) := by
  unfold cutD cutV
  rw [h.length]
  exact (h.drop _).take _
def gSl (d : PyData) (lo hi : Option Int) (Q : RV → Prop) : Prop := match d with
  | .list ds => Q (.n (.lst (cutD ds lo hi)))
  | .tuple ds => ¬ (HT.sIx ds.length 0 lo = 0 ∧ HT.sIx ds.length ds.length hi = ds.length) ∧ Q (.d (.tuple (cutD ds lo hi)))
  | .str z => z.length ≤ sizeLine ∧ Q (.d (.str (cutS z lo hi)))
  | _ => False
def rSlA (K : Fg) : V → Option Int → Option Int → Hp → VK → Prop := fun x lo hi H Q => rSlL K x lo hi H Q ∨ rSlT K x lo hi H Q ∨ rSlS x lo hi H Q
theorem SlR.or {r1 r2 : V → Option Int → Option Int → Hp → VK → Prop} (h1 : L2.SlR X r1) (h2 : L2.SlR X r2) : L2.SlR X (fun x lo hi H Q => r1 x lo hi H Q ∨ r2 x lo hi H Q) := by
  intro pins s σ H x v vl vu lo hi sl Q I rx hs pl pu h
  rcases h with h | h
  · exact h1 pins s σ H x v vl vu lo hi sl Q I rx hs pl pu h
  · exact h2 pins s σ H x v vl vu lo hi sl Q I rx hs pl pu h
theorem sl_all : L2.SlR X (rSlA X.K) := SlR.or sl_list (SlR.or sl_tup sl_str)
def dSl (ta : DTE) (tl th : DTO) : DTE := fun ρ Q => ta ρ fun r ρ1 => tl ρ1 fun lo ρ2 => th ρ2 fun hi ρ3 => match view ρ3 r with
  | some d => gSl d lo hi fun rv => Q rv ρ3
  | none => False
theorem de_slice {lo hi : Option Expr} {p2 : Pos} {tlo thi : DTO} (ha : DE X a ta) (hl : DO X lo tlo) (hh : DO X hi thi) : DE X (.Subscript a (.Slice lo hi none p2) pos) (dSl ta tlo thi) := by
  obtain ⟨ea, pa, sa⟩ := ha
  obtain ⟨el, pl, sl⟩ := hl
  obtain ⟨eh, ph, sh⟩ := hh
  refine ⟨_, pe_slice sl_all pa pl ph, fun F ρ O σ H A P Qd Q G q k => sa F ρ O σ H A P _ _ G q fun r ρ1 v fp O1 H1 A1 P1 S1 G1 R1 N1 q1 => ?_⟩
  refine sl F ρ1 O1 σ H1 A1 P1 _ _ G1 q1 fun l ρ2 O2 H2 A2 P2 S2 G2 q2 => ?_
  refine sh F ρ2 O2 σ H2 A2 P2 _ _ G2 q2 fun h ρ3 O3 H3 A3 P3 S3 G3 q3 => ?_
  have S := (S1.trans S2).trans S3
  cases e1 : view ρ3 r with
  | none => simp only [e1] at q3
  | some d =>
    simp only [e1] at q3
    have V1 := view_ok G3 ((S2.trans S3).rk R1) e1
    have fin : ∀ (rv : RV) (u : V) (H4 : Hp), Out X.K O3 H3 rv u H4 → Qd rv ρ3 → Q u H4 := fun rv u H4 o q4 => by
      obtain ⟨O4, fo, S4, G4, R4, N4⟩ := o.fin G3
      exact k rv ρ3 u fo O4 H4 A3 P3 (S.trans S4) G4 R4 (S.back N4) q4
    cases d with
    | list ds =>
      obtain ⟨p, xs, e2, g1, g2⟩ := V1
      exact .inl ⟨p, xs, e2, g1, fun np hp => fin _ _ _ (Out.lst G3.dom hp (cut_dv g2)) q3⟩
    | tuple ds =>
      obtain ⟨p, xs, e2, g1, g2⟩ := V1
      exact .inr (.inl ⟨p, xs, e2, g1, by rw [g2.length]; exact q3.1, fun np hp => fin _ _ _ (Out.tup G3.dom hp (cut_dv g2)) q3.2⟩)
    | str z => exact .inr (.inr ⟨z, V1, q3.1, fin _ _ _ (Out.sc (d := .str _) rfl) q3.2⟩)
    | _ => exact (show False from q3).elim

/-! ### methods of built-in types -/
def tyD (T : String) : PyData → Prop
  | .str _ => T = "str"
  | .list _ => T = "list"
  | _ => False
theorem tyV_of {K : Fg} {Hst H : Hp} {T : String} {d : PyData} {v : V} (h : Dw K Hst H d v) (e : tyD T d) : tyV K T v H := by
  cases d with
  | str s => have h' : v = V.str s := h; subst h'; exact e
  | list ds =>
    obtain ⟨a, xs, rfl, h1, h2⟩ := h
    exact .inl ⟨e, xs, h1⟩
  | _ => exact (show False from e).elim
abbrev GM := PyData → List PyData → (RV → Prop) → Prop
def MtL (K : Fg) (r : V → List V → Hp → VK → Prop) (g : GM) : Prop := ∀ (O : Own) (H : Hp) (d : PyData) (ds : List PyData) (x : V) (xs : List V) (Qd : RV → Prop) (Q : VK), (∀ b, O b → H b ≠ none) → Dw K (Hs H O) H d x → DwL K (Hs H O) H ds xs → g d ds Qd →
  (∀ rv v H', Out K O H rv v H' → Qd rv → Q v H') → r x xs H Q
def dBM (T : String) (g : GM) (to : DTE) (t : DTA) : DTE := fun ρ Q => to ρ fun r ρ0 => (match view ρ0 r with
  | some d => tyD T d
  | none => False) ∧ t ρ0 fun rs ρ1 => match view ρ1 r, views ρ1 rs with
  | some d, some ds => g d ds fun rv => Q rv ρ1
  | _, _ => False
theorem sim_bm {K : Fg} {T : String} {eo : TE} {te : TA} {r : V → List V → Hp → VK → Prop} {g : GM} (L : MtL K r g) (so : Sim K eo ta) (s : SimA K te tas) : Sim K (tBM K T r eo te) (dBM T g ta tas) := fun F ρ O σ H A P Qd Q G q k => by
  refine so F ρ O σ H A P _ _ G q fun r1 ρ1 v1 fp1 O1 H1 A1 P1 S1 G1 R1 N1 q1 => ?_
  obtain ⟨ty, q1⟩ := q1
  refine ⟨?_, s F ρ1 O1 σ H1 A1 P1 _ _ G1 q1 fun rs ρ2 vs O2 H2 A2 P2 S2 G2 R2 q2 => ?_⟩
  · cases e1 : view ρ1 r1 with
    | none => simp only [e1] at ty
    | some d =>
      simp only [e1] at ty
      exact tyV_of (view_ok G1 R1 e1) ty
  · cases e1 : view ρ2 r1 with
    | none => simp only [e1] at q2
    | some d =>
      cases e2 : views ρ2 rs with
      | none => simp only [e1, e2] at q2
      | some ds =>
        simp only [e1, e2] at q2
        refine L O2 H2 d ds v1 vs _ _ G2.dom (view_ok G2 (S2.rk R1) e1) (views_ok G2 R2 e2) q2 fun rv v H3 o q3 => ?_
        obtain ⟨O3, fo, S3, G3, R3, N3⟩ := o.fin G2
        have S := S1.trans S2
        exact k rv ρ2 v fo O3 H3 A2 P2 (S.trans S3) G3 R3 (S.back N3) q3
theorem de_bm {call : Expr} {T : String} {r : V → List V → Hp → VK → Prop} {g : GM} (hp : ∀ to t, PE X o to → PA X es t → PE X call (tBM X.K T r to t)) (L : MtL X.K r g) (ho : DE X o ta) (ha : DA X es tas) : DE X call (dBM T g ta tas) := by
  obtain ⟨eo, po, so⟩ := ho
  obtain ⟨te, pa, s⟩ := ha
  exact ⟨_, hp _ _ po pa, sim_bm L so s⟩
/-- s.count(t) -/
def gCount : GM := fun d ds Q => match d, ds with
  | .str x, [.str y] => Q (.d (.int (Txt.count x y)))
  | _, _ => False
theorem mtl_count {K : Fg} : MtL K (fun x xs H Q => ∃ a b, x = .str a ∧ xs = [.str b] ∧ Q (.int (Txt.count a b)) H) gCount := fun O H d ds x xs Qd Q hd hx hxs q k => by
  unfold gCount at q
  split at q
  · obtain ⟨v, ws, e1, h1, h2⟩ := hxs
    have e2 : v = V.str _ := h1
    have e3 : ws = [] := h2
    exact ⟨_, _, hx, by rw [e1, e2, e3], k _ _ H (Out.sc (d := .int _) rfl) q⟩
  · exact q.elim

/-! ### name.append(e), name.pop() -/
def dApp (i : Nat) (t : DTE) : DTS := fun D ρ => match slot ρ i with
  | .own (.lst _) => dSt t ρ fun d ρ1 => match slot ρ1 i with
    | .own (.lst ds) => ds.length < sizeLine ∧ D.nx (put ρ1 i (.own (.lst (ds ++ [d]))))
    | _ => False
  | _ => False
/-- an owned list is changed by place -/
theorem Good.chg {K : Fg} {F : Fx} {ρ : DEnv} {O : Own} {σ : Sg} {H : Hp} {A : Nat → Addr} {P : Nat → List Addr} {i : Nat} {ds ds' : List PyData} {xs' : List V} (G : Good K F ρ O σ H A P) (hs : slot ρ i = .own (.lst ds)) (h : DvL K (Hs H O) ds' xs') :
    Good K F (put ρ i (.own (.lst ds'))) O σ (upd H (A i) (.lst xs')) A P := by
  obtain ⟨g1, g2, g3, g4⟩ := G.own i _ hs
  obtain ⟨f1, xs, f2, f3⟩ := g2
  have hA : O (A i) := g3 _ (by rw [f1]; simp)
  have h0 : F.H0 (A i) = none := (g4 (A i) (by rw [f1]; simp)).resolve_right fun z => nomatch z.1
  have hl : i < ρ.length := slot_lt (by rw [hs]; exact fun z => nomatch z)
  have nO : ∀ b, ¬ O b → b ≠ A i := fun b n z => n (by rw [z]; exact hA)
  have sst : Same (Hs H O) (Hs (upd H (A i) (.lst xs')) O) := Hs_mono fun b o e n => ⟨by rw [upd_ne (nO b n)]; exact e, n⟩
  have dm : ∀ b, H b ≠ none → upd H (A i) (.lst xs') b ≠ none := fun b hb => by
    by_cases e : b = A i
    · rw [e, upd_same]; exact fun z => nomatch z
    · rw [upd_ne e]; exact hb
  have bk : ∀ (j : Nat) (w2 : Ow), slot (put ρ i (.own (.lst ds'))) j = .own w2 → (j = i ∧ w2 = .lst ds') ∨ (j ≠ i ∧ slot ρ j = .own w2) := fun j w2 e => by
    by_cases hj : i = j
    · subst hj
      rw [slot_put hl] at e
      cases e
      exact .inl ⟨rfl, rfl⟩
    · rw [slot_put_ne hj] at e
      exact .inr ⟨fun z => hj z.symm, e⟩
  have src : ∀ (j : Nat) (w2 : Ow), slot (put ρ i (.own (.lst ds'))) j = .own w2 → ∃ w3, slot ρ j = .own w3 := fun j w2 e => by
    rcases bk j w2 e with ⟨rfl, _⟩ | ⟨_, e'⟩
    · exact ⟨_, hs⟩
    · exact ⟨_, e'⟩
  refine ⟨by rw [put_length]; exact G.len, fun b o e n => ?_, fun b hb => dm b (G.alive b hb), fun b o e => ?_, G.base, G.dom0, fun b hb => dm b (G.dom b hb), fun j d e => ?_, fun j w e => ?_, fun j l w1 w2 e e' hjl => ?_, fun a w e1 e2 => ?_⟩
  · rw [upd_ne (fun z => by rw [z, h0] at e; cases e)]
    exact G.frame b o e n
  · obtain ⟨h1, h2⟩ := G.still b o e
    exact ⟨by rw [upd_ne (nO b h2)]; exact h1, h2⟩
  · by_cases hj : i = j
    · subst hj
      rw [slot_put hl] at e
      cases e
    · rw [slot_put_ne hj] at e
      obtain ⟨x, h1, h2⟩ := G.val j d e
      exact ⟨x, h1, h2.mono sst⟩
  · rcases bk j w e with ⟨rfl, rfl⟩ | ⟨hj, e'⟩
    · exact ⟨g1, ⟨f1, xs', upd_same, h.mono sst⟩, g3, fun b hb => .inl ((g4 b hb).resolve_right fun z => nomatch z.1)⟩
    · obtain ⟨h1, h2, h3, h4⟩ := G.own j w e'
      refine ⟨h1, h2.keep sst fun b hb => ?_, h3, h4⟩
      have nb : b ≠ A i := fun z => G.sep j i w _ e' hs hj b hb (by rw [f1, z]; simp)
      rw [upd_ne nb]
  · obtain ⟨w3, q1⟩ := src j w1 e
    obtain ⟨w4, q2⟩ := src l w2 e'
    exact G.sep j l w3 w4 q1 q2 hjl
  · obtain ⟨w3, q1⟩ := src 0 w e2
    exact G.pin a w3 e1 q1
theorem ds_app (i : Nat) {x : Str} {apos cpos pos p1 : Pos} (hN : X.N[i]? = some x := by rfl) (hv : Vis X.env.scope x := by first | exact Or.inl rfl | exact Or.inr (Or.inl rfl)) (he : DE X e ta)
    (hp : ∀ to t, PE X (.Name x p1) to → PA X [e] t → PE X (.Call (.Attribute (.Name x p1) "append" apos) [e] [] cpos) (tBM X.K "list" rAppend to t))
    (hs : swapsWith (.Call (.Attribute (.Name x p1) "append" apos) [e] [] cpos) none pos.line X.env = pure false := by rfl) (hst : starEach [e] X.env = (false, eval e X.env) :: starEach [] X.env := by rfl) (hd : (x == ("__debug__" : Str)) = false := by decide) (hcd : (x == ("__classdict__" : Str)) = false := by decide) :
    DS X io (.Expr (.Call (.Attribute (.Name x p1) "append" apos) [e] [] cpos) pos) (dApp i ta) := by
  obtain ⟨te, p, s⟩ := dd_of he
  refine ⟨_, ps_expr (hp _ _ (pe_var hN hv hd hcd) (pa_cons p pa_nil hst)) hs, fun F ρ O σ H A P Dd D hr G E q => ?_⟩
  unfold dApp at q
  cases s0 : slot ρ i with
  | free => simp only [s0] at q
  | val d => simp only [s0] at q
  | own w =>
    cases w with
    | lst ds0 =>
      simp only [s0] at q
      obtain ⟨g1, g2, _, _⟩ := G.own i _ s0
      obtain ⟨_, xs0, g3, _⟩ := g2
      refine ⟨_, g1, .inl ⟨rfl, xs0, SqL.of g3⟩, s F ρ O σ H A P _ _ G q fun d ρ1 v O1 H1 A1 P1 S1 G1 D1 q1 => ?_⟩
      cases s1 : slot ρ1 i with
      | free => simp only [s1] at q1
      | val d => simp only [s1] at q1
      | own w =>
        cases w with
        | lst ds =>
          simp only [s1] at q1
          obtain ⟨f1, ⟨_, xs, f2, f3⟩, _, _⟩ := G1.own i _ s1
          rw [g1] at f1
          have ea : A i = A1 i := V.ref.inj (Option.some.inj (Option.some.inj f1))
          refine ⟨A i, xs, v, rfl, rfl, by rw [ea]; exact f2, by rw [f3.length]; exact q1.1, ?_⟩
          rw [ea]
          exact E.nx _ O1 σ _ A1 P1 (G1.chg s1 (f3.app (show DvL X.K (Hs H1 O1) [d] [v] from ⟨v, [], rfl, D1, rfl⟩))) q1.2
        | _ => simp only [s1] at q1
    | _ => simp only [s0] at q
def dPop (i : Nat) : DTE := fun ρ Q => match slot ρ i with
  | .own (.lst ds) => match ds[ds.length - 1]? with
    | some d => Q (.d d) (put ρ i (.own (.lst ds.dropLast)))
    | none => False
  | _ => False
theorem DvL.dropLast {K : Fg} {H : Hp} {ds : List PyData} {xs : List V} (h : DvL K H ds xs) : DvL K H ds.dropLast xs.dropLast := by
  rw [List.dropLast_eq_take, List.dropLast_eq_take, h.length]
  exact h.take _
theorem de_pop (i : Nat) {x : Str} {apos cpos p1 : Pos} (hN : X.N[i]? = some x := by rfl) (hv : Vis X.env.scope x := by first | exact Or.inl rfl | exact Or.inr (Or.inl rfl))
    (hp : ∀ to, PE X (.Name x p1) to → PE X (.Call (.Attribute (.Name x p1) "pop" apos) [] [] cpos) (tBM0 X.K "list" rPop to)) (hd : (x == ("__debug__" : Str)) = false := by decide) (hcd : (x == ("__classdict__" : Str)) = false := by decide) :
    DE X (.Call (.Attribute (.Name x p1) "pop" apos) [] [] cpos) (dPop i) := by
  refine ⟨_, hp _ (pe_var hN hv hd hcd), fun F ρ O σ H A P Qd Q G q k => ?_⟩
  unfold dPop at q
  cases s0 : slot ρ i with
  | free => simp only [s0] at q
  | val d => simp only [s0] at q
  | own w =>
    cases w with
    | lst ds =>
      simp only [s0] at q
      cases e1 : ds[ds.length - 1]? with
      | none => simp only [e1] at q
      | some d =>
        simp only [e1] at q
        obtain ⟨g1, ⟨f0, xs, g3, g4⟩, g5, g6⟩ := G.own i _ s0
        obtain ⟨y, h1, h2⟩ := g4.get e1
        rw [← g4.length] at h1
        refine ⟨_, g1, .inl ⟨rfl, xs, SqL.of g3⟩, A i, xs, y, rfl, rfl, g3, h1, ?_⟩
        have G' := G.chg s0 g4.dropLast
        have hA : O (A i) := g5 _ (by rw [f0]; simp)
        have hl : i < ρ.length := slot_lt (by rw [s0]; exact fun z => nomatch z)
        have st : ∀ b o, H b = some o → ¬ O b → upd H (A i) (.lst xs.dropLast) b = some o ∧ ¬ O b := fun b o e n => ⟨by rw [upd_ne (fun z => n (by rw [z]; exact hA))]; exact e, n⟩
        refine k (.d d) _ y [] O _ A P ⟨st, fun b hb n => ⟨?_, hb, fun j w2 e => ?_⟩, fun j hj => ?_, fun b hb => ?_⟩ G' (Dv.mono (Hs_mono st) h2) nw_d q
        · exact upd_ne fun z => n i _ s0 (by rw [f0, z]; simp)
        · by_cases hj : i = j
          · subst hj
            exact n i _ s0
          · rw [slot_put_ne hj] at e
            exact n j w2 e
        · by_cases hij : i = j
          · subst hij
            rw [slot_put hl]; exact fun z => nomatch z
          · rw [slot_put_ne hij]; exact hj
        · by_cases e : b = A i
          · rw [e, upd_same]; exact fun z => nomatch z
          · rw [upd_ne e]; exact hb
    | _ => simp only [s0] at q

/-! ### name[i] = e of an owned list -/
def dSetI (i : Nat) (ti te : DTE) : DTS := fun D ρ => dSt te ρ fun d ρ1 => match slot ρ1 i with
  | .own (.lst _) => ti ρ1 fun r ρ2 => match view ρ2 r, slot ρ2 i with
    | some (.int k), .own (.lst ds) => match ixN ds.length k with
      | some j => D.nx (put ρ2 i (.own (.lst (ds.set j d))))
      | none => False
    | _, _ => False
  | _ => False
theorem ds_setI (i : Nat) {x : Str} {tpos pos p1 : Pos} (hN : X.N[i]? = some x := by rfl) (hv : Vis X.env.scope x := by first | exact Or.inl rfl | exact Or.inr (Or.inl rfl)) (hi : DE X a ta) (he : DE X e tb)
    (hp : ∀ to ti te, PE X (.Name x p1) to → PE X a ti → PE X e te → PS X (.Assign [.Subscript (.Name x p1) a tpos] e pos) (tAsg te (L2.gSub to ti rSetL))) (hd : (x == ("__debug__" : Str)) = false := by decide) (hcd : (x == ("__classdict__" : Str)) = false := by decide) :
    DS X io (.Assign [.Subscript (.Name x p1) a tpos] e pos) (dSetI i ta tb) := by
  obtain ⟨te, p, s⟩ := dd_of he
  obtain ⟨ti, pi, si⟩ := hi
  refine ⟨_, hp _ _ _ (pe_var hN hv hd hcd) pi p, fun F ρ O σ H A P Dd D hr G E q => s F ρ O σ H A P _ _ G q fun d ρ1 v O1 H1 A1 P1 S1 G1 D1 q1 => ?_⟩
  cases s0 : slot ρ1 i with
  | free => simp only [s0] at q1
  | val d => simp only [s0] at q1
  | own w =>
    cases w with
    | lst ds0 =>
      simp only [s0] at q1
      obtain ⟨g1, _⟩ := G1.own i _ s0
      refine ⟨_, g1, si F ρ1 O1 σ H1 A1 P1 _ _ G1 q1 fun r ρ2 v2 fp2 O2 H2 A2 P2 S2 G2 R2 N2 q2 => ?_⟩
      cases e1 : view ρ2 r with
      | none => simp only [e1] at q2
      | some dk =>
        cases s2 : slot ρ2 i with
        | free => cases dk <;> simp only [e1, s2] at q2
        | val d => cases dk <;> simp only [e1, s2] at q2
        | own w =>
          cases dk with
          | int kk =>
            cases w with
            | lst ds =>
              simp only [e1, s2] at q2
              cases e3 : ixN ds.length kk with
              | none => simp only [e3] at q2
              | some j =>
                simp only [e3] at q2
                obtain ⟨f1, ⟨_, xs, f2, f3⟩, _, _⟩ := G2.own i _ s2
                rw [g1] at f1
                have ea : A1 i = A2 i := V.ref.inj (Option.some.inj (Option.some.inj f1))
                have V2 : v2 = V.int kk := view_ok G2 R2 e1
                refine ⟨A1 i, xs, kk, j, rfl, V2, by rw [ea]; exact f2, by rw [f3.length]; exact e3, ?_⟩
                rw [ea]
                exact E.nx _ O2 σ _ A2 P2 (G2.chg s2 (f3.set (D1.mono S2.same) j)) q2
            | _ => simp only [e1, s2] at q2
          | _ => cases w <;> simp only [e1, s2] at q2
    | _ => simp only [s0] at q1
end
end DL
namespace DL
open PySem PySem.Spec PyProof.Rows L2

/-! ### enumerate of a text -/
def Ies (k : Int) (x : Str) : It := ⟨fun i _ => i < x.cps.size, fun i H v H' => ∃ (T : Addr) (c : Nat), v = .ref T ∧ H T = none ∧ H' = upd H T (.tup [.int (k + (i : Int)), .str ⟨#[c]⟩]) ∧ x.cps[i]? = some c, fun i _ => i = x.cps.size⟩
theorem turn_enumS {Pg : Program} {w : World} {K : Fg} {elts : List Expr} {kk : Nat} {tpos : Pos} (k : Int) (x : Str) (t : Tok) (e it : Addr) :
    Turn Pg w K (.Tuple elts kk tpos) (Ies k x) [e, it] e (fun i h => (∃ old, IsEnum h e it (k + (i : Int)) old) ∧ h.IsStrIter it (strIterType x) x t i ∧ e ≠ it) where
  mem := List.mem_cons_self ..
  obj := fun i h st b hb => by
    obtain ⟨⟨old, he⟩, ⟨o, ho, hc, hd⟩, _⟩ := st
    rcases List.mem_cons.mp hb with z | z
    · exact ⟨_, by rw [z]; exact he, by intro v q; cases q⟩
    · exact ⟨o, by rw [List.mem_singleton.mp z]; exact ho, fun v q => by rw [hd] at q; cases q⟩
  keep := fun i h h' st kp => ⟨st.1.imp fun old he => kp e (List.mem_cons_self ..) _ he, st.2.1.imp fun o q => ⟨kp it (by simp) o q.1, q.2⟩, st.2.2⟩
  item := by
    intro X hP hw hK hc i pins s σ H E I hf st hg
    subst hP hw hK
    obtain ⟨st1, st2, hne⟩ := st
    have W := WalksT.enumFrom (A := X.A) k (Draws.text (prog := X.prog) (w := X.w) (A := X.A.in1) (I.ok.hd hc) it x t) e hne (by simpa using hne) (by simp)
    refine W.item i s _ E hg ⟨st1, st2⟩ fun T vals h' tk hP hT hIs hMid hk => ⟨.ref T, rfl, W.go elts kk tpos i T _ _ E hMid fun h2 st' hk2 => ?_⟩
    obtain ⟨u, y, ⟨c, u', hc1, rfl⟩, rfl⟩ := hP
    obtain ⟨oT, hoT, hcT, nT, hdT⟩ := hIs
    have hTn : T ∉ [e, it] := W.apart i T h' hMid
    have hT2 := hk2 T oT hTn hoT
    have new : ObjOk X.prog X.w (upd H T (.tup [.int (k + (i : Int)), .str ⟨#[c]⟩])) h2 T (.tup [.int (k + (i : Int)), .str ⟨#[c]⟩]) :=
      ⟨by show 2 ≤ sizeLine; decide, [.int (k + (i : Int)) u, .str ⟨#[c]⟩ u'], .cons ⟨_, rfl⟩ (.cons ⟨_, rfl⟩ .nil), ⟨oT, hT2, hcT, nT, hdT⟩⟩
    have I1 : Inv X pins σ (upd H T (.tup [.int (k + (i : Int)), .str ⟨#[c]⟩])) { s with heap := h2, toks := tk } :=
      I.turnedNew (ch := [e, it]) (fun b ob hb q => hk2 b ob hb (hk b ob hb q)) hf hT new
    obtain ⟨⟨old, he⟩, hit⟩ := st'
    refine ⟨.ref T, _, I1, rfl, ⟨T, c, rfl, I.hok.fresh hT, rfl, hc1⟩, ⟨⟨old, he⟩, hit, hne⟩, fun b hb => ?_⟩
    rw [upd_ne (fun z => hTn (by rw [← z]; exact hb))]
    exact (hf b hb).1
  done := by
    intro X hP hw hK hc i pins s σ H E I hf st hg
    subst hP hw hK
    obtain ⟨st1, st2, hne⟩ := st
    have hg' : i = x.cps.size := hg
    subst hg'
    obtain ⟨old, he⟩ := st1
    obtain ⟨f0, f1, f2, f3, f4, f5⟩ := hf it (by simp)
    exact wpAny_pyNext_enum_endD (Draws.text (prog := X.prog) (w := X.w) (A := X.A.in1) (I.ok.hd hc) it x t) he st2 fun h' eb => ⟨rfl, I.turned (t' := s.toks) (fun b o hb e => eb b o hb e) f0 f1 f3 f4 f5⟩
  self := fun A i s Q E st h => let ⟨⟨_, he⟩, _⟩ := st; wpAny_pyIter_enum he h
def sgE (k : Int) (x : Str) (i : Nat) : PyData := .tuple [.int (k + (i : Int)), .str ⟨#[x.cps.getD i 0]⟩]
theorem itD_enumS {K : Fg} {k : Int} {x : Str} {S : Hp} : ItD K (Ies k x) S x.cps.size (sgE k x) := fun H O sm dm => by
  refine ⟨fun i hi => ⟨hi, fun y H' hy => ?_⟩, rfl⟩
  obtain ⟨T, c, rfl, hT, rfl, hc⟩ := hy
  have e : x.cps.getD i 0 = c := by rw [Array.getD_eq_getD_getElem?, hc]; rfl
  unfold sgE
  rw [e]
  exact Out.tup dm hT ⟨_, _, rfl, rfl, _, _, rfl, rfl, rfl⟩
section
variable {X : Cx} {e b : Expr} {pos p tpos kpos : Pos} {elts : List Expr} {kk : Nat} {ta : DTE}
def iEnumS (k : Int) (te : TA) : TI := fun σ H R => te σ H fun vs H1 => ∃ x, vs = [.str x] ∧ R (Ies k x) H1
theorem fp2 {pins : List (Addr × Obj)} {σ : L2.St} {H : Hp} {s : Shared} (I : Inv X pins σ H s) : ∀ b ∈ [s.heap.objs.size + 1, s.heap.objs.size], FpOk X pins H b := fun b hb => by
  have e' : b = s.heap.objs.size + 1 ∨ b = s.heap.objs.size := by simpa using hb
  have hle : s.heap.objs.size ≤ b := by
    rcases e' with z | z
    · rw [z]; exact Nat.le_succ _
    · rw [z]; exact Nat.le_refl _
  exact I.fpOk hle (I.hok.fresh hle)
theorem pi_enumS {te : TA} (hg : Gl X "enumerate") (hm : X.mg "enumerate" = none) (he : PA X [e] te) (hs : starEach [e] X.env = [(false, eval e X.env)] := by rfl) : PI X (.Tuple elts kk tpos) (.Call (.Name "enumerate" p) [e] [] pos) (iEnumS 0 te) := by
  refine ⟨fun pins s σ H R I h => ?_⟩
  refine Call_ (ld_blt I hg hm boot_enumerate (PyProof.Rows.callWith_type1 (thn (he.run pos pins s σ H _ I h) fun us s1 ⟨vs, H1, I1, r1, q1⟩ => ?_) hs rfl))
  obtain ⟨x, ex, q⟩ := q1
  subst ex
  cases r1 with
  | cons r rr =>
    cases rr
    obtain ⟨t, rfl⟩ := r
    refine call_enumerate_str fun h' hen hit hsz hk => wpAny_pyIter_enum hen ?_
    have I2 : Inv X pins σ H1 { s1 with heap := h' } := I1.kept (t' := s1.toks) hk
    exact ⟨s1.heap.objs.size + 1, [s1.heap.objs.size + 1, s1.heap.objs.size], _, _, H1, rfl, I2, turn_enumS 0 x t (s1.heap.objs.size + 1) s1.heap.objs.size, ⟨⟨.none, by simpa using hen⟩, hit, Nat.succ_ne_self _⟩, fp2 I1, q⟩
theorem callWith_typeK {M : Model} {A : Around} {E : Value → Shared → Prop} {s : Shared} {env : Env} {T : String} {kws : List Keyword} {rest : List Expr} {Q : Value → Shared → Prop}
    (h : wpAny M A (spliced (backTo pos (starEach (e :: rest) env))) (fun vs s1 => wpAny M A (evalAll ((backToKw pos (keywordEach kws env)).map (·.2))) (fun kvs s2 => wpAny M A (call (.type T) vs (((backToKw pos (keywordEach kws env)).filterMap (·.1)).zip kvs)) Q E s2) E s1) E s)
    (he : backTo pos (starEach (e :: rest) env) = (false, eval e env) :: backTo pos (starEach rest env)) (hpl : (backTo pos (starEach (e :: rest) env)).any (·.1) = false)
    (ha : (backToKw pos (keywordEach kws env)).all (·.1.isSome) = true) (hk : (backToKw pos (keywordEach kws env)).any (·.1.isNone) = false) :
    wpAny M A (callWith pos (.type T) [] (backTo pos (starEach (e :: rest) env)) (backToKw pos (keywordEach kws env))) Q E s := by
  have h2 : wpAny M A (evalArgs (.type T) true (backTo pos (starEach (e :: rest) env)) (backToKw pos (keywordEach kws env))) (fun a s1 => wpAny M A (call (.type T) ([] ++ a.pos) a.kw) Q E s1) E s := by
    rw [he] at h ⊢
    exact PyProof.Rows.evalArgs_kwB ha h
  unfold callWith
  refine wpAny_bind (wpAny_holding (wpAny_mono h2 (fun a s1 h1 => wpAny_bind (wpAny_standAt ?_)) fun _ _ x => x))
  simp only [hpl, hk, Bool.or_false]
  refine wpAny_bind (wpAny_pure ?_)
  exact wpAny_bind (wpAny_mono h1 (fun r s2 hr => wpAny_bind (wpAny_holding (wpAny_point (wpAny_pure hr)))) fun _ _ x => x)
/-- enumerate(text, start=k), k written -/
theorem pi_enumSk {te : TA} {k : Int} {j : Nat} {c : Pos} (hg : Gl X "enumerate") (hm : X.mg "enumerate" = none) (he : PA X [e] te) (h0 : -(2 ^ 63) ≤ k) (h1 : k < 2 ^ 63) (hs : starEach [e] X.env = [(false, eval e X.env)] := by rfl) :
    PI X (.Tuple elts kk tpos) (.Call (.Name "enumerate" p) [e] [⟨some "start", .Constant (.int k) j c, kpos⟩] pos) (iEnumS k te) := by
  refine ⟨fun pins s σ H R I h => ?_⟩
  refine wpAny_Call_Name_kw (ld_blt I hg hm boot_enumerate ?_)
  refine callWith_typeK (thn (he.run pos pins s σ H _ I h) fun us s1 ⟨vs, H1, I1, r1, q1⟩ => ?_) (by rw [hs]; rfl) (by rw [hs]; rfl) (by rfl) (by rfl)
  obtain ⟨x, ex, q⟩ := q1
  subst ex
  cases r1 with
  | cons r rr =>
    cases rr
    obtain ⟨t, rfl⟩ := r
    refine PyProof.Rows.kws_cons (wpAny_Constant_int (PyProof.Rows.kws_nil ?_))
    show wpAny _ _ (call (.type "enumerate") [.str x t] [(Str.ofString "start", .int k s1.toks)]) _ _ _
    refine enum_begins_start (begins_text x t) trivial h0 h1 fun h' hen hit hsz hk => wpAny_pyIter_enum hen ?_
    have I2 : Inv X pins σ H1 { s1 with heap := h', toks := s1.toks + 1 } := I1.kept (t' := s1.toks + 1) hk
    exact ⟨s1.heap.objs.size + 1, [s1.heap.objs.size + 1, s1.heap.objs.size], _, _, H1, rfl, I2, turn_enumS k x t (s1.heap.objs.size + 1) s1.heap.objs.size, ⟨⟨.none, by simpa using hen⟩, ⟨_, hit, rfl, rfl⟩, Nat.succ_ne_self _⟩, fp2 I1, q⟩
def dItE (k : Int) (t : DTA) : DTI := fun ρ Q => t ρ fun rs ρ1 => match views ρ1 rs with
  | some [.str s] => Q s.cps.size (sgE k s) ρ1
  | _ => False
theorem sim_enumS {K : Fg} {te : TA} {tas : DTA} {k : Int} (s : SimA K te tas) : SimI K (iEnumS k te) (dItE k tas) := fun F ρ O σ H A P Qd R G q kk => by
  refine s F ρ O σ H A P _ _ G q fun rs ρ1 vs O1 H1 A1 P1 S1 G1 R1 q1 => ?_
  cases e1 : views ρ1 rs with
  | none => simp only [e1] at q1
  | some ds =>
    have V1 := views_ok G1 R1 e1
    simp only [e1] at q1
    split at q1
    · next x heq =>
      cases heq
      obtain ⟨v, ws, e2, V2, V3⟩ := V1
      have e3 : v = V.str x := V2
      have e4 : ws = [] := V3
      exact ⟨x, by rw [e2, e3, e4], kk _ _ ρ1 _ O1 H1 A1 P1 S1 G1 itD_enumS q1⟩
    · exact q1.elim
theorem di_enumS {tas : DTA} (hg : Gl X "enumerate") (hm : X.mg "enumerate" = none) (he : DA X [e] tas) (hs : starEach [e] X.env = [(false, eval e X.env)] := by rfl) : DI X (.Tuple elts kk tpos) (.Call (.Name "enumerate" p) [e] [] pos) (dItE 0 tas) := by
  obtain ⟨te, pa, s⟩ := he
  exact ⟨_, pi_enumS hg hm pa hs, sim_enumS s⟩
theorem di_enumSk {tas : DTA} {k : Int} {j : Nat} {c : Pos} (hg : Gl X "enumerate") (hm : X.mg "enumerate" = none) (he : DA X [e] tas) (h0 : -(2 ^ 63) ≤ k := by decide) (h1 : k < 2 ^ 63 := by decide) (hs : starEach [e] X.env = [(false, eval e X.env)] := by rfl) :
    DI X (.Tuple elts kk tpos) (.Call (.Name "enumerate" p) [e] [⟨some "start", .Constant (.int k) j c, kpos⟩] pos) (dItE k tas) := by
  obtain ⟨te, pa, s⟩ := he
  exact ⟨_, pi_enumSk hg hm pa h0 h1 hs, sim_enumS s⟩
end
end DL
namespace DL
open PySem PySem.Spec PyProof.Rows L2

/-! ### list comprehensions -/
def wipeD (ρ : DEnv) : List Nat → DEnv
  | [] => ρ
  | v :: vs => put (wipeD ρ vs) v .free
theorem set_none_good {K : Fg} {F : Fx} {ρ : DEnv} {O : Own} {σ : Sg} {H : Hp} {A : Nat → Addr} {P : Nat → List Addr} {i : Nat} (G : Good K F ρ O σ H A P) : Good K F (put ρ i .free) O (σ.set i none) H A P := by
  have bk : ∀ (j : Nat) (s : DL.Slot), s ≠ .free → slot (put ρ i .free) j = s → slot ρ j = s ∧ i ≠ j := fun j s n e => by
    by_cases hj : i = j
    · subst hj
      have hl : i < ρ.length := by
        have := slot_lt (ρ := put ρ i .free) (i := i) (by rw [e]; exact n)
        rwa [put_length] at this
      rw [slot_put hl] at e
      exact absurd e.symm n
    · exact ⟨by rwa [slot_put_ne hj] at e, hj⟩
  refine ⟨by rw [put_length, List.length_set]; exact G.len, G.frame, G.alive, G.still, G.base, G.dom0, G.dom, fun j d e => ?_, fun j w e => ?_, fun j k w w' e e' => G.sep j k w w' (bk j (.own w) (fun z => nomatch z) e).1 (bk k (.own w') (fun z => nomatch z) e').1, fun a w e1 e2 => G.pin a w e1 (bk 0 (.own w) (fun z => nomatch z) e2).1⟩
  · obtain ⟨e', hj⟩ := bk j (.val d) (fun z => nomatch z) e
    rw [List.getElem?_set_ne hj]
    exact G.val j d e'
  · obtain ⟨e', hj⟩ := bk j (.own w) (fun z => nomatch z) e
    rw [List.getElem?_set_ne hj]
    exact G.own j w e'
theorem wipe_good {K : Fg} {F : Fx} {ρ : DEnv} {O : Own} {σ : Sg} {H : Hp} {A : Nat → Addr} {P : Nat → List Addr} (G : Good K F ρ O σ H A P) : ∀ vs : List Nat, Good K F (wipeD ρ vs) O (wipe σ vs) H A P
  | [] => G
  | v :: vs => set_none_good (wipe_good G vs)
theorem wipe_get {σ : Sg} : ∀ {vs : List Nat} {i : Nat}, i ∉ vs → (wipe σ vs)[i]? = σ[i]?
  | [], _, _ => rfl
  | v :: vs, i, h => by
    unfold wipe
    rw [List.getElem?_set_ne (fun e => h (by rw [e]; exact List.mem_cons_self ..))]
    exact wipe_get fun z => h (List.mem_cons_of_mem _ z)
theorem wipeD_slot {ρ : DEnv} : ∀ {vs : List Nat} {i : Nat} {s : DL.Slot}, slot (wipeD ρ vs) i = s → s ≠ .free → slot ρ i = s ∧ i ∉ vs
  | [], _, _, h, _ => ⟨h, by simp⟩
  | v :: vs, i, s, h, n => by
    unfold wipeD at h
    by_cases hi : v = i
    · subst hi
      have hl : v < (wipeD ρ vs).length := by
        have := slot_lt (ρ := put (wipeD ρ vs) v .free) (i := v) (by rw [h]; exact n)
        rwa [put_length] at this
      rw [slot_put hl] at h
      exact absurd h.symm n
    · rw [slot_put_ne hi] at h
      obtain ⟨h1, h2⟩ := wipeD_slot h n
      exact ⟨h1, by simp only [List.mem_cons, not_or]; exact ⟨fun e => hi e.symm, h2⟩⟩
/-- from a block's frame back to the def's -/
theorem unwipe {K : Fg} {F : Fx} {ρ : DEnv} {O : Own} {σ σ' : Sg} {H : Hp} {A : Nat → Addr} {P : Nat → List Addr} {vs : List Nat} (G : Good K F ρ O σ' H A P) (e : wipe σ' vs = wipe σ vs) (hl : σ'.length = σ.length) : Good K F (wipeD ρ vs) O σ H A P := by
  have W := wipe_good G vs
  rw [e] at W
  have sl : ∀ {i : Nat}, i ∉ vs → (wipe σ vs)[i]? = σ[i]? := fun h => wipe_get h
  refine ⟨by rw [← W.len, wipe_length], W.frame, W.alive, W.still, W.base, W.dom0, W.dom, fun j d e => ?_, fun j w e => ?_, W.sep, W.pin⟩
  · obtain ⟨x, h1, h2⟩ := W.val j d e
    exact ⟨x, by rw [← sl (wipeD_slot e fun z => nomatch z).2]; exact h1, h2⟩
  · obtain ⟨h1, h2⟩ := W.own j w e
    exact ⟨by rw [← sl (wipeD_slot e fun z => nomatch z).2]; exact h1, h2⟩
/-! one reading for all contexts -/
def canE (K : Fg) (t : DTE) : TE := fun σ H Q => ∃ (F : Fx) (ρ : DEnv) (O : Own) (A : Nat → Addr) (P : Nat → List Addr) (Qd : RV → DEnv → Prop), Good K F ρ O σ H A P ∧ t ρ Qd ∧
  ∀ r ρ' v fp O' H' A' P', Stp ρ O H P ρ' O' H' P' → Good K F ρ' O' σ H' A' P' → Rk K F ρ' O' σ H' P' r v fp → Nw H r fp → Qd r ρ' → Q v H'
theorem sim_can {K : Fg} {t : DTE} : Sim K (canE K t) t := fun F ρ O σ H A P Qd Q G q k => ⟨F, ρ, O, A, P, Qd, G, q, k⟩
theorem DE.can {X : Cx} {e : Expr} {t : DTE} (h : DE X e t) : PE X e (canE X.K t) := by
  obtain ⟨te, p, s⟩ := h
  exact ⟨fun pins sh σ H Q I ⟨F, ρ, O, A, P, Qd, G, q, k⟩ => p.run pins sh σ H Q I (s F ρ O σ H A P Qd Q G q k)⟩
def canT (K : Fg) (t : DTT) : TT := fun σ H Q => ∃ (F : Fx) (ρ : DEnv) (O : Own) (A : Nat → Addr) (P : Nat → List Addr) (Qd : Bool → DEnv → Prop), Good K F ρ O σ H A P ∧ t ρ Qd ∧
  ∀ b ρ' O' H' A' P', Stp ρ O H P ρ' O' H' P' → Good K F ρ' O' σ H' A' P' → Qd b ρ' → Q b H'
theorem simT_can {K : Fg} {t : DTT} : SimT K (canT K t) t := fun F ρ O σ H A P Qd Q G q k => ⟨F, ρ, O, A, P, Qd, G, q, k⟩
/-- the tests of a comprehension -/
def DPs (X : Cx) (ifs : List Expr) (t : DTT) : Prop := ∃ te, PTs X ifs te ∧ SimT X.K te t
def dYes : DTT := fun ρ Q => Q true ρ
theorem dps_nil {X : Cx} : DPs X [] dYes := ⟨_, pts_nil, fun F ρ O σ H A P Qd Q G q k => k true ρ O H A P Stp.refl G q⟩
theorem dps_one {X : Cx} {c : Expr} {t : DTT} (h : DT X c t) : DPs X [c] t := let ⟨te, p, s⟩ := h; ⟨te, pts_one p, s⟩
theorem DPs.can {X : Cx} {ifs : List Expr} {t : DTT} (h : DPs X ifs t) : PTs X ifs (canT X.K t) := by
  obtain ⟨te, p, s⟩ := h
  exact ⟨fun pins sh σ H Q I ⟨F, ρ, O, A, P, Qd, G, q, k⟩ => p.run pins sh σ H Q I (s F ρ O σ H A P Qd Q G q k)⟩
/-- the names of vs as they were, the others as they are -/
def mergeD : DEnv → DEnv → List Nat → Nat → DEnv
  | s :: r, t :: u, vs, k => (if k ∈ vs then s else t) :: mergeD r u vs (k + 1)
  | _, u, _, _ => u
theorem mergeD_length : ∀ {r u : DEnv} {vs : List Nat} {k : Nat}, r.length = u.length → (mergeD r u vs k).length = u.length
  | [], [], _, _, _ => rfl
  | [], _ :: _, _, _, _ => rfl
  | _ :: _, [], _, _, _ => rfl
  | _ :: r, _ :: u, vs, k, h => congrArg Nat.succ (mergeD_length (r := r) (u := u) (by simpa using h))
theorem mergeD_slot : ∀ {r u : DEnv} {vs : List Nat} {k i : Nat}, r.length = u.length → slot (mergeD r u vs k) i = if i + k ∈ vs then slot r i else slot u i
  | [], [], _, _, _, _ => by split <;> rfl
  | [], _ :: _, _, _, _, h => by simp at h
  | _ :: _, [], _, _, _, h => by simp at h
  | s :: r, t :: u, vs, k, 0, h => by
    show (if k ∈ vs then s else t) = if 0 + k ∈ vs then s else t
    rw [Nat.zero_add]
  | s :: r, t :: u, vs, k, i + 1, h => by
    have e : i + 1 + k = i + (k + 1) := by omega
    rw [e]
    exact mergeD_slot (r := r) (u := u) (k := k + 1) (i := i) (by simpa using h)
/-- a comprehension: I by the turn, what is made so far, the names -/
def dLc (ti : DTI) (g : DTG) (tt : DTT) (te : DTE) (vs : List Nat) : DTE := fun ρ Q => ti ρ fun n y ρ1 => ∃ I : Nat → List PyData → DEnv → Prop, I 0 [] (wipeD ρ1 vs) ∧
  (∀ i acc ρ', i < n → I i acc ρ' → g (y i) ρ' fun ρ2 => tt ρ2 fun b ρ3 => match b with
    | true => dSt te ρ3 fun d ρ4 => acc.length < sizeLine ∧ I (i + 1) (acc ++ [d]) (wipeD ρ4 vs)
    | false => I (i + 1) acc (wipeD ρ3 vs)) ∧
  ∀ acc ρ', I n acc ρ' → Q (.n (.lst acc)) (mergeD ρ1 ρ' vs 0)
/-- a target stores data at names -/
structure TgOk (ρ ρ' : DEnv) (σ σ' : Sg) (vs : List Nat) : Prop where
  w : wipe σ' vs = wipe σ vs
  l : σ'.length = σ.length
  own : ∀ (i : Nat) (w : Ow), slot ρ' i = .own w → slot ρ i = .own w
  live : ∀ i, slot ρ i ≠ .free → slot ρ' i ≠ .free
theorem TgOk.trans {ρ ρ1 ρ2 : DEnv} {σ σ1 σ2 : Sg} {vs : List Nat} (a : TgOk ρ ρ1 σ σ1 vs) (b : TgOk ρ1 ρ2 σ1 σ2 vs) : TgOk ρ ρ2 σ σ2 vs := ⟨b.w.trans a.w, b.l.trans a.l, fun i w h => a.own i w (b.own i w h), fun i h => b.live i (a.live i h)⟩
theorem TgOk.stp {ρ ρ' : DEnv} {σ σ' : Sg} {vs : List Nat} {O : Own} {H : Hp} {P : Nat → List Addr} (a : TgOk ρ ρ' σ σ' vs) : Stp ρ O H P ρ' O H P := ⟨fun _ _ h n => ⟨h, n⟩, fun _ h n => ⟨rfl, h, fun i w e => n i w (a.own i w e)⟩, a.live, fun _ h => h⟩
/-- a comprehension's target: its own names alone are stored -/
def SimGv (K : Fg) (g : TG) (t : DTG) (vs : List Nat) : Prop := ∀ (F : Fx) (ρ : DEnv) (O : Own) (σ : Sg) (H : Hp) (A : Nat → Addr) (P : Nat → List Addr) (d : PyData) (v : V) (Qd : DEnv → Prop) (Q : Sg → Hp → Prop), Good K F ρ O σ H A P → Dv K (Hs H O) d v → t d ρ Qd →
  (∀ ρ' σ', Good K F ρ' O σ' H A P → TgOk ρ ρ' σ σ' vs → Qd ρ' → Q σ' H) → g v σ H Q
theorem wipe_at {σ : Sg} : ∀ {vs : List Nat} {j : Nat}, j ∈ vs → (wipe σ vs)[j]? = if j < σ.length then some none else none
  | [], _, h => by simp at h
  | v :: vs, j, h => by
    unfold wipe
    by_cases hj : v = j
    · subst hj
      by_cases hl : v < σ.length
      · rw [if_pos hl, List.getElem?_set_self (by rw [wipe_length]; exact hl)]
      · rw [if_neg hl, List.getElem?_eq_none (by rw [List.length_set, wipe_length]; omega)]
    · rw [List.getElem?_set_ne hj]
      exact wipe_at ((List.mem_cons.mp h).resolve_left fun e => hj e.symm)
theorem wipe_set {σ : Sg} {vs : List Nat} {i : Nat} {x : Option V} (h : i ∈ vs) : wipe (σ.set i x) vs = wipe σ vs := by
  apply List.ext_getElem?
  intro j
  by_cases hj : j ∈ vs
  · rw [wipe_at hj, wipe_at hj, List.length_set]
  · rw [wipe_get hj, wipe_get hj, List.getElem?_set_ne (fun e => hj (by rw [← e]; exact h))]
theorem simGv_name {K : Fg} {i : Nat} {vs : List Nat} (h : i ∈ vs) : SimGv K (gName i) (dgName i) vs := fun F ρ O σ H A P d v Qd Q G D q k => k _ _ (G.putV D) ⟨wipe_set h, List.length_set .., fun j w e => by
    by_cases hj : i = j
    · subst hj
      have hl : i < ρ.length := by
        have := slot_lt (ρ := put ρ i (.val d)) (i := i) (by rw [e]; exact fun z => nomatch z)
        rwa [put_length] at this
      rw [slot_put hl] at e
      cases e
    · rwa [slot_put_ne hj] at e, fun j hj => by
    by_cases hij : i = j
    · subst hij
      rw [slot_put (slot_lt hj)]
      exact fun z => nomatch z
    · rw [slot_put_ne hij]; exact hj⟩ q
def SimGsv (K : Fg) (g : TGs) (t : DTGs) (vs : List Nat) : Prop := ∀ (F : Fx) (ρ : DEnv) (O : Own) (σ : Sg) (H : Hp) (A : Nat → Addr) (P : Nat → List Addr) (ds : List PyData) (xs : List V) (Qd : DEnv → Prop) (Q : Sg → Hp → Prop), Good K F ρ O σ H A P → DvL K (Hs H O) ds xs → t ds ρ Qd →
  (∀ ρ' σ', Good K F ρ' O σ' H A P → TgOk ρ ρ' σ σ' vs → Qd ρ' → Q σ' H) → g xs σ H Q
theorem simGsv_nil {K : Fg} {vs : List Nat} : SimGsv K gNil dgNil vs := fun F ρ O σ H A P ds xs Qd Q G D q k => by
  cases ds with
  | nil => exact ⟨D, k ρ σ G ⟨rfl, rfl, fun _ _ h => h, fun _ h => h⟩ q⟩
  | cons d r => exact (show False from q).elim
theorem simGsv_cons {K : Fg} {vs : List Nat} {g : TG} {t : DTG} {gs : TGs} {ts : DTGs} (h1 : SimGv K g t vs) (h2 : SimGsv K gs ts vs) : SimGsv K (gCons g gs) (dgCons t ts) vs := fun F ρ O σ H A P ds xs Qd Q G D q k => by
  cases ds with
  | nil => exact (show False from q).elim
  | cons d r =>
    obtain ⟨y, ys, e1, D1, D2⟩ := D
    exact ⟨y, ys, e1, h1 F ρ O σ H A P d y _ _ G D1 q fun ρ1 σ1 G1 e1 q1 => h2 F ρ1 O σ1 H A P r ys Qd Q G1 D2 q1 fun ρ2 σ2 G2 e2 q2 => k ρ2 σ2 G2 (e1.trans e2) q2⟩
theorem simGv_tup {K : Fg} {vs : List Nat} {n : Nat} {gs : TGs} {ts : DTGs} (h : SimGsv K gs ts vs) : SimGv K (L2.gTup K n gs) (dgTup n ts) vs := fun F ρ O σ H A P d v Qd Q G D q k => by
  cases d with
  | tuple ds =>
    obtain ⟨a, xs, e1, h1, h2⟩ := D
    exact ⟨a, xs, e1, same_sqT Hs_sub h1, by rw [h2.length]; exact q.1, h F ρ O σ H A P ds xs Qd Q G h2 q.2 k⟩
  | _ => exact (show False from q).elim
theorem sim_lc {K : Fg} {wi : TI} {ti : DTI} {g : TG} {t : DTG} {tt : DTT} {te : DTE} {vs : List Nat} (si : SimI K wi ti) (sg : SimGv K g t vs) : Sim K (tLc wi g (canT K tt) (canE K te) vs) (dLc ti t tt te vs) := fun F ρ O σ H A P Qd Q G q k => by
  refine si F ρ O σ H A P _ _ G q fun n y ρ1 J O1 H1 A1 P1 S1 G1 T q1 => ?_
  obtain ⟨I, i0, step, done⟩ := q1
  intro D hD
  -- the list that grows is owned, and no name's
  have h0 : F.H0 D = none := by
    cases e : F.H0 D with
    | none => rfl
    | some o => exact absurd hD (G1.alive D (by rw [e]; exact fun z => (nomatch z)))
  have GW := wipe_good G1 vs
  have notin : ∀ (i : Nat) (w : Ow), slot ρ1 i = .own w → D ∉ P1 i := fun i w e hb => G1.dom D ((G1.own i w e).2.2.1 D hb) hD
  have wip : ∀ {i : Nat} {s : DL.Slot}, slot (wipeD ρ1 vs) i = s → s ≠ .free → slot ρ1 i = s ∧ i ∉ vs := fun h n => wipeD_slot h n
  refine ⟨fun i m H' => m = n - i ∧ i ≤ n ∧ ∃ acc ρ' O' A' P' xs, Good K F ρ' O' (wipe σ vs) H' A' P' ∧ Stp (wipeD ρ1 vs) O1 H1 P1 ρ' O' H' P' ∧ O' D ∧ (∀ (i : Nat) (w : Ow), slot ρ' i = .own w → D ∉ P' i) ∧ H' D = some (.lst xs) ∧ DvL K (Hs H' O') acc xs ∧ I i acc ρ', ⟨n, by omega, Nat.zero_le _, ?_⟩, ?_⟩
  · have o0 : Out K O1 H1 (.n (.lst [])) (.ref D) (upd H1 D (.lst [])) := Out.lst G1.dom hD (show DvL K (Hs H1 O1) [] [] from rfl)
    obtain ⟨O2, fo, S2, G2, R2, N2⟩ := o0.fin GW
    obtain ⟨p, ep, hf, ⟨e1, xs, e2, e3⟩⟩ := R2
    have epD : D = p := V.ref.inj ep
    subst epD
    obtain ⟨_, q2, q3⟩ := hf D (by rw [e1]; simp)
    exact ⟨[], _, O2, A1, P1, xs, G2, S2, q2, q3, e2, e3, i0⟩
  · rintro i m H' ⟨rfl, hin, acc, ρ', O', A', P', xs, G', S', oD, nD, hxs, dxs, i'⟩
    obtain ⟨tgo, tstop⟩ := T H' O' S'.same G'.dom
    by_cases hlt : i < n
    · obtain ⟨go, yl⟩ := tgo i hlt
      refine .inr ⟨go, fun H2 => i + 1 ≤ n ∧ ∃ acc ρ' O' A' P' xs, Good K F ρ' O' (wipe σ vs) H2 A' P' ∧ Stp (wipeD ρ1 vs) O1 H1 P1 ρ' O' H2 P' ∧ O' D ∧ (∀ (i : Nat) (w : Ow), slot ρ' i = .own w → D ∉ P' i) ∧ H2 D = some (.lst xs) ∧ DvL K (Hs H2 O') acc xs ∧ I (i + 1) acc ρ', fun H2 h => ⟨n - (i + 1), by omega, rfl, h⟩, fun x H2 hy => ?_⟩
      obtain ⟨O2, fo, S2, G2, R2, N2⟩ := (yl x H2 hy).fin G'
      refine sg F ρ' O2 _ H2 A' P' (y i) x _ _ G2 R2 (step i acc ρ' hlt i') fun ρ3 σ3 G3 ew q3 => ?_
      have ew1 : wipe σ3 vs = wipe σ vs := by
        rw [ew.w]
        apply List.ext_getElem?
        intro j
        by_cases hj : j ∈ vs
        · rw [wipe_at hj, wipe_at hj, wipe_length]
        · rw [wipe_get hj]
      have Sa := S2.trans (ew.stp (O := O2) (H := H2) (P := P'))
      -- the end of a turn: the block's names are forgotten
      have last : ∀ {ρ5 : DEnv} {O5 : Own} {H5 : Hp} {A5 : Nat → Addr} {P5 : Nat → List Addr} {acc5 : List PyData} {xs5 : List V}, Good K F ρ5 O5 σ3 H5 A5 P5 → Stp (wipeD ρ1 vs) O1 H1 P1 ρ5 O5 H5 P5 → O5 D → (∀ (i : Nat) (w : Ow), slot ρ5 i = .own w → D ∉ P5 i) → H5 D = some (.lst xs5) → DvL K (Hs H5 O5) acc5 xs5 → I (i + 1) acc5 (wipeD ρ5 vs) →
          i + 1 ≤ n ∧ ∃ acc ρ' O' A' P' xs, Good K F ρ' O' (wipe σ vs) H5 A' P' ∧ Stp (wipeD ρ1 vs) O1 H1 P1 ρ' O' H5 P' ∧ O' D ∧ (∀ (i : Nat) (w : Ow), slot ρ' i = .own w → D ∉ P' i) ∧ H5 D = some (.lst xs) ∧ DvL K (Hs H5 O') acc xs ∧ I (i + 1) acc ρ' := fun {ρ5 O5 H5 A5 P5 acc5 xs5} g5 s5 o5 n5 x5 d5 i5 => by
        have g6 := wipe_good g5 vs
        rw [ew1] at g6
        refine ⟨hlt, acc5, wipeD ρ5 vs, O5, A5, P5, xs5, g6, ⟨s5.st, fun b hb nb => ?_, fun j hj => ?_, s5.dm⟩, o5, fun j w e => n5 j w (wipeD_slot e fun z => nomatch z).1, x5, d5, i5⟩
        · obtain ⟨y1, y2, y3⟩ := s5.fr b hb nb
          exact ⟨y1, y2, fun j w e => y3 j w (wipeD_slot e fun z => nomatch z).1⟩
        · have hv := (wipeD_slot (ρ := ρ1) (vs := vs) (i := j) rfl hj).2
          have h5 := s5.live j hj
          intro z
          apply h5
          by_cases hs : slot ρ5 j = .free
          · exact hs
          · exfalso
            have : ∀ (us : List Nat), j ∉ us → slot (wipeD ρ5 us) j = slot ρ5 j := by
              intro us
              induction us with
              | nil => intro _; rfl
              | cons u us ih =>
                intro hu
                rw [List.mem_cons, not_or] at hu
                show slot (put (wipeD ρ5 us) u .free) j = _
                rw [slot_put_ne (fun e => hu.1 e.symm)]
                exact ih hu.2
            rw [this vs hv] at z
            exact hs z
      refine ⟨ew1, F, ρ3, O2, A', P', _, G3, q3, fun b ρ4 O4 H4 A4 P4 S4 G4 q4 => ?_⟩
      have Sb := Sa.trans S4
      cases b with
      | false =>
        obtain ⟨f1, f2, f3⟩ := Sb.fr D oD nD
        exact iteF (last G4 (S'.trans Sb) f2 f3 (f1.trans hxs) (dxs.mono Sb.same) q4)
      | true =>
        refine iteT ⟨F, ρ4, O4, A4, P4, _, G4, q4, fun r ρ5 v fp O5 H5 A5 P5 S5 G5 R5 N5 q5 => ?_⟩
        have Sc := Sb.trans S5
        cases st : stab ρ5 r with
        | none => simp only [st] at q5
        | some pr =>
          obtain ⟨d, ρ6⟩ := pr
          simp only [st] at q5
          obtain ⟨O6, G6, D6, S6⟩ := stab_ok G'.dom Sc G5 R5 (Sb.back N5) st
          obtain ⟨f1, f2, f3⟩ := S6.fr D oD nD
          refine ⟨xs, f1.trans hxs, by rw [dxs.length]; exact q5.1, ?_⟩
          have h5D : H5 D = some (.lst xs) := f1.trans hxs
          -- D is put down as a name's own for the store, then let go again
          have dx6 : DvL K (Hs H5 O6) acc xs := dxs.mono S6.same
          have stU : ∀ b o, H5 b = some o → ¬ O6 b → upd H5 D (.lst (xs ++ [v])) b = some o ∧ ¬ O6 b := fun b o e n => ⟨by rw [upd_ne (fun z => n (by rw [z]; exact f2))]; exact e, n⟩
          have smU : Same (Hs H5 O6) (Hs (upd H5 D (.lst (xs ++ [v]))) O6) := Hs_mono stU
          have dmU : ∀ b, H5 b ≠ none → upd H5 D (.lst (xs ++ [v])) b ≠ none := fun b hb => by
            by_cases e : b = D
            · rw [e, upd_same]; exact fun z => nomatch z
            · rw [upd_ne e]; exact hb
          have G7 : Good K F ρ6 O6 σ3 (upd H5 D (.lst (xs ++ [v]))) A5 P5 := by
            refine ⟨G6.len, fun b o e n => ?_, fun b hb => dmU b (G6.alive b hb), fun b o e => ?_, G6.base, G6.dom0, fun b hb => dmU b (G6.dom b hb), fun j d' e => ?_, fun j w e => ?_, G6.sep, G6.pin⟩
            · rw [upd_ne (fun z => by rw [z, h0] at e; cases e)]
              exact G6.frame b o e n
            · obtain ⟨y1, y2⟩ := G6.still b o e
              exact stU b o y1 y2
            · obtain ⟨x', y1, y2⟩ := G6.val j d' e
              exact ⟨x', y1, y2.mono smU⟩
            · obtain ⟨y1, y2, y3, y4⟩ := G6.own j w e
              refine ⟨y1, y2.keep smU fun b hb => ?_, y3, y4⟩
              rw [upd_ne (fun z => f3 j w e (by rw [← z]; exact hb))]
          have S7 : Stp (wipeD ρ1 vs) O1 H1 P1 ρ6 O6 (upd H5 D (.lst (xs ++ [v]))) P5 := by
            have S6' := S'.trans S6
            refine ⟨fun b o e n => ?_, fun b hb nb => ?_, S6'.live, fun b hb => dmU b (S6'.dm b hb)⟩
            · obtain ⟨y1, y2⟩ := S6'.st b o e n
              exact stU b o y1 y2
            · obtain ⟨y1, y2, y3⟩ := S6'.fr b hb nb
              exact ⟨by rw [upd_ne (fun z => G1.dom b hb (by rw [z]; exact hD))]; exact y1, y2, y3⟩
          exact last G7 S7 f2 f3 upd_same ((dx6.app (show DvL K (Hs H5 O6) [d] [v] from ⟨v, [], rfl, D6, rfl⟩)).mono smU) q5.2
    · have e : i = n := by omega
      subst e
      refine .inl ⟨tstop, ?_⟩
      have hlen : ρ1.length = ρ'.length := by rw [← G1.len, ← G'.len, wipe_length]
      have sl : ∀ j, slot (mergeD ρ1 ρ' vs 0) j = if j ∈ vs then slot ρ1 j else slot ρ' j := fun j => mergeD_slot (k := 0) hlen
      have far : ∀ j (w : Ow), slot ρ1 j = .own w → j ∈ vs → ∀ b ∈ P1 j, H' b = H1 b ∧ O' b ∧ ∀ (l : Nat) (w : Ow), slot ρ' l = .own w → b ∉ P' l := fun j w e hj b hb =>
        S'.fr b ((G1.own j w e).2.2.1 b hb) fun l w' e' => by
          obtain ⟨e2, hl⟩ := wip e' fun z => nomatch z
          exact G1.sep j l w w' e e2 (fun z => hl (by rw [← z]; exact hj)) b hb
      have wv : ∀ {j : Nat}, j ∉ vs → (wipe σ vs)[j]? = σ[j]? := fun h => wipe_get h
      refine k (.n (.lst acc)) _ (.ref D) [D] O' H' (fun j => if j ∈ vs then A1 j else A' j) (fun j => if j ∈ vs then P1 j else P' j) (S1.trans ⟨S'.st, fun b hb nb => ?_, fun j hj => ?_, S'.dm⟩) ⟨by rw [mergeD_length hlen, ← hlen]; exact G1.len, G'.frame, G'.alive, G'.still, G'.base, G'.dom0, G'.dom, fun j d e => ?_, fun j w e => ?_, fun j l w1 w2 e1 e2 hjl b hb => ?_, fun a w e1 e2 => ?_⟩ ⟨D, rfl, fun b hb => ?_, ⟨rfl, xs, hxs, dxs⟩⟩ (fun w' _ b hb => ?_) (done acc ρ' i')
      · obtain ⟨y1, y2, y3⟩ := S'.fr b hb fun l w e => nb l w (wip e fun z => nomatch z).1
        refine ⟨y1, y2, fun l w e => ?_⟩
        rw [sl] at e
        by_cases hl : l ∈ vs
        · rw [if_pos hl] at e ⊢; exact nb l w e
        · rw [if_neg hl] at e ⊢; exact y3 l w e
      · rw [sl]
        by_cases hl : j ∈ vs
        · rw [if_pos hl]; exact hj
        · rw [if_neg hl]
          apply S'.live
          have : ∀ (us : List Nat), j ∉ us → slot (wipeD ρ1 us) j = slot ρ1 j := by
            intro us
            induction us with
            | nil => intro _; rfl
            | cons u us ih =>
              intro hu
              rw [List.mem_cons, not_or] at hu
              show slot (put (wipeD ρ1 us) u .free) j = _
              rw [slot_put_ne (fun e => hu.1 e.symm)]
              exact ih hu.2
          rw [this vs hl]
          exact hj
      · rw [sl] at e
        by_cases hl : j ∈ vs
        · rw [if_pos hl] at e
          obtain ⟨x, y1, y2⟩ := G1.val j d e
          exact ⟨x, y1, y2.mono S'.same⟩
        · rw [if_neg hl] at e
          obtain ⟨x, y1, y2⟩ := G'.val j d e
          exact ⟨x, by rw [← wv hl]; exact y1, y2⟩
      · rw [sl] at e
        by_cases hl : j ∈ vs
        · rw [if_pos hl] at e
          obtain ⟨y1, y2, y3, y4⟩ := G1.own j w e
          simp only [if_pos hl]
          exact ⟨y1, y2.keep S'.same fun b hb => (far j w e hl b hb).1, fun b hb => (far j w e hl b hb).2.1, y4⟩
        · rw [if_neg hl] at e
          obtain ⟨y1, y2, y3, y4⟩ := G'.own j w e
          simp only [if_neg hl]
          exact ⟨by rw [← wv hl]; exact y1, y2, y3, y4⟩
      · rw [sl] at e1 e2
        by_cases hj : j ∈ vs
        · rw [if_pos hj] at e1
          simp only [if_pos hj] at hb
          by_cases hl : l ∈ vs
          · rw [if_pos hl] at e2
            simp only [if_pos hl]
            exact G1.sep j l w1 w2 e1 e2 hjl b hb
          · rw [if_neg hl] at e2
            simp only [if_neg hl]
            exact (far j w1 e1 hj b hb).2.2 l w2 e2
        · rw [if_neg hj] at e1
          simp only [if_neg hj] at hb
          by_cases hl : l ∈ vs
          · rw [if_pos hl] at e2
            simp only [if_pos hl]
            exact fun z => (far l w2 e2 hl b z).2.2 j w1 e1 hb
          · rw [if_neg hl] at e2
            simp only [if_neg hl]
            exact G'.sep j l w1 w2 e1 e2 hjl b hb
      · rw [sl] at e2
        by_cases hl : (0 : Nat) ∈ vs
        · rw [if_pos hl] at e2
          simp only [if_pos hl]
          exact G1.pin a w e1 e2
        · rw [if_neg hl] at e2
          simp only [if_neg hl]
          exact G'.pin a w e1 e2
      · have e : b = D := by simpa using hb
        subst e
        refine ⟨h0, oD, fun l w e => ?_⟩
        rw [sl] at e
        by_cases hl : l ∈ vs
        · rw [if_pos hl] at e
          simp only [if_pos hl]
          exact notin l w e
        · rw [if_neg hl] at e
          simp only [if_neg hl]
          exact nD l w e
      · have e : b = D := by simpa using hb
        rw [e]
        cases q : H D with
        | none => rfl
        | some o => exact absurd hD (S1.dm D (by rw [q]; exact fun z => nomatch z))
theorem de_lc {X : Cx} {elt tg iter : Expr} {ifs : List Expr} {scope : Scope} {own : List (Str × Nat)} {pos : Pos} {ti : DTI} {g : TG} {t : DTG} {tt : DTT} {te : DTE} (hc : X.calm = true) (hN : X.N.Nodup) (hi : DI X tg iter ti) (ok : BlkOk X.N X.env.scope scope own)
    (hg : ∀ (s : Shared) (H : Hp) (C : Addr) (cl : List (Str × Addr)) (fp : List Addr), PG (X.blk s H scope (compEnvC scope cl C X.env) fp) tg g) (sg : SimGv X.K g t (own.map (·.2))) (ht : ∀ (s : Shared) (H : Hp) (C : Addr) (cl : List (Str × Addr)) (fp : List Addr), DPs (X.blk s H scope (compEnvC scope cl C X.env) fp) ifs tt)
    (he : ∀ (s : Shared) (H : Hp) (C : Addr) (cl : List (Str × Addr)) (fp : List Addr), DE (X.blk s H scope (compEnvC scope cl C X.env) fp) elt te) (hs : ∀ x, foldedSetIterable iter X.env x = pure x := by intro _; rfl) :
    DE X (.ListComp elt [⟨tg, iter, ifs, 0⟩] scope pos) (dLc ti t tt te (own.map (·.2))) := by
  obtain ⟨wi, pi, si⟩ := hi
  exact ⟨_, pe_lc hc hN pi ok hg (fun s H C cl fp => (ht s H C cl fp).can) (fun s H C cl fp => (he s H C cl fp).can) hs, sim_lc si sg⟩
theorem ds_setLc {X : Cx} {io : Bool} (i : Nat) {y : Str} {py : Pos} {elt tg iter : Expr} {ifs : List Expr} {scope : Scope} {own : List (Str × Nat)} {pos spos : Pos} {ti : DTI} {g : TG} {t : DTG} {tt : DTT} {te : DTE} (hc : X.calm = true) (hN : X.N.Nodup) (hi : DI X tg iter ti) (ok : BlkOk X.N X.env.scope scope own)
    (hg : ∀ (s : Shared) (H : Hp) (C : Addr) (cl : List (Str × Addr)) (fp : List Addr), PG (X.blk s H scope (compEnvC scope cl C X.env) fp) tg g) (sg : SimGv X.K g t (own.map (·.2))) (ht : ∀ (s : Shared) (H : Hp) (C : Addr) (cl : List (Str × Addr)) (fp : List Addr), DPs (X.blk s H scope (compEnvC scope cl C X.env) fp) ifs tt)
    (he : ∀ (s : Shared) (H : Hp) (C : Addr) (cl : List (Str × Addr)) (fp : List Addr), DE (X.blk s H scope (compEnvC scope cl C X.env) fp) elt te) (hsw : swapsWith (.ListComp elt [⟨tg, iter, ifs, 0⟩] scope pos) (some (.Name y py)) spos.line X.env = pure true)
    (hy : X.N[i]? = some y := by rfl) (hyl : X.env.scope.names.lookup y = some .local := by rfl) (hio : io = true → i ≠ 0 := by first | exact (fun z => nomatch z) | exact (fun _ => by decide)) (hs : ∀ x, foldedSetIterable iter X.env x = pure x := by intro _; rfl) :
    DS X io (.Assign [.Name y py] (.ListComp elt [⟨tg, iter, ifs, 0⟩] scope pos) spos) (dSet i (dLc ti t tt te (own.map (·.2)))) := by
  obtain ⟨wi, pi, si⟩ := hi
  refine ⟨_, ps_setLc hc hN hy hyl hsw pi ok hg (fun s H C cl fp => (ht s H C cl fp).can) (fun s H C cl fp => (he s H C cl fp).can) hs, fun F ρ O σ H A P Dd D hr G E q => sim_lc si sg F ρ O σ H A P _ _ G q fun r ρ1 v fp O1 H1 A1 P1 S1 G1 R1 N1 q1 => ?_⟩
  cases e1 : store ρ1 i r with
  | none => simp only [e1] at q1
  | some ρ2 =>
    simp only [e1] at q1
    obtain ⟨O2, A2, P2, G2⟩ := store_ok G1 R1 (fun z => by
      cases io with
      | true => exact hio rfl
      | false => exact absurd (hr rfl).1 z) e1
    exact E.nx ρ2 O2 _ H1 A2 P2 G2 q1
end DL
namespace DL
open PySem PySem.Spec PyProof.Rows L2

/-! ### repr of data: no other repr is running -/
def rRep (K : Fg) : List V → Hp → VK → Prop := fun xs H Q => ∃ (v : V) (d : PyData), xs = [v] ∧ Dp K H v d ∧ d.showable = true ∧ d.hasDict = false ∧ d.depth ≤ 64 ∧ d.shown.length ≤ sizeLine ∧ Q (.str d.shown) H
theorem call_repD {X : Cx} (hg : X.A.guards = some []) (hu : X.A.units + 200 < cLine) : CallR X (.builtin "repr") (rRep X.K) := by
  intro pins s σ H xs us Q I r h
  obtain ⟨v, d, rfl, hd, hs, hno, hdp, hz, q⟩ := h
  cases r with
  | cons r1 rr =>
    cases rr
    rename_i u
    have fin : ∀ (h' : Heap) (t tk : Nat), (∀ b o, s.heap.get? b = some o → h'.get? b = some o) → EP X pins σ Q (.str d.shown t) { s with heap := h', toks := tk } := fun h' t tk hk =>
      ⟨.str d.shown, H, I.kept (t' := tk) hk, ⟨t, rfl⟩, q⟩
    obtain ⟨as, rd⟩ := Dp.reads I d v u hd r1
    cases d with
    | none => cases rd; exact PySem.P.repr_of_none (fin _ _ _ fun _ _ e => e)
    | bool b => cases rd; exact PySem.P.repr_of_bool (fin _ _ _ fun _ _ e => e)
    | int i => cases rd; exact PySem.P.repr_of_int (of_decide_eq_true hs) (fin _ _ _ fun _ _ e => e)
    | str x => cases rd; exact PySem.P.repr_of_str (fin _ _ _ fun _ _ e => e) hz
    | dict kvs => cases hno
    | list ds =>
      cases hd with
      | lst h1 h2 =>
        cases r1
        exact repr_of_reads' rd hs (PyData.noDict_hsm hno) hg (by omega) (fun _ _ e => e) (fun h' t tk hk => fin h' t tk hk) hz
    | tuple ds =>
      cases hd with
      | tup h1 h2 =>
        cases r1
        exact repr_of_reads' rd hs (PyData.noDict_hsm hno) hg (by omega) (fun _ _ e => e) (fun h' t tk hk => fin h' t tk hk) hz
def gRep : GL := fun ds Q => match ds with
  | [d] => d.showable = true ∧ d.hasDict = false ∧ d.depth ≤ 64 ∧ d.shown.length ≤ sizeLine ∧ Q (.d (.str d.shown))
  | _ => False
theorem cll_rep {K : Fg} : ClL K (rRep K) gRep := fun O H ds xs Qd Q hd hx q k => by
  unfold gRep at q
  split at q
  · obtain ⟨v, ws, e1, h1, h2⟩ := hx
    have e3 : ws = [] := h2
    exact ⟨v, _, by rw [e1, e3], (Dw.dv Hs_sub h1).dp q.2.1, q.1, q.2.1, q.2.2.1, q.2.2.2.1, k _ _ H (Out.sc (d := .str _) rfl) q.2.2.2.2⟩
  · exact q.elim
theorem fp_room {k : Nat} {A : Around} (h : Room k A) : A.units + 200 < cLine := by have := h.un; omega

/-! ### defs that are called where no repr is running -/
structure FnG (Pg : Program) (w : World) (K : Fg) (mg : Str → Option Value) (base : Heap) (CX : CXT) (k : Nat) (f : Addr) (fd : FuncData) (ps : List Str) (sp : Sp) : Prop where
  len : ∀ vs H Q E, sp vs H Q E → vs.length = ps.length
  run : ∀ (A : Around) (outer : List Env) (s : Shared) (H : Hp) (args : Args) (us : List Value) (vs : List V) (Q : VK) (E : XK), Room k A → A.guards = some [] → Env0 Pg w K mg base A outer s H → BindsTo s fd args (ps.zip us) → Vals vs us → sp vs H Q E →
    codeAny (model Pg w) A (.call (.ref f) args) (CR CX outer Pg w H s Q E) s
section
variable {Pg : Program} {w : World} {K : Fg} {mg : Str → Option Value} {base : Heap} {CX : CXT} {k : Nat} {f : Addr} {fd : FuncData} {ps : List Str} {sp : Sp}
theorem FnG.of (F : FnOk Pg w K mg base CX k f fd ps sp) : FnG Pg w K mg base CX k f fd ps sp := ⟨F.len, fun A outer s H args us vs Q E hr _ => F.run A outer s H args us vs Q E hr⟩
theorem fnG_body {x qual : Str} {st : Stmt} {N : List Str} (Fn : Fun K x qual st f fd) (S : FnScope N ps (defScope st)) (len : ∀ vs H Q E, sp vs H Q E → vs.length = ps.length)
    (hb : ∀ (cdv : Value) (A : Around) (outer : List Env) (s : Shared) (H : Hp) (vs : List V) (Q : VK) (E : XK), Room k (A.deeper (envOfC qual (defScope st) s.heap.objs.size f cdv)) → A.guards = some [] → sp vs H Q E →
      ∃ t, PSs (cxOf CX0 Pg w K mg base N qual (defScope st) f cdv A outer s H E).nox (defBody st) t ∧ t { nx := fun _ H' => Q .non H', rt := Q } (L2.start N vs) H) : FnG Pg w K mg base CX0 (k + 1) f fd ps sp := by
  obtain ⟨oc, od, kV, doc, pm, an, cdv, ct, osl, rfl, lk, hcd⟩ := Fn.ex
  refine ⟨len, fun A outer s H args us vs Q E hr hg e0 hbd rv hsp => ?_⟩
  -- the promise that holds of this call's surroundings alone
  have lenV := len _ _ _ _ hsp
  have inK : K.In s.heap := e0.mod.kin.keeps fun b o e => (e0.bs b o e).1
  have noLim : s.heap.NoLimit := e0.mod.nolimit.keeps fun b o e => (e0.bs b o e).1
  have kinds : ∀ y ∈ ps.zip us, (defScope st).names.lookup y.1 = some .local ∨ ((defScope st).names.lookup y.1 = some .cell ∧ ((cellsFrom (s.heap.objs.size + 1) (defScope st).names []).lookup y.1).isSome = true) := by
    rintro ⟨n, v⟩ hy
    rcases S.par n (List.of_mem_zip hy).1 with q | q
    · exact Or.inl q
    · exact Or.inr ⟨q, PySem.W.cellsFrom_some _ _ _ (Or.inl q)⟩
  refine codeAny_call_function (hr.depth) (inK _ _ lk) rfl S.co S.gen rfl (PySem.W.codeRec_of inK hcd) (hbd _ _ _ _ ?_)
  refine wpAny_newFunctionEnv_cells S.kind kinds fun env he s1 z => ?_
  subst he
  refine ⟨noLim.keeps z.toInCall.keep, codeAny_func ?_⟩
  obtain ⟨t, ht, hq⟩ := hb cdv A outer s H vs Q E (hr.deeper _) hg hsp
  have I0 := inv_start (CX := CX0) (P := Pg) (w := w) (mg := mg) (E := E) (qual := qual) (f := f) (cd := cdv) S hr.hd e0 lenV rv z
  refine wpAny_mono ((ht.nox).run [] s1 (L2.start N vs) H _ I0 hq) (fun fl s' hs => ?_) fun e s' hs => hs
  cases fl with
  | ret u =>
    obtain ⟨v, σ', H', J, r2, q⟩ := hs
    exact ⟨v, H', J.os, J.bare, J.base, J.hok, r2, q⟩
  | next =>
    obtain ⟨σ', H', J, q⟩ := hs
    exact ⟨V.non, H', J.os, J.bare, J.base, J.hok, rfl, q⟩
  | brk =>
    obtain ⟨_, _, _, q⟩ := hs
    exact q.elim
  | cont =>
    obtain ⟨_, _, _, q⟩ := hs
    exact q.elim
end

/-! ### calls of such defs -/
section
variable {X : Cx} {CX : CXT} {k : Nat} {f : Addr} {fd : FuncData} {ps ks : List Str} {sp : Sp} {dvs : List V} {ds : List Value} {E : XK} {x : Str} {p pos : Pos} {e : Expr} {es : List Expr} {kws : List Keyword} {t tk : TA} {g : List Value → List Value → List Value} {gV : List V → List V → List V}
theorem run_any {pins : List (Addr × Obj)} {σ : Sg} {H : Hp} {s : Shared} {Q : VK} {args : Args} {us : List Value} {vs : List V} (F : FnG X.prog X.w X.K X.mg X.base CX k f fd ps sp) (hr : Room k X.A) (hg : X.A.guards = some []) (hx : Passes CX X E) (I : Inv X pins σ H s)
    (hb : BindsTo s fd args (ps.zip us)) (r : Vals vs us) (h : sp vs H Q E) : wpAny (model X.prog X.w) X.A (call (.ref f) args.pos args.kw) (EP X pins σ Q) X.xe s := by
  refine wpAny_call (codeAny_mono (F.run X.A X.stack s H args us vs Q E hr hg I.env0 hb r h) fun rr s' hq => ?_)
  cases rr with
  | error er => exact hx pins σ H s er s' I hq
  | ok fl =>
    cases fl with
    | ret u => exact I.after hq
    | next => exact hq.elim
    | brk => exact hq.elim
    | cont => exact hq.elim
theorem pe_callG (F : FnG X.prog X.w X.K X.mg X.base CX k f fd ps sp) (hr : Room k X.A) (hgd : X.A.guards = some []) (hg : Gl X x) (hm : X.mg x = some (.ref f)) (hk : PySem.W.keepIn X.K (.ref f) = true) (hb : Binds X.K fd ps []) (hx : Passes CX X E)
    (ha : PA X (e :: es) t) (hdb : (x == ("__debug__" : Str)) = false := by decide) (he : starEach (e :: es) X.env = (false, eval e X.env) :: starEach es X.env := by rfl) (hpl : (backTo pos (starEach es X.env)).any (·.1) = false := by rfl) :
    PE X (.Call (.Name x p) (e :: es) [] pos) (tCall sp [] E t) := by
  refine ⟨fun pins s σ H Q I h => wpAny_Call_Name_kw (ld_glob I hg hm ?_ hdb)⟩
  refine PySem.W.callWith_K (h₀ := X.base) I.ok.mod.kin hk (thn (ha.run pos pins s σ H _ I h) fun us s1 ⟨vs, H1, I1, r, q⟩ => ⟨I1.kIn, ?_⟩) he hpl
  have q' : sp (vs ++ []) H1 Q E := q
  rw [List.append_nil] at q'
  have hl : (us ++ []).length = ps.length := by
    rw [List.append_nil, ← r.length]
    exact F.len _ _ _ _ q'
  have b := hb s1 us I1.kIn hl
  rw [List.append_nil] at b
  exact run_any F hr hgd hx I1 (args := ⟨us, []⟩) b r q'
/-- f(k = v, ..), keywords alone -/
def tCallK0 (sp : Sp) (gV : List V → List V) (E : XK) (tk : TA) : TE := fun σ H Q => tk σ H fun zs H1 => sp (gV zs) H1 Q E
theorem run_ok {pins : List (Addr × Obj)} {σ : Sg} {H : Hp} {s : Shared} {Q : VK} {args : Args} {us : List Value} {vs : List V} (F : FnOk X.prog X.w X.K X.mg X.base CX k f fd ps sp) (hr : Room k X.A) (hx : Passes CX X E) (I : Inv X pins σ H s)
    (hb : BindsTo s fd args (ps.zip us)) (r : Vals vs us) (h : sp vs H Q E) : wpAny (model X.prog X.w) X.A (call (.ref f) args.pos args.kw) (EP X pins σ Q) X.xe s := by
  refine wpAny_call (codeAny_mono (F.run X.A X.stack s H args us vs Q E hr I.env0 hb r h) fun rr s' hq => ?_)
  cases rr with
  | error er => exact hx pins σ H s er s' I hq
  | ok fl =>
    cases fl with
    | ret u => exact I.after hq
    | next => exact hq.elim
    | brk => exact hq.elim
    | cont => exact hq.elim
structure KB0 (K : Fg) (fd : FuncData) (ps ks : List Str) (g : List Value → List Value) (gV : List V → List V) : Prop where
  to : ∀ (s : Shared) (ws : List Value), K.In s.heap → (g ws).length = ps.length → BindsTo s fd ⟨[], ks.zip ws⟩ (ps.zip (g ws))
  rel : ∀ {zs : List V} {ws : List Value}, Vals zs ws → Vals (gV zs) (g ws)
theorem pe_callK0 {g : List Value → List Value} {gV : List V → List V} (F : FnOk X.prog X.w X.K X.mg X.base CX k f fd ps sp) (hr : Room k X.A) (hg : Gl X x) (hm : X.mg x = some (.ref f)) (hk : PySem.W.keepIn X.K (.ref f) = true) (hb : KB0 X.K fd ps ks g gV) (hx : Passes CX X E)
    (hkw : PK X kws tk) (hall : (backToKw pos (keywordEach kws X.env)).all (·.1.isSome) = true := by rfl) (hks : (backToKw pos (keywordEach kws X.env)).filterMap (·.1) = ks := by rfl) (hdb : (x == ("__debug__" : Str)) = false := by decide)
    (hpl : ((backTo pos (starEach [] X.env)).any (·.1) || (backToKw pos (keywordEach kws X.env)).any (·.1.isNone)) = false := by rfl) : PE X (.Call (.Name x p) [] kws pos) (tCallK0 sp gV E tk) := by
  refine ⟨fun pins s σ H Q I h => wpAny_Call_Name_kw (ld_glob I hg hm ?_ hdb)⟩
  refine PySem.W.callWith_KW0 (h₀ := X.base) I.ok.mod.kin hk hall (thn (hkw.run pos pins s σ H _ I h) fun ws s1 ⟨zs, H1, I1, r, q⟩ => ⟨I1.kIn, ?_⟩) hpl
  rw [hks]
  have r2 := hb.rel r
  have q' : sp (gV zs) H1 Q E := q
  exact run_ok F hr hx I1 (args := ⟨[], ks.zip ws⟩) (hb.to s1 ws I1.kIn (by rw [← r2.length]; exact F.len _ _ _ _ q')) r2 q'
end
/-- a def of one parameter, called by its name -/
theorem kb_one {K : Fg} {x qual n : Str} {st : Stmt} {f : Addr} {fd : FuncData} (F : Fun K x qual st f fd)
    (h : ∀ (kV doc pm : Value) (an : Option Addr) (cdv ct a : Value), bindArgs (PySem.W.fnOf x qual (defArgs st) (defBody st) (defScope st) .none kV doc pm an cdv ct) ⟨[], [(n, a)]⟩ = pure [(n, a)]) : KB0 K fd [n] [n] id id := by
  obtain ⟨oc, od, kV, doc, pm, an, cdv, ct, osl, rfl, lk, hcd⟩ := F.ex
  refine ⟨fun s ws _ hl => ?_, fun r => r⟩
  match ws, hl with
  | [a], _ => exact .of_eq (h kV doc pm an cdv ct a)
/-- a def of two parameters, called by their names in their order -/
theorem kb_two {K : Fg} {x qual n m : Str} {st : Stmt} {f : Addr} {fd : FuncData} (F : Fun K x qual st f fd)
    (h : ∀ (kV doc pm : Value) (an : Option Addr) (cdv ct a b : Value), bindArgs (PySem.W.fnOf x qual (defArgs st) (defBody st) (defScope st) .none kV doc pm an cdv ct) ⟨[], [(n, a), (m, b)]⟩ = pure [(n, a), (m, b)]) : KB0 K fd [n, m] [n, m] id id := by
  obtain ⟨oc, od, kV, doc, pm, an, cdv, ct, osl, rfl, lk, hcd⟩ := F.ex
  refine ⟨fun s ws _ hl => ?_, fun r => r⟩
  match ws, hl with
  | [a, b], _ => exact .of_eq (h kV doc pm an cdv ct a b)
theorem Vals.rev {zs : List V} {ws : List Value} (r : Vals zs ws) : Vals zs.reverse ws.reverse := by
  induction r with
  | nil => exact .nil
  | cons a b ih =>
    rw [List.reverse_cons, List.reverse_cons]
    exact L2.Vals.append ih (.cons a .nil)
/-- .. in the other order -/
theorem kb_swap {K : Fg} {x qual n m : Str} {st : Stmt} {f : Addr} {fd : FuncData} (F : Fun K x qual st f fd)
    (h : ∀ (kV doc pm : Value) (an : Option Addr) (cdv ct a b : Value), bindArgs (PySem.W.fnOf x qual (defArgs st) (defBody st) (defScope st) .none kV doc pm an cdv ct) ⟨[], [(m, b), (n, a)]⟩ = pure [(n, a), (m, b)]) : KB0 K fd [n, m] [m, n] List.reverse List.reverse := by
  obtain ⟨oc, od, kV, doc, pm, an, cdv, ct, osl, rfl, lk, hcd⟩ := F.ex
  refine ⟨fun s ws _ hl => ?_, fun r => Vals.rev r⟩
  match ws, hl with
  | [b, a], _ => exact .of_eq (h kV doc pm an cdv ct a b)
  | [], hl => simp at hl
  | [_], hl => simp at hl
  | _ :: _ :: _ :: _, hl => simp at hl

/-! ### on data -/
section
variable {X : Cx} {CX : CXT} {k : Nat} {f : Addr} {fd : FuncData} {ps ks : List Str} {sp : DSp} {E : XK} {x : Str} {p pos kpos : Pos} {e : Expr} {es : List Expr} {kws : List Keyword} {tl : DTL} {ta : DTE} {nm : Option Str}
theorem de_callG (F : FnG X.prog X.w X.K X.mg X.base CX k f fd ps (spD X.K sp)) (hr : Room k X.A) (hgd : X.A.guards = some []) (hg : Gl X x) (hm : X.mg x = some (.ref f)) (hk : PySem.W.keepIn X.K (.ref f) = true) (hb : Binds X.K fd ps []) (hx : Passes CX X E)
    (ha : DLs X (e :: es) tl) (hdb : (x == ("__debug__" : Str)) = false := by decide) (he : starEach (e :: es) X.env = (false, eval e X.env) :: starEach es X.env := by rfl) (hpl : (backTo pos (starEach es X.env)).any (·.1) = false := by rfl) : DE X (.Call (.Name x p) (e :: es) [] pos) (dCall sp tl) := by
  obtain ⟨te, pa, s⟩ := ha
  exact ⟨_, pe_callG F hr hgd hg hm hk hb hx pa hdb he hpl, sim_call s⟩
def DKs (X : Cx) (kws : List Keyword) (t : DTL) : Prop := ∃ te, PK X kws te ∧ SimL X.K te t
theorem dk_nil : DKs X [] dlNil := ⟨_, pk_nil, fun F ρ O σ H A P Qd Q G q k => k [] ρ [] O H A P Stp.refl G rfl q⟩
theorem dk_cons (h : DE X e ta) (hr : DKs X kws tl) : DKs X (⟨nm, e, kpos⟩ :: kws) (dlCons ta tl) := by
  obtain ⟨te, p, s⟩ := dd_of h
  obtain ⟨tr, pr, sr⟩ := hr
  refine ⟨_, pk_cons p pr, fun F ρ O σ H A P Qd Q G q k => s F ρ O σ H A P _ _ G q fun d ρ1 v O1 H1 A1 P1 S1 G1 D1 q1 => sr F ρ1 O1 σ H1 A1 P1 _ _ G1 q1 fun ds ρ2 vs O2 H2 A2 P2 S2 G2 D2 q2 => ?_⟩
  exact k (d :: ds) ρ2 (v :: vs) O2 H2 A2 P2 (S1.trans S2) G2 ⟨v, vs, rfl, D1.mono S2.same, D2⟩ q2
/-- f(k = v, ..): gd puts the data in the parameters' order -/
def dCallK (sp : DSp) (gd : List PyData → List PyData) (t : DTL) : DTE := fun ρ Q => t ρ fun ds ρ1 => sp (gd ds) fun r => Q r ρ1
theorem de_callK0 {g : List Value → List Value} {gV : List V → List V} {gd : List PyData → List PyData} (F : FnOk X.prog X.w X.K X.mg X.base CX k f fd ps (spD X.K sp)) (hr : Room k X.A) (hg : Gl X x) (hm : X.mg x = some (.ref f)) (hk : PySem.W.keepIn X.K (.ref f) = true) (hb : KB0 X.K fd ps ks g gV) (hx : Passes CX X E)
    (hd : ∀ {H : Hp} {ds : List PyData} {vs : List V}, DvL X.K H ds vs → DvL X.K H (gd ds) (gV vs)) (hkw : DKs X kws tl) (hall : (backToKw pos (keywordEach kws X.env)).all (·.1.isSome) = true := by rfl) (hks : (backToKw pos (keywordEach kws X.env)).filterMap (·.1) = ks := by rfl) (hdb : (x == ("__debug__" : Str)) = false := by decide)
    (hpl : ((backTo pos (starEach [] X.env)).any (·.1) || (backToKw pos (keywordEach kws X.env)).any (·.1.isNone)) = false := by rfl) : DE X (.Call (.Name x p) [] kws pos) (dCallK sp gd tl) := by
  obtain ⟨te, pa, s⟩ := hkw
  refine ⟨_, pe_callK0 F hr hg hm hk hb hx pa hall hks hdb hpl, fun F ρ O σ H A P Qd Q G q k => ?_⟩
  refine s F ρ O σ H A P _ _ G q fun ds ρ1 vs O1 H1 A1 P1 S1 G1 D1 q1 => ?_
  refine ⟨O1, gd ds, _, G1.dom, hd D1, q1, fun r v H2 sm rt q2 => ?_⟩
  obtain ⟨O2, fo, S2, G2, R2, N2⟩ := (rt.out sm).fin G1
  exact k r ρ1 v fo O2 H2 A1 P1 (S1.trans S2) G2 R2 (S1.back N2) q2
theorem de_repr (hgd : X.A.guards = some []) (hu : X.A.units + 200 < cLine) (hm : X.mg "repr" = none) (ha : DE X e ta) (hg : Gl X "repr" := by rfl) (he : starEach [e] X.env = (false, eval e X.env) :: starEach [] X.env := by rfl) (hpl : (backTo pos (starEach [] X.env)).any (·.1) = false := by rfl) :
    DE X (.Call (.Name "repr" p) [e] [] pos) (dCl gRep (daCons ta daNil)) := de_callB (call_repD hgd hu) cll_rep hg hm (by decide +kernel) (da_cons ha da_nil he) (by decide) (by decide) he hpl
end
/-- a def of data, called where no repr runs -/
theorem fnDG_ok {P : Program} {w : World} {K : Fg} {mg : Str → Option Value} {base : Heap} {x qual : Str} {st : Stmt} {f : Addr} {fd : FuncData} {N ps : List Str} {k : Nat} {sp : DSp} (Fn : Fun K x qual st f fd) (S : FnScope N ps (defScope st)) (len : ∀ ds Q, sp ds Q → ds.length = ps.length)
    (hbody : ∀ (cdv : Value) (A : Around) (outer : List Env) (s : Shared) (H : Hp) (E : XK), Room k (A.deeper (envOfC qual (defScope st) s.heap.objs.size f cdv)) → A.guards = some [] →
      ∃ t, DSs (cxOf CX0 P w K mg base N qual (defScope st) f cdv A outer s H E).nox false (defBody st) t ∧ ∀ ds Qd, sp ds Qd → t { nx := fun _ => Qd (.d .none), rt := fun r _ => Qd r } (startD N.length ds)) :
    FnG P w K mg base CX0 (k + 1) f fd ps (spD K sp) := by
  refine fnG_body Fn S (fun vs H Q E h => ?_) fun cdv A outer s H vs Q E hr hg h => ?_
  · obtain ⟨O, ds, Qd, _, D, q, _⟩ := h
    rw [D.length, len ds Qd q]
  · obtain ⟨O, ds, Qd, hd, D, q, fin⟩ := h
    obtain ⟨t, ⟨ts, p, s⟩, hq⟩ := hbody cdv A outer s H E hr hg
    refine ⟨ts, p, s (fx0 H O) _ O _ H _ _ _ _ (fun _ => ⟨rfl, fun _ z => z⟩) (start_good hd D) ⟨fun ρ O' σ H' A' P' G q' => ?_, fun _ _ _ _ _ _ _ z => z, fun _ _ _ _ _ _ _ z => z, fun r ρ v O' H' a rt q' => ?_⟩ (hq ds Qd q)⟩
    · exact fin (.d .none) .non H' (fun b o e => G.frame b o e fun z => z) (show Dv K (Hs H' O) .none .non from rfl) q'
    · exact fin r v H' (fun b o e => a.frame b o e fun z => z) (rt.weak a.base) q'

/-! ### the law's end -/
/-- the law: over every list of at most n ints it gives True -/
def spL (K : Fg) (n : Nat) : DSp := fun ds Q => ∃ ns : List Int, ds = [.list (ns.map .int)] ∧ ns.length ≤ n ∧ Q (.d (.bool true))
/-- only the script may be tracked, as a known list -/
def OnlyS (H : Hp) : Prop := ∀ b u, H b = some u → ∃ o xs, u = .frz o (.lst xs)
theorem law_callG {P : Program} {w : World} {K : Fg} {mg mb : Str → Option Value} {CX : CXT} {k n : Nat} {fa a : Addr} {fd : FuncData} {x : Str} {s1 : Shared} {vs : List Value} {ns : List Int} (KX : K.In s1.heap) (hns : s1.heap.Ns mainGlobals mg) (hb : s1.heap.Ns builtinsNs mb)
    (hbb : ∀ x : Str, x ≠ "__name__" → mb x = bootBuiltins x) (hlim : s1.heap.NoLimit) (hgn : s1.gens = #[]) (ha : s1.heap.get? a = some { cls := .type "list", data := .seq vs.toArray }) (hi : IntsAre vs ns) (hl : ns.length ≤ sizeLine) (hln : ns.length ≤ n) (hr : Room k callerA)
    (F : ∀ base : Heap, K.In base → base.Ns mainGlobals mg → FnG P w K mg base CX k fa fd [x] (spD K (spL K n))) (hbind : ∀ (s : Shared) (u : Value), BindsTo s fd ⟨[u], []⟩ [(x, u)]) (hCX : ∀ H e s', CX [] H s1 (fun _ _ _ => False) e s' → False) :
    codeAny (model P w) callerA (.call (.ref fa) ⟨[.ref a], []⟩) (fun r s' => r = .ok (.ret (.bool true)) ∧ OldK s1.heap s'.heap ∧ s'.os = s1.os ∧ AllBare s'.gens) s1 := by
  have vals := vals_ints hi
  have main : ∀ H : Hp, OnlyS H → SqL K H a (ns.map V.int) → HOk P w H s1.heap → (∀ b, H b ≠ none → b = a) → (H a ≠ none → K.lookup a = none) →
      codeAny (model P w) callerA (.call (.ref fa) ⟨[.ref a], []⟩) (fun r s' => r = .ok (.ret (.bool true)) ∧ OldK s1.heap s'.heap ∧ s'.os = s1.os ∧ AllBare s'.gens) s1 := fun H only isq hok atA fresh => by
    have notDict : ∀ (b : Addr) (o : Obj) (es : Array DictEntry) (ep : Nat), s1.heap.get? b = some o → o.data = .dict es ep → H b = none := fun b o es ep e d => by
      rcases q : H b with _ | u
      · rfl
      · have hba : b = a := atA b (by rw [q]; exact Option.some_ne_none u)
        rw [hba, ha] at e
        cases e
        exact nomatch d
    have ns1 : ∀ (b : Addr) (m : Str → Option Value), s1.heap.Ns b m → (hidT s1.heap H).Ns b m := fun b m h => by
      obtain ⟨o, es, ep, e, d, r⟩ := h
      exact ⟨o, es, ep, hidT_get e (notDict b o es ep e d), d, r⟩
    have K1 : K.In (hidT s1.heap H) := fun b o e => by
      refine hidT_get (KX b o e) ?_
      rcases q : H b with _ | u
      · rfl
      · have hba : b = a := atA b (by rw [q]; exact Option.some_ne_none u)
        have z := fresh (by rw [← hba, q]; exact Option.some_ne_none u)
        rw [hba, z] at e
        cases e
    have M1 : Mod K mg (hidT s1.heap H) := by
      obtain ⟨mc, l1, l2⟩ := hlim
      exact ⟨K1, ns1 _ _ hns, ⟨mb, ns1 _ _ hb, hbb⟩, ⟨mc, ns1 _ _ l1, l2⟩⟩
    have none0 : ∀ (b : Addr), b ∈ ([] : List Addr) → False := fun b z => nomatch z
    have E1 : Env0 P w K mg (hidT s1.heap H) callerA [] s1 H := ⟨rfl, M1, fun b o => of_hidT, Nat.le_of_eq (hidT_size _ _), trivial, fun b z => (none0 b z).elim, hok, .of_eq hgn⟩
    have start1 : spD K (spL K n) [.ref a] H (fun v _ => v = .bl true) fun _ _ _ => False := by
      have e0 : Hs H (fun _ => False) = H := funext fun b => by unfold Hs; rw [if_neg fun z => z]
      refine ⟨fun _ => False, [.list (ns.map .int)], fun r => r = .d (.bool true), fun _ z => z.elim, ?_, ⟨ns, rfl, hln, rfl⟩, fun r v H' _ rt q => ?_⟩
      · rw [e0]
        exact ⟨_, _, rfl, ⟨a, _, rfl, isq, DvL.of_ints ns⟩, rfl⟩
      · subst q
        exact rt
    refine codeAny_mono ((F _ K1 (ns1 _ _ hns)).run callerA [] s1 H ⟨[.ref a], []⟩ [.ref a] [.ref a] _ _ hr rfl E1 (hbind s1 (.ref a)) (.cons rfl .nil) start1) fun r s' h => ?_
    rcases r with e | fl
    · exact (hCX H e s' h).elim
    · cases fl with
      | next => exact h.elim
      | brk => exact h.elim
      | cont => exact h.elim
      | ret u =>
        obtain ⟨v, H2, os, bare, un, hok2, rv, q⟩ := h
        cases (show v = .bl true from q)
        cases (show u = Value.bool true from rv)
        refine ⟨rfl, OldK.of_keep fun b o e => ?_, os, bare⟩
        rcases q : H b with _ | u
        · exact un.keep b o e q (fun z => none0 b z) (by intro z; cases z)
        · obtain ⟨ob, xs, rfl⟩ := only b u q
          have l1 := (hok b _ q).1
          have l2 := (hok2 b _ (un.frzs b ob _ q)).1
          rw [e] at l1
          cases l1
          exact l2
  rcases hk : K.lookup a with _ | o
  · let H0 : Hp := fun b => if b = a then some (.frz { cls := .type "list", data := .seq vs.toArray } (.lst (ns.map V.int))) else none
    have inv : ∀ b u, H0 b = some u → b = a ∧ u = .frz { cls := .type "list", data := .seq vs.toArray } (.lst (ns.map V.int)) := fun b u z => by
      have z' : (if b = a then some (HO.frz { cls := .type "list", data := .seq vs.toArray } (.lst (ns.map V.int))) else none) = some u := z
      split at z'
      · rename_i h
        cases z'
        exact ⟨h, rfl⟩
      · cases z'
    refine main H0 (fun b u z => ⟨_, _, (inv b u z).2⟩) (.inl (.inr ⟨_, if_pos rfl⟩)) (fun b u z => ?_) (fun b z => ?_) fun _ => hk
    · obtain ⟨rfl, rfl⟩ := inv b u z
      exact ⟨ha, by rw [List.length_map]; exact hl, vs, _, vals, ha⟩
    · obtain ⟨u, e⟩ := Option.ne_none_iff_exists'.mp z
      exact (inv b u e).1
  · have e := KX a o hk
    rw [ha] at e
    cases e
    refine main (fun _ => none) (fun b u z => nomatch z) (.inr ⟨_, vs.toArray, _, hk, rfl, rfl, rfl, ?_, by simpa using vals⟩) (fun b u z => nomatch z) (fun b z => (z rfl).elim) fun z => (z rfl).elim
    rw [List.size_toArray, hi.length]
    exact hl
/-- what k_head leaves (case hc) -/
theorem walk_ofG {l : PySem.W.OpenLaw} {n k : Nat} {q : Program} {loose : List Str} {XP : (Str → Option Value) → Heap → Prop} {YP : World → Heap → Prop} {d : DefRec} {K : Params → Fg} {CX : CXT} {x : Str} (hn : l.most = some n) (hn2 : n ≤ sizeLine) (hdf : d.params.defaults = []) (hr : Room k callerA)
    (hY : ∀ (w : World) (h : Heap), YP w h → (K w.params).In h)
    (F : ∀ (w : World) (mg : Str → Option Value) (fa : Addr) (h : Heap), (K w.params).In h → h.Ns mainGlobals mg → mg d.name = some (.ref fa) →
      ∃ fd : FuncData, (∀ (s : Shared) (u : Value), BindsTo s fd ⟨[u], []⟩ [(x, u)]) ∧ ∀ base : Heap, (K w.params).In base → base.Ns mainGlobals mg → FnG l.prog w (K w.params) mg base CX k fa fd [x] (spD (K w.params) (spL (K w.params) n)))
    (hCX : ∀ (H : Hp) (s : Shared) (e : Value) (s' : Shared), CX [] H s (fun _ _ _ => False) e s' → False) : PySem.W.WalkO q loose XP YP l.row.toRowW d [] (fun f vs => PySem.call f vs) := by
  refine Att.attach_call hn hdf fun w s0 s1 mg mb fa o pm cd doc a vs ns G Y ho hd hcd hmg hobj hints hlen hg => ?_
  have Kh := hY w _ Y
  obtain ⟨fd, b1, f1⟩ := F w mg fa _ Kh G.T.g hmg
  exact law_callG Kh G.T.g G.T.b G.T.builtins G.T.nolimit hg hobj hints (Nat.le_trans hlen hn2) hlen hr f1 b1 fun H e s' => hCX H s1 e s'
end DL
namespace DL
open PySem PySem.Spec PyProof.Rows L2

/-! ### isinstance of data -/
def kindD : PyData → String
  | .none => "NoneType"
  | .bool _ => "bool"
  | .int _ => "int"
  | .str _ => "str"
  | .list _ => "list"
  | .tuple _ => "tuple"
  | .dict _ => "dict"
def isB (k T : String) : Bool := k == T || (k == "bool" && T == "int")
def KitOk (T : String) : Prop := ∀ d, kitB (kindD d) T = some (isB (kindD d) T)
theorem kit_int : KitOk "int" := fun d => by
  cases d
  · exact (by decide +kernel : kitB "NoneType" "int" = some (isB "NoneType" "int"))
  · exact (by decide +kernel : kitB "bool" "int" = some (isB "bool" "int"))
  · exact (by decide +kernel : kitB "int" "int" = some (isB "int" "int"))
  · exact (by decide +kernel : kitB "str" "int" = some (isB "str" "int"))
  · exact (by decide +kernel : kitB "list" "int" = some (isB "list" "int"))
  · exact (by decide +kernel : kitB "tuple" "int" = some (isB "tuple" "int"))
  · exact (by decide +kernel : kitB "dict" "int" = some (isB "dict" "int"))
theorem kit_bool : KitOk "bool" := fun d => by
  cases d
  · exact (by decide +kernel : kitB "NoneType" "bool" = some (isB "NoneType" "bool"))
  · exact (by decide +kernel : kitB "bool" "bool" = some (isB "bool" "bool"))
  · exact (by decide +kernel : kitB "int" "bool" = some (isB "int" "bool"))
  · exact (by decide +kernel : kitB "str" "bool" = some (isB "str" "bool"))
  · exact (by decide +kernel : kitB "list" "bool" = some (isB "list" "bool"))
  · exact (by decide +kernel : kitB "tuple" "bool" = some (isB "tuple" "bool"))
  · exact (by decide +kernel : kitB "dict" "bool" = some (isB "dict" "bool"))
theorem kit_str : KitOk "str" := fun d => by
  cases d
  · exact (by decide +kernel : kitB "NoneType" "str" = some (isB "NoneType" "str"))
  · exact (by decide +kernel : kitB "bool" "str" = some (isB "bool" "str"))
  · exact (by decide +kernel : kitB "int" "str" = some (isB "int" "str"))
  · exact (by decide +kernel : kitB "str" "str" = some (isB "str" "str"))
  · exact (by decide +kernel : kitB "list" "str" = some (isB "list" "str"))
  · exact (by decide +kernel : kitB "tuple" "str" = some (isB "tuple" "str"))
  · exact (by decide +kernel : kitB "dict" "str" = some (isB "dict" "str"))
theorem kit_list : KitOk "list" := fun d => by
  cases d
  · exact (by decide +kernel : kitB "NoneType" "list" = some (isB "NoneType" "list"))
  · exact (by decide +kernel : kitB "bool" "list" = some (isB "bool" "list"))
  · exact (by decide +kernel : kitB "int" "list" = some (isB "int" "list"))
  · exact (by decide +kernel : kitB "str" "list" = some (isB "str" "list"))
  · exact (by decide +kernel : kitB "list" "list" = some (isB "list" "list"))
  · exact (by decide +kernel : kitB "tuple" "list" = some (isB "tuple" "list"))
  · exact (by decide +kernel : kitB "dict" "list" = some (isB "dict" "list"))
theorem kit_tuple : KitOk "tuple" := fun d => by
  cases d
  · exact (by decide +kernel : kitB "NoneType" "tuple" = some (isB "NoneType" "tuple"))
  · exact (by decide +kernel : kitB "bool" "tuple" = some (isB "bool" "tuple"))
  · exact (by decide +kernel : kitB "int" "tuple" = some (isB "int" "tuple"))
  · exact (by decide +kernel : kitB "str" "tuple" = some (isB "str" "tuple"))
  · exact (by decide +kernel : kitB "list" "tuple" = some (isB "list" "tuple"))
  · exact (by decide +kernel : kitB "tuple" "tuple" = some (isB "tuple" "tuple"))
  · exact (by decide +kernel : kitB "dict" "tuple" = some (isB "dict" "tuple"))
theorem kit_dict : KitOk "dict" := fun d => by
  cases d
  · exact (by decide +kernel : kitB "NoneType" "dict" = some (isB "NoneType" "dict"))
  · exact (by decide +kernel : kitB "bool" "dict" = some (isB "bool" "dict"))
  · exact (by decide +kernel : kitB "int" "dict" = some (isB "int" "dict"))
  · exact (by decide +kernel : kitB "str" "dict" = some (isB "str" "dict"))
  · exact (by decide +kernel : kitB "list" "dict" = some (isB "list" "dict"))
  · exact (by decide +kernel : kitB "tuple" "dict" = some (isB "tuple" "dict"))
  · exact (by decide +kernel : kitB "dict" "dict" = some (isB "dict" "dict"))
theorem tyX_of {K : Fg} {Hst H : Hp} {d : PyData} {v : V} (e : Same Hst H) (h : Dw K Hst H d v) : TyX K H v (.type (kindD d)) := by
  cases d with
  | none => cases (show v = .non from h); exact .base .non
  | bool b => cases (show v = .bl b from h); exact .base (.bl b)
  | int i => cases (show v = .int i from h); exact .base (.int i)
  | str x => cases (show v = .str x from h); exact .base (.str x)
  | dict kvs =>
    obtain ⟨a, ws, rfl, h1, _⟩ := (show Dv K Hst (.dict kvs) v from h)
    exact .base (.dK (e _ _ h1))
  | list ds =>
    obtain ⟨a, xs, rfl, hs, _⟩ := h
    rcases hs with (q | ⟨o, q⟩) | ⟨o, its, n, q, c, _⟩
    · exact .base (.lst q)
    · exact .base (.frz q)
    · exact .kList q c
  | tuple ds =>
    obtain ⟨a, xs, rfl, hs, _⟩ := h
    rcases hs with (q | ⟨o, q⟩) | ⟨o, its, n, q, c, _⟩
    · exact .base (.tup q)
    · exact .fTuple q
    · exact .kTuple q c
section
variable {X : Cx} {io : Bool} {e a b c o tg : Expr} {es : List Expr} {pos : Pos} {ta tb tc : DTE} {tl : DTL}
def dIsi (T : String) (t : DTE) : DTE := fun ρ Q => t ρ fun r ρ1 => match view ρ1 r with
  | some d => Q (.d (.bool (isB (kindD d) T))) ρ1
  | none => False
theorem de_isi {T : String} {x : Str} {p p2 : Pos} (hT : KitOk T) (hm : X.mg "isinstance" = none) (hx : X.mg x = none) (hv : bootBuiltins x = some (.type T)) (ha : DE X e ta) (hg : Gl X "isinstance" := by rfl) (hgx : Gl X x := by rfl) (hn : x ≠ "__name__" := by decide) (hd : (x == ("__debug__" : Str)) = false := by decide)
    (he : starEach [e, .Name x p2] X.env = (false, eval e X.env) :: starEach [.Name x p2] X.env := by rfl) (he2 : starEach [.Name x p2] X.env = (false, eval (.Name x p2) X.env) :: starEach [] X.env := by rfl) (hpl : (backTo pos (starEach [.Name x p2] X.env)).any (·.1) = false := by rfl) :
    DE X (.Call (.Name "isinstance" p) [e, .Name x p2] [] pos) (dIsi T ta) := by
  obtain ⟨te, pa, s⟩ := ha
  refine ⟨_, pe_callB call_isi hg hm (by decide +kernel) (pa_cons pa (pa_cons (pe_bltn (v := .ty T) hgx hx hv rfl hn hd) pa_nil he2) he) (by decide) (by decide) he hpl, fun F ρ O σ H A P Qd Q G q k => s F ρ O σ H A P _ _ G q fun r ρ1 v fp O1 H1 A1 P1 S1 G1 R1 N1 q1 => ?_⟩
  cases e1 : view ρ1 r with
  | none => simp only [e1] at q1
  | some d =>
    simp only [e1] at q1
    exact ⟨v, .ty T, _, .type T, _, rfl, .ty T, tyX_of Hs_sub (view_ok G1 R1 e1), kit_ty (hT d), k (.d (.bool (isB (kindD d) T))) ρ1 _ [] O1 H1 A1 P1 S1 G1 rfl nw_d q1⟩

/-! ### [..] * n -/
def dRep (ta tb : DTE) : DTE := fun ρ Q => ta ρ fun r ρ1 => match r with
  | .n (.lst ds) => tb ρ1 fun s ρ2 => match view ρ2 s with
    | some (.int k) => -(2 ^ 63) ≤ k ∧ k < 2 ^ 63 ∧ ds.length * k.toNat ≤ sizeLine ∧ Q (.n (.lst (List.replicate k.toNat ds).flatten)) ρ2
    | _ => False
  | _ => False
theorem DvL.rep {K : Fg} {H : Hp} {ds : List PyData} {xs : List V} (h : DvL K H ds xs) : ∀ n : Nat, DvL K H (List.replicate n ds).flatten (List.replicate n xs).flatten
  | 0 => rfl
  | n + 1 => by
    rw [List.replicate_succ, List.replicate_succ, List.flatten_cons, List.flatten_cons]
    exact h.app (DvL.rep h n)
theorem de_rep (ha : DE X a ta) (hb : DE X b tb) : DE X (.BinOp a .Mult b pos) (dRep ta tb) := by
  obtain ⟨ea, pa, sa⟩ := ha
  obtain ⟨eb, pb, sb⟩ := hb
  refine ⟨_, pe_op op_rep pa pb, fun F ρ O σ H A P Qd Q G q k => sa F ρ O σ H A P _ _ G q fun r ρ1 v1 fp1 O1 H1 A1 P1 S1 G1 R1 N1 q1 => ?_⟩
  cases r with
  | d d => exact (show False from q1).elim
  | o i => exact (show False from q1).elim
  | n w =>
    cases w with
    | lst ds =>
      refine sb F ρ1 O1 σ H1 A1 P1 _ _ G1 q1 fun r2 ρ2 v2 fp2 O2 H2 A2 P2 S2 G2 R2 N2 q2 => ?_
      have R1' := S2.rk R1
      obtain ⟨p, e1, _, e2, xs, e3, e4⟩ := R1'
      cases e5 : view ρ2 r2 with
      | none => simp only [e5] at q2
      | some d =>
        cases d with
        | int kk =>
          simp only [e5] at q2
          obtain ⟨g1, g2, g3, g4⟩ := q2
          have v2e : v2 = V.int kk := view_ok G2 R2 e5
          refine ⟨p, kk, xs, e1, v2e, e3, g1, g2, by rw [e4.length]; exact g3, fun p2 hp2 => ?_⟩
          obtain ⟨O3, fo, S3, G3, R3, N3⟩ := (Out.lst G2.dom hp2 (e4.rep kk.toNat)).fin G2
          have S := S1.trans S2
          exact k _ ρ2 _ fo O3 _ A2 P2 (S.trans S3) G3 R3 (S.back N3) g4
        | _ => simp only [e5] at q2
    | _ => exact (show False from q1).elim

/-! ### name op= e -/
def dAug (i : Nat) (f : Int → Int → Int) (t : DTE) : DTS := fun D ρ => match slot ρ i with
  | .val (.int a) => t ρ fun r ρ1 => match view ρ1 r with
    | some (.int b) => D.nx (put ρ1 i (.val (.int (f a b))))
    | _ => False
  | _ => False
theorem ds_aug (i : Nat) {x : Str} {pos' : Pos} {op : Operator} {f : Int → Int → Int} (hN : X.N.Nodup) (ho : PIp X op (ipI f)) (he : DE X e ta) (hi : X.N[i]? = some x := by rfl) (hx : Loc X.env.scope x := by first | exact Or.inl rfl | exact Or.inr rfl)
    (hf : X.fn x = true ∨ X.env.scope.names.lookup x = some .local := by first | exact .inl rfl | exact .inr rfl | assumption) : DS X io (.AugAssign (.Name x pos') op e pos) (dAug i f ta) := by
  obtain ⟨te, p, s⟩ := he
  refine ⟨_, ps_aug hN hi hx p ho hf, fun F ρ O σ H A P Dd D hr G E q => ?_⟩
  unfold dAug at q
  cases s0 : slot ρ i with
  | free => simp only [s0] at q
  | own w => simp only [s0] at q
  | val d =>
    cases d with
    | int a0 =>
      simp only [s0] at q
      obtain ⟨v, g1, g2⟩ := G.val i _ s0
      cases (show v = .int a0 from g2)
      refine ⟨_, g1, s F ρ O σ H A P _ _ G q fun r ρ1 v1 fp O1 H1 A1 P1 S1 G1 R1 N1 q1 => ?_⟩
      cases e1 : view ρ1 r with
      | none => simp only [e1] at q1
      | some d =>
        cases d with
        | int b0 =>
          simp only [e1] at q1
          cases (show v1 = .int b0 from view_ok G1 R1 e1)
          exact ⟨a0, b0, rfl, rfl, E.nx _ O1 _ H1 A1 P1 (G1.putV (d := .int (f a0 b0)) (v := .int (f a0 b0)) rfl) q1⟩
        | _ => simp only [e1] at q1
    | _ => simp only [s0] at q

/-! ### a, b = x, y -/
def dPar2 (i j : Nat) (t : DTL) : DTS := fun D ρ => t ρ fun ds ρ1 => match ds with
  | [d, e] => D.nx (put (put ρ1 i (.val d)) j (.val e))
  | _ => False
theorem ds_par2 (i j : Nat) {x y : Str} {px py pt : Pos} {kt : Nat} {k2 pt2} (hc : X.calm = true) (hN : X.N.Nodup) (ha : DLs X [a, b] tl) (hij : i ≠ j := by decide) (hi : X.N[i]? = some x := by rfl) (hj : X.N[j]? = some y := by rfl)
    (hx : X.env.scope.names.lookup x = some .local := by rfl) (hy : X.env.scope.names.lookup y = some .local := by rfl) (hw : swappedStores [.Tuple [.Name x px, .Name y py] kt pt] (.Tuple [a, b] k2 pt2) X.env = pure (some [x, y]) := by rfl)
    (hs : swapsWithSole [.Tuple [.Name x px, .Name y py] kt pt] (.Tuple [a, b] k2 pt2) pos.line X.env = pure false := by rfl) :
    DS X io (.Assign [.Tuple [.Name x px, .Name y py] kt pt] (.Tuple [a, b] k2 pt2) pos) (dPar2 i j tl) := by
  obtain ⟨te, p, s⟩ := ha
  refine ⟨_, ps_par hc hN hi hj hij hx hy p hw hs, fun F ρ O σ H A P Dd D hr G E q => s F ρ O σ H A P _ _ G q fun ds ρ1 vs O1 H1 A1 P1 S1 G1 D1 q1 => ?_⟩
  match ds, q1, D1 with
  | [d, e], q1, D1 =>
    obtain ⟨v, ws, rfl, d1, v2, ws2, rfl, d2, rfl⟩ := D1
    exact ⟨v, v2, rfl, E.nx _ O1 _ H1 A1 P1 ((G1.putV d1).putV d2) q1⟩
def dPar3 (i j l : Nat) (t : DTL) : DTS := fun D ρ => t ρ fun ds ρ1 => match ds with
  | [d, e, f] => D.nx (put (put (put ρ1 i (.val d)) j (.val e)) l (.val f))
  | _ => False
theorem ds_par3 (i j l : Nat) {x y z : Str} {px py pz pt : Pos} {kt : Nat} {k2 pt2} (hc : X.calm = true) (hN : X.N.Nodup) (ha : DLs X [a, b, c] tl) (hij : i ≠ j := by decide) (hil : i ≠ l := by decide) (hjl : j ≠ l := by decide) (hi : X.N[i]? = some x := by rfl) (hj : X.N[j]? = some y := by rfl) (hl : X.N[l]? = some z := by rfl)
    (hx : X.env.scope.names.lookup x = some .local := by rfl) (hy : X.env.scope.names.lookup y = some .local := by rfl) (hz : X.env.scope.names.lookup z = some .local := by rfl) (hw : swappedStores [.Tuple [.Name x px, .Name y py, .Name z pz] kt pt] (.Tuple [a, b, c] k2 pt2) X.env = pure (some [x, y, z]) := by rfl)
    (hs : swapsWithSole [.Tuple [.Name x px, .Name y py, .Name z pz] kt pt] (.Tuple [a, b, c] k2 pt2) pos.line X.env = pure false := by rfl) :
    DS X io (.Assign [.Tuple [.Name x px, .Name y py, .Name z pz] kt pt] (.Tuple [a, b, c] k2 pt2) pos) (dPar3 i j l tl) := by
  obtain ⟨te, p, s⟩ := ha
  refine ⟨_, ps_par3 hc hN hi hj hl hij hil hjl hx hy hz p hw hs, fun F ρ O σ H A P Dd D hr G E q => s F ρ O σ H A P _ _ G q fun ds ρ1 vs O1 H1 A1 P1 S1 G1 D1 q1 => ?_⟩
  match ds, q1, D1 with
  | [d, e, f], q1, D1 =>
    obtain ⟨v, ws, rfl, d1, v2, ws2, rfl, d2, v3, ws3, rfl, d3, rfl⟩ := D1
    exact ⟨v, v2, v3, rfl, E.nx _ O1 _ H1 A1 P1 (((G1.putV d1).putV d2).putV d3) q1⟩
/-! ### targets that write -/
def SimGo (K : Fg) (g : TG) (t : DTG) : Prop := ∀ (F : Fx) (ρ : DEnv) (O : Own) (σ : Sg) (H : Hp) (A : Nat → Addr) (P : Nat → List Addr) (d : PyData) (v : V) (Qd : DEnv → Prop) (Q : Sg → Hp → Prop), Good K F ρ O σ H A P → Dv K (Hs H O) d v → t d ρ Qd →
  (∀ ρ' O' σ' H' A' P', Good K F ρ' O' σ' H' A' P' → Same (Hs H O) (Hs H' O') → Qd ρ' → Q σ' H') → g v σ H Q
def DGo (X : Cx) (tg : Expr) (t : DTG) : Prop := ∃ g, PG X tg g ∧ SimGo X.K g t
theorem DG.go {t : DTG} (h : DG X tg t) : DGo X tg t := let ⟨g, p, s⟩ := h; ⟨g, p, fun F ρ O σ H A P d v Qd Q G D q k => s F ρ O σ H A P d v Qd Q G D q fun ρ' σ' G' q' => k ρ' O σ' H A P G' (Same.refl _) q'⟩
def DGos (X : Cx) (es : List Expr) (t : DTGs) : Prop := ∃ g, PGs X es g ∧ ∀ (F : Fx) (ρ : DEnv) (O : Own) (σ : Sg) (H : Hp) (A : Nat → Addr) (P : Nat → List Addr) (ds : List PyData) (vs : List V) (Qd : DEnv → Prop) (Q : Sg → Hp → Prop), Good X.K F ρ O σ H A P → DvL X.K (Hs H O) ds vs → t ds ρ Qd →
  (∀ ρ' O' σ' H' A' P', Good X.K F ρ' O' σ' H' A' P' → Same (Hs H O) (Hs H' O') → Qd ρ' → Q σ' H') → g vs σ H Q
theorem dgos_nil : DGos X [] dgNil := ⟨_, pgs_nil, fun F ρ O σ H A P ds vs Qd Q G D q k => by
  unfold dgNil at q
  cases ds with
  | nil =>
    have e : vs = [] := D
    exact ⟨e, k ρ O σ H A P G (Same.refl _) q⟩
  | cons d ds => exact q.elim⟩
theorem dgos_cons {t : DTG} {u : DTGs} (h1 : DGo X e t) (h2 : DGos X es u) (hs : (assignEach (e :: es) X.env).map (·.2) = assign e X.env :: (assignEach es X.env).map (·.2) := by rfl) : DGos X (e :: es) (dgCons t u) := by
  obtain ⟨g, p, s⟩ := h1
  obtain ⟨gs, ps, ss⟩ := h2
  refine ⟨_, pgs_cons p ps hs, fun F ρ O σ H A P ds vs Qd Q G D q k => ?_⟩
  cases ds with
  | nil => exact (show False from q).elim
  | cons d ds =>
    obtain ⟨y, ys, rfl, d1, d2⟩ := D
    exact ⟨y, ys, rfl, s F ρ O σ H A P d y _ _ G d1 q fun ρ1 O1 σ1 H1 A1 P1 G1 sm q1 => ss F ρ1 O1 σ1 H1 A1 P1 ds ys _ _ G1 (d2.mono sm) q1 fun ρ2 O2 σ2 H2 A2 P2 G2 sm2 q2 => k ρ2 O2 σ2 H2 A2 P2 G2 (fun b o z => sm2 b o (sm b o z)) q2⟩
theorem dgo_tup {k n : Nat} {t : DTGs} (hc : X.calm = true) (h : DGos X es t) (hn : (assignEach es X.env).length = n := by rfl) (hst : (assignEach es X.env).findIdx? (·.1) = none := by rfl) : DGo X (.Tuple es k pos) (dgTup n t) := by
  obtain ⟨g, p, s⟩ := h
  refine ⟨_, pg_tup hc p hn hst, fun F ρ O σ H A P d v Qd Q G D q k => ?_⟩
  cases d with
  | tuple ds =>
    obtain ⟨a, xs, rfl, h1, h2⟩ := D
    exact ⟨a, xs, rfl, same_sqT Hs_sub h1, by rw [h2.length]; exact q.1, s F ρ O σ H A P ds xs _ _ G h2 q.2 k⟩
  | _ => exact (show False from q).elim
/-- name[i] as a target, an owned list -/
def dgSubL (i : Nat) (ti : DTE) : DTG := fun d ρ Q => match slot ρ i with
  | .own (.lst _) => ti ρ fun r ρ2 => match view ρ2 r, slot ρ2 i with
    | some (.int k), .own (.lst ds) => match ixN ds.length k with
      | some j => Q (put ρ2 i (.own (.lst (ds.set j d))))
      | none => False
    | _, _ => False
  | _ => False
theorem dgo_subL (i : Nat) {x : Str} {p1 : Pos} (hi : DE X a ta) (hN : X.N[i]? = some x := by rfl) (hv : Vis X.env.scope x := by first | exact Or.inl rfl | exact Or.inr (Or.inl rfl)) (hd : (x == ("__debug__" : Str)) = false := by decide) (hcd : (x == ("__classdict__" : Str)) = false := by decide)
    (hp : ∀ to ti, PE X (.Name x p1) to → PE X a ti → PG X (.Subscript (.Name x p1) a pos) (L2.gSub to ti rSetL) := by exact fun _ _ u v => pg_sub u v set_list) : DGo X (.Subscript (.Name x p1) a pos) (dgSubL i ta) := by
  obtain ⟨ti, pi, si⟩ := hi
  refine ⟨_, hp _ _ (pe_var hN hv hd hcd) pi, fun F ρ O σ H A P d v Qd Q G D q k => ?_⟩
  unfold dgSubL at q
  cases s0 : slot ρ i with
  | free => simp only [s0] at q
  | val d => simp only [s0] at q
  | own w =>
    cases w with
    | lst ds0 =>
      simp only [s0] at q
      obtain ⟨g1, _⟩ := G.own i _ s0
      refine ⟨_, g1, si F ρ O σ H A P _ _ G q fun r ρ2 v2 fp2 O2 H2 A2 P2 S2 G2 R2 N2 q2 => ?_⟩
      cases e1 : view ρ2 r with
      | none => simp only [e1] at q2
      | some dk =>
        cases s2 : slot ρ2 i with
        | free => cases dk <;> simp only [e1, s2] at q2
        | val d => cases dk <;> simp only [e1, s2] at q2
        | own w =>
          cases dk with
          | int kk =>
            cases w with
            | lst ds =>
              simp only [e1, s2] at q2
              cases e3 : ixN ds.length kk with
              | none => simp only [e3] at q2
              | some j =>
                simp only [e3] at q2
                obtain ⟨f1, ⟨ff, xs, f2, f3⟩, f4, _⟩ := G2.own i _ s2
                rw [g1] at f1
                have ea : A i = A2 i := V.ref.inj (Option.some.inj (Option.some.inj f1))
                have V2 : v2 = V.int kk := view_ok G2 R2 e1
                refine ⟨A i, xs, kk, j, rfl, V2, by rw [ea]; exact f2, by rw [f3.length]; exact e3, ?_⟩
                rw [ea]
                refine k _ O2 σ _ A2 P2 (G2.chg s2 (f3.set (D.mono S2.same) j)) (fun b o z => ?_) q2
                obtain ⟨z1, z2⟩ := Hs_out (S2.same b o z)
                have nb : b ≠ A2 i := fun w => z2 (by rw [w]; exact f4 _ (by rw [ff]; simp))
                exact Hs_in (by rw [upd_ne nb]; exact z1) z2
            | _ => simp only [e1, s2] at q2
          | _ => cases w <;> simp only [e1, s2] at q2
    | _ => simp only [s0] at q
/-- target = e, by the target's own reading -/
def dAsg (t : DTE) (g : DTG) : DTS := fun D ρ => dSt t ρ fun d ρ1 => g d ρ1 D.nx
theorem ds_asg {g : DTG} (he : DE X e ta) (hg : DGo X tg g) (hs : swapsWithSole [tg] e pos.line X.env = pure false := by rfl) (hw : swappedStores [tg] e X.env = pure none := by rfl) (h1 : (assignEach [tg] X.env).map (·.2) = [assign tg X.env] := by rfl) :
    DS X io (.Assign [tg] e pos) (dAsg ta g) := by
  obtain ⟨te, p, s⟩ := dd_of he
  obtain ⟨gg, pg, sg⟩ := hg
  exact ⟨_, ps_asg p pg hs hw h1, fun F ρ O σ H A P Dd D hr G E q => s F ρ O σ H A P _ _ G q fun d ρ1 v O1 H1 A1 P1 S1 G1 D1 q1 => sg F ρ1 O1 σ H1 A1 P1 d v _ _ G1 D1 q1 fun ρ2 O2 σ2 H2 A2 P2 G2 _ q2 => E.nx ρ2 O2 σ2 H2 A2 P2 G2 q2⟩
end
end DL
namespace DL
open PySem PySem.Spec PyProof.Rows L2

/-! ### dicts of data -/
def valD (kvs : List (Key × PyData)) (k : Key) : Option PyData := (kvs.find? fun kv => decide (kv.1 = k)).map (·.2)
def putD (kvs : List (Key × PyData)) (k : Key) (d : PyData) : List (Key × PyData) := if (kvs.any fun kv => decide (kv.1 = k)) = true then kvs.map (fun kv => if kv.1 = k then (kv.1, d) else kv) else kvs ++ [(k, d)]
theorem putD_le (kvs : List (Key × PyData)) (k : Key) (d : PyData) : (putD kvs k d).length ≤ kvs.length + 1 := by
  unfold putD
  split
  · rw [List.length_map]; omega
  · rw [List.length_append]; simp
/-- the items of a dict bear its data -/
def KD (K : Fg) (H : Hp) (kvs : List (Key × PyData)) (ws : List (Key × V)) : Prop := kvs.map (·.1) = ws.map (·.1) ∧ DvL K H (kvs.map (·.2)) (ws.map (·.2))
theorem KD.nil {K : Fg} {H : Hp} : KD K H [] [] := ⟨rfl, rfl⟩
theorem KD.mono {K : Fg} {H H' : Hp} {kvs : List (Key × PyData)} {ws : List (Key × V)} (e : Same H H') (h : KD K H kvs ws) : KD K H' kvs ws := ⟨h.1, h.2.mono e⟩
theorem KD.length {K : Fg} {H : Hp} {kvs : List (Key × PyData)} {ws : List (Key × V)} (h : KD K H kvs ws) : ws.length = kvs.length := by
  have := congrArg List.length h.1
  rw [List.length_map, List.length_map] at this
  exact this.symm
theorem KD.cases {K : Fg} {H : Hp} {p : Key × PyData} {kvs : List (Key × PyData)} {ws : List (Key × V)} (h : KD K H (p :: kvs) ws) : ∃ v ws', ws = (p.1, v) :: ws' ∧ Dv K H p.2 v ∧ KD K H kvs ws' := by
  obtain ⟨h1, h2⟩ := h
  cases ws with
  | nil => simp at h1
  | cons q ws =>
    simp only [List.map_cons, List.cons.injEq] at h1
    obtain ⟨y, ys, e, g1, g2⟩ := h2
    have e' : q.2 :: ws.map (·.2) = y :: ys := e
    cases e'
    obtain ⟨q1, q2⟩ := q
    have e1 : p.1 = q1 := h1.1
    exact ⟨q2, ws, by rw [e1], g1, h1.2, g2⟩
theorem KD.cons {K : Fg} {H : Hp} {k : Key} {d : PyData} {v : V} {kvs : List (Key × PyData)} {ws : List (Key × V)} (h1 : Dv K H d v) (h : KD K H kvs ws) : KD K H ((k, d) :: kvs) ((k, v) :: ws) :=
  ⟨by simp only [List.map_cons]; rw [h.1], v, _, rfl, h1, h.2⟩
theorem KD.get {K : Fg} {H : Hp} {k : Key} {d : PyData} : ∀ {kvs : List (Key × PyData)} {ws : List (Key × V)}, KD K H kvs ws → valD kvs k = some d → ∃ v, valV ws k = some v ∧ Dv K H d v
  | [], _, _, e => by simp [valD] at e
  | p :: kvs, ws, h, e => by
    obtain ⟨v, ws', rfl, h1, h2⟩ := h.cases
    by_cases hk : p.1 = k
    · have e' : p.2 = d := by simpa [valD, List.find?_cons, hk] using e
      exact ⟨v, valV_pos hk, e' ▸ h1⟩
    · have e' : valD kvs k = some d := by
        unfold valD at e ⊢
        rw [List.find?_cons] at e
        simpa [hk] using e
      obtain ⟨u, q1, q2⟩ := KD.get h2 e'
      exact ⟨u, (valV_neg hk).trans q1, q2⟩
theorem KD.map {K : Fg} {H : Hp} {k : Key} {d : PyData} {v : V} (hd : Dv K H d v) : ∀ {kvs : List (Key × PyData)} {ws : List (Key × V)}, KD K H kvs ws →
    KD K H (kvs.map fun kv => if kv.1 = k then (kv.1, d) else kv) (ws.map fun kv => if kv.1 = k then (kv.1, v) else kv)
  | [], ws, h => by
    have e := h.length
    rw [List.length_nil] at e
    rw [List.length_eq_zero_iff.mp e]
    exact KD.nil
  | p :: kvs, ws, h => by
    obtain ⟨u, ws', rfl, h1, h2⟩ := h.cases
    rw [List.map_cons, List.map_cons]
    by_cases hk : p.1 = k
    · rw [if_pos hk, if_pos (show (p.1, u).1 = k from hk)]
      exact KD.cons hd (KD.map hd h2)
    · rw [if_neg hk, if_neg (show ¬ (p.1, u).1 = k from hk)]
      exact KD.cons h1 (KD.map hd h2)
theorem KD.snoc {K : Fg} {H : Hp} {k : Key} {d : PyData} {v : V} {kvs : List (Key × PyData)} {ws : List (Key × V)} (h : KD K H kvs ws) (hd : Dv K H d v) : KD K H (kvs ++ [(k, d)]) (ws ++ [(k, v)]) := by
  refine ⟨by rw [List.map_append, List.map_append, h.1]; rfl, ?_⟩
  rw [List.map_append, List.map_append]
  exact h.2.app ⟨v, [], rfl, hd, rfl⟩
theorem KD.any {K : Fg} {H : Hp} {k : Key} {kvs : List (Key × PyData)} {ws : List (Key × V)} (h : KD K H kvs ws) : (kvs.any fun kv => decide (kv.1 = k)) = (ws.any fun kv => decide (kv.1 = k)) := by
  have e1 : (kvs.any fun kv => decide (kv.1 = k)) = (kvs.map (·.1)).any fun j => decide (j = k) := by rw [List.any_map]; rfl
  have e2 : (ws.any fun kv => decide (kv.1 = k)) = (ws.map (·.1)).any fun j => decide (j = k) := by rw [List.any_map]; rfl
  rw [e1, e2, h.1]
theorem KD.put {K : Fg} {H : Hp} {k : Key} {d : PyData} {v : V} {kvs : List (Key × PyData)} {ws : List (Key × V)} (h : KD K H kvs ws) (hd : Dv K H d v) : KD K H (putD kvs k d) (putK ws k v) := by
  unfold putD L2.putK
  rw [← h.any (k := k)]
  split
  · exact h.map hd
  · exact h.snoc hd
/-- an owned object that is no data is changed by place -/
theorem Good.chgK {K : Fg} {F : Fx} {ρ : DEnv} {O : Own} {σ : Sg} {H : Hp} {A : Nat → Addr} {P : Nat → List Addr} {i : Nat} {kvs kvs' : List (Key × PyData)} {ws' : List (Key × V)} (G : Good K F ρ O σ H A P) (hs : slot ρ i = .own (.dk kvs)) (h : KD K (Hs H O) kvs' ws') :
    Good K F (put ρ i (.own (.dk kvs'))) O σ (upd H (A i) (.dK ws')) A P := by
  obtain ⟨g1, g2, g3, g4⟩ := G.own i _ hs
  obtain ⟨f1, ws, f2, f3⟩ := g2
  have hA : O (A i) := g3 _ (by rw [f1]; simp)
  have h0 : F.H0 (A i) = none ∨ F.fx (A i) := (g4 (A i) (by rw [f1]; simp)).imp id fun z => z.2
  have hl : i < ρ.length := slot_lt (by rw [hs]; exact fun z => nomatch z)
  have nO : ∀ b, ¬ O b → b ≠ A i := fun b n z => n (by rw [z]; exact hA)
  have sst : Same (Hs H O) (Hs (upd H (A i) (.dK ws')) O) := Hs_mono fun b o e n => ⟨by rw [upd_ne (nO b n)]; exact e, n⟩
  have dm : ∀ b, H b ≠ none → upd H (A i) (.dK ws') b ≠ none := fun b hb => by
    by_cases e : b = A i
    · rw [e, upd_same]; exact fun z => nomatch z
    · rw [upd_ne e]; exact hb
  have bk : ∀ (j : Nat) (w2 : Ow), slot (put ρ i (.own (.dk kvs'))) j = .own w2 → (j = i ∧ w2 = .dk kvs') ∨ (j ≠ i ∧ slot ρ j = .own w2) := fun j w2 e => by
    by_cases hj : i = j
    · subst hj
      rw [slot_put hl] at e
      cases e
      exact .inl ⟨rfl, rfl⟩
    · rw [slot_put_ne hj] at e
      exact .inr ⟨fun z => hj z.symm, e⟩
  have src : ∀ (j : Nat) (w2 : Ow), slot (put ρ i (.own (.dk kvs'))) j = .own w2 → ∃ w3, slot ρ j = .own w3 := fun j w2 e => by
    rcases bk j w2 e with ⟨rfl, _⟩ | ⟨_, e'⟩
    · exact ⟨_, hs⟩
    · exact ⟨_, e'⟩
  refine ⟨by rw [put_length]; exact G.len, fun b o e n => ?_, fun b hb => dm b (G.alive b hb), fun b o e => ?_, G.base, G.dom0, fun b hb => dm b (G.dom b hb), fun j d e => ?_, fun j w e => ?_, fun j l w1 w2 e e' hjl => ?_, fun a w e1 e2 => ?_⟩
  · rw [upd_ne (fun z => by
      rcases h0 with h0 | h0
      · rw [z, h0] at e; cases e
      · exact n (by rw [z]; exact h0))]
    exact G.frame b o e n
  · obtain ⟨h1, h2⟩ := G.still b o e
    exact ⟨by rw [upd_ne (nO b h2)]; exact h1, h2⟩
  · by_cases hj : i = j
    · subst hj
      rw [slot_put hl] at e
      cases e
    · rw [slot_put_ne hj] at e
      obtain ⟨x, h1, h2⟩ := G.val j d e
      exact ⟨x, h1, h2.mono sst⟩
  · rcases bk j w e with ⟨rfl, rfl⟩ | ⟨hj, e'⟩
    · exact ⟨g1, ⟨f1, ws', upd_same, h.1, h.2.mono sst⟩, g3, fun b hb => (g4 b hb).imp id fun z => ⟨rfl, z.2⟩⟩
    · obtain ⟨h1, h2, h3, h4⟩ := G.own j w e'
      refine ⟨h1, h2.keep sst fun b hb => ?_, h3, h4⟩
      have nb : b ≠ A i := fun z => G.sep j i w _ e' hs hj b hb (by rw [f1, z]; simp)
      rw [upd_ne nb]
  · obtain ⟨w3, q1⟩ := src j w1 e
    obtain ⟨w4, q2⟩ := src l w2 e'
    exact G.sep j l w3 w4 q1 q2 hjl
  · obtain ⟨w3, q1⟩ := src 0 w e2
    exact G.pin a w3 e1 q1
/-- an object that no name owns is changed -/
theorem Good.chgN {K : Fg} {F : Fx} {ρ : DEnv} {O : Own} {σ : Sg} {H : Hp} {A : Nat → Addr} {P : Nat → List Addr} {p : Addr} {ho : HO} (G : Good K F ρ O σ H A P) (h0 : F.H0 p = none) (hO : O p) (hP : ∀ (i : Nat) (w : Ow), slot ρ i = .own w → p ∉ P i) :
    Good K F ρ O σ (upd H p ho) A P ∧ Same (Hs H O) (Hs (upd H p ho) O) := by
  have nO : ∀ b, ¬ O b → b ≠ p := fun b n z => n (by rw [z]; exact hO)
  have sst : Same (Hs H O) (Hs (upd H p ho) O) := Hs_mono fun b o e n => ⟨by rw [upd_ne (nO b n)]; exact e, n⟩
  have dm : ∀ b, H b ≠ none → upd H p ho b ≠ none := fun b hb => by
    by_cases e : b = p
    · rw [e, upd_same]; exact fun z => nomatch z
    · rw [upd_ne e]; exact hb
  refine ⟨⟨G.len, fun b o e n => ?_, fun b hb => dm b (G.alive b hb), fun b o e => ?_, G.base, G.dom0, fun b hb => dm b (G.dom b hb), fun j d e => ?_, fun j w e => ?_, G.sep, G.pin⟩, sst⟩
  · rw [upd_ne fun z => by rw [z, h0] at e; cases e]
    exact G.frame b o e n
  · obtain ⟨h1, h2⟩ := G.still b o e
    exact ⟨by rw [upd_ne (nO b h2)]; exact h1, h2⟩
  · obtain ⟨x, h1, h2⟩ := G.val j d e
    exact ⟨x, h1, h2.mono sst⟩
  · obtain ⟨h1, h2, h3, h4⟩ := G.own j w e
    exact ⟨h1, h2.keep sst fun b hb => by rw [upd_ne fun z => hP j w e (by rw [← z]; exact hb)], h3, h4⟩
section
variable {X : Cx} {io : Bool} {e a b c o tg : Expr} {es : List Expr} {pos : Pos} {ta tb tc : DTE} {tl : DTL}
def dDget (i : Nat) (k : Key) : DTE := fun ρ Q => match slot ρ i with
  | .own (.dk kvs) => match valD kvs k with
    | some d => Q (.d d) ρ
    | none => False
  | _ => False
theorem de_dget (i : Nat) {x y : Str} {p1 p2 : Pos} {j} (hu : X.A.units + 1 < cLine) (hN : X.N[i]? = some x := by rfl) (hv : Vis X.env.scope x := by first | exact Or.inl rfl | exact Or.inr (Or.inl rfl)) (hd : (x == ("__debug__" : Str)) = false := by decide) (hcd : (x == ("__classdict__" : Str)) = false := by decide) :
    DE X (.Subscript (.Name x p1) (.Constant (.str y) j p2) pos) (dDget i (.inr y)) := by
  refine ⟨_, pe_dget hu (pe_var hN hv hd hcd) pe_str fun _ _ => rfl, fun F ρ O σ H A P Qd Q G q k => ?_⟩
  unfold dDget at q
  cases s0 : slot ρ i with
  | free => simp only [s0] at q
  | val d => simp only [s0] at q
  | own w =>
    cases w with
    | dk kvs =>
      simp only [s0] at q
      cases e1 : valD kvs (.inr y) with
      | none => simp only [e1] at q
      | some d =>
        simp only [e1] at q
        obtain ⟨g1, ⟨f1, ws, f2, f3⟩, _, _⟩ := G.own i _ s0
        obtain ⟨v, h1, h2⟩ := KD.get (K := X.K) (H := Hs H O) (ws := ws) f3 e1
        refine ⟨_, g1, A i, v, rfl, ?_, k (.d d) ρ v [] O H A P Stp.refl G h2 nw_d q⟩
        have := DGet.k (k := .inr y) f2
        rw [h1] at this
        exact this
    | _ => simp only [s0] at q
def dDset (i : Nat) (k : Key) (t : DTE) : DTS := fun D ρ => dSt t ρ fun d ρ1 => match slot ρ1 i with
  | .own (.dk kvs) => kvs.length < sizeLine ∧ D.nx (put ρ1 i (.own (.dk (putD kvs k d))))
  | _ => False
theorem ds_dset (i : Nat) {x y : Str} {p1 p2 pos' : Pos} {j} (hu : X.A.units + 1 < cLine) (he : DE X e ta) (hN : X.N[i]? = some x := by rfl) (hv : Vis X.env.scope x := by first | exact Or.inl rfl | exact Or.inr (Or.inl rfl)) (hd : (x == ("__debug__" : Str)) = false := by decide) (hcd : (x == ("__classdict__" : Str)) = false := by decide)
    (hs : swapsWith e (some (.Subscript (.Name x p1) (.Constant (.str y) j p2) pos')) pos.line X.env = pure false := by rfl) : DS X io (.Assign [.Subscript (.Name x p1) (.Constant (.str y) j p2) pos'] e pos) (dDset i (.inr y) ta) := by
  obtain ⟨te, p, s⟩ := dd_of he
  refine ⟨_, ps_dput hu (pe_var hN hv hd hcd) pe_str p hs, fun F ρ O σ H A P Dd D hr G E q => s F ρ O σ H A P _ _ G q fun d ρ1 v O1 H1 A1 P1 S1 G1 D1 q1 => ?_⟩
  cases s0 : slot ρ1 i with
  | free => simp only [s0] at q1
  | val d => simp only [s0] at q1
  | own w =>
    cases w with
    | dk kvs =>
      simp only [s0] at q1
      obtain ⟨g1, ⟨f1, ws, f2, f3⟩, _, _⟩ := G1.own i _ s0
      have KK : KD X.K (Hs H1 O1) kvs ws := f3
      exact ⟨_, g1, A1 i, _, rfl, DPut.k (k := .inr y) f2 (by rw [KK.length]; exact q1.1), E.nx _ O1 σ _ A1 P1 (G1.chgK s0 (KK.put D1)) q1.2⟩
    | _ => simp only [s0] at q1

/-! ### {"k": e, ..} -/
def DPr (X : Cx) (pos : Pos) (keys : List (Option Expr)) (values : List Expr) (ks : List Key) (t : DTL) : Prop := ∃ trs, PPs X pos keys values trs ∧ ∀ (F : Fx) (ρ : DEnv) (O : Own) (σ : Sg) (H : Hp) (A : Nat → Addr) (P : Nat → List Addr) (Qd : List PyData → DEnv → Prop) (Q : List (V × V) → Hp → Prop), Good X.K F ρ O σ H A P → t ρ Qd →
  (∀ (ds : List PyData) ρ' (vs : List V) O' H' A' P', Stp ρ O H P ρ' O' H' P' → Good X.K F ρ' O' σ H' A' P' → ds.length = ks.length → DvL X.K (Hs H' O') ds vs → Qd ds ρ' → Q (ks.zipWith (fun k v => (kV k, v)) vs) H') → tPairs trs σ H Q
theorem dpr_nil : DPr X pos [] [] [] dlNil := ⟨_, pps_nil, fun F ρ O σ H A P Qd Q G q k => k [] ρ [] O H A P Stp.refl G rfl rfl q⟩
theorem dpr_cons {y : Str} {j} {p2 : Pos} {keys : List (Option Expr)} {values : List Expr} {ks : List Key} (he : DE X e ta) (hr : DPr X pos keys values ks tl) : DPr X pos (some (.Constant (.str y) j p2) :: keys) (e :: values) (.inr y :: ks) (dlCons ta tl) := by
  obtain ⟨te, p, s⟩ := dd_of he
  obtain ⟨trs, pr, sr⟩ := hr
  refine ⟨_, pps_cons pe_str p pr, fun F ρ O σ H A P Qd Q G q k => s F ρ O σ H A P _ _ G q fun d ρ1 v O1 H1 A1 P1 S1 G1 D1 q1 => sr F ρ1 O1 σ H1 A1 P1 _ _ G1 q1 fun ds ρ2 vs O2 H2 A2 P2 S2 G2 hl D2 q2 => ?_⟩
  exact k (d :: ds) ρ2 (v :: vs) O2 H2 A2 P2 (S1.trans S2) G2 (by rw [List.length_cons, List.length_cons, hl]) ⟨v, vs, rfl, D1.mono S2.same, D2⟩ q2
def allD (ks : List Key) (ds : List PyData) : List (Key × PyData) := (ks.zip ds).foldl (fun acc kv => putD acc kv.1 kv.2) []
theorem KD.all {K : Fg} {H : Hp} : ∀ {ks : List Key} {ds : List PyData} {vs : List V} {kvs : List (Key × PyData)} {ws : List (Key × V)}, ds.length = ks.length → DvL K H ds vs → KD K H kvs ws →
    ∃ ps : List (Key × V), ks.zipWith (fun k v => (kV k, v)) vs = ps.map (fun kv => (kV kv.1, kv.2)) ∧ ps.length = ks.length ∧ KD K H ((ks.zip ds).foldl (fun acc kv => putD acc kv.1 kv.2) kvs) (mergeK ws ps)
  | [], [], vs, kvs, ws, _, h, g => ⟨[], by cases vs <;> rfl, rfl, g⟩
  | [], _ :: _, _, _, _, e, _, _ => by simp at e
  | _ :: _, [], _, _, _, e, _, _ => by simp at e
  | k :: ks, d :: ds, vs, kvs, ws, e, h, g => by
    obtain ⟨v, vs', rfl, h1, h2⟩ := h
    obtain ⟨ps, q1, q2, q3⟩ := KD.all (ks := ks) (ds := ds) (by simpa using e) h2 (g.put (k := k) h1)
    exact ⟨(k, v) :: ps, by rw [List.zipWith_cons_cons, q1]; rfl, by rw [List.length_cons, List.length_cons, q2], q3⟩
def dDisp (ks : List Key) (t : DTL) : DTE := fun ρ Q => t ρ fun ds ρ1 => Q (.n (.dk (allD ks ds))) ρ1
theorem de_disp {keys : List (Option Expr)} {values : List Expr} {ks : List Key} (h : DPr X pos keys values ks tl) (h15 : ks.length ≤ 15 := by decide) (hall : keys.all (·.isSome) = true := by rfl) (hl : keys.length = values.length := by rfl) (h0 : keys ≠ [] := by exact fun z => nomatch z) (h16 : keys.length ≤ 15 := by decide) : DE X (.Dict keys values pos) (dDisp ks tl) := by
  obtain ⟨trs, p, s⟩ := h
  refine ⟨_, pe_disp p hall hl h0 h16, fun F ρ O σ H A P Qd Q G q k a hn => ?_⟩
  have o1 : Out X.K O H (.n (.dk [])) (.ref a) (upd H a (.dK [])) := by
    refine ⟨same_new hn, a, [a], rfl, fun b hb => ?_, ⟨rfl, [], upd_same, rfl, rfl⟩⟩
    have e : b = a := by simpa using hb
    rw [e, upd_same]
    exact ⟨hn, fun z => nomatch z⟩
  obtain ⟨O1, fp, S1, G1, R1, N1⟩ := o1.fin G
  refine s F ρ O1 σ _ A P _ _ G1 q fun ds ρ2 vs O2 H2 A2 P2 S2 G2 hl D2 q2 => ?_
  have R2 := S2.rk R1
  obtain ⟨a', ea, hf, rfl, ws, f2, f3⟩ := R2
  cases ea
  have KK : KD X.K (Hs H2 O2) [] ws := f3
  have ew : ws = [] := List.length_eq_zero_iff.mp (by rw [KK.length]; rfl)
  subst ew
  obtain ⟨ps, q3, q4, q5⟩ := KD.all (ks := ks) hl D2 KK
  obtain ⟨h1, h2, h3⟩ := hf a (by simp)
  obtain ⟨G3, sm3⟩ := G2.chgN (ho := .dK (mergeK [] ps)) h1 h2 h3
  refine ⟨f2, ps, q3, by omega, ?_⟩
  have S3 := S1.trans S2
  have S4 : Stp ρ O H P ρ2 O2 (upd H2 a (.dK (mergeK [] ps))) P2 := by
    refine ⟨fun b o e n => ?_, fun b hb n => ?_, S3.live, fun b hb => ?_⟩
    · obtain ⟨g1, g2⟩ := S3.st b o e n
      exact ⟨by rw [upd_ne (ne_of_none e hn)]; exact g1, g2⟩
    · obtain ⟨g1, g2, g3⟩ := S3.fr b hb n
      have nb : b ≠ a := fun z => G.dom b hb (by rw [z]; exact hn)
      exact ⟨by rw [upd_ne nb]; exact g1, g2, g3⟩
    · have nb : b ≠ a := fun z => hb (by rw [z]; exact hn)
      rw [upd_ne nb]
      exact S3.dm b hb
  refine k (.n (.dk (allD ks ds))) ρ2 _ [a] O2 _ A2 P2 S4 G3 ⟨a, rfl, fun b hb => ?_, rfl, _, upd_same, (q5.mono sm3).1, (q5.mono sm3).2⟩ (fun w _ b hb => ?_) q2
  · have e : b = a := by simpa using hb
    rw [e]
    exact ⟨h1, h2, h3⟩
  · have e : b = a := by simpa using hb
    rw [e]
    exact hn
/-- f(name, e, ..): the name's own object may change -/
theorem de_callI (i : Nat) {CX : CXT} {k : Nat} {f : Addr} {fd : FuncData} {ps : List Str} {sp : DSpI} {E : XK} {x y : Str} {p p2 : Pos} (Fo : FnOk X.prog X.w X.K X.mg X.base CX k f fd ps (spI X.K sp)) (hr : Room k X.A) (hg : Gl X x) (hm : X.mg x = some (.ref f)) (hk : PySem.W.keepIn X.K (.ref f) = true) (hb : Binds X.K fd ps []) (hx : Passes CX X E)
    (ha : DLs X es tl) (hN : X.N[i]? = some y := by rfl) (hv : Vis X.env.scope y := by first | exact Or.inl rfl | exact Or.inr (Or.inl rfl)) (hdb : (x == ("__debug__" : Str)) = false := by decide) (hd : (y == ("__debug__" : Str)) = false := by decide) (hcd : (y == ("__classdict__" : Str)) = false := by decide)
    (he : starEach (.Name y p2 :: es) X.env = (false, eval (.Name y p2) X.env) :: starEach es X.env := by rfl) (hpl : (backTo pos (starEach es X.env)).any (·.1) = false := by rfl) : DE X (.Call (.Name x p) (.Name y p2 :: es) [] pos) (dCallI i sp tl) := by
  obtain ⟨te, pa, s⟩ := ha
  exact ⟨_, pe_call Fo hr hg hm hk hb .nil hx (pa_cons (pe_var hN hv hd hcd) pa he) hdb he hpl, sim_callI s⟩
end
end DL
namespace DL
open PySem PySem.Spec PyProof.Rows L2
/-! ### -e -/
section
variable {X : Cx} {io : Bool} {e a b c o tg : Expr} {es : List Expr} {pos : Pos} {ta tb tc : DTE} {tl : DTL}
def dNeg (t : DTE) : DTE := fun ρ Q => t ρ fun r ρ1 => match view ρ1 r with
  | some (.int i) => Q (.d (.int (-i))) ρ1
  | _ => False
theorem de_neg (ha : DE X a ta) : DE X (.UnaryOp .USub a pos) (dNeg ta) := by
  obtain ⟨te, pa, s⟩ := ha
  refine ⟨_, pe_un un_neg pa, fun F ρ O σ H A P Qd Q G q k => s F ρ O σ H A P _ _ G q fun r ρ1 v fp O1 H1 A1 P1 S1 G1 R1 N1 q1 => ?_⟩
  cases e1 : view ρ1 r with
  | none => simp only [e1] at q1
  | some d =>
    cases d with
    | int i =>
      simp only [e1] at q1
      cases (show v = .int i from view_ok G1 R1 e1)
      exact ⟨i, rfl, k (.d (.int (-i))) ρ1 _ [] O1 H1 A1 P1 S1 G1 rfl nw_d q1⟩
    | _ => simp only [e1] at q1
end
/-! ### sep.join(..) -/
def strsD : List PyData → Option (List Str)
  | [] => some []
  | .str x :: r => (strsD r).map (x :: ·)
  | _ :: _ => none
theorem strs_dv {K : Fg} {H : Hp} : ∀ {ds : List PyData} {xs : List V} {ys : List Str}, DvL K H ds xs → strsD ds = some ys → xs = ys.map V.str
  | [], _, ys, h, e => by
    have h' : _ = [] := h
    cases (show some [] = some ys from e)
    rw [h']; rfl
  | .str x :: r, _, ys, h, e => by
    obtain ⟨y, zs, e1, h1, h2⟩ := h
    obtain ⟨t, ht, e2⟩ := Option.map_eq_some_iff.mp (show (strsD r).map (x :: ·) = some ys from e)
    cases (show y = .str x from h1)
    rw [e1, ← e2, strs_dv h2 ht]; rfl
  | .none :: _, _, _, _, e => by cases e
  | .bool _ :: _, _, _, _, e => by cases e
  | .int _ :: _, _, _, _, e => by cases e
  | .list _ :: _, _, _, _, e => by cases e
  | .tuple _ :: _, _, _, _, e => by cases e
  | .dict _ :: _, _, _, _, e => by cases e
def gJoin : GM := fun d ds Q => match d, ds with
  | .str a, [.list es] => ∃ ys, strsD es = some ys ∧ (ys.map (·.length)).sum + ys.length * a.length ≤ 16777216 ∧ Q (.d (.str (Txt.join a ys)))
  | .str a, [.tuple es] => ∃ ys, strsD es = some ys ∧ (ys.map (·.length)).sum + ys.length * a.length ≤ 16777216 ∧ Q (.d (.str (Txt.join a ys)))
  | _, _ => False
theorem mtl_join {K : Fg} : MtL K (fun x xs H Q => ∃ a p, ∃ ys : List Str, x = .str a ∧ xs = [.ref p] ∧ (SqL K H p (ys.map V.str) ∨ SqT K H p (ys.map V.str)) ∧ (ys.map (·.length)).sum + ys.length * a.length ≤ 16777216 ∧ Q (.str (Txt.join a ys)) H) gJoin := fun O H d ds x xs Qd Q hd hx hxs q k => by
  unfold gJoin at q
  split at q
  · obtain ⟨v, ws, e1, ⟨p, zs, e4, h4, h5⟩, h2⟩ := hxs
    have e3 : ws = [] := h2
    obtain ⟨ys, q1, q2, q3⟩ := q
    have e6 := strs_dv h5 q1
    subst e6
    exact ⟨_, p, ys, hx, by rw [e1, e3, e4], .inl h4, q2, k _ _ H (Out.sc (d := .str _) rfl) q3⟩
  · obtain ⟨v, ws, e1, ⟨p, zs, e4, h4, h5⟩, h2⟩ := hxs
    have e3 : ws = [] := h2
    obtain ⟨ys, q1, q2, q3⟩ := q
    have e6 := strs_dv h5 q1
    subst e6
    exact ⟨_, p, ys, hx, by rw [e1, e3, e4], .inr h4, q2, k _ _ H (Out.sc (d := .str _) rfl) q3⟩
  · exact q.elim
/-! ### ==, != of texts, ints, data -/
def rEqA (K : Fg) : R2 := fun x y H Q => rEq x y H Q ∨ rEqD K x y H Q
def rNeA (K : Fg) : R2 := fun x y H Q => rNe x y H Q ∨ rNeD K x y H Q
theorem op_eqA {X : Cx} (hu : X.A.units + 64 < cLine) : OpR X (compareOp .Eq) (rEqA X.K) := OpR.or L2.op_eq (L2.op_eqD hu)
theorem op_neA {X : Cx} (hu : X.A.units + 64 < cLine) : OpR X (compareOp .NotEq) (rNeA X.K) := OpR.or L2.op_ne (L2.op_neD hu)
def gEqA : G2 := fun d e Q => match d, e with
  | .str a, .str b => Q (.d (.bool (decide (a = b))))
  | .int a, .int b => Q (.d (.bool (decide (a = b))))
  | d, e => gEq d e Q
def gNeA : G2 := fun d e Q => match d, e with
  | .str a, .str b => Q (.d (.bool (!decide (a = b))))
  | .int a, .int b => Q (.d (.bool (!decide (a = b))))
  | d, e => gNe d e Q
theorem opl_eqA {K : Fg} : OpL K (rEqA K) gEqA := fun O H d e x y Qd Q hd hx hy q k => by
  unfold gEqA at q
  split at q
  · rename_i a b
    cases (show x = .str a from hx)
    cases (show y = .str b from hy)
    refine .inl ⟨rfl, k (.d (.bool (decide (a = b)))) _ H (Out.sc ?_) q⟩
    show V.bl _ = V.bl _
    rw [decide_eq_decide.mpr (show (V.str a = V.str b ↔ a = b) from ⟨V.str.inj, fun z => by rw [z]⟩)]
  · rename_i a b
    cases (show x = .int a from hx)
    cases (show y = .int b from hy)
    refine .inl ⟨rfl, k (.d (.bool (decide (a = b)))) _ H (Out.sc ?_) q⟩
    show V.bl _ = V.bl _
    rw [decide_eq_decide.mpr (show (V.int a = V.int b ↔ a = b) from ⟨V.int.inj, fun z => by rw [z]⟩)]
  · exact .inr (opl_eq O H d e x y Qd Q hd hx hy q k)
theorem opl_neA {K : Fg} : OpL K (rNeA K) gNeA := fun O H d e x y Qd Q hd hx hy q k => by
  unfold gNeA at q
  split at q
  · rename_i a b
    cases (show x = .str a from hx)
    cases (show y = .str b from hy)
    refine .inl ⟨rfl, k (.d (.bool (!decide (a = b)))) _ H (Out.sc ?_) q⟩
    show V.bl _ = V.bl _
    rw [decide_eq_decide.mpr (show (V.str a = V.str b ↔ a = b) from ⟨V.str.inj, fun z => by rw [z]⟩)]
  · rename_i a b
    cases (show x = .int a from hx)
    cases (show y = .int b from hy)
    refine .inl ⟨rfl, k (.d (.bool (!decide (a = b)))) _ H (Out.sc ?_) q⟩
    show V.bl _ = V.bl _
    rw [decide_eq_decide.mpr (show (V.int a = V.int b ↔ a = b) from ⟨V.int.inj, fun z => by rw [z]⟩)]
  · exact .inr (opl_ne O H d e x y Qd Q hd hx hy q k)
end DL
namespace DL
open PySem PySem.Spec PyProof.Rows L2
/-! ### a display's item -/
def keyD : PyData → Option Key
  | .int i => some (.inl i)
  | .str s => some (.inr s)
  | _ => none
theorem keyD_kV {K : Fg} {H : Hp} {d : PyData} {k : Key} {v : V} (h : Dv K H d v) (e : keyD d = some k) : v = kV k := by
  cases d with
  | int i => cases (show some (Sum.inl i) = some k from e); exact h
  | str s => cases (show some (Sum.inr s) = some k from e); exact h
  | _ => cases e
theorem KD.none {K : Fg} {H : Hp} {k : Key} : ∀ {kvs : List (Key × PyData)} {ws : List (Key × V)}, KD K H kvs ws → valD kvs k = none → valV ws k = none
  | [], ws, h, e => by
    have q := h.length
    rw [List.length_nil] at q
    rw [List.length_eq_zero_iff.mp q]; rfl
  | p :: kvs, ws, h, e => by
    obtain ⟨v, ws', rfl, h1, h2⟩ := h.cases
    by_cases hk : p.1 = k
    · exfalso
      simp [valD, List.find?_cons, hk] at e
    · have e' : valD kvs k = .none := by
        unfold valD at e ⊢
        rw [List.find?_cons] at e
        simpa [hk] using e
      exact (valV_neg hk).trans (KD.none h2 e')
section
variable {X : Cx} {io : Bool} {e f a b c o tg : Expr} {es : List Expr} {pos : Pos} {ta tb tc : DTE} {tl : DTL}
def dGetN (t ti td : DTE) : DTE := fun ρ Q => t ρ fun r ρ1 => match r with
  | .n (.dk kvs) => dSt ti ρ1 fun kd ρ2 => dSt td ρ2 fun d ρ3 => match keyD kd with
    | some k => Q (.d ((valD kvs k).getD d)) ρ3
    | none => False
  | _ => False
theorem de_getN {apos cpos : Pos} (hu : X.A.units + 1 < cLine) (ho : DE X o ta) (he : DE X e tb) (hf : DE X f tc) (m : M2 X o "get" apos e f cpos := by exact ⟨rfl, rfl, rfl, rfl⟩) : DE X (.Call (.Attribute o "get" apos) [e, f] [] cpos) (dGetN ta tb tc) := by
  obtain ⟨to, po, so⟩ := ho
  obtain ⟨te, pe, se⟩ := dd_of he
  obtain ⟨tf, pf, sf⟩ := dd_of hf
  refine ⟨_, pe_dget2 hu po pe pf m, fun F ρ O σ H A P Qd Q G q k => so F ρ O σ H A P _ _ G q fun r ρ1 v1 fp1 O1 H1 A1 P1 S1 G1 R1 N1 q1 => ?_⟩
  cases r with
  | d d => exact (show False from q1).elim
  | o i => exact (show False from q1).elim
  | n w =>
    cases w with
    | dk kvs =>
      obtain ⟨p, rfl, hf0, e1, ws, e2, e3⟩ := R1
      refine ⟨p, rfl, .inl ⟨ws, .inl e2⟩, se F ρ1 O1 σ H1 A1 P1 _ _ G1 q1 fun kd ρ2 v2 O2 H2 A2 P2 S2 G2 D2 q2 => sf F ρ2 O2 σ H2 A2 P2 _ _ G2 q2 fun d ρ3 v3 O3 H3 A3 P3 S3 G3 D3 q3 => ?_⟩
      have R3 := S3.rk (S2.rk (show Rk X.K F ρ1 O1 σ H1 P1 (.n (.dk kvs)) (.ref p) fp1 from ⟨p, rfl, hf0, e1, ws, e2, e3⟩))
      obtain ⟨p', ep, _, _, ws', g2, g3⟩ := R3
      cases ep
      have KK : KD X.K (Hs H3 O3) kvs ws' := g3
      cases e5 : keyD kd with
      | none => simp only [e5] at q3
      | some key =>
        simp only [e5] at q3
        have ek := keyD_kV D2 e5
        subst ek
        refine ⟨_, DGet.k (k := key) g2, ?_⟩
        have S := (S1.trans S2).trans S3
        cases e6 : valD kvs key with
        | none =>
          rw [KK.none e6]
          rw [e6] at q3
          exact k (.d d) ρ3 _ [] O3 H3 A3 P3 S G3 D3 nw_d q3
        | some d2 =>
          obtain ⟨u, u1, u2⟩ := KK.get e6
          rw [u1]
          rw [e6] at q3
          exact k (.d d2) ρ3 _ [] O3 H3 A3 P3 S G3 u2 nw_d q3
    | _ => exact (show False from q1).elim
def dIxN (t ti : DTE) : DTE := fun ρ Q => t ρ fun r ρ1 => match r with
  | .n (.dk kvs) => dSt ti ρ1 fun kd ρ2 => match keyD kd with
    | some k => match valD kvs k with
      | some d => Q (.d d) ρ2
      | none => False
    | none => False
  | _ => False
theorem de_ixN (hu : X.A.units + 1 < cLine) (ho : DE X o ta) (he : DE X e tb) (hs : NoSl e := by exact fun _ _ => rfl) : DE X (.Subscript o e pos) (dIxN ta tb) := by
  obtain ⟨to, po, so⟩ := ho
  obtain ⟨te, pe, se⟩ := dd_of he
  refine ⟨_, pe_dget hu po pe hs, fun F ρ O σ H A P Qd Q G q k => so F ρ O σ H A P _ _ G q fun r ρ1 v1 fp1 O1 H1 A1 P1 S1 G1 R1 N1 q1 => ?_⟩
  cases r with
  | d d => exact (show False from q1).elim
  | o i => exact (show False from q1).elim
  | n w =>
    cases w with
    | dk kvs =>
      refine se F ρ1 O1 σ H1 A1 P1 _ _ G1 q1 fun kd ρ2 v2 O2 H2 A2 P2 S2 G2 D2 q2 => ?_
      obtain ⟨p, rfl, _, _, ws', g2, g3⟩ := S2.rk R1
      have KK : KD X.K (Hs H2 O2) kvs ws' := g3
      cases e5 : keyD kd with
      | none => simp only [e5] at q2
      | some key =>
        simp only [e5] at q2
        have ek := keyD_kV D2 e5
        subst ek
        cases e6 : valD kvs key with
        | none => simp only [e6] at q2
        | some d2 =>
          simp only [e6] at q2
          obtain ⟨u, u1, u2⟩ := KK.get e6
          have g := DGet.k (k := key) g2
          rw [u1] at g
          exact ⟨p, u, rfl, g, k (.d d2) ρ2 _ [] O2 H2 A2 P2 (S1.trans S2) G2 u2 nw_d q2⟩
    | _ => exact (show False from q1).elim
end
end DL
namespace DL
open PySem PySem.Spec PyProof.Rows L2 RT
/-! ### reversed(text) -/
theorem str_norev : typeLookup (.type "str") "__reversed__" = pure none := by rw [typeLookup_type, builtinLookup_eq_fast]; kernel_rfl
theorem str_getit : typeLookup (.type "str") "__getitem__" = pure (some (.builtin "str.__getitem__")) := by rw [typeLookup_type, builtinLookup_eq_fast]; kernel_rfl
def rsObj (x : Str) (t : Tok) (i : Int) : Obj := { cls := .type "reversed", data := .fields #[.str x t, rawInt i] }
/-- the iterator over x from its end, the next place i -/
def IsRs (h : Heap) (a : Addr) (x : Str) (t : Tok) (i : Int) : Prop := ∃ o, h.get? a = some o ∧ o.cls = .type "reversed" ∧ o.data = .fields #[.str x t, rawInt i]
section
variable {prog : Program} {w : World} {A : Around} {E : Value → Shared → Prop} {s : Shared}
theorem IsRs.ty {a : Addr} {x : Str} {t : Tok} {i : Int} (q : IsRs s.heap a x t i) : s.TypeIs (.ref a) "reversed" := let ⟨o, e, c, _⟩ := q; ⟨o, e, c⟩
theorem code_rs {x : Str} {t : Tok} {R : Value → Shared → Prop} (hz : x.length ≤ sizeLine) (h : R (.ref s.heap.objs.size) { s with heap := s.heap.push (rsObj x t ((x.length : Int) - 1)), toks := s.toks + 1 + 1 }) :
    codeAny (model prog w) A (.call (.builtin "reversed.__new__") ⟨[.type "reversed", .str x t], []⟩) (wants R E) s := by
  have hT : s.TypeIs (.str x t) "str" := typeIs_str s x t
  have ln := line63
  refine codeAny_of_tree ?_; show wpAny _ A.in1 (do checkBuiltinCall "reversed.__new__" ⟨[.type "reversed", .str x t], []⟩; again (.builtin "reversed.__new__" ⟨[.type "reversed", .str x t], []⟩)) _ _ s
  refine wpAny_bind (wpAny_of_eq (F.newCall_reversed_1 (.str x t)) (wpAny_pure ⟨plainId_quiet F.plain_reversed_new _, codeAny_builtin F.entry_reversed_new ?_⟩))
  rw [Around.under_plainId F.plain_reversed_new _]; unfold Builtin.«reversed.__new__»
  refine wpAny_bind (wpAny_of_eq (newClass_reversed (.str x t)) ?_); try dsimp only
  refine wpAny_bind (wpAny_of_eq (a := ()) (by first | rfl | kernel_rfl) ?_); try dsimp only
  refine wpAny_bind (wpAny_of_eq (a := ()) (by first | rfl | kernel_rfl) ?_); try dsimp only
  refine wpAny_bind (wpAny_specialOf hT str_norev ?_); try dsimp only
  refine wpAny_bind ?_; wp_delta
  refine wpAny_bind (wpAny_isInstance (T := "str") (U := "dict") (b := false) hT PySem.F.sub_str_dict ?_); try dsimp only
  try rw [if_neg Bool.false_ne_true]
  try dsimp only
  refine wpAny_bind (wpAny_specialOf hT str_getit ?_); try dsimp only
  try rw [if_pos (by decide +kernel)]
  refine wpAny_pure ?_; try dsimp only
  try rw [if_neg (by decide)]
  try dsimp only
  refine wpAny_bind (PyProof.Rows.len_str (by omega) ?_)
  refine wpAny_bind (wpAny_of_eq (a := some ((x.length : Nat) : Int)) rfl ?_); try dsimp only
  refine wpAny_bind ?_; show wpAny _ _ (newObj (.type "reversed") (.fields #[.str x t, rawInt ((x.length : Int) - 1)])) _ _ _
  refine wpAny_newObj_type ?_; exact wpAny_pure h
theorem call_rs {x : Str} {t : Tok} {Q : Value → Shared → Prop} (hz : x.length ≤ sizeLine) (h : Q (.ref s.heap.objs.size) { s with heap := s.heap.push (rsObj x t ((x.length : Int) - 1)), toks := s.toks + 1 + 1 }) : wpAny (model prog w) A (call (.type "reversed") [.str x t]) Q E s := by
  refine callType_codes (Q₁ := fun b s2 => s2.TypeIs b "reversed" ∧ Q b s2) called_rt (F.typeCall_reversed_1 (.str x t)) F.entry_object_init (code_rs (A := A.in1) hz ⟨⟨_, Heap.get?_push_size _ rfl, rfl⟩, h⟩) fun b s2 q => ?_
  exact ⟨q.1, F.args_object_init_2 b _, object_init_meets called_rt.init.lookup called_rt.made (by decide) prog w A.in1 _ s2 ⟨q.1, rfl, q.2⟩⟩
theorem next_rs {it : Addr} {x : Str} {t : Tok} {i c : Nat} {Q : Option Value → Shared → Prop} (hit : IsRs s.heap it x t (i : Int)) (hx : x.cps[i]? = some c) (hz : x.length ≤ sizeLine)
    (hQ : ∀ h' tk tk2, IsRs h' it x t ((i : Int) - 1) → Heap.SameBut it s.heap h' → Q (some (.str ⟨#[c]⟩ tk2)) { s with heap := h', toks := tk }) : wpAny (model prog w) A (pyNext (.ref it)) Q E s := by
  obtain ⟨o, ho, hc, hd⟩ := id hit
  have hi : i < x.cps.size := (Array.getElem?_eq_some_iff.mp hx).1
  have hT : s.TypeIs (.str x t) "str" := typeIs_str s x t
  have ln := line63
  have hl : x.length = x.cps.size := rfl
  unfold pyNext; refine wpAny_bind (wpAny_attempt (wpAny_callSpecial?_slot (name := Str.ofString "__next__") hit.ty slot_rt_next (wpAny_call_entry slot_rt_next hit.ty entry_rt_next ?_ (args_rt_next _))))
  unfold Builtin.«reversed.__next__»; refine wpAny_bind (wpAny_of_eq (a := (Value.ref it, [])) rfl ?_); try dsimp only
  refine wpAny_bind (wpAny_field ho hd (x := .str x t) rfl ?_); try dsimp only
  refine wpAny_bind (wpAny_field ho hd (x := rawInt (i : Int)) rfl ?_); show wpAny _ _ (if (i : Int) < 0 then _ else _) _ _ s
  rw [if_neg (by omega)]
  try dsimp only
  refine wpAny_bind (wpAny_specialOf hT str_getit ?_); try dsimp only
  try rw [if_neg (by decide)]
  try dsimp only
  refine wpAny_bind (wpAny_mkInt ?_); refine wpAny_bind (wpAny_attempt ?_)
  have fin : seqIndex? (i : Int) x.length = some i := seqIndex_of (by omega) (by omega)
  refine PyProof.Rows.getItem_str (c := c) ?_ (by rw [fin]; exact hx) ?_
  · rw [decide_eq_false (show ¬ ((i : Int) < -(2 ^ 63 : Int)) by omega), decide_eq_false (show ¬ ((i : Int) ≥ 2 ^ 63) by omega)]; rfl
  · try dsimp only
    refine wpAny_bind (wpAny_field (s := { s with toks := s.toks + 1 + 1 }) ho hd (x := rawInt (i : Int)) rfl ?_); try dsimp only
    refine wpAny_bind (wpAny_setField (s := { s with toks := s.toks + 1 + 1 }) ho hd (by simp) ?_)
    first
    | refine wpAny_pure ⟨_, rfl, wpAny_pure (hQ _ _ _ ?_ (Heap.SameBut.update ..))⟩
    | refine wpAny_bind (wpAny_pure (wpAny_pure ⟨_, rfl, wpAny_pure (hQ _ _ _ ?_ (Heap.SameBut.update ..))⟩))
    refine ⟨_, Heap.get?_update_self _ ho (Obj.isFreed_of_fields (Obj.data_mapFields hd _)), (Obj.cls_mapFields ..).trans hc, ?_⟩
    rw [Obj.data_mapFields hd]
    simp
theorem end_rs {it : Addr} {x : Str} {t : Tok} {Q : Option Value → Shared → Prop} (hh : A.handled = none) (hit : IsRs s.heap it x t (-1)) (hQ : ∀ h', Heap.ExtBut it s.heap h' → Q none { s with heap := h' }) : wpAny (model prog w) A (pyNext (.ref it)) Q E s := by
  obtain ⟨o, ho, hc, hd⟩ := id hit
  unfold pyNext; refine wpAny_bind (wpAny_attempt (wpAny_callSpecial?_slot (name := Str.ofString "__next__") hit.ty slot_rt_next (wpAny_call_entry slot_rt_next hit.ty entry_rt_next ?_ (args_rt_next _))))
  unfold Builtin.«reversed.__next__»; refine wpAny_bind (wpAny_of_eq (a := (Value.ref it, [])) rfl ?_); try dsimp only
  refine wpAny_bind (wpAny_field ho hd (x := .str x t) rfl ?_); try dsimp only
  refine wpAny_bind (wpAny_field ho hd (x := rawInt (-1)) rfl ?_); show wpAny _ _ (if (-1 : Int) < 0 then _ else _) _ _ s
  rw [if_pos (by decide)]; try dsimp only
  refine wpAny_bind (wpAny_rule ?_); refine wpAny_bind ?_; wp_delta
  refine wpAny_bind (wpAny_setField ho hd (by simp) ?_)
  have ho2 := Heap.get?_update_self (Obj.mapFields (·.setIfInBounds 1 (rawInt (-1)))) ho (Obj.isFreed_of_fields (Obj.data_mapFields hd _)); refine wpAny_setField (s := { s with heap := s.heap.update it (Obj.mapFields (·.setIfInBounds 1 (rawInt (-1)))) }) ho2 (Obj.data_mapFields hd _) (by simp) ?_
  try dsimp only
  first
  | show wpAny _ _ (newExc (.type "StopIteration") [] >>= _) _ _ _; skip
  | (refine wpAny_bind ?_; show wpAny _ _ (newExc (.type "StopIteration") [] >>= _) _ _ _; skip)
  | (refine wpAny_bind ?_; wp_delta; show wpAny _ _ (newExc (.type "StopIteration") [] >>= _) _ _ _; skip)
  refine wpAny_bind ?_; simp only [newExc, newTuple]
  refine wpAny_bind (wpAny_newObj_type ?_ (by size_fits)); refine wpAny_bind (m := firstArgMember _ _) (wpAny_of_eq (a := Value.none) (by first | rfl | (simp only [firstArgMember]; rfl)) ?_)
  refine wpAny_newObj_type ?_ (by size_fits); simp only [raiseNew]
  refine wpAny_bind (wpAny_handled ?_)
  first | rw [show A.in1.handled = none from hh] | rw [hh]
  refine wpAny_bind (wpAny_pure (wpAny_throw ?_)); refine wpAny_bind (wpAny_isInstance (T := "StopIteration") (b := true) ⟨_, Heap.get?_push_size _ rfl, rfl⟩ isSubtype_stop ?_)
  refine wpAny_pure (hQ _ ?_); refine ((?_ : Heap.ExtBut it s.heap _).push _).push _
  exact fun b ob hb e => (Heap.get?_update_other _ _ (Ne.symm hb)).trans ((Heap.get?_update_other _ _ (Ne.symm hb)).trans e) 
theorem self_rs {it : Addr} {x : Str} {t : Tok} {i : Int} {Q : Value → Shared → Prop} (hit : IsRs s.heap it x t i) (h : Q (.ref it) s) : wpAny (model prog w) A (pyIter (.ref it)) Q E s := by
  refine wpAny_pyIter_slot hit.ty slot_rt_iter (wpAny_call_entry slot_rt_iter hit.ty entry_rt_iter ?_ (args_rt_iter _)); show wpAny _ _ (ret (.ref it)) _ _ s
  exact wpAny_pure ⟨_, rfl, "reversed", _, hit.ty, slot_rt_next.lookup, h⟩
end
/-- the signs from the end -/
def Itrs (x : Str) : It := ⟨fun i _ => i < x.cps.size, fun i H v H' => H' = H ∧ ∃ c, x.cps[x.cps.size - 1 - i]? = some c ∧ v = .str ⟨#[c]⟩, fun i _ => x.cps.size ≤ i⟩
theorem turn_rs {P : Program} {w : World} {K : Fg} {tg : Expr} (x : Str) (t : Tok) (it : Addr) (hz : x.length ≤ sizeLine) : Turn P w K tg (Itrs x) [it] it (fun i h => i ≤ x.cps.size ∧ IsRs h it x t ((x.cps.size : Int) - 1 - (i : Nat))) where
  mem := List.mem_singleton.mpr rfl
  obj := fun i h st b hb => by
    rw [List.mem_singleton.mp hb]
    obtain ⟨_, o, e, c, d⟩ := st
    exact ⟨o, e, fun v z => by rw [d] at z; cases z⟩
  keep := fun i h h' st k => let ⟨o, e, r⟩ := st.2; ⟨st.1, o, k it (List.mem_singleton.mpr rfl) o e, r⟩
  item := by
    intro X hP hw hK hc i pins s σ H E I hf st hg
    subst hP hw hK
    have hin : i < x.cps.size := hg
    obtain ⟨f0, f1, f2, f3, f4, f5⟩ := hf it (List.mem_singleton.mpr rfl)
    obtain ⟨_, hit⟩ := st
    rw [show (x.cps.size : Int) - 1 - ((i : Nat) : Int) = ((x.cps.size - 1 - i : Nat) : Int) by omega] at hit
    have hc1 : x.cps[x.cps.size - 1 - i]? = some x.cps[x.cps.size - 1 - i] := Array.getElem?_eq_getElem (by omega)
    refine next_rs hit hc1 hz fun h' tk tk2 st' sb => ?_
    rw [show ((x.cps.size - 1 - i : Nat) : Int) - 1 = (x.cps.size : Int) - 1 - ((i + 1 : Nat) : Int) by omega] at st'
    have I1 : Inv X pins σ H { s with heap := h', toks := tk } := I.turned (t' := tk) (fun b o hb e => (sb.2 b hb).trans e) f0 f1 f3 f4 f5
    obtain ⟨o, e, c, d⟩ := id st'
    exact ⟨_, rfl, go_of (s := { s with heap := h', toks := tk }) e c d (by decide) ⟨.str ⟨#[x.cps[x.cps.size - 1 - i]]⟩, H, I1, ⟨tk2, rfl⟩, ⟨rfl, _, hc1, rfl⟩, ⟨hin, st'⟩, fun b hb => (hf b hb).1⟩⟩
  done := by
    intro X hP hw hK hc i pins s σ H E I hf st hg
    subst hP hw hK
    obtain ⟨f0, f1, f2, f3, f4, f5⟩ := hf it (List.mem_singleton.mpr rfl)
    obtain ⟨hin, hit⟩ := st
    have hge : x.cps.size ≤ i := hg
    rw [show (x.cps.size : Int) - 1 - ((i : Nat) : Int) = -1 by omega] at hit
    exact end_rs (I.ok.hd hc) hit fun h' eb => ⟨rfl, I.turned (t' := s.toks) (fun b o hb e => eb b o hb e) f0 f1 f3 f4 f5⟩
  self := fun A i s Q E st h => self_rs st.2 h
def iRevS (te : TE) : TI := fun σ H R => te σ H fun v H1 => ∃ x, v = .str x ∧ x.length ≤ sizeLine ∧ R (Itrs x) H1
section
variable {X : Cx} {tg : Expr}
theorem pi_revS {e : Expr} {te : TE} {p pos : Pos} (hg : Gl X "reversed") (hm : X.mg "reversed" = none) (he : PE X e te) (hs : starEach [e] X.env = (false, eval e X.env) :: starEach [] X.env := by rfl) : PI X tg (.Call (.Name "reversed" p) [e] [] pos) (iRevS te) := by
  refine ⟨fun pins s σ H R I h => Call_ (ld_blt I hg hm PyProof.Rows.boot_reversed (PyProof.Rows.callWith_type1 (args_cons (thn (he.run pins s σ H _ I h) fun u s1 ⟨v, H1, I1, r1, q1⟩ => args_nil ?_) hs) hs rfl))⟩
  obtain ⟨x, rfl, hz, q⟩ := q1
  obtain ⟨t, rfl⟩ := r1
  refine call_rs hz (self_rs (x := x) (t := t) (i := (x.length : Int) - 1) ⟨_, Heap.get?_push_size _ rfl, rfl, rfl⟩ ?_)
  refine pi_one (tk := s1.toks + 1 + 1) I1 _ (turn_rs x t _ hz) ⟨Nat.zero_le _, ?_⟩ q
  rw [show (x.cps.size : Int) - 1 - ((0 : Nat) : Int) = (x.length : Int) - 1 by show (x.cps.size : Int) - 1 - 0 = (x.cps.size : Int) - 1; omega]
  exact ⟨_, Heap.get?_push_size _ rfl, rfl, rfl⟩
/-- the signs of a text from its end -/
def sgR (x : Str) (i : Nat) : PyData := .str ⟨#[x.cps.getD (x.cps.size - 1 - i) 0]⟩
theorem sgR_at {x : Str} {i c : Nat} (h : x.cps[x.cps.size - 1 - i]? = some c) : sgR x i = .str ⟨#[c]⟩ := by
  unfold sgR
  rw [Array.getD_eq_getD_getElem?, h]; rfl
theorem itD_revS {K : Fg} {x : Str} {S : Hp} : ItD K (Itrs x) S x.cps.size (sgR x) := fun H O sm dm => by
  refine ⟨fun i hi => ⟨hi, fun y H' hy => ?_⟩, Nat.le_refl _⟩
  obtain ⟨e, c, g1, g2⟩ := hy
  rw [e, g2, sgR_at g1]
  exact Out.sc (d := .str _) rfl
def dItRS (t : DTE) : DTI := fun ρ Q => dSt t ρ fun d ρ1 => match d with
  | .str x => x.length ≤ sizeLine ∧ Q x.cps.size (sgR x) ρ1
  | _ => False
theorem di_revS {e : Expr} {ta : DTE} {p pos : Pos} (hg : Gl X "reversed") (hm : X.mg "reversed" = none) (h : DE X e ta) (hs : starEach [e] X.env = (false, eval e X.env) :: starEach [] X.env := by rfl) : DI X tg (.Call (.Name "reversed" p) [e] [] pos) (dItRS ta) := by
  obtain ⟨te, p, s⟩ := dd_of h
  refine ⟨_, pi_revS hg hm p hs, fun F ρ O σ H A P Qd R G q k => s F ρ O σ H A P _ _ G q fun d ρ1 v O1 H1 A1 P1 S1 G1 D1 q1 => ?_⟩
  cases d with
  | str x => exact ⟨x, D1, q1.1, k _ _ ρ1 _ O1 H1 A1 P1 S1 G1 itD_revS q1.2⟩
  | _ => exact (show False from q1).elim

/-! ### text[::-1] -/
def revS (z : Str) : Str := ⟨z.cps.toList.reverse.toArray⟩
theorem all_at (xs : Array Nat) : (List.range xs.size).filterMap (xs[·]?) = xs.toList := PySem.W.krv_all xs
def tRevS (te : TE) : TE := fun σ H Q => te σ H fun x H1 => ∃ z, x = .str z ∧ z.length ≤ sizeLine ∧ Q (.str (revS z)) H1
theorem pe_revT {e : Expr} {te : TE} {k : Nat} {p1 p2 p3 pos : Pos} (he : PE X e te) : PE X (.Subscript e (.Slice none none (some (.UnaryOp .USub (.Constant (.int 1) k p1) p2)) p3) pos) (tRevS te) := by
  refine ⟨fun pins s σ H Q I h => Subscript_ (thn (he.run pins s σ H _ I h) fun v s1 ⟨x, H1, I1, r1, z, ex, hz, q⟩ => ?_)⟩
  subst ex
  obtain ⟨t, rfl⟩ := r1
  have hst : PO X (some (.UnaryOp .USub (.Constant (.int 1) k p1) p2)) (tPart (tUn (rU fun i => .int (-i)) (tC (.int 1)))) := po_some (pe_un un_neg pe_int)
  refine wpAny_Slice (thn (po_none.run pins s1 σ H1 (fun o H2 => o = none ∧ H2 = H1) I1 ⟨rfl, rfl⟩) fun vl s2 ⟨l, H2, I2, pl, el, e2⟩ => thn (po_none.run pins s2 σ H2 (fun o H3 => o = none ∧ H3 = H2) I2 ⟨rfl, rfl⟩) fun vu s3 ⟨u, H3, I3, pu, eu, e3⟩ =>
    thn (hst.run pins s3 σ H3 (fun o H4 => o = some (-1) ∧ H4 = H3) I3 ⟨1, rfl, -1, rfl, rfl, rfl⟩) fun vs s4 ⟨o, H4, I4, ps, eo, e4⟩ => ?_)
  subst el e2 eu e3 eo e4
  obtain ⟨l, rfl, hl⟩ := IsPart.raw pl
  obtain ⟨u, rfl, hu⟩ := IsPart.raw pu
  obtain ⟨st, rfl, hst2⟩ := IsPart.raw ps
  have I5 : Inv X pins σ H4 { s4 with heap := s4.heap.push { cls := .type "slice", data := .fields #[partValue l, partValue u, partValue st] } } := I4.kept (t' := s4.toks) fun b ob q => Heap.get?_push_of_some _ q
  show wpAny (model X.prog X.w) X.A (subscriptTail e (.Slice none none (some (.UnaryOp .USub (.Constant (.int 1) k p1) p2)) p3) (.str z t) (.ref s4.heap.objs.size)) (EP X pins σ Q) X.xe { s4 with heap := s4.heap.push { cls := .type "slice", data := .fields #[partValue l, partValue u, partValue st] } }
  refine tail_any (ops := [.str z t, .ref s4.heap.objs.size]) (typeIs_str _ z t) F.slot_str_getitem.lookup ?_ (by with_unfolding_all rfl)
  refine wpAny_getItem_str_slice (l := l) (u := u) (st := st) ⟨_, Heap.get?_push_size _ rfl, rfl, rfl⟩ ?_ ?_
  · rw [hst2]; rfl
  · have e1 : (slicePicked z l u st).filterMap (z.cps[·]?) = z.cps.toList.reverse := by
      unfold slicePicked
      rw [hl, hu, hst2]
      show (sliceRange ((z.cps.size : Int) - 1) (-1) (-1)).filterMap (z.cps[·]?) = _
      rw [PySem.W.krv_sliceRange, PySem.W.krv_range, List.filterMap_reverse]
      rw [show List.filterMap (fun x => z.cps[x]?) (List.range z.cps.size) = z.cps.toList from all_at z.cps]
    have e2 : ((st.map (·.1)).getD 1 == 1 && (slicePicked z l u st).length == z.length) = false := by rw [hst2]; rfl
    unfold sliceMade
    rw [e2, if_neg Bool.false_ne_true, e1]
    have lr : (revS z).length = z.length := by
      show z.cps.toList.reverse.toArray.size = z.cps.size
      simp
    exact ⟨Nat.le_trans (Nat.le_of_eq lr) hz, .str (revS z), H4, I5.tok _, ⟨_, rfl⟩, q⟩
def dRevS (t : DTE) : DTE := fun ρ Q => t ρ fun r ρ1 => match view ρ1 r with
  | some (.str z) => z.length ≤ sizeLine ∧ Q (.d (.str (revS z))) ρ1
  | _ => False
theorem de_revS {e : Expr} {ta : DTE} {k : Nat} {p1 p2 p3 pos : Pos} (he : DE X e ta) : DE X (.Subscript e (.Slice none none (some (.UnaryOp .USub (.Constant (.int 1) k p1) p2)) p3) pos) (dRevS ta) := by
  obtain ⟨te, p, s⟩ := he
  refine ⟨_, pe_revT p, fun F ρ O σ H A P Qd Q G q k => s F ρ O σ H A P _ _ G q fun r ρ1 v fp O1 H1 A1 P1 S1 G1 R1 N1 q1 => ?_⟩
  cases e1 : view ρ1 r with
  | none => simp only [e1] at q1
  | some d =>
    cases d with
    | str z =>
      simp only [e1] at q1
      exact ⟨z, view_ok G1 R1 e1, q1.1, k (.d (.str (revS z))) ρ1 _ [] O1 H1 A1 P1 S1 G1 rfl nw_d q1.2⟩
    | _ => simp only [e1] at q1
end
end DL
namespace DL
open PySem PySem.Spec PyProof.Rows L2
theorem mergeD_eq {ρ : DEnv} : ∀ {vs : List Nat} {k : Nat}, mergeD ρ ρ vs k = ρ := by
  induction ρ with
  | nil => intro vs k; rfl
  | cons s r ih =>
    intro vs k
    show (if k ∈ vs then s else s) :: mergeD r r vs (k + 1) = s :: r
    rw [ih]
    by_cases h : k ∈ vs
    · rw [if_pos h]
    · rw [if_neg h]
theorem put_put : ∀ {ρ : DEnv} {i : Nat} {s t : DL.Slot}, put (put ρ i s) i t = put ρ i t
  | [], _, _, _ => rfl
  | _ :: _, 0, _, _ => rfl
  | _ :: r, i + 1, s, t => by
    show _ :: put (put r i s) i t = _ :: put r i t
    rw [put_put]
theorem nth_map {α : Type} {f : α → PyData} {ms : List α} {i : Nat} (h : i < ms.length) : nth (ms.map f) i = f ms[i] := by
  unfold nth
  rw [List.getD_eq_getElem?_getD, List.getElem?_map, List.getElem?_eq_getElem h]
  rfl
theorem nth_get {ms : List PyData} {i : Nat} (h : i < ms.length) : nth ms i = ms[i] := by
  unfold nth
  rw [List.getD_eq_getElem?_getD, List.getElem?_eq_getElem h]
  rfl
theorem atI_map {α : Type} {f : α → PyData} {ms : List α} {i : Int} (h0 : 0 ≤ i) (h : i.toNat < ms.length) : atI (ms.map f) i = some (f ms[i.toNat]) := by
  have e : i = ((i.toNat : Nat) : Int) := by omega
  have q := atI_nat (xs := ms.map f) (j := i.toNat) (v := f ms[i.toNat]) (by rw [List.getElem?_map, List.getElem?_eq_getElem h]; rfl)
  rw [← e] at q
  exact q
theorem atI_of {ms : List PyData} {i : Int} (h0 : 0 ≤ i) (h : i.toNat < ms.length) : atI ms i = some ms[i.toNat] := by
  have e : i = ((i.toNat : Nat) : Int) := by omega
  have q := atI_nat (xs := ms) (j := i.toNat) (List.getElem?_eq_getElem h)
  rw [← e] at q
  exact q
theorem ixN_of {n : Nat} {i : Int} (h0 : 0 ≤ i) (h : i < n) : ixN n i = some i.toNat := by
  unfold ixN
  rw [if_pos h0, if_pos h]
theorem cut_to {α : Type} {f : α → PyData} {ms : List α} {k : Nat} : cutD (ms.map f) none (some (k : Int)) = (ms.take k).map f := by
  unfold cutD
  rw [HT.sIx_none, HT.sIx_nat, List.drop_zero, Nat.sub_zero, List.length_map, ← List.map_take]
  congr 1
  rcases Nat.le_total k ms.length with h | h
  · rw [Nat.min_eq_left h]
  · rw [Nat.min_eq_right h, List.take_of_length_le (Nat.le_refl _), List.take_of_length_le h]
/-! ### one sign of a text -/
def bs : Bool → Str
  | true => "U"
  | false => "D"
def wd (w : List Bool) : Str := ofL (w.map fun b => if b then 85 else 68)
theorem bs_eq (b : Bool) : bs b = ⟨#[if b then 85 else 68]⟩ := by cases b <;> rfl
theorem wd_nil : wd [] = "" := rfl
theorem wd_len (w : List Bool) : (wd w).length = w.length := by
  unfold wd
  rw [ofL_len, List.length_map]
theorem wd_size (w : List Bool) : (wd w).cps.size = w.length := by
  unfold wd ofL
  simp
theorem wd_app (u v : List Bool) : wd u ++ wd v = wd (u ++ v) := by
  unfold wd
  rw [ofL_app, List.map_append]
theorem wd_one (b : Bool) : bs b = wd [b] := by cases b <;> rfl
theorem wd_get {w : List Bool} {i : Nat} (h : i < w.length) : (wd w).cps.getD i 0 = if w[i] then 85 else 68 := by
  unfold wd ofL
  simp [Array.getD, h]
theorem sg_wd {w : List Bool} {i : Nat} (h : i < w.length) : sg (wd w) i = .str (bs w[i]) := by
  unfold sg
  rw [wd_get h, ← bs_eq]
theorem sgE_wd {w : List Bool} {i : Nat} {k : Int} (h : i < w.length) : sgE k (wd w) i = .tuple [.int (k + (i : Int)), .str (bs w[i])] := by
  unfold sgE
  rw [wd_get h, ← bs_eq]
theorem eqv_U (b : Bool) : PyData.eqv (.str (bs b)) (.str "U") = b := by cases b <;> decide
theorem eqv_D (b : Bool) : PyData.eqv (.str (bs b)) (.str "D") = !b := by cases b <;> decide
theorem eqv_str (a b : Str) : PyData.eqv (.str a) (.str b) = decide (a = b) := by
  show (a == b) = decide (a = b)
  by_cases h : a = b
  · rw [h]; simp
  · simp [h]
theorem eqv_int (a b : Int) : PyData.eqv (.int a) (.int b) = decide (a = b) := by
  show (a == b) = decide (a = b)
  by_cases h : a = b
  · rw [h]; simp
  · simp [h]
/-! ### heights -/
def ht : List Bool → Int
  | [] => 0
  | b :: r => (if b then 1 else -1) + ht r
theorem ht_app (u v : List Bool) : ht (u ++ v) = ht u + ht v := by
  induction u with
  | nil => show ht v = 0 + ht v; omega
  | cons b u ih =>
    show (if b then 1 else -1) + ht (u ++ v) = (if b then 1 else -1) + ht u + ht v
    rw [ih]; omega
def hp (w : List Bool) (i : Nat) : Int := ht (w.take i)
theorem hp_zero (w : List Bool) : hp w 0 = 0 := rfl
theorem hp_succ {w : List Bool} {i : Nat} (h : i < w.length) : hp w (i + 1) = hp w i + if w[i] then 1 else -1 := by
  unfold hp
  rw [List.take_succ, List.getElem?_eq_getElem h, ht_app]
  show _ + ((if w[i] then 1 else -1) + 0) = _
  omega
theorem hp_len (w : List Bool) : hp w w.length = ht w := by
  unfold hp
  rw [List.take_length]
theorem hp_snoc_le {w : List Bool} {b : Bool} {i : Nat} (h : i ≤ w.length) : hp (w ++ [b]) i = hp w i := by
  unfold hp
  rw [List.take_append_of_le_length h]
theorem ht_snoc (w : List Bool) (b : Bool) : ht (w ++ [b]) = ht w + if b then 1 else -1 := by
  rw [ht_app]
  show _ + ((if b then 1 else -1) + 0) = _
  omega
theorem hp_snoc_gt {w : List Bool} {b : Bool} {i : Nat} (h : w.length < i) : hp (w ++ [b]) i = ht w + if b then 1 else -1 := by
  unfold hp
  rw [List.take_of_length_le (by simp; omega), ht_snoc]
theorem pos_snoc {w : List Bool} {b : Bool} (h : ∀ i, 0 ≤ hp w i) (hb : 0 ≤ ht w + if b then 1 else -1) : ∀ i, 0 ≤ hp (w ++ [b]) i := fun i => by
  by_cases hi : i ≤ w.length
  · rw [hp_snoc_le hi]; exact h i
  · rw [hp_snoc_gt (by omega)]; exact hb
/-- a word of size n -/
structure Dyck (n : Nat) (w : List Bool) : Prop where
  len : w.length = 2 * n
  end0 : ht w = 0
  pos : ∀ i, 0 ≤ hp w i
/-! ### what repr asks -/
mutual
/-- ints below 10^12, texts of signs, no dict -/
def okD : PyData → Bool
  | .none => true
  | .bool _ => true
  | .int i => decide (i.natAbs < 1000000000000)
  | .str x => PyData.strOk x
  | .list xs => okAll xs
  | .tuple xs => okAll xs
  | .dict _ => false
def okAll : List PyData → Bool
  | [] => true
  | x :: xs => okD x && okAll xs
end
mutual
def szD : PyData → Nat
  | .str x => x.cps.size + 1
  | .list xs => szAll xs + 1
  | .tuple xs => szAll xs + 1
  | _ => 1
def szAll : List PyData → Nat
  | [] => 0
  | x :: xs => szD x + szAll xs
end
theorem log_small {i : Int} (h : i.natAbs < 1000000000000) (h0 : i ≠ 0) : i.natAbs.log2 < 40 := by
  have h1 : i.natAbs ≠ 0 := by omega
  exact (Nat.log2_lt h1).mpr (Nat.lt_trans h (by decide))
mutual
theorem okD_all : ∀ d : PyData, okD d = true → d.canLay0 = true ∧ d.intsShort 13 = true ∧ d.showable = true ∧ d.hasDict = false ∧ d.weight + 1 ≤ 42 * szD d
  | .none, _ => ⟨rfl, rfl, rfl, rfl, by decide⟩
  | .bool _, _ => ⟨rfl, rfl, rfl, rfl, by show 0 + 1 ≤ 42 * 1; decide⟩
  | .int i, h => by
    have h1 : i.natAbs < 1000000000000 := of_decide_eq_true h
    have lg : i.natAbs.log2 < 40 := by
      by_cases h0 : i = 0
      · subst h0; decide
      · exact log_small h1 h0
    refine ⟨rfl, decide_eq_true ?_, decide_eq_true (by omega), rfl, ?_⟩
    · show (Str.ofString (toString i)).length ≤ 13
      rw [PySem.ofString_length]
      exact int_text_length_le10 (k := 12) (by decide) h1
    · show (if i == 0 then 0 else i.natAbs.log2 + 1) + 1 ≤ 42 * 1
      split <;> omega
  | .str x, h => ⟨h, rfl, rfl, rfl, by show x.cps.size + 1 ≤ 42 * (x.cps.size + 1); omega⟩
  | .list xs, h => by
    obtain ⟨a, b, c, d, e⟩ := okAll_all xs h
    exact ⟨a, b, c, d, by show PyData.weightAll xs + 1 ≤ 42 * (szAll xs + 1); omega⟩
  | .tuple xs, h => by
    obtain ⟨a, b, c, d, e⟩ := okAll_all xs h
    exact ⟨a, b, c, d, by show PyData.weightAll xs + 1 ≤ 42 * (szAll xs + 1); omega⟩
  | .dict _, h => nomatch (show false = true from h)
theorem okAll_all : ∀ xs : List PyData, okAll xs = true → PyData.canLayAll0 xs = true ∧ PyData.intsShortAll 13 xs = true ∧ PyData.showableAll xs = true ∧ PyData.hasDictAll xs = false ∧ PyData.weightAll xs ≤ 42 * szAll xs
  | [], _ => ⟨rfl, rfl, rfl, rfl, Nat.le_refl _⟩
  | x :: xs, h => by
    have h' : okD x = true ∧ okAll xs = true := by
      have : (okD x && okAll xs) = true := h
      simpa using this
    obtain ⟨a, b, c, d, e⟩ := okD_all x h'.1
    obtain ⟨a', b', c', d', e'⟩ := okAll_all xs h'.2
    refine ⟨?_, ?_, ?_, ?_, ?_⟩
    · show (PyData.canLay0 x && PyData.canLayAll0 xs) = true; rw [a, a']; rfl
    · show (PyData.intsShort 13 x && PyData.intsShortAll 13 xs) = true; rw [b, b']; rfl
    · show (PyData.showable x && PyData.showableAll xs) = true; rw [c, c']; rfl
    · show (PyData.hasDict x || PyData.hasDictAll xs) = false; rw [d, d']; rfl
    · show PyData.weight x + 1 + PyData.weightAll xs ≤ 42 * (szD x + szAll xs); omega
end
/-- repr of such data -/
theorem rep_ok {d : PyData} {Q : RV → Prop} (h : okD d = true) (hd : d.depth ≤ 64) (hz : szD d ≤ 20000) (q : Q (.d (.str d.shown))) : d.showable = true ∧ d.hasDict = false ∧ d.depth ≤ 64 ∧ d.shown.length ≤ sizeLine ∧ Q (.d (.str d.shown)) := by
  obtain ⟨a, b, c, e, f⟩ := okD_all d h
  refine ⟨c, e, hd, ?_, q⟩
  have := PyData.shown_le 13 (by decide) d (PyData.leavesShort_of_canLay0 13 d a b)
  rw [sizeLine_eq]
  omega
theorem okAll_map {α : Type} {f : α → PyData} : ∀ {l : List α}, (∀ x ∈ l, okD (f x) = true) → okAll (l.map f) = true
  | [], _ => rfl
  | x :: l, h => by
    show (okD (f x) && okAll (l.map f)) = true
    rw [h x (by simp), okAll_map fun y hy => h y (by simp [hy])]; rfl
theorem szAll_map {α : Type} {f : α → PyData} {k : Nat} : ∀ {l : List α}, (∀ x ∈ l, szD (f x) ≤ k) → szAll (l.map f) ≤ k * l.length
  | [], _ => Nat.zero_le _
  | x :: l, h => by
    have h1 := h x (by simp)
    have h2 := szAll_map (l := l) fun y hy => h y (by simp [hy])
    show szD (f x) + szAll (l.map f) ≤ k * (l.length + 1)
    rw [Nat.mul_succ]; omega
theorem depth_map {α : Type} {f : α → PyData} {k : Nat} : ∀ {l : List α}, (∀ x ∈ l, (f x).depth ≤ k) → PyData.depthAll (l.map f) ≤ k
  | [], _ => Nat.zero_le _
  | x :: l, h => by
    show max (PyData.depth (f x)) (PyData.depthAll (l.map f)) ≤ k
    exact Nat.max_le.mpr ⟨h x (by simp), depth_map fun y hy => h y (by simp [hy])⟩
/-! ### partners -/
/-- the letter at k is closed by the one at m -/
def Cl (w : List Bool) (k m : Nat) : Prop := k < m ∧ m < w.length ∧ hp w (m + 1) = hp w k ∧ ∀ j, k < j → j ≤ m → hp w k < hp w j
theorem Cl.right {w : List Bool} {k m n : Nat} (a : Cl w k m) (b : Cl w k n) : m = n := by
  obtain ⟨a1, a2, a3, a4⟩ := a
  obtain ⟨b1, b2, b3, b4⟩ := b
  rcases Nat.lt_trichotomy m n with h | h | h
  · have := b4 (m + 1) (by omega) (by omega); omega
  · exact h
  · have := a4 (n + 1) (by omega) (by omega); omega
theorem Cl.left {w : List Bool} {k l m : Nat} (a : Cl w k m) (b : Cl w l m) : k = l := by
  obtain ⟨a1, a2, a3, a4⟩ := a
  obtain ⟨b1, b2, b3, b4⟩ := b
  rcases Nat.lt_trichotomy k l with h | h | h
  · have := a4 l (by omega) (by omega); omega
  · exact h
  · have := b4 k (by omega) (by omega); omega
theorem Cl.up {w : List Bool} {k m : Nat} (a : Cl w k m) (h : k < w.length) : w[k] = true := by
  have h1 := a.2.2.2 (k + 1) (by omega) (by have := a.1; omega)
  rw [hp_succ h] at h1
  cases e : w[k] with
  | true => rfl
  | false => rw [e] at h1; simp at h1; omega
theorem Cl.down {w : List Bool} {k m : Nat} (a : Cl w k m) (h : m < w.length) : w[m] = false := by
  have h1 := a.2.2.2 m a.1 (Nat.le_refl _)
  have h2 := a.2.2.1
  rw [hp_succ h] at h2
  cases e : w[m] with
  | false => rfl
  | true => rw [e] at h2; simp at h2; omega
/-- all points are joined -/
def Joins (w : List Bool) (P : List Int) : Prop := P.length = w.length ∧ ∀ p, p < w.length → ∃ q : Nat, P[p]? = some ((q : Int) + 1) ∧ (Cl w p q ∨ Cl w q p)
/-- .. those of the openers, and their closers -/
def JoinsU (w : List Bool) (P : List Int) : Prop := P.length = w.length ∧ ∀ p, (h : p < w.length) → w[p] = true → ∃ q : Nat, Cl w p q ∧ P[p]? = some ((q : Int) + 1) ∧ P[q]? = some ((p : Int) + 1)
theorem Joins.eq {w : List Bool} {P R : List Int} (a : Joins w P) (b : JoinsU w R) : P = R := by
  refine List.ext_getElem? fun p => ?_
  by_cases hp : p < w.length
  · obtain ⟨q, e, c⟩ := a.2 p hp
    rw [e]
    rcases c with c | c
    · obtain ⟨q2, c2, e2, _⟩ := b.2 p hp (c.up hp)
      rw [e2, c.right c2]
    · have hq : q < w.length := by have := c.1; omega
      obtain ⟨q2, c2, _, e2⟩ := b.2 q hq (c.up hq)
      rw [← c.right c2] at e2
      rw [e2]
  · rw [List.getElem?_eq_none (by rw [a.1]; omega), List.getElem?_eq_none (by rw [b.1]; omega)]
/-- the stack behind i letters: what is open, 0-based, the last one first; what is joined -/
structure Stk (w : List Bool) (i : Nat) (st : List Nat) (P : List Int) : Prop where
  len : P.length = w.length
  hgt : (st.length : Int) = hp w i
  lt : ∀ k ∈ st, k < i
  opn : ∀ k ∈ st, ∀ j, k < j → j ≤ i → hp w k < hp w j
  lev : ∀ t (h : t < st.length), hp w st[t] = (st.length : Int) - 1 - t
  done : ∀ p, p < i → p ∉ st → ∃ q : Nat, P[p]? = some ((q : Int) + 1) ∧ (Cl w p q ∨ Cl w q p)
theorem Stk.start (w : List Bool) : Stk w 0 [] (List.replicate w.length 0) := ⟨by simp, rfl, fun _ h => (nomatch h), fun _ h => (nomatch h), fun t h => absurd h (Nat.not_lt_zero _), fun p h => absurd h (Nat.not_lt_zero _)⟩
theorem Stk.push {w : List Bool} {i : Nat} {st : List Nat} {P : List Int} (S : Stk w i st P) (h : i < w.length) (hu : w[i] = true) : Stk w (i + 1) (i :: st) P := by
  have e : hp w (i + 1) = hp w i + 1 := by rw [hp_succ h, hu]; rfl
  refine ⟨S.len, by rw [e, List.length_cons, ← S.hgt]; omega, fun k hk => ?_, fun k hk j h1 h2 => ?_, fun t ht => ?_, fun p hp hn => ?_⟩
  · rcases List.mem_cons.mp hk with rfl | hk
    · omega
    · have := S.lt k hk; omega
  · rcases List.mem_cons.mp hk with rfl | hk
    · have : j = k + 1 := by omega
      rw [this, e]; omega
    · by_cases hj : j ≤ i
      · exact S.opn k hk j h1 hj
      · have : j = i + 1 := by omega
        rw [this, e]
        have := S.opn k hk i (S.lt k hk) (Nat.le_refl _)
        omega
  · cases t with
    | zero => show hp w i = _; rw [List.length_cons, ← S.hgt]; omega
    | succ t =>
      have ht' : t < st.length := by simpa using ht
      show hp w st[t] = _
      rw [S.lev t ht', List.length_cons]; omega
  · have hne : p ≠ i := fun z => hn (by rw [z]; simp)
    exact S.done p (by omega) fun z => hn (by simp [z])
theorem Stk.pop {w : List Bool} {i k : Nat} {st : List Nat} {P : List Int} (S : Stk w i (k :: st) P) (h : i < w.length) (hd : w[i] = false) : Cl w k i ∧ Stk w (i + 1) st ((P.set k ((i : Int) + 1)).set i ((k : Int) + 1)) := by
  have e : hp w (i + 1) = hp w i - 1 := by rw [hp_succ h, hd]; rfl
  have hk : k < i := S.lt k (by simp)
  have l0 := S.lev 0 (by simp)
  have l0' : hp w k = ((k :: st).length : Int) - 1 - (0 : Nat) := l0
  have hg := S.hgt
  rw [List.length_cons] at l0' hg
  have C : Cl w k i := ⟨hk, h, by rw [e, ← hg, l0']; omega, fun j h1 h2 => S.opn k (by simp) j h1 h2⟩
  refine ⟨C, by simp [S.len], by rw [e, ← hg]; omega, fun j hj => ?_, fun l hl j h1 h2 => ?_, fun t ht => ?_, fun p hp hn => ?_⟩
  · have := S.lt j (by simp [hj]); omega
  · by_cases hj : j ≤ i
    · exact S.opn l (by simp [hl]) j h1 hj
    · have ej : j = i + 1 := by omega
      obtain ⟨t, ht, rfl⟩ := List.getElem_of_mem hl
      have := S.lev (t + 1) (by simpa using ht)
      have this' : hp w st[t] = ((k :: st).length : Int) - 1 - ((t + 1 : Nat) : Int) := this
      rw [List.length_cons] at this'
      rw [ej, e, ← hg, this']; omega
  · have := S.lev (t + 1) (by simpa using ht)
    have this' : hp w st[t] = ((k :: st).length : Int) - 1 - ((t + 1 : Nat) : Int) := this
    rw [List.length_cons] at this'
    rw [this']; omega
  · have hPl := S.len
    by_cases hpi : p = i
    · subst hpi
      exact ⟨k, by rw [List.getElem?_set_self (by simp; omega)], .inr C⟩
    · by_cases hpk : p = k
      · subst hpk
        exact ⟨i, by rw [List.getElem?_set_ne (by omega), List.getElem?_set_self (by omega)], .inl C⟩
      · obtain ⟨q, e1, c⟩ := S.done p (by omega) (by simp [hpk, hn])
        exact ⟨q, by rw [List.getElem?_set_ne (by omega), List.getElem?_set_ne (by omega)]; exact e1, c⟩
theorem Stk.fin {w : List Bool} {st : List Nat} {P : List Int} (S : Stk w w.length st P) (h : ht w = 0) : Joins w P := by
  have e := S.hgt
  rw [hp_len, h] at e
  have : st = [] := List.length_eq_zero_iff.mp (by omega)
  subst this
  exact ⟨S.len, fun p hp => S.done p hp fun z => nomatch z⟩
theorem Stk.open {w : List Bool} {i : Nat} {st : List Nat} {P : List Int} (S : Stk w i st P) (h : i < w.length) (hd : w[i] = false) (pos : ∀ j, 0 ≤ hp w j) : ∃ k r, st = k :: r := by
  cases st with
  | nil =>
    have e := S.hgt
    have := pos (i + 1)
    rw [hp_succ h, hd, ← e] at this
    simp at this
  | cons k r => exact ⟨k, r, rfl⟩
/-- the openers before i are joined with their closers -/
structure Sc (w : List Bool) (i : Nat) (R : List Int) : Prop where
  len : R.length = w.length
  done : ∀ p, p < i → (h : p < w.length) → w[p] = true → ∃ q : Nat, Cl w p q ∧ R[p]? = some ((q : Int) + 1) ∧ R[q]? = some ((p : Int) + 1)
theorem Sc.start (w : List Bool) : Sc w 0 (List.replicate w.length 0) := ⟨by simp, fun p h => absurd h (Nat.not_lt_zero _)⟩
theorem Sc.skip {w : List Bool} {i : Nat} {R : List Int} (S : Sc w i R) (h : i < w.length) (hd : w[i] = false) : Sc w (i + 1) R := ⟨S.len, fun p hp hl hu => by
  have : p ≠ i := fun z => by subst z; rw [hd] at hu; cases hu
  exact S.done p (by omega) hl hu⟩
theorem Sc.join {w : List Bool} {i m : Nat} {R : List Int} (S : Sc w i R) (h : i < w.length) (hu : w[i] = true) (C : Cl w i m) : Sc w (i + 1) ((R.set i ((m : Int) + 1)).set m ((i : Int) + 1)) := by
  have hm : m < w.length := C.2.1
  have hRl := S.len
  refine ⟨by simp [S.len], fun p hp hl hup => ?_⟩
  by_cases hpi : p = i
  · subst hpi
    have := C.1
    exact ⟨m, C, by rw [List.getElem?_set_ne (by omega), List.getElem?_set_self (by omega)], by rw [List.getElem?_set_self (by simp; omega)]⟩
  · obtain ⟨q, c, e1, e2⟩ := S.done p (by omega) hl hup
    have hq : q < w.length := c.2.1
    have n1 : p ≠ m := fun z => by subst z; rw [C.down hl] at hup; cases hup
    have n2 : q ≠ i := fun z => by subst z; rw [c.down hq] at hu; cases hu
    have n3 : q ≠ m := fun z => by subst z; exact hpi (c.left C)
    exact ⟨q, c, by rw [List.getElem?_set_ne (by omega), List.getElem?_set_ne (by omega)]; exact e1, by rw [List.getElem?_set_ne (by omega), List.getElem?_set_ne (by omega)]; exact e2⟩
theorem Sc.fin {w : List Bool} {R : List Int} (S : Sc w w.length R) : JoinsU w R := ⟨S.len, fun p h hu => S.done p h h hu⟩
theorem rep_one {n : Nat} {d : PyData} : (List.replicate n [d]).flatten = List.replicate n d := by
  induction n with
  | zero => rfl
  | succ n ih => rw [List.replicate_succ, List.flatten_cons, ih]; rfl
theorem shp {d : PyData} (h : okD d = true) (hd : d.depth ≤ 64 := by decide) : SeqAt.shaped d = true := by
  show (d.canLay0 && decide (d.depth ≤ 64)) = true
  rw [(okD_all d h).1, decide_eq_true hd]; rfl
theorem shp_int (i : Int) : SeqAt.shaped (.int i) = true := rfl
theorem shp_bs (b : Bool) : SeqAt.shaped (.str (bs b)) = true := by cases b <;> decide +kernel
theorem ok_wd (w : List Bool) : okD (.str (wd w)) = true := by
  show (wd w).cps.all (· < 0x110000) = true
  unfold wd ofL
  rw [List.all_toArray, List.all_map, List.all_eq_true]
  intro b _
  cases b <;> rfl
theorem shp_str {s : Str} (h : PyData.strOk s = true) : SeqAt.shaped (.str s) = true := shp (d := .str s) h (Nat.zero_le _)
theorem last_get {α : Type} (l : List α) (d : α) : (l ++ [d])[(l ++ [d]).length - 1]? = some d := by
  rw [List.length_append, List.length_singleton, Nat.add_sub_cancel, List.getElem?_append_right (Nat.le_refl _), Nat.sub_self]; rfl
theorem ixN_k {n k : Nat} (h : k < n) : ixN n (k : Int) = some k := by
  rw [ixN_of (by omega) (by omega), Int.toNat_natCast]
theorem atI_wd {w : List Bool} {k : Nat} (h : k < w.length) : atI (wd w).cps.toList (k : Int) = some (if w[k] then 85 else 68) := by
  refine atI_nat ?_
  unfold wd
  rw [ofL_list, List.getElem?_map, List.getElem?_eq_getElem h]
  rfl
theorem dec_U (b : Bool) : decide (bs b = ("U" : Str)) = b := by cases b <;> decide +kernel
theorem dec_D (b : Bool) : decide (bs b = ("D" : Str)) = !b := by cases b <;> decide +kernel
theorem rep_facts {d : PyData} (h : okD d = true) (hd : d.depth ≤ 64) (hz : szD d ≤ 20000) : d.showable = true ∧ d.hasDict = false ∧ d.depth ≤ 64 ∧ d.shown.length ≤ sizeLine :=
  let ⟨a, b, c, e, _⟩ := rep_ok (Q := fun _ => True) h hd hz trivial
  ⟨a, b, c, e⟩
def smallI (R : List Int) : Prop := ∀ x ∈ R, x.natAbs < 1000000000000
theorem ints_ok {R : List Int} (h : smallI R) : okAll (R.map .int) = true := okAll_map fun x hx => decide_eq_true (h x hx)
theorem ints_sz {R : List Int} : szAll (R.map .int) = R.length := by
  induction R with
  | nil => rfl
  | cons x r ih =>
    show 1 + szAll (r.map .int) = r.length + 1
    omega
theorem ints_dp {R : List Int} : PyData.depthAll (R.map .int) = 0 := by
  induction R with
  | nil => rfl
  | cons x r ih =>
    show max 0 (PyData.depthAll (r.map .int)) = 0
    omega
theorem Joins.small {w : List Bool} {P : List Int} (J : Joins w P) (hw : w.length ≤ 100000) : smallI P := fun x hx => by
  obtain ⟨p, hp, e⟩ := List.getElem_of_mem hx
  obtain ⟨q, e2, c⟩ := J.2 p (by rw [← J.1]; exact hp)
  rw [List.getElem?_eq_getElem hp, e] at e2
  have e3 : x = (q : Int) + 1 := Option.some.inj e2
  have : q < w.length := by
    rcases c with c | c
    · exact c.2.1
    · have := c.1; have := c.2.1; omega
  omega
/-- every word has its joins -/
theorem dyck_of {n : Nat} {w : List Bool} (hl : w.length = 2 * n) (h0 : ht w = 0) (hp0 : ∀ i, i < w.length → 0 ≤ hp w i) : Dyck n w := ⟨hl, h0, fun i => by
  by_cases hi : i < w.length
  · exact hp0 i hi
  · show 0 ≤ ht (w.take i)
    rw [List.take_of_length_le (by omega), h0]; exact Int.le_refl _⟩
theorem cl_of {w : List Bool} {k m : Nat} (h : k < m ∧ m < w.length ∧ hp w (m + 1) = hp w k ∧ ∀ j, j < m + 1 → k < j → hp w k < hp w j) : Cl w k m := ⟨h.1, h.2.1, h.2.2.1, fun j h1 h2 => h.2.2.2 j (by omega) h1⟩
end DL
namespace DL
open PySem PySem.Spec PyProof.Rows L2
/-! ### words by their parts -/
theorem hp_cons (b : Bool) (x : List Bool) (i : Nat) : hp (b :: x) (i + 1) = (if b then 1 else -1) + hp x i := rfl
theorem hp_app_le {u z : List Bool} {i : Nat} (h : i ≤ u.length) : hp (u ++ z) i = hp u i := by
  unfold hp
  rw [List.take_append_of_le_length h]
theorem hp_app_ge {u z : List Bool} {i : Nat} (h : u.length ≤ i) : hp (u ++ z) i = ht u + hp z (i - u.length) := by
  unfold hp
  rw [List.take_append, List.take_of_length_le h, ht_app]
theorem hp_over {w : List Bool} {i : Nat} (h : w.length ≤ i) : hp w i = ht w := by
  unfold hp
  rw [List.take_of_length_le h]
theorem ht_even (w : List Bool) : ∃ c : Nat, ht w = 2 * c - w.length := by
  induction w with
  | nil => exact ⟨0, rfl⟩
  | cons b r ih =>
    obtain ⟨c, e⟩ := ih
    cases b with
    | true => exact ⟨c + 1, by show 1 + ht r = _; rw [e, List.length_cons]; omega⟩
    | false => exact ⟨c, by show -1 + ht r = _; rw [e, List.length_cons]; omega⟩
def join (u v : List Bool) : List Bool := true :: (u ++ false :: v)
theorem join_len (u v : List Bool) : (join u v).length = u.length + v.length + 2 := by
  unfold join
  simp
  omega
theorem hp_join {u v : List Bool} (hu : ht u = 0) (i : Nat) : hp (join u v) i = if i = 0 then 0 else if i ≤ u.length + 1 then 1 + hp u (i - 1) else hp v (i - u.length - 2) := by
  cases i with
  | zero => rfl
  | succ i =>
    rw [if_neg (by omega)]
    show hp (true :: (u ++ false :: v)) (i + 1) = _
    rw [hp_cons]
    by_cases h : i + 1 ≤ u.length + 1
    · rw [if_pos h, hp_app_le (by omega)]; rfl
    · rw [if_neg h, hp_app_ge (by omega), hu]
      obtain ⟨j, hj⟩ : ∃ j, i - u.length = j + 1 := ⟨i - u.length - 1, by omega⟩
      rw [hj, hp_cons, show i + 1 - u.length - 2 = j by omega]
      simp
      omega
theorem dyck_join {a b : Nat} {u v : List Bool} (Du : Dyck a u) (Dv : Dyck b v) : Dyck (a + b + 1) (join u v) := by
  refine ⟨by rw [join_len, Du.len, Dv.len]; omega, ?_, fun i => ?_⟩
  · show (1 : Int) + ht (u ++ false :: v) = 0
    rw [ht_app, Du.end0]
    show (1 : Int) + (0 + (-1 + ht v)) = 0
    rw [Dv.end0]; omega
  · rw [hp_join Du.end0]
    split
    · omega
    · split
      · have := Du.pos (i - 1); omega
      · exact Dv.pos _
theorem cl_join {a : Nat} {u v : List Bool} (Du : Dyck a u) : Cl (join u v) 0 (u.length + 1) := by
  refine ⟨by omega, by rw [join_len]; omega, ?_, fun j h1 h2 => ?_⟩
  · rw [hp_join Du.end0, hp_join Du.end0, if_neg (by omega), if_neg (by omega), if_pos rfl, show u.length + 1 + 1 - u.length - 2 = 0 by omega]; rfl
  · rw [hp_join Du.end0, hp_join Du.end0, if_pos rfl, if_neg (by omega), if_pos (by omega)]
    have := Du.pos (j - 1)
    omega
theorem dyck_split {n q : Nat} {w : List Bool} (D : Dyck n w) (C : Cl w 0 q) : ∃ (a b : Nat) (u v : List Bool), w = join u v ∧ u.length + 1 = q ∧ Dyck a u ∧ Dyck b v ∧ n = a + b + 1 := by
  obtain ⟨c1, c2, c3, c4⟩ := id C
  have h0 : w[0]'(by omega) = true := C.up (by omega)
  have hq : w[q] = false := C.down c2
  have e1 : w = w[0]'(by omega) :: w.drop 1 := by
    have := List.drop_eq_getElem_cons (l := w) (i := 0) (by omega)
    simpa using this
  have e2 : w.drop 1 = (w.drop 1).take (q - 1) ++ w[q] :: w.drop (q + 1) := by
    have h := List.take_append_drop (q - 1) (w.drop 1)
    rw [List.drop_drop, show 1 + (q - 1) = q by omega, List.drop_eq_getElem_cons c2] at h
    exact h.symm
  rw [h0, e2, hq] at e1
  have lu : ((w.drop 1).take (q - 1)).length = q - 1 := by simp; omega
  generalize (w.drop 1).take (q - 1) = u at e1 lu
  generalize w.drop (q + 1) = v at e1
  have ej : w = join u v := e1
  have len2 := D.len
  rw [ej, join_len] at len2
  -- heights of u
  have hpu : ∀ i, i ≤ u.length → hp w (i + 1) = 1 + hp u i := fun i hi => by
    rw [ej]
    show hp (true :: (u ++ false :: v)) (i + 1) = _
    rw [hp_cons, hp_app_le hi]; rfl
  have hu0 : ht u = 0 := by
    have h2 : hp w (q + 1) = hp w q - 1 := by rw [hp_succ c2, hq]; rfl
    have h3 : hp w q = 1 + ht u := by
      have := hpu (q - 1) (by omega)
      rw [show q - 1 + 1 = q by omega] at this
      rw [this, hp_over (by omega)]
    rw [c3] at h2
    have : hp w 0 = 0 := rfl
    omega
  have posu : ∀ i, 0 ≤ hp u i := fun i => by
    by_cases hi : i ≤ u.length
    · have a1 := hpu i hi
      have a2 := c4 (i + 1) (by omega) (by omega)
      have : hp w 0 = 0 := rfl
      omega
    · rw [hp_over (by omega), hu0]; exact Int.le_refl _
  have hv0 : ht v = 0 := by
    have e := D.end0
    rw [ej] at e
    have e' : (1 : Int) + ht (u ++ false :: v) = 0 := e
    rw [ht_app, hu0] at e'
    have e'' : (1 : Int) + (0 + (-1 + ht v)) = 0 := e'
    omega
  have posv : ∀ i, 0 ≤ hp v i := fun i => by
    have e := D.pos (u.length + 2 + i)
    rw [ej, hp_join hu0, if_neg (by omega), if_neg (by omega), show u.length + 2 + i - u.length - 2 = i by omega] at e
    exact e
  obtain ⟨a, ea⟩ := ht_even u
  obtain ⟨b, eb⟩ := ht_even v
  exact ⟨a, b, u, v, ej, by omega, ⟨by omega, hu0, posu⟩, ⟨by omega, hv0, posv⟩, by omega⟩
theorem joins_zero {w : List Bool} {P : List Int} (J : Joins w P) (h : 0 < w.length) : ∃ q : Nat, P[0]? = some ((q : Int) + 1) ∧ Cl w 0 q := by
  obtain ⟨q, e, c⟩ := J.2 0 h
  rcases c with c | c
  · exact ⟨q, e, c⟩
  · exact absurd c.1 (Nat.not_lt_zero _)
/-! ### slices of words -/
theorem cut_wd {w : List Bool} {lo hi : Nat} (h1 : lo ≤ hi) (h2 : hi ≤ w.length) : cutS (wd w) (some (lo : Int)) (some (hi : Int)) = wd ((w.drop lo).take (hi - lo)) := by
  unfold cutS
  rw [wd_len, HT.sIx_nat, HT.sIx_nat, Nat.min_eq_left (Nat.le_trans h1 h2), Nat.min_eq_left h2]
  unfold wd
  rw [ofL_list, ← List.map_drop, ← List.map_take]
  rfl
theorem cut_wd_to {w : List Bool} {lo : Nat} (h : lo ≤ w.length) : cutS (wd w) (some (lo : Int)) none = wd (w.drop lo) := by
  unfold cutS
  rw [wd_len, HT.sIx_nat, HT.sIx_none, Nat.min_eq_left h]
  unfold wd
  rw [ofL_list, ← List.map_drop, ← List.map_take, List.take_of_length_le (by simp)]
  rfl
theorem join_in {u v : List Bool} : ((join u v).drop 1).take u.length = u := by
  unfold join
  simp
theorem join_out {u v : List Bool} : (join u v).drop (u.length + 2) = v := by
  unfold join
  simp [List.drop_append]
theorem wd_join {u v : List Bool} : ("U" : Str) ++ wd u ++ ("D" : Str) ++ wd v = wd (join u v) := by
  have e1 : ("U" : Str) = wd [true] := wd_one true
  have e2 : ("D" : Str) = wd [false] := wd_one false
  rw [e1, e2, wd_app, wd_app, wd_app]
  unfold join
  congr 1
  simp
theorem join_inj {a a2 : Nat} {u v u2 v2 : List Bool} (h : join u v = join u2 v2) (Du : Dyck a u) (Du2 : Dyck a2 u2) : u = u2 ∧ v = v2 := by
  have c1 := cl_join (v := v) Du
  have c2 := cl_join (v := v2) Du2
  rw [← h] at c2
  have e := c1.right c2
  have el : u.length = u2.length := by omega
  refine ⟨?_, ?_⟩
  · rw [← join_in (u := u) (v := v), ← join_in (u := u2) (v := v2), h, el]
  · rw [← join_out (u := u) (v := v), ← join_out (u := u2) (v := v2), h, el]
theorem dyck_ne {n : Nat} {w : List Bool} (D : Dyck n w) (h : 0 < n) : 0 < w.length := by have := D.len; omega
theorem wd_inj {u v : List Bool} (h : wd u = wd v) : u = v := by
  have := ofL_inj h
  induction u generalizing v with
  | nil =>
    cases v with
    | nil => rfl
    | cons b v => simp at this
  | cons a u ih =>
    cases v with
    | nil => simp at this
    | cons b v =>
      simp only [List.map_cons, List.cons.injEq] at this
      have e := ih (v := v) (by unfold wd; rw [this.2]) this.2
      rw [e]
      congr 1
      revert this
      cases a <;> cases b <;> simp
end DL
namespace DL
open PySem PySem.Spec PyProof.Rows L2
/-! ### counts, heights, joins of words -/
def ct : List Bool → Nat
  | [] => 0
  | b :: r => (if b then 1 else 0) + ct r
theorem ct_ht (w : List Bool) : ht w = 2 * ct w - w.length := by
  induction w with
  | nil => rfl
  | cons b r ih =>
    show (if b then 1 else -1) + ht r = 2 * (((if b then 1 else 0) + ct r : Nat) : Int) - ((r.length + 1 : Nat) : Int)
    rw [ih]
    cases b <;> simp <;> omega
theorem cnt_ct (w : List Bool) : cnt 85 (w.map fun b => if b then 85 else 68) = ct w ∧ cnt 68 (w.map fun b => if b then 85 else 68) = w.length - ct w := by
  induction w with
  | nil => exact ⟨rfl, rfl⟩
  | cons b r ih =>
    obtain ⟨h1, h2⟩ := ih
    rw [List.map_cons, cnt_cons, cnt_cons, h1, h2]
    refine ⟨?_, ?_⟩
    · show _ = (((if b then 1 else 0) + ct r : Nat) : Int)
      cases b <;> simp
    · show _ = ((r.length + 1 : Nat) : Int) - (((if b then 1 else 0) + ct r : Nat) : Int)
      cases b <;> simp <;> omega
theorem count_U (w : List Bool) : Txt.count (wd w) "U" = ct w := by
  have e : ("U" : Str) = ⟨#[85]⟩ := rfl
  rw [e, count_cnt]
  unfold wd
  rw [ofL_list]
  exact (cnt_ct w).1
theorem count_D (w : List Bool) : Txt.count (wd w) "D" = w.length - ct w := by
  have e : ("D" : Str) = ⟨#[68]⟩ := rfl
  rw [e, count_cnt]
  unfold wd
  rw [ofL_list]
  exact (cnt_ct w).2
theorem cut_wd_from {w : List Bool} {hi : Nat} (h : hi ≤ w.length) : cutS (wd w) none (some (hi : Int)) = wd (w.take hi) := by
  unfold cutS
  rw [wd_len, HT.sIx_nat, HT.sIx_none, Nat.min_eq_left h]
  unfold wd
  rw [ofL_list, List.drop_zero, Nat.sub_zero, ← List.map_take]
  rfl
theorem hp_count {w : List Bool} {k : Nat} (h : k ≤ w.length) : ((ct (w.take k) : Nat) : Int) - (((w.take k).length : Nat) - ct (w.take k)) = hp w k := by
  unfold hp
  rw [ct_ht]
  omega
/-- the heights of all prefixes -/
def hts (w : List Bool) (m : Nat) : List Int := (List.range m).map (hp w)
theorem hts_len (w : List Bool) (m : Nat) : (hts w m).length = m := by simp [hts]
theorem hts_succ (w : List Bool) (m : Nat) : hts w (m + 1) = hts w m ++ [hp w m] := by
  unfold hts
  rw [List.range_succ, List.map_append]; rfl
theorem hts_get {w : List Bool} {m k : Nat} (h : k < m) : (hts w m)[k]'(by rw [hts_len]; exact h) = hp w k := by
  simp [hts]
theorem hp_le (w : List Bool) (i : Nat) : -(w.length : Int) ≤ hp w i ∧ hp w i ≤ w.length := by
  unfold hp
  rw [ct_ht]
  have h1 : ct (w.take i) ≤ (w.take i).length := by
    generalize w.take i = u
    induction u with
    | nil => exact Nat.le_refl _
    | cons b r ih =>
      show (if b then 1 else 0) + ct r ≤ r.length + 1
      split <;> omega
  have h2 : (w.take i).length ≤ w.length := by rw [List.length_take]; omega
  omega
theorem hts_small {w : List Bool} {m : Nat} (h : w.length ≤ 100000) : smallI (hts w m) := fun x hx => by
  obtain ⟨k, _, rfl⟩ := List.mem_map.mp hx
  have := hp_le w k
  omega
/-- the places of height 0 -/
def tps (w : List Bool) (m : Nat) : List Int := ((List.range m).filter fun j => decide (hp w (j + 1) = 0)).map fun (j : Nat) => 1 + (j : Int)
theorem tps_succ (w : List Bool) (m : Nat) : tps w (m + 1) = if hp w (m + 1) = 0 then tps w m ++ [1 + (m : Int)] else tps w m := by
  unfold tps
  rw [List.range_succ, List.filter_append, List.map_append]
  by_cases h : hp w (m + 1) = 0
  · rw [if_pos h]; simp [h]
  · rw [if_neg h]; simp [h]
theorem tps_len (w : List Bool) (m : Nat) : (tps w m).length ≤ m := by
  unfold tps
  rw [List.length_map]
  exact Nat.le_trans (List.length_filter_le _ _) (by simp)
theorem tps_small {w : List Bool} {m : Nat} (h : m ≤ 100000) : smallI (tps w m) := fun x hx => by
  unfold tps at hx
  obtain ⟨k, hk, rfl⟩ := List.mem_map.mp hx
  have := (List.mem_filter.mp hk).1
  have := List.mem_range.mp this
  omega
/-- the word turned round -/
def turnW (w : List Bool) : List Bool := (w.map not).reverse
theorem turnW_len (w : List Bool) : (turnW w).length = w.length := by simp [turnW]
theorem revS_wd (w : List Bool) : revS (wd w) = wd w.reverse := by
  unfold revS wd
  rw [ofL_list, ← List.map_reverse]; rfl
theorem strs_bs (l : List Bool) : strsD (l.map fun b => .str (bs b)) = some (l.map bs) := by
  induction l with
  | nil => rfl
  | cons b r ih =>
    show (strsD (r.map fun b => .str (bs b))).map (bs b :: ·) = _
    rw [ih]; rfl
theorem fold_bs (l : List Bool) : ∀ a : Array Nat, (l.map bs).foldl (fun acc p => acc ++ ("" : Str).cps ++ p.cps) a = a ++ (wd l).cps := by
  induction l with
  | nil => intro a; show a = a ++ #[]; simp
  | cons b r ih =>
    intro a
    rw [List.map_cons, List.foldl_cons, ih]
    have e : (wd (b :: r)).cps = (bs b).cps ++ (wd r).cps := by
      rw [show b :: r = [b] ++ r from rfl, ← wd_app, ← wd_one]; rfl
    rw [e, show ("" : Str).cps = #[] from rfl]
    simp
theorem join_bs (l : List Bool) : Txt.join "" (l.map bs) = wd l := by
  show Builtin.Str.glued "" (l.map bs) = wd l
  unfold Builtin.Str.glued
  cases l with
  | nil => rfl
  | cons b r =>
    rw [List.map_cons]
    show (⟨(r.map bs).foldl (fun acc p => acc ++ ("" : Str).cps ++ p.cps) (bs b).cps⟩ : Str) = wd (b :: r)
    rw [fold_bs, show b :: r = [b] ++ r from rfl, ← wd_app, ← wd_one]; rfl
theorem bs_sum (l : List Bool) : ((l.map bs).map (·.length)).sum = l.length := by
  induction l with
  | nil => rfl
  | cons b r ih =>
    rw [List.map_cons, List.map_cons, List.sum_cons, ih, List.length_cons]
    have : (bs b).length = 1 := by cases b <;> rfl
    omega
theorem sgR_wd {w : List Bool} {i : Nat} (h : i < w.length) : sgR (wd w) i = .str (bs (w[w.length - 1 - i]'(by omega))) := by
  unfold sgR
  rw [wd_size, wd_get (show w.length - 1 - i < w.length by omega), ← bs_eq]
theorem turnW_get {w : List Bool} {i : Nat} (h : i < w.length) : (turnW w)[i]'(by rw [turnW_len]; exact h) = !w[w.length - 1 - i]'(by omega) := by
  unfold turnW
  rw [List.getElem_reverse, List.getElem_map]
  simp
theorem turnW_snoc {w : List Bool} {i : Nat} (h : i < w.length) : ((turnW w).take (i + 1)).map (fun b => PyData.str (bs b)) = ((turnW w).take i).map (fun b => PyData.str (bs b)) ++ [.str (bs (!w[w.length - 1 - i]'(by omega)))] := by
  rw [List.take_succ, List.getElem?_eq_getElem (by rw [turnW_len]; exact h), turnW_get h, List.map_append]; rfl
theorem okb (l : List Bool) : okAll [.str (wd l), .str (wd l)] = true := by
  show (okD (.str (wd l)) && (okD (.str (wd l)) && true)) = true
  rw [ok_wd]; rfl
end DL
namespace DL
open PySem PySem.Spec PyProof.Rows L2
/-! ### a try whose body raises nothing -/
theorem ds_try {X : Cx} {io : Bool} {body : List Stmt} {h0 : ExceptHandler} {hs : List ExceptHandler} {pos : Pos} {t : DTS} (h : DSs X.nox io body t) : DS X io (.Try body (h0 :: hs) [] [] pos) t := by
  obtain ⟨ts, p, s⟩ := h
  exact ⟨ts, ps_try_thru0 p, s⟩
/-! ### enumerate(a tuple), from k -/
def Iet (K : Fg) (k : Int) (a : Addr) : It := ⟨fun i H => ∃ (xs : List V) (x : V), SqT K H a xs ∧ xs[i]? = some x,
  fun i H v H' => ∃ (T : Addr) (x : V), v = .ref T ∧ H T = none ∧ H' = upd H T (.tup [.int (k + (i : Int)), x]) ∧ ∀ xs, SqT K H a xs → xs[i]? = some x, fun i H => ∃ xs : List V, SqT K H a xs ∧ i = xs.length⟩
theorem turn_enumT {Pg : Program} {w : World} {K : Fg} {elts : List Expr} {kk : Nat} {tpos : Pos} (k : Int) (a e it : Addr) :
    Turn Pg w K (.Tuple elts kk tpos) (Iet K k a) [e, it] e (fun i h => (∃ old, IsEnum h e it (k + (i : Int)) old) ∧ h.IsTupleIter it a i ∧ e ≠ it ∧ a ≠ it ∧ e ≠ a) where
  mem := List.mem_cons_self ..
  obj := fun i h st b hb => by
    obtain ⟨⟨old, he⟩, ⟨o, ho, hc, hd⟩, _⟩ := st
    rcases List.mem_cons.mp hb with z | z
    · exact ⟨_, by rw [z]; exact he, by intro v q; cases q⟩
    · exact ⟨o, by rw [List.mem_singleton.mp z]; exact ho, fun v q => by rw [hd] at q; cases q⟩
  keep := fun i h h' st kp => ⟨st.1.imp fun old he => kp e (List.mem_cons_self ..) _ he, st.2.1.at fun o q => kp it (by simp) o q, st.2.2⟩
  item := by
    intro X hP hw hK hc i pins s σ H E I hf st hg
    subst hP hw hK
    obtain ⟨st1, st2, hne, hai, hea⟩ := st
    obtain ⟨xs, x, hq, hx⟩ := hg
    obtain ⟨its, rv, p, hz⟩ := I.tuple hq
    obtain ⟨u, hu, ru⟩ := rv.get hx
    have hi : i < its.toArray.size := by
      rw [List.size_toArray]
      exact (List.getElem?_eq_some_iff.mp hu).1
    have W := WalksT.enumFrom (A := X.A) k (Draws.tuple (prog := X.prog) (w := X.w) (A := X.A.in1) (I.ok.hd hc) it a hai its.toArray) e hne (by simp [hne, hea]) (by simp)
    refine W.item i s _ E hi ⟨st1, st2, p⟩ fun T vals h' tk hP hT hIs hMid hk => ⟨.ref T, rfl, W.go elts kk tpos i T _ _ E hMid fun h2 st' hk2 => ?_⟩
    obtain ⟨t2, y, hy, rfl⟩ := hP
    have ey : y = u := by
      have hy' : its.toArray[i]? = some y := hy
      rw [List.getElem?_toArray, hu] at hy'
      exact (Option.some.inj hy').symm
    subst ey
    obtain ⟨oT, hoT, hcT, nT, hdT⟩ := hIs
    have hTn : T ∉ [e, it] := fun z => W.apart i T h' hMid (by
      rcases List.mem_cons.mp z with z | z
      · rw [z]; simp
      · rw [List.mem_singleton.mp z]; simp)
    have hT2 := hk2 T oT hTn hoT
    have new : ObjOk X.prog X.w (upd H T (.tup [.int (k + (i : Int)), x])) h2 T (.tup [.int (k + (i : Int)), x]) :=
      ⟨by show 2 ≤ sizeLine; decide, [.int (k + (i : Int)) t2, y], .cons ⟨_, rfl⟩ (.cons ru .nil), ⟨oT, hT2, hcT, nT, hdT⟩⟩
    have I1 : Inv X pins σ (upd H T (.tup [.int (k + (i : Int)), x])) { s with heap := h2, toks := tk } :=
      I.turnedNew (ch := [e, it]) (fun b ob hb q => hk2 b ob hb (hk b ob hb q)) hf hT new
    obtain ⟨⟨old, he⟩, hit, _⟩ := st'
    refine ⟨.ref T, _, I1, rfl, ⟨T, x, rfl, I.hok.fresh hT, rfl, fun ys hy2 => by rw [I.tuple_inj hy2 hq]; exact hx⟩, ⟨⟨old, he⟩, hit, hne, hai, hea⟩, fun b hb => ?_⟩
    rw [upd_ne (fun z => hTn (by rw [← z]; exact hb))]
    exact (hf b hb).1
  done := by
    intro X hP hw hK hc i pins s σ H E I hf st hg
    subst hP hw hK
    obtain ⟨st1, st2, hne, hai, hea⟩ := st
    obtain ⟨xs, hq, hx⟩ := hg
    obtain ⟨its, rv, p, hz⟩ := I.tuple hq
    obtain ⟨old, he⟩ := st1
    obtain ⟨f0, f1, f2, f3, f4, f5⟩ := hf it (by simp)
    have en : i = its.toArray.size := by rw [List.size_toArray, hx]; exact rv.length
    subst en
    exact wpAny_pyNext_enum_endD (Draws.tuple (prog := X.prog) (w := X.w) (A := X.A.in1) (I.ok.hd hc) it a hai its.toArray) he ⟨st2, p⟩ fun h' eb => ⟨rfl, I.turned (t' := s.toks) (fun b o hb e => eb b o hb e) f0 f1 f3 f4 f5⟩
  self := fun A i s Q E st h => let ⟨⟨_, he⟩, _⟩ := st; wpAny_pyIter_enum he h
def enD (k : Int) (ds : List PyData) (i : Nat) : PyData := .tuple [.int (k + (i : Int)), nth ds i]
theorem itD_enumT {K : Fg} {k : Int} {a : Addr} {xs : List V} {ds : List PyData} {S : Hp} (h : SqT K S a xs) (D : DvL K S ds xs) : ItD K (Iet K k a) S ds.length (enD k ds) := fun H O sm dm => by
  have hl := D.length
  have hH : SqT K H a xs := same_sqT Hs_sub (same_sqT sm h)
  refine ⟨fun i hi => ?_, xs, hH, hl.symm⟩
  have gx : xs[i]? = some (xs[i]'(by omega)) := List.getElem?_eq_getElem (by omega)
  refine ⟨⟨xs, _, hH, gx⟩, fun y H' hy => ?_⟩
  obtain ⟨T, x, e1, hT, e2, fx⟩ := hy
  have ex : x = xs[i]'(by omega) := Option.some.inj ((fx xs hH).symm.trans gx)
  obtain ⟨d, hd, g2⟩ := D.getV gx
  rw [e1, e2]
  have en : enD k ds i = .tuple [.int (k + (i : Int)), d] := by
    unfold enD
    rw [nth_at hd]
  rw [en]
  exact Out.tup dm hT ⟨_, _, rfl, rfl, _, _, rfl, by rw [ex]; exact g2.mono sm, rfl⟩
def enObj (a : Addr) : Obj := { cls := .type "enumerate", data := .fields #[.none, .bool false, .ref a, rawInt 0, .none, .none] }
theorem new_enum1 {v : Value} {o : Obj} {Hy : Heap → Prop} (B : Begins v o Hy) : Meets (Builtin.«enumerate.__new__» ⟨[.type "enumerate", v], []⟩) (fun _ R s => Hy s.heap ∧ R (.ok (.ret (.ref (s.heap.push o).objs.size))) { s with heap := (s.heap.push o).push (enObj s.heap.objs.size) }) := .of_wp fun prog w A R s h => by
  obtain ⟨hp, g, d, tk, os⟩ := s; obtain ⟨h1, h⟩ := h; have hsub := sub_enumerate
  have q1 : ∀ {A2 : Around} {E : Value → Shared → Prop} {Q : Value → Shared → Prop}, Q (.ref hp.objs.size) ⟨hp.push o, g, d, tk, os⟩ → wpAny (model prog w) A2 (pyIter v) Q E ⟨hp, g, d, tk, os⟩ := fun q => B.iter prog w _ _ ⟨hp, g, d, tk, os⟩ _ h1 q
  wp_walk using q1
  refine wpAny_stack_any fun st => wpAny_pure ?_; split
  · rename_i c _ _ _ _ _; cases (c == Value.type "enumerate")
    · wp_walk using q1; exact ⟨_, rfl, h⟩
    · wp_walk using q1; exact ⟨_, rfl, h⟩
  · wp_walk using q1; exact ⟨_, rfl, h⟩
theorem call_enum1 {prog : Program} {w : World} {A : Around} {E : Value → Shared → Prop} {s : Shared} {v : Value} {o : Obj} {Hy : Heap → Prop} {Q : Value → Shared → Prop} (B : Begins v o Hy) (h1 : Hy s.heap)
    (h : ∀ h', IsEnum h' (s.heap.objs.size + 1) s.heap.objs.size 0 .none → h'.get? s.heap.objs.size = some o → (∀ b ob, s.heap.get? b = some ob → h'.get? b = some ob) → Q (.ref (s.heap.objs.size + 1)) { s with heap := h' }) : wpAny (model prog w) A (call (.type "enumerate") [v]) Q E s := by
  refine callType_new F.called_enumerate (by decide) (F.typeCall_enumerate_1 v) (F.newCall_enumerate_1 v) (fun ob => F.args_object_init_2 ob v) F.entry_enumerate_new (new_enum1 B) ⟨h1, ?_⟩
  have hz : (s.heap.push o).objs.size = s.heap.objs.size + 1 := Heap.size_push ..
  show _ ∧ _; rw [hz]
  have he : IsEnum ((s.heap.push o).push (enObj s.heap.objs.size)) (s.heap.objs.size + 1) s.heap.objs.size 0 .none := by
    have := Heap.get?_push_size (s.heap.push o) (o := enObj s.heap.objs.size) rfl; rw [hz] at this; exact this
  exact ⟨⟨_, he, rfl⟩, h _ he (Heap.get?_push_of_some _ (Heap.get?_push_size _ B.free)) fun b ob x => Heap.get?_push_of_some _ (Heap.get?_push_of_some _ x)⟩
section
variable {X : Cx} {e b : Expr} {pos p tpos kpos : Pos} {elts : List Expr} {kk : Nat} {ta : DTE}
def iEnumT (K : Fg) (k : Int) (te : TA) : TI := fun σ H R => te σ H fun vs H1 => ∃ a xs, vs = [.ref a] ∧ SqT K H1 a xs ∧ R (Iet K k a) H1
theorem pi_enumT {te : TA} (hg : Gl X "enumerate") (hm : X.mg "enumerate" = none) (he : PA X [e] te) (hs : starEach [e] X.env = [(false, eval e X.env)] := by rfl) : PI X (.Tuple elts kk tpos) (.Call (.Name "enumerate" p) [e] [] pos) (iEnumT X.K 0 te) := by
  refine ⟨fun pins s σ H R I h => ?_⟩
  refine Call_ (ld_blt I hg hm boot_enumerate (PyProof.Rows.callWith_type1 (thn (he.run pos pins s σ H _ I h) fun us s1 ⟨vs, H1, I1, r1, q1⟩ => ?_) hs rfl))
  obtain ⟨a, xs, ex, hq, q⟩ := q1
  subst ex
  cases r1 with
  | cons r rr =>
    cases rr
    cases r
    obtain ⟨its, rv, pt, hz⟩ := I1.tuple hq
    have hlt : a < s1.heap.objs.size := let ⟨_, e, _⟩ := pt; Heap.lt_size e
    refine call_enum1 (begins_tuple a its.toArray) pt fun h' hen hit hk => wpAny_pyIter_enum hen ?_
    have I2 : Inv X pins σ H1 { s1 with heap := h' } := I1.kept (t' := s1.toks) hk
    exact ⟨s1.heap.objs.size + 1, [s1.heap.objs.size + 1, s1.heap.objs.size], _, _, H1, rfl, I2, turn_enumT 0 a (s1.heap.objs.size + 1) s1.heap.objs.size, ⟨⟨.none, by simpa using hen⟩, ⟨_, hit, rfl, rfl⟩, Nat.succ_ne_self _, Nat.ne_of_lt hlt, Nat.ne_of_gt (Nat.lt_succ_of_lt hlt)⟩, fp2 I1, q⟩
def dItET (k : Int) (t : DTE) : DTI := fun ρ Q => dSt t ρ fun d ρ1 => match d with
  | .tuple ds => Q ds.length (enD k ds) ρ1
  | _ => False
theorem di_enumT (hg : Gl X "enumerate") (hm : X.mg "enumerate" = none) (he : DE X e ta) (hs : starEach [e] X.env = [(false, eval e X.env)] := by rfl) : DI X (.Tuple elts kk tpos) (.Call (.Name "enumerate" p) [e] [] pos) (dItET 0 ta) := by
  obtain ⟨te, pa, s⟩ := dd_of he
  refine ⟨_, pi_enumT hg hm (pa_cons pa pa_nil (by rw [hs]; rfl)) hs, fun F ρ O σ H A P Qd R G q k => s F ρ O σ H A P _ _ G q fun d ρ1 v O1 H1 A1 P1 S1 G1 D1 q1 => ?_⟩
  cases d with
  | tuple ds =>
    obtain ⟨a, xs, rfl, h1, h2⟩ := D1
    exact ⟨a, xs, rfl, same_sqT Hs_sub h1, k _ _ ρ1 _ O1 H1 A1 P1 S1 G1 (itD_enumT h1 h2) q1⟩
  | _ => exact (show False from q1).elim
end
end DL
namespace DL
open PySem PySem.Spec PyProof.Rows L2
/-! ### tuple[::-1] -/
section
variable {prog : Program} {w : World} {A : Around} {E : Value → Shared → Prop} {s : Shared}
theorem adj_rev (n : Nat) : Builtin.Slice.sliceAdjust none none (-1) (n : Int) = ((n : Int) - 1, -1) := rfl
theorem places_rev (n : Nat) : Builtin.Slice.slicePlaces ((n : Int) - 1) (-1) (-1) = n := by
  unfold Builtin.Slice.slicePlaces
  rw [if_neg (by decide)]
  by_cases h : ((n : Int) - 1) > -1
  · rw [if_pos h, show (-(-1) : Int) = 1 from rfl, Int.ediv_one]
    omega
  · rw [if_neg h]
    omega
theorem applied_rev {sl : Addr} {vl vu vs : Value} {n : Nat} {Q : Int × Int × Nat → Shared → Prop} (hs : s.heap.IsSliceOf sl vl vu vs) (pl : IsPart vl none) (pu : IsPart vu none) (ps : IsPart vs (some (-1))) (h : Q ((n : Int) - 1, -1, n) s) :
    wpAny (model prog w) A (Builtin.Slice.sliceApplied (.ref sl) (pure (n : Int))) Q E s := by
  obtain ⟨os, hos, hcs, hds⟩ := id hs
  unfold Builtin.Slice.sliceApplied Builtin.Slice.sliceFields
  refine wpAny_bind (wpAny_bind (wpAny_field hos hds (x := vl) rfl (wpAny_bind (wpAny_field hos hds (x := vu) rfl (wpAny_bind (wpAny_field hos hds (x := vs) rfl (wpAny_pure (wpAny_bind (HT.slicePart_ ps ?_)))))))))
  show wpAny _ _ (if ((-1 : Int) == 0) = true then _ else _) _ _ s
  rw [if_neg (by decide)]
  refine wpAny_bind (HT.slicePart_ pl (wpAny_bind (HT.slicePart_ pu (wpAny_bind (wpAny_pure ?_)))))
  show wpAny _ _ (pure ((n : Int) - 1, (-1 : Int), Builtin.Slice.slicePlaces ((n : Int) - 1) (-1) (-1))) _ _ s
  rw [places_rev]
  exact wpAny_pure h
theorem pick_rev (xs : Array Value) : ((List.range xs.size).filterMap fun (m : Nat) => xs[((xs.size : Int) - 1 + (m : Int) * (-1)).toNat]?).toArray = xs.toList.reverse.toArray := by
  congr 1
  have e1 : (List.range xs.size).filterMap (fun (m : Nat) => xs[((xs.size : Int) - 1 + (m : Int) * (-1)).toNat]?) = ((List.range xs.size).map fun k => xs.size - 1 - k).filterMap (xs[·]?) := by
    rw [List.filterMap_map]
    congr 1
    funext m
    show xs[((xs.size : Int) - 1 + (m : Int) * (-1)).toNat]? = xs[xs.size - 1 - m]?
    rw [show ((xs.size : Int) - 1 + (m : Int) * (-1)).toNat = xs.size - 1 - m by omega]
  rw [e1, PySem.W.krv_range, List.filterMap_reverse, PySem.W.krv_all]
theorem get_tup_rev {t sl : Addr} {items : Array Value} {vl vu vs : Value} {Q : Value → Shared → Prop} (ht : IsTup s.heap t items) (hs : s.heap.IsSliceOf sl vl vu vs) (pl : IsPart vl none) (pu : IsPart vu none) (ps : IsPart vs (some (-1)))
    (h : Q (.ref s.heap.objs.size) { s with heap := s.heap.push { cls := .type "tuple", data := .seq items.toList.reverse.toArray } }) (hsz : items.size ≤ sizeLine) : wpAny (model prog w) A (getItem (.ref t) (.ref sl)) Q E s := by
  have hk : sizeOk (.seq items.toList.reverse.toArray) := by
    show items.toList.reverse.toArray.size ≤ sizeLine
    rw [List.size_toArray, List.length_reverse, Array.length_toList]
    exact hsz
  obtain ⟨os, hos, hcs, hds⟩ := id hs
  have hTs : s.TypeIs (.ref sl) "slice" := ⟨os, hos, hcs⟩
  unfold getItem; try with_reducible refine wpAny_holding ?_
  first | refine wpAny_bind (wpAny_pure ?_) | skip
  refine wpAny_bind (wpAny_sequenceKey ht.typeIs (by decide) ?_); refine wpAny_bind (wpAny_callSpecial?_slot (name := Str.ofString "__getitem__") ht.typeIs PyProof.Rows.slot_tuple_getitem (wpAny_call_entry PyProof.Rows.slot_tuple_getitem ht.typeIs PyProof.Rows.entry_tuple_getitem ?_ (PyProof.Rows.args_tuple_getitem _ _)))
  show wpAny _ _ (Builtin.Tuple.tupleItemsOf (.ref t) >>= _) _ _ s; refine wpAny_bind (tupleItemsOf_ ht ?_)
  refine wpAny_bind (wpAny_typeOf hTs ?_); rw [if_pos (by decide)]
  refine wpAny_bind (applied_rev hs pl pu ps ?_)
  have hno : ¬ ((((items.size : Int) - 1) == 0 && (-1 : Int) == 1 && items.size == items.size) = true) := by simp
  show wpAny _ _ (if (((items.size : Int) - 1) == 0 && (-1 : Int) == 1 && items.size == items.size) = true then _ else _) _ _ s
  rw [if_neg hno, pick_rev]
  first
    | exact wpAny_bind (m := Builtin.Tuple.tupleExact _) (wpAny_newObj_type (wpAny_pure ⟨_, rfl, wpAny_pure h⟩) hk)
    | exact wpAny_bind (m := Builtin.Tuple.tupleExact _) (wpAny_newObj_type (wpAny_bind (wpAny_pure (wpAny_pure ⟨_, rfl, wpAny_pure h⟩))) hk)
    | exact wpAny_bind (wpAny_bind (m := Builtin.Tuple.tupleExact _) (wpAny_newObj_type (wpAny_pure (wpAny_pure ⟨_, rfl, wpAny_pure h⟩)) hk))
    | exact wpAny_bind (wpAny_bind (m := Builtin.Tuple.tupleExact _) (wpAny_newObj_type (wpAny_pure ⟨_, rfl, wpAny_pure h⟩) hk))
end
section
variable {X : Cx} {e : Expr} {te : TE} {ta : DTE} {k : Nat} {p1 p2 p3 pos : Pos}
def tRevT (K : Fg) (te : TE) : TE := fun σ H Q => te σ H fun x H1 => ∃ a xs, x = .ref a ∧ SqT K H1 a xs ∧ ∀ p, H1 p = none → Q (.ref p) (upd H1 p (.tup xs.reverse))
theorem pe_revTup (he : PE X e te) : PE X (.Subscript e (.Slice none none (some (.UnaryOp .USub (.Constant (.int 1) k p1) p2)) p3) pos) (tRevT X.K te) := by
  refine ⟨fun pins s σ H Q I h => Subscript_ (thn (he.run pins s σ H _ I h) fun v s1 ⟨x, H1, I1, r1, a, xs, ex, hx, q⟩ => ?_)⟩
  subst ex
  cases r1
  have hst : PO X (some (.UnaryOp .USub (.Constant (.int 1) k p1) p2)) (tPart (tUn (rU fun i => .int (-i)) (tC (.int 1)))) := po_some (pe_un un_neg pe_int)
  refine wpAny_Slice (thn (po_none.run pins s1 σ H1 (fun o H2 => o = none ∧ H2 = H1) I1 ⟨rfl, rfl⟩) fun vl s2 ⟨l, H2, I2, pl, el, e2⟩ => thn (po_none.run pins s2 σ H2 (fun o H3 => o = none ∧ H3 = H2) I2 ⟨rfl, rfl⟩) fun vu s3 ⟨u, H3, I3, pu, eu, e3⟩ =>
    thn (hst.run pins s3 σ H3 (fun o H4 => o = some (-1) ∧ H4 = H3) I3 ⟨1, rfl, -1, rfl, rfl, rfl⟩) fun vs s4 ⟨o, H4, I4, ps, eo, e4⟩ => ?_)
  subst el e2 eu e3 eo e4
  have I5 : Inv X pins σ H4 { s4 with heap := s4.heap.push { cls := .type "slice", data := .fields #[vl, vu, vs] } } := I4.kept (t' := s4.toks) fun b ob q => Heap.get?_push_of_some _ q
  obtain ⟨its, r, ht, hz⟩ := I5.tuple hx
  have hlen := r.length
  show wpAny (model X.prog X.w) X.A (subscriptTail e (.Slice none none (some (.UnaryOp .USub (.Constant (.int 1) k p1) p2)) p3) (.ref a) (.ref s4.heap.objs.size)) (EP X pins σ Q) X.xe { s4 with heap := s4.heap.push { cls := .type "slice", data := .fields #[vl, vu, vs] } }
  refine tail_any (ops := [.ref a, .ref s4.heap.objs.size]) ht.typeIs PyProof.Rows.slot_tuple_getitem.lookup ?_ (by with_unfolding_all rfl)
  refine get_tup_rev ht (Heap.IsSliceOf.new _ vl vu vs) pl pu ps ?_ (by rw [List.size_toArray]; omega)
  refine ⟨.ref _, _, I5.laid (t' := s4.toks) (o := .tup xs.reverse) (fun b ob q => Heap.get?_push_of_some _ q) (Nat.le_refl _) ?_, rfl, q _ (I5.hok.fresh (Nat.le_refl _))⟩
  exact ⟨by rw [List.length_reverse]; exact hz, _, r.reverse, IsTup.new _ _⟩
/-- tuple[::-1], list[::-1], text[::-1] are told apart by what stands there -/
def dRevT (t : DTE) : DTE := fun ρ Q => t ρ fun r ρ1 => match view ρ1 r with
  | some (.tuple ds) => Q (.d (.tuple ds.reverse)) ρ1
  | _ => False
theorem de_revT (he : DE X e ta) : DE X (.Subscript e (.Slice none none (some (.UnaryOp .USub (.Constant (.int 1) k p1) p2)) p3) pos) (dRevT ta) := by
  obtain ⟨te, p, s⟩ := he
  refine ⟨_, pe_revTup p, fun F ρ O σ H A P Qd Q G q kk => s F ρ O σ H A P _ _ G q fun r ρ1 v fp O1 H1 A1 P1 S1 G1 R1 N1 q1 => ?_⟩
  cases e1 : view ρ1 r with
  | none => simp only [e1] at q1
  | some d =>
    cases d with
    | tuple ds =>
      simp only [e1] at q1
      obtain ⟨a, xs, rfl, h1, h2⟩ := view_ok G1 R1 e1
      refine ⟨a, xs, rfl, h1, fun p hp => ?_⟩
      obtain ⟨O2, fo, S2, G2, R2, N2⟩ := (Out.tup G1.dom hp h2.rev).fin G1
      exact kk (.d (.tuple ds.reverse)) ρ1 _ fo O2 _ A1 P1 (S1.trans S2) G2 R2 (S1.back N2) q1
    | _ => simp only [e1] at q1
def dRevL (t : DTE) : DTE := fun ρ Q => t ρ fun r ρ1 => match view ρ1 r with
  | some (.list ds) => Q (.n (.lst ds.reverse)) ρ1
  | _ => False
theorem de_revL (he : DE X e ta) : DE X (.Subscript e (.Slice none none (some (.UnaryOp .USub (.Constant (.int 1) k p1) p2)) p3) pos) (dRevL ta) := by
  obtain ⟨te, p, s⟩ := he
  refine ⟨_, pe_revL p, fun F ρ O σ H A P Qd Q G q kk => s F ρ O σ H A P _ _ G q fun r ρ1 v fp O1 H1 A1 P1 S1 G1 R1 N1 q1 => ?_⟩
  cases e1 : view ρ1 r with
  | none => simp only [e1] at q1
  | some d =>
    cases d with
    | list ds =>
      simp only [e1] at q1
      obtain ⟨a, xs, rfl, h1, h2⟩ := view_ok G1 R1 e1
      refine ⟨a, xs, rfl, h1, fun p hp => ?_⟩
      obtain ⟨O2, fo, S2, G2, R2, N2⟩ := (Out.lst G1.dom hp h2.rev).fin G1
      exact kk (.n (.lst ds.reverse)) ρ1 _ fo O2 _ A1 P1 (S1.trans S2) G2 R2 (S1.back N2) q1
    | _ => simp only [e1] at q1
end
end DL
namespace DL
open PySem PySem.Spec PyProof.Rows L2
/-! ### a range as a value -/
def rngR (lo hi : Int) : ResP where
  P := fun H a fp => fp = [a] ∧ H a = some (.rng lo hi)
  keep := by
    rintro H H' a fp ⟨rfl, h⟩ k
    exact ⟨rfl, (k a (by simp)).trans h⟩
  dom := by
    rintro H a fp ⟨rfl, h⟩ b hb
    have e : b = a := by simpa using hb
    rw [e, h]
    exact fun z => nomatch z
def gRng : GL := fun ds Q => match ds with
  | [.int i, .int j] => Q (.n (.res (rngR i j)))
  | _ => False
theorem cll_rng {K : Fg} : ClL K (fun vs H Q => ∃ i j, vs = [V.int i, V.int j] ∧ ∀ p, H p = none → Q (.ref p) (upd H p (.rng i j))) gRng := fun O H ds xs Qd Q hd hx q k => by
  unfold gRng at q
  split at q
  · rename_i i j
    obtain ⟨v, ws, e1, h1, v2, ws2, e2, h2, h3⟩ := hx
    have e3 : v = .int _ := h1
    have e4 : v2 = .int _ := h2
    have e5 : ws2 = [] := h3
    refine ⟨_, _, by rw [e1, e2, e3, e4, e5], fun p hp => k (.n (.res (rngR i j))) _ _ ⟨same_new hp, p, [p], rfl, fun b hb => ?_, rfl, upd_same⟩ q⟩
    have e : b = p := by simpa using hb
    rw [e, upd_same]
    exact ⟨hp, fun z => nomatch z⟩
  · exact q.elim
section
variable {X : Cx} {tg e a b : Expr} {te : TE} {ta tb : DTE} {pos p : Pos}
/-- a name that holds a range, walked -/
def iRngV (te : TE) : TI := fun σ H R => te σ H fun v H1 => ∃ r lo hi, v = .ref r ∧ H1 r = some (.rng lo hi) ∧ (-(2 ^ 62) ≤ lo ∧ lo < 2 ^ 62 ∧ -(2 ^ 62) ≤ hi ∧ hi < 2 ^ 62) ∧ R (Itr lo (hi - lo).toNat) H1
theorem pi_rngV (he : PE X e te) : PI X tg e (iRngV te) := by
  refine ⟨fun pins s σ H R I h => thn (he.run pins s σ H _ I h) fun v s1 ⟨x, H1, I1, r1, r, lo, hi, ex, hr, ⟨b1, b2, b3, b4⟩, q⟩ => ?_⟩
  subst ex
  cases r1
  obtain ⟨t, u, v, ho⟩ := I1.hok r _ hr
  refine wpAny_pyIter_range (r := r) (a := lo) (b := hi) (c := 1) (t := t) (u := u) (v := v) ho (small_one b1 b2 b3 b4) ?_
  refine pi_one (tk := s1.toks) I1 _ (turn_range _ lo (hi - lo).toNat) ?_ q
  show IsRangeIter _ _ (lo + ((0 : Nat) : Int) * 1) ((((hi - lo).toNat : Nat) : Int) - ((0 : Nat) : Int)) 1
  rw [show lo + ((0 : Nat) : Int) * 1 = lo by simp, show (((hi - lo).toNat : Nat) : Int) - ((0 : Nat) : Int) = Builtin.Range.rangeSize lo hi 1 by rw [rangeSize_one]; split <;> omega]
  exact Heap.get?_push_size _ rfl
def dItV (i : Nat) : DTI := fun ρ Q => ∃ lo hi, slot ρ i = .own (.res (rngR lo hi)) ∧ (-(2 ^ 62) ≤ lo ∧ lo < 2 ^ 62 ∧ -(2 ^ 62) ≤ hi ∧ hi < 2 ^ 62) ∧ Q (hi - lo).toNat (itI lo) ρ
theorem di_rngV (i : Nat) {x : Str} (hN : X.N[i]? = some x := by rfl) (hv : Vis X.env.scope x := by first | exact Or.inl rfl | exact Or.inr (Or.inl rfl) | exact Or.inr (Or.inr rfl)) (hd : (x == ("__debug__" : Str)) = false := by decide) (hcd : (x == ("__classdict__" : Str)) = false := by decide) : DI X tg (.Name x pos) (dItV i) := by
  refine ⟨_, pi_rngV (pe_var hN hv hd hcd), fun F ρ O σ H A P Qd R G q k => ?_⟩
  obtain ⟨lo, hi, s0, bd, q⟩ := q
  obtain ⟨g1, ⟨_, g2⟩, _, _⟩ := G.own i _ s0
  exact ⟨_, g1, A i, lo, hi, rfl, g2, bd, k _ _ ρ _ O H A P Stp.refl G itD_rng q⟩
/-! ### is None -/
def dIsN (neg : Bool) (t : DTE) : DTE := fun ρ Q => t ρ fun r ρ1 => match view ρ1 r with
  | some .none => Q (.d (.bool (!neg))) ρ1
  | some _ => Q (.d (.bool neg)) ρ1
  | none => False
theorem dv_none {K : Fg} {Hst H : Hp} {d : PyData} {v : V} (h : Dw K Hst H d v) : decide (v = .non) = (match d with | .none => true | _ => false) := by
  cases d with
  | none => cases (show v = .non from h); rfl
  | bool b => cases (show v = .bl b from h); rfl
  | int i => cases (show v = .int i from h); rfl
  | str x => cases (show v = .str x from h); rfl
  | dict kvs => obtain ⟨a, ws, rfl, _⟩ := (show Dv K Hst (.dict kvs) v from h); rfl
  | list ds => obtain ⟨a, xs, rfl, _⟩ := h; rfl
  | tuple ds => obtain ⟨a, xs, rfl, _⟩ := h; rfl
theorem de_isN {j : Nat} {p2 : Pos} (ha : DE X a ta) (hm : behindInMarks .Is (.Constant .none j p2) = false := by rfl) : DE X (.Compare a [.Is] [.Constant .none j p2] pos) (dIsN false ta) := by
  obtain ⟨te, pa, s⟩ := ha
  refine ⟨_, pe_cmpR op_isN pa pe_non hm, fun F ρ O σ H A P Qd Q G q k => s F ρ O σ H A P _ _ G q fun r ρ1 v fp O1 H1 A1 P1 S1 G1 R1 N1 q1 => ?_⟩
  unfold dIsN at q
  cases e1 : view ρ1 r with
  | none => simp only [e1] at q1
  | some d =>
    simp only [e1] at q1
    have e2 := dv_none (view_ok G1 R1 e1)
    refine ⟨rfl, ?_⟩
    rw [e2]
    cases d <;> exact k (.d (.bool _)) ρ1 _ [] O1 H1 A1 P1 S1 G1 rfl nw_d q1
theorem de_isNotN {j : Nat} {p2 : Pos} (ha : DE X a ta) (hm : behindInMarks .IsNot (.Constant .none j p2) = false := by rfl) : DE X (.Compare a [.IsNot] [.Constant .none j p2] pos) (dIsN true ta) := by
  obtain ⟨te, pa, s⟩ := ha
  refine ⟨_, pe_cmpR op_notN pa pe_non hm, fun F ρ O σ H A P Qd Q G q k => s F ρ O σ H A P _ _ G q fun r ρ1 v fp O1 H1 A1 P1 S1 G1 R1 N1 q1 => ?_⟩
  unfold dIsN at q
  cases e1 : view ρ1 r with
  | none => simp only [e1] at q1
  | some d =>
    simp only [e1] at q1
    have e2 := dv_none (view_ok G1 R1 e1)
    refine ⟨rfl, ?_⟩
    rw [e2]
    cases d <;> exact k (.d (.bool _)) ρ1 _ [] O1 H1 A1 P1 S1 G1 rfl nw_d q1
end
end DL
namespace DL
open PySem PySem.Spec PyProof.Rows L2
/-! ### the rows of a word -/
def row (b : Bool) (w : List Bool) (m : Nat) : List Int := ((List.range m).filter fun j => decide (w[j]? = some b)).map fun (j : Nat) => 1 + (j : Int)
theorem row_succ {b : Bool} {w : List Bool} {m : Nat} (h : m < w.length) : row b w (m + 1) = if w[m] = b then row b w m ++ [1 + (m : Int)] else row b w m := by
  unfold row
  rw [List.range_succ, List.filter_append, List.map_append]
  by_cases e : w[m] = b
  · rw [if_pos e]; simp [h, e]
  · rw [if_neg e]; simp [h, e]
theorem row_mem {b : Bool} {w : List Bool} {m : Nat} {x : Int} : x ∈ row b w m ↔ ∃ j : Nat, j < m ∧ w[j]? = some b ∧ x = 1 + (j : Int) := by
  unfold row
  constructor
  · intro h
    obtain ⟨j, hj, e⟩ := List.mem_map.mp h
    obtain ⟨h1, h2⟩ := List.mem_filter.mp hj
    exact ⟨j, List.mem_range.mp h1, of_decide_eq_true h2, e.symm⟩
  · rintro ⟨j, h1, h2, rfl⟩
    exact List.mem_map.mpr ⟨j, List.mem_filter.mpr ⟨List.mem_range.mpr h1, decide_eq_true h2⟩, rfl⟩
theorem row_le {b : Bool} {w : List Bool} {m : Nat} {x : Int} (h : x ∈ row b w m) : 1 ≤ x ∧ x ≤ m := by
  obtain ⟨j, h1, _, rfl⟩ := row_mem.mp h
  omega
theorem row_small {b : Bool} {w : List Bool} {m : Nat} (h : m ≤ 100000) : smallI (row b w m) := fun x hx => by
  have := row_le hx
  omega
theorem row_lens {w : List Bool} : ∀ {m : Nat}, m ≤ w.length → ((row true w m).length : Int) - (row false w m).length = hp w m ∧ (row true w m).length + (row false w m).length = m
  | 0, _ => ⟨rfl, rfl⟩
  | m + 1, h => by
    obtain ⟨h1, h2⟩ := row_lens (w := w) (m := m) (by omega)
    have e := hp_succ (w := w) (i := m) (by omega)
    rw [row_succ (by omega), row_succ (by omega), e]
    cases w[m] with
    | true => simp; omega
    | false => simp; omega
/-- each letter D stands behind as many U -/
theorem row_lt {n : Nat} {w : List Bool} (D : Dyck n w) : ∀ {m : Nat}, m ≤ w.length → ∀ c (h : c < (row false w m).length), ∃ h2 : c < (row true w m).length, (row true w m)[c] < (row false w m)[c]
  | 0, _, c, h => absurd h (Nat.not_lt_zero _)
  | m + 1, hm, c, h => by
    have ih := row_lt D (m := m) (by omega)
    obtain ⟨l1, l2⟩ := row_lens (w := w) (m := m) (by omega)
    have l3 := (row_lens (w := w) (m := m + 1) hm).1
    have pos := D.pos (m + 1)
    have st := row_succ (b := true) (w := w) (m := m) (by omega)
    have sf := row_succ (b := false) (w := w) (m := m) (by omega)
    cases e : w[m] with
    | true =>
      rw [e] at st sf
      simp at st sf
      have hc : c < (row false w m).length := by rw [sf] at h; exact h
      obtain ⟨g1, g2⟩ := ih c hc
      refine ⟨by rw [st, List.length_append]; omega, ?_⟩
      simp only [st, sf]
      rw [List.getElem_append_left g1]
      exact g2
    | false =>
      rw [e] at st sf
      simp at st sf
      have hl : (row false w (m + 1)).length = (row false w m).length + 1 := by rw [sf]; simp
      have hu : (row true w (m + 1)).length = (row true w m).length := by rw [st]
      by_cases hc : c < (row false w m).length
      · obtain ⟨g1, g2⟩ := ih c hc
        refine ⟨by rw [hu]; exact g1, ?_⟩
        simp only [st, sf]
        rw [List.getElem_append_left hc]
        exact g2
      · have ec : c = (row false w m).length := by omega
        have g1 : c < (row true w m).length := by omega
        refine ⟨by rw [hu]; exact g1, ?_⟩
        simp only [st, sf]
        have q := (row_le (List.getElem_mem g1)).2
        subst ec
        simp
        omega
theorem row_full {n : Nat} {w : List Bool} (D : Dyck n w) : (row true w w.length).length = n ∧ (row false w w.length).length = n := by
  obtain ⟨h1, h2⟩ := row_lens (w := w) (Nat.le_refl _)
  rw [hp_len, D.end0] at h1
  have := D.len
  omega
/-- ascending -/
theorem row_asc {b : Bool} {w : List Bool} : ∀ {m : Nat}, m ≤ w.length → ∀ i j (hj : j < (row b w m).length) (h : i < j), (row b w m)[i]'(by omega) < (row b w m)[j]
  | 0, _, i, j, hj, _ => absurd hj (Nat.not_lt_zero _)
  | m + 1, hm, i, j, hj, h => by
    have ih := row_asc (b := b) (w := w) (m := m) (by omega)
    have st := row_succ (b := b) (w := w) (m := m) (by omega)
    by_cases e : w[m] = b
    · rw [if_pos e] at st
      simp only [st] at hj ⊢
      rw [List.length_append, List.length_singleton] at hj
      by_cases hc : j < (row b w m).length
      · rw [List.getElem_append_left hc, List.getElem_append_left (by omega)]
        exact ih i j hc h
      · have ej : j = (row b w m).length := by omega
        subst ej
        rw [List.getElem_append_left h]
        have q := (row_le (List.getElem_mem h)).2
        simp
        omega
    · rw [if_neg e] at st
      simp only [st] at hj ⊢
      exact ih i j hj h
/-- the two rows of a word as data -/
def tabD (w : List Bool) : PyData := .tuple [.tuple ((row true w w.length).map .int), .tuple ((row false w w.length).map .int)]
theorem rev_range (n : Nat) : (List.range n).reverse = (List.range n).map fun j => n - 1 - j := by
  refine List.ext_getElem (by simp) fun i h1 h2 => ?_
  simp
theorem row_turn (b : Bool) (w : List Bool) : row b (turnW w) (turnW w).length = ((row (!b) w w.length).reverse).map (fun x => (w.length : Int) + 1 - x) := by
  unfold row
  rw [turnW_len, ← List.map_reverse, ← List.filter_reverse, rev_range, List.filter_map, List.map_map, List.map_map]
  have e : (List.range w.length).filter (fun j => decide ((turnW w)[j]? = some b)) = (List.range w.length).filter ((fun j => decide (w[j]? = some (!b))) ∘ fun j => w.length - 1 - j) := by
    refine List.filter_congr fun j hj => ?_
    have hj := List.mem_range.1 hj
    show decide _ = decide (w[w.length - 1 - j]? = some (!b))
    rw [List.getElem?_eq_getElem (by rw [turnW_len]; exact hj), turnW_get hj, List.getElem?_eq_getElem (by omega)]
    cases w[w.length - 1 - j] <;> cases b <;> rfl
  rw [e]
  refine List.map_congr_left fun j hj => ?_
  have hj := List.mem_range.1 (List.mem_filter.1 hj).1
  show 1 + (j : Int) = w.length + 1 - (1 + ((w.length - 1 - j : Nat) : Int))
  omega
theorem ht_turnW (v : List Bool) : ht (turnW v) = - ht v := by
  unfold turnW
  induction v with
  | nil => rfl
  | cons b r ih =>
    rw [List.map_cons, List.reverse_cons, ht_snoc, ih]
    show _ = -((if b then 1 else -1) + ht r)
    cases b <;> simp <;> omega
theorem hp_turnW (w : List Bool) (i : Nat) (h : i ≤ w.length) : hp (turnW w) i = hp w (w.length - i) - ht w := by
  have e : (turnW w).take i = turnW (w.drop (w.length - i)) := by
    unfold turnW
    rw [List.take_reverse, List.map_drop, List.length_map]
  have e2 : ht w = ht (w.take (w.length - i)) + ht (w.drop (w.length - i)) := by rw [← ht_app, List.take_append_drop]
  unfold hp
  rw [e, ht_turnW]
  omega
theorem dyck_turn {n : Nat} {w : List Bool} (D : Dyck n w) : Dyck n (turnW w) := dyck_of (by rw [turnW_len]; exact D.len) (by rw [ht_turnW, D.end0]; rfl) fun i hi => by
  rw [turnW_len] at hi
  rw [hp_turnW w i (by omega), D.end0]
  have := D.pos (w.length - i)
  omega
end DL
namespace DL
open PySem PySem.Spec PyProof.Rows L2
/-! ### a, b = x, y where new objects are stored -/
section
variable {X : Cx} {io : Bool} {a b : Expr} {ta tb : DTE} {pos : Pos}
def dParR2 (i j : Nat) (ta tb : DTE) : DTS := fun D ρ => ta ρ fun r1 ρ1 => tb ρ1 fun r2 ρ2 => match r1, r2 with
  | .d d, .d e => D.nx (put (put ρ2 i (.val d)) j (.val e))
  | .d d, .n w => D.nx (put (put ρ2 i (.val d)) j (.own w))
  | .n w, .d e => D.nx (put (put ρ2 i (.own w)) j (.val e))
  | .n w, .n u => D.nx (put (put ρ2 i (.own w)) j (.own u))
  | _, _ => False
theorem ds_parR2 (i j : Nat) {x y : Str} {px py pt : Pos} {kt : Nat} {k2 pt2} (hc : X.calm = true) (hN : X.N.Nodup) (ha : DE X a ta) (hb : DE X b tb) (hij : i ≠ j := by decide) (hi : X.N[i]? = some x := by rfl) (hj : X.N[j]? = some y := by rfl)
    (hx : X.env.scope.names.lookup x = some .local := by rfl) (hy : X.env.scope.names.lookup y = some .local := by rfl) (hw : swappedStores [.Tuple [.Name x px, .Name y py] kt pt] (.Tuple [a, b] k2 pt2) X.env = pure (some [x, y]) := by rfl)
    (hs : swapsWithSole [.Tuple [.Name x px, .Name y py] kt pt] (.Tuple [a, b] k2 pt2) pos.line X.env = pure false := by rfl) (hs1 : starEach [a, b] X.env = (false, eval a X.env) :: starEach [b] X.env := by rfl) (hs2 : starEach [b] X.env = (false, eval b X.env) :: starEach [] X.env := by rfl) (hio : io = true → i ≠ 0 ∧ j ≠ 0 := by first | exact (fun z => nomatch z) | exact (fun _ => by decide)) :
    DS X io (.Assign [.Tuple [.Name x px, .Name y py] kt pt] (.Tuple [a, b] k2 pt2) pos) (dParR2 i j ta tb) := by
  obtain ⟨te, p1, s1⟩ := ha
  obtain ⟨tf, p2, s2⟩ := hb
  refine ⟨_, ps_par hc hN hi hj hij hx hy (pa_cons p1 (pa_cons p2 pa_nil hs2) hs1) hw hs, fun F ρ O σ H A P Dd D hr G E q => ?_⟩
  refine s1 F ρ O σ H A P _ _ G q fun r1 ρ1 v1 fp1 O1 H1 A1 P1 S1 G1 R1 N1 q1 => s2 F ρ1 O1 σ H1 A1 P1 _ _ G1 q1 fun r2 ρ2 v2 fp2 O2 H2 A2 P2 S2 G2 R2 N2 q2 => ⟨v1, v2, rfl, ?_⟩
  have ni : F.ra ≠ none → i ≠ 0 ∧ j ≠ 0 := fun z => by
    cases io with
    | true => exact hio rfl
    | false => exact absurd (hr rfl).1 z
  have R1' := S2.rk R1
  cases r1 with
  | o k => exact (show False from q2).elim
  | d d =>
    cases r2 with
    | o k => exact (show False from q2).elim
    | d e => exact E.nx _ O2 _ H2 A2 P2 ((G2.putV R1').putV R2) q2
    | n w =>
      obtain ⟨p, rfl, hf, h⟩ := R2
      have G3 := G2.putV (i := i) R1'
      exact E.nx _ O2 _ H2 _ _ (G3.putN (i := j) (fun z => (ni z).2) (fun b hb => ⟨(hf b hb).1, (hf b hb).2.1, fun k w2 e => by
        by_cases hk : i = k
        · subst hk
          have hl : i < (put ρ2 i (.val d)).length := slot_lt (by rw [e]; exact fun z => nomatch z)
          rw [put_length] at hl
          rw [slot_put hl] at e
          cases e
        · rw [slot_put_ne hk] at e
          exact (hf b hb).2.2 k w2 e⟩) h) q2
  | n w =>
    obtain ⟨p, rfl, hf, h⟩ := R1'
    have G3 := G2.putN (i := i) (fun z => (ni z).1) hf h
    cases r2 with
    | o k => exact (show False from q2).elim
    | d e => exact E.nx _ O2 _ H2 _ _ (G3.putV R2) q2
    | n u =>
      obtain ⟨p', rfl, hf', h'⟩ := R2
      refine E.nx _ O2 _ H2 _ _ (G3.putN (i := j) (fun z => (ni z).2) (fun b hb => ⟨(hf' b hb).1, (hf' b hb).2.1, fun k w2 e => ?_⟩) h') q2
      by_cases hk : k = i
      · subst hk
        rw [if_pos rfl]
        intro hb1
        -- the first one's places stood before the second was made
        obtain ⟨p0, e0, hf0, h0⟩ := R1
        have : H1 b ≠ none := h0.dom b (by
          have := hb1
          exact this)
        exact this (N2 _ rfl b hb)
      · rw [slot_put_ne (fun z => hk z.symm)] at e
        rw [if_neg hk]
        exact (hf' b hb).2.2 k w2 e
end
end DL
/-! binomials, completions, words counted -/
namespace DL
--CUT
def ch : Nat → Nat → Nat
  | _, 0 => 1
  | 0, _ + 1 => 0
  | n + 1, k + 1 => ch n k + ch n (k + 1)
theorem ch_zero (n : Nat) : ch n 0 = 1 := by cases n <;> rfl
theorem ch_succ (n k : Nat) : ch (n + 1) (k + 1) = ch n k + ch n (k + 1) := rfl
theorem ch_above : ∀ {n k : Nat}, n < k → ch n k = 0
  | 0, 0, h => absurd h (by decide)
  | 0, k + 1, _ => rfl
  | n + 1, 0, h => absurd h (by omega)
  | n + 1, k + 1, h => by rw [ch_succ, ch_above (show n < k by omega), ch_above (show n < k + 1 by omega)]
theorem ch_self : ∀ n : Nat, ch n n = 1
  | 0 => rfl
  | n + 1 => by rw [ch_succ, ch_self n, ch_above (show n < n + 1 by omega)]
theorem ch_symm : ∀ {n k l : Nat}, k + l = n → ch n k = ch n l
  | 0, k, l, h => by
    have h1 : k = 0 := by omega
    have h2 : l = 0 := by omega
    subst h1; subst h2; rfl
  | n + 1, 0, l, h => by
    have h2 : l = n + 1 := by omega
    subst h2; rw [ch_zero, ch_self]
  | n + 1, k + 1, 0, h => by
    have h2 : k = n := by omega
    subst h2; rw [ch_zero, ch_self]
  | n + 1, k + 1, l + 1, h => by
    rw [ch_succ, ch_succ, ch_symm (show k + (l + 1) = n by omega), ch_symm (show (k + 1) + l = n by omega), Nat.add_comm]
/-- the next one of a row -/
theorem ch_next : ∀ (n k : Nat), ch n (k + 1) * (k + 1) = ch n k * (n - k)
  | 0, k => by
    cases k <;> simp [ch]
  | n + 1, 0 => by
    have h := ch_next n 0
    rw [ch_succ, ch_zero, ch_zero] at *
    omega
  | n + 1, k + 1 => by
    have h1 := ch_next n k
    have h2 := ch_next n (k + 1)
    rw [ch_succ, ch_succ n k]
    rcases Nat.lt_or_ge n (k + 1) with h | h
    · rw [ch_above (show n < k + 1 by omega), ch_above (show n < k + 1 + 1 by omega)]
      have : n + 1 - (k + 1) = 0 ∨ n < k ∨ n = k := by omega
      rcases this with e | e | e
      · rw [e]; omega
      · rw [ch_above e]; omega
      · subst e; simp
    · -- k + 1 ≤ n
      obtain ⟨d, rfl⟩ := Nat.exists_eq_add_of_le h
      rw [show k + 1 + d - k = d + 1 by omega] at h1
      rw [show k + 1 + d - (k + 1) = d by omega] at h2
      rw [show k + 1 + d + 1 - (k + 1) = d + 1 by omega]
      generalize ch (k + 1 + d) k = a at *
      generalize ch (k + 1 + d) (k + 1) = b at *
      generalize ch (k + 1 + d) (k + 1 + 1) = c at *
      have e1 : (b + c) * (k + 1 + 1) = b * (k + 1) + b + c * (k + 1 + 1) := by
        rw [Nat.add_mul, Nat.mul_succ b]
      rw [e1, h1, h2, Nat.add_mul]
      have e2 : b * (d + 1) = b * d + b := Nat.mul_succ b d
      omega
theorem ch_le : ∀ (n k : Nat), ch n k ≤ 2 ^ n
  | 0, k => by cases k <;> simp [ch]
  | n + 1, 0 => by rw [ch_zero]; exact Nat.one_le_two_pow
  | n + 1, k + 1 => by
    rw [ch_succ, Nat.pow_succ]
    have h1 := ch_le n k
    have h2 := ch_le n (k + 1)
    omega
/-- completions of a height by so many letters, by the binomials -/
def cp (h l : Nat) : Nat := if (h + l) % 2 = 1 then 0 else ch l ((h + l) / 2) - ch l ((h + l) / 2 + 1)
theorem ch_desc {n k : Nat} (h : n ≤ 2 * k + 1) : ch n (k + 1) ≤ ch n k := by
  have e := ch_next n k
  have h2 : n - k ≤ k + 1 := by omega
  have h3 : ch n k * (n - k) ≤ ch n k * (k + 1) := Nat.mul_le_mul_left _ h2
  rw [← e] at h3
  exact Nat.le_of_mul_le_mul_right h3 (by omega)
theorem cp_int (h l : Nat) (e : (h + l) % 2 = 0) : ((cp h l : Nat) : Int) = (ch l ((h + l) / 2) : Int) - (ch l ((h + l) / 2 + 1) : Int) := by
  unfold cp
  rw [if_neg (by omega)]
  have := ch_desc (n := l) (k := (h + l) / 2) (by omega)
  omega
theorem cp_odd {h l : Nat} (e : (h + l) % 2 = 1) : cp h l = 0 := by unfold cp; rw [if_pos e]
theorem cp_zero_l (h : Nat) : cp h 0 = if h = 0 then 1 else 0 := by
  cases h with
  | zero => rfl
  | succ h =>
    rw [if_neg (by omega)]
    unfold cp
    split
    · rfl
    · rw [ch_above (show 0 < (h + 1 + 0) / 2 by omega), Nat.zero_sub]
theorem cp_above {h l : Nat} (e : l < h) : cp h l = 0 := by
  unfold cp
  split
  · rfl
  · rw [ch_above (show l < (h + l) / 2 by omega), Nat.zero_sub]
theorem cp_up (h l : Nat) : cp (h + 1) (l + 1) = cp h l + cp (h + 2) l := by
  rcases (show (h + l) % 2 = 1 ∨ (h + l) % 2 = 0 by omega) with e | e
  · rw [cp_odd (show (h + 1 + (l + 1)) % 2 = 1 by omega), cp_odd e, cp_odd (show (h + 2 + l) % 2 = 1 by omega)]
  · have i1 := cp_int (h + 1) (l + 1) (by omega)
    have i2 := cp_int h l e
    have i3 := cp_int (h + 2) l (by omega)
    rw [show (h + 1 + (l + 1)) / 2 = (h + l) / 2 + 1 by omega] at i1
    rw [show (h + 2 + l) / 2 = (h + l) / 2 + 1 by omega] at i3
    rw [ch_succ, ch_succ] at i1
    omega
theorem cp_zero (l : Nat) : cp 0 (l + 1) = cp 1 l := by
  rcases (show l % 2 = 1 ∨ l % 2 = 0 by omega) with e | e
  · have i1 := cp_int 0 (l + 1) (by omega)
    have i2 := cp_int 1 l (by omega)
    obtain ⟨s, rfl⟩ : ∃ s, l = 2 * s + 1 := ⟨l / 2, by omega⟩
    rw [show (0 + (2 * s + 1 + 1)) / 2 = s + 1 by omega] at i1
    rw [show (1 + (2 * s + 1)) / 2 = s + 1 by omega] at i2
    have a1 : ch (2 * s + 1 + 1) (s + 1) = ch (2 * s + 1) s + ch (2 * s + 1) (s + 1) := ch_succ _ _
    have a2 : ch (2 * s + 1 + 1) (s + 1 + 1) = ch (2 * s + 1) (s + 1) + ch (2 * s + 1) (s + 1 + 1) := ch_succ _ _
    have a3 := ch_symm (show s + (s + 1) = 2 * s + 1 by omega)
    omega
  · rw [cp_odd (show (0 + (l + 1)) % 2 = 1 by omega), cp_odd (show (1 + l) % 2 = 1 by omega)]
/-- words of a size -/
theorem cp_word (n : Nat) : cp 0 (2 * n) * (n + 1) = ch (2 * n) n := by
  have i := cp_int 0 (2 * n) (by omega)
  rw [show (0 + 2 * n) / 2 = n by omega] at i
  have e := ch_next (2 * n) n
  rw [show 2 * n - n = n by omega] at e
  have i2 : ch (2 * n) (n + 1) ≤ ch (2 * n) n := ch_desc (by omega)
  have e3 : cp 0 (2 * n) = ch (2 * n) n - ch (2 * n) (n + 1) := by omega
  rw [e3, Nat.sub_mul, e, Nat.mul_succ]
  omega
theorem ch_mid (n : Nat) : ch (2 * (n + 1)) (n + 1) * (n + 1) = ch (2 * n) n * (4 * n + 2) := by
  have e1 : ch (2 * (n + 1)) (n + 1) = ch (2 * n + 1) n + ch (2 * n + 1) (n + 1) := by
    rw [show 2 * (n + 1) = 2 * n + 1 + 1 by omega, ch_succ]
  have e2 : ch (2 * n + 1) n = ch (2 * n + 1) (n + 1) := ch_symm (by omega)
  have e3 : ch (2 * n + 1) (n + 1) = ch (2 * n) n + ch (2 * n) (n + 1) := rfl
  have e4 := ch_next (2 * n) n
  rw [show 2 * n - n = n by omega] at e4
  rw [e1, e2, e3]
  generalize ch (2 * n) n = a at *
  generalize ch (2 * n) (n + 1) = b at *
  rw [Nat.add_mul, Nat.add_mul, e4, Nat.mul_succ, Nat.mul_add, ← Nat.mul_assoc, Nat.mul_comm a 4, Nat.mul_assoc, Nat.mul_comm a 2]
  omega
theorem cp_ratio (n : Nat) : cp 0 (2 * (n + 1)) * (n + 2) = cp 0 (2 * n) * (4 * n + 2) := by
  have h1 := cp_word n
  have h2 := cp_word (n + 1)
  have h3 := ch_mid n
  rw [show n + 1 + 1 = n + 2 from rfl] at h2
  rw [← h1, ← h2] at h3
  apply Nat.eq_of_mul_eq_mul_right (show 0 < n + 1 by omega)
  rw [h3, Nat.mul_assoc, Nat.mul_assoc, Nat.mul_comm (n + 1)]
theorem cp_le (h l : Nat) : cp h l ≤ 2 ^ l := by
  unfold cp
  split
  · exact Nat.zero_le _
  · exact Nat.le_trans (Nat.sub_le _ _) (ch_le _ _)
/-! ### math.comb, sum -/
def fa : Nat → Nat
  | 0 => 1
  | k + 1 => fa k * (k + 1)
theorem fa_pos : ∀ k, 0 < fa k
  | 0 => Nat.one_pos
  | k + 1 => Nat.mul_pos (fa_pos k) (Nat.succ_pos k)
theorem fp_ch (n : Nat) : ∀ k : Nat, k ≤ n → PySem.Builtin.Math.fallingProduct (n : Int) k = ((ch n k * fa k : Nat) : Int)
  | 0, _ => by rw [ch_zero]; rfl
  | k + 1, h => by
    rw [PySem.W.mc_fp_succ, fp_ch n k (by omega)]
    have e : ch n (k + 1) * fa (k + 1) = ch n k * fa k * (n - k) := by
      show ch n (k + 1) * (fa k * (k + 1)) = _
      rw [Nat.mul_comm (fa k), ← Nat.mul_assoc, ch_next, Nat.mul_assoc, Nat.mul_assoc, Nat.mul_comm (n - k)]
    rw [e, Int.natCast_mul (ch n k * fa k), Int.natCast_sub (by omega)]
theorem comb_min (a m : Nat) (h : m ≤ a) : PySem.Builtin.Math.fallingProduct (a : Int) m / PySem.Builtin.Math.fallingProduct (m : Int) m = (ch a m : Int) := by
  rw [fp_ch a m h, fp_ch m m (Nat.le_refl m), ch_self, Nat.one_mul, Int.natCast_mul]
  exact Int.mul_ediv_cancel _ (by have := fa_pos m; omega)
theorem comb_ch (a b : Nat) : PySem.W.mcComb (a : Int) (b : Int) = (ch a b : Int) := by
  rcases Nat.lt_or_ge a b with h | h
  · rw [PySem.W.mcComb_above (by omega), ch_above h]; rfl
  · rcases Nat.le_total b (a - b) with g | g
    · rw [PySem.W.mcComb_at (m := (b : Int)) (by omega) (by omega) (by omega), Int.toNat_natCast]
      exact comb_min a b h
    · rw [PySem.W.mcComb_at (m := ((a - b : Nat) : Int)) (by omega) (by omega) (by omega), Int.toNat_natCast, comb_min a (a - b) (by omega), ch_symm (show a - b + b = a by omega)]
open PySem PySem.Spec PyProof.Rows L2
def rComb : List V → Hp → VK → Prop := fun vs H Q => ∃ a b : Nat, vs = [.int a, .int b] ∧ a < 2 ^ 60 ∧ b ≤ 9000 ∧ Q (.int (ch a b : Nat)) H
theorem cr_comb {X : Cx} : CallR X (.builtin "math.comb") rComb := by
  intro pins s σ H vs us Q I r h
  obtain ⟨a, b, rfl, h1, h2, q⟩ := h
  obtain ⟨t, u, rfl⟩ := Vals.int2 r
  exact PySem.W.mc_comb (by omega) (by omega) (by omega) (by omega) fun _ => ⟨.int _, H, I.tok _, ⟨_, by rw [comb_ch]⟩, q⟩
def gComb : GL := fun ds Q => match ds with
  | [.int a, .int b] => 0 ≤ a ∧ 0 ≤ b ∧ a < 2 ^ 60 ∧ b ≤ 9000 ∧ Q (.d (.int (ch a.toNat b.toNat : Nat)))
  | _ => False
theorem cll_comb {K : Fg} : ClL K rComb gComb := fun O H ds xs Qd Q hd hx q k => by
  unfold gComb at q
  split at q
  · obtain ⟨v, ws, e1, h1, v2, ws2, e2, h2, h3⟩ := hx
    have e3 : v = V.int _ := h1
    have e4 : v2 = V.int _ := h2
    have e5 : ws2 = [] := h3
    obtain ⟨q1, q2, q3, q4, q5⟩ := q
    exact ⟨_, _, by rw [e1, e2, e3, e4, e5, Int.toNat_of_nonneg q1, Int.toNat_of_nonneg q2], by omega, by omega, k _ _ H (Out.sc (d := .int _) rfl) q5⟩
  · exact q.elim
theorem de_callM {X : Cx} {e : Expr} {es : List Expr} {tas : DTA} {pos : Pos} {x : Str} {p : Pos} {id : String} {r : List V → Hp → VK → Prop} {g : GL} (hc : CallR X (.builtin id) r) (L : ClL X.K r g) (hg : Gl X x) (hm : X.mg x = some (.builtin id)) (ha : DA X (e :: es) tas) (hdb : (x == ("__debug__" : Str)) = false := by decide)
    (he : starEach (e :: es) X.env = (false, eval e X.env) :: starEach es X.env := by rfl) (hpl : (backTo pos (starEach es X.env)).any (·.1) = false := by rfl) : DE X (.Call (.Name x p) (e :: es) [] pos) (dCl g tas) := by
  obtain ⟨te, pa, s⟩ := ha
  exact ⟨_, pe_callBfun hc hg hm pa hdb he hpl, sim_cl L s⟩
def gDivW : G2 := fun d e Q => match d, e with
  | .int i, .int j => CDivW i j ∧ Q (.d (.int (i / j)))
  | _, _ => False
theorem opl_divW {K : Fg} : OpL K (rI CDivW fun i j => .int (i / j)) gDivW := opl_int fun _ _ _ => rfl
theorem cdw {i j : Int} (h1 : 0 < j) (h2 : j < 2 ^ 64) : CDivW i j := ⟨h1, by
  have h3 : j.natAbs < 2 ^ 64 := by omega
  have := (Nat.log2_lt (by omega)).mpr h3
  omega⟩
def gSum : GL := fun ds Q => match ds with
  | [.list xs] => ∃ ns : List Int, xs = ns.map .int ∧ Q (.d (.int ns.sum))
  | _ => False
theorem cll_sum {K : Fg} : ClL K (rSum K) gSum := fun O H ds xs Qd Q hd hx q k => by
  unfold gSum at q
  split at q
  · obtain ⟨v, ws, e1, h1, h2⟩ := hx
    obtain ⟨a, ys, e2, g1, g2⟩ := h1
    have e3 : ws = [] := h2
    obtain ⟨ns, rfl, q⟩ := q
    rw [g2.ints] at g1
    exact ⟨a, ns, by rw [e1, e2, e3], g1, k _ _ H (Out.sc (d := .int _) rfl) q⟩
  · exact q.elim
end DL
namespace DL
open PySem PySem.Spec PyProof.Rows L2
theorem shp_ints : ∀ ns : List Int, SeqAt.shaped (.list (ns.map .int)) = true := fun ns => by
  show (PyData.canLayAll0 (ns.map .int) && decide (PyData.depthAll (ns.map .int) + 1 ≤ 64)) = true
  have h : ∀ l : List Int, PyData.canLayAll0 (l.map .int) = true := fun l => by
    induction l with
    | nil => rfl
    | cons x r ih => show (true && PyData.canLayAll0 (r.map .int)) = true; rw [ih]; rfl
  rw [h, ints_dp]; decide
theorem bigI {i : Int} (h : i.natAbs < 10 ^ 200) : (PyData.int i).intsShort 201 = true ∧ (PyData.int i).showable = true ∧ (PyData.int i).weight + 1 ≤ 702 := by
  have lg : i.natAbs.log2 < 700 := by
    by_cases h0 : i.natAbs = 0
    · rw [h0]; decide
    · exact (Nat.log2_lt h0).mpr (Nat.lt_trans h (by decide))
  refine ⟨decide_eq_true ?_, decide_eq_true ?_, ?_⟩
  · show (Str.ofString (toString i)).length ≤ 201
    rw [PySem.ofString_length]
    exact int_text_length_le10 (k := 200) (by decide) h
  · exact Nat.lt_of_lt_of_le lg (by decide)
  · show (if i == 0 then 0 else i.natAbs.log2 + 1) + 1 ≤ 702
    split <;> omega
theorem bigL : ∀ {ns : List Int}, (∀ x ∈ ns, x.natAbs < 10 ^ 200) → PyData.canLayAll0 (ns.map .int) = true ∧ PyData.intsShortAll 201 (ns.map .int) = true ∧ PyData.showableAll (ns.map .int) = true ∧ PyData.hasDictAll (ns.map .int) = false ∧ PyData.weightAll (ns.map .int) ≤ 702 * ns.length
  | [], _ => ⟨rfl, rfl, rfl, rfl, Nat.le_refl _⟩
  | x :: ns, h => by
    obtain ⟨b, c, e⟩ := bigI (h x (by simp))
    obtain ⟨a', b', c', d', e'⟩ := bigL (ns := ns) fun y hy => h y (by simp [hy])
    refine ⟨a', ?_, ?_, d', ?_⟩
    · show (PyData.intsShort 201 (.int x) && PyData.intsShortAll 201 (ns.map .int)) = true; rw [b, b']; rfl
    · show (PyData.showable (.int x) && PyData.showableAll (ns.map .int)) = true; rw [c, c']; rfl
    · show PyData.weight (.int x) + 1 + PyData.weightAll (ns.map .int) ≤ 702 * (ns.length + 1); omega
theorem rep_big {ns : List Int} (h : ∀ x ∈ ns, x.natAbs < 10 ^ 200) (hl : ns.length ≤ 100) : (PyData.list (ns.map .int)).showable = true ∧ (PyData.list (ns.map .int)).hasDict = false ∧ (PyData.list (ns.map .int)).depth ≤ 64 ∧ (PyData.list (ns.map .int)).shown.length ≤ sizeLine := by
  obtain ⟨a, b, c, e, f⟩ := bigL h
  refine ⟨c, e, ?_, ?_⟩
  · show PyData.depthAll (ns.map .int) + 1 ≤ 64
    rw [ints_dp]; decide
  · have := PyData.shown_le 201 (by decide) (.list (ns.map .int)) (PyData.leavesShort_of_canLay0 201 (.list (ns.map .int)) a b)
    have hw : (PyData.list (ns.map .int)).weight = PyData.weightAll (ns.map .int) := rfl
    rw [sizeLine_eq]
    omega
theorem rep_bigI {i : Int} (h : i.natAbs < 10 ^ 200) : (PyData.int i).showable = true ∧ (PyData.int i).hasDict = false ∧ (PyData.int i).depth ≤ 64 ∧ (PyData.int i).shown.length ≤ sizeLine := by
  obtain ⟨b, c, e⟩ := bigI h
  refine ⟨c, rfl, Nat.zero_le _, ?_⟩
  have := PyData.shown_le 201 (by decide) (.int i) (PyData.leavesShort_of_canLay0 201 (.int i) rfl b)
  rw [sizeLine_eq]
  omega
end DL
namespace DL
open PySem PySem.Spec PyProof.Rows L2
/-! ### < and > of ints and texts -/
def rLtA : R2 := fun x y H Q => rI0 (fun i j => .bl (decide (i < j))) x y H Q ∨ ∃ i j, x = .str i ∧ y = .str j ∧ Q (.bl (decide (i.cps.toList < j.cps.toList))) H
def rGtA : R2 := fun x y H Q => rI0 (fun i j => .bl (decide (j < i))) x y H Q ∨ ∃ i j, x = .str i ∧ y = .str j ∧ Q (.bl (decide (j.cps.toList < i.cps.toList))) H
theorem op_ltA {X : Cx} : OpR X (compareOp .Lt) rLtA := OpR.or L2.op_lt op_lt_str
theorem op_gtA {X : Cx} : OpR X (compareOp .Gt) rGtA := OpR.or L2.op_gt op_gt_str
def gLtA : G2 := fun d e Q => match d, e with
  | .int a, .int b => Q (.d (.bool (decide (a < b))))
  | .str a, .str b => Q (.d (.bool (decide (a.cps.toList < b.cps.toList))))
  | _, _ => False
def gGtA : G2 := fun d e Q => match d, e with
  | .int a, .int b => Q (.d (.bool (decide (b < a))))
  | .str a, .str b => Q (.d (.bool (decide (b.cps.toList < a.cps.toList))))
  | _, _ => False
theorem opl_ltA {K : Fg} : OpL K rLtA gLtA := fun O H d e x y Qd Q hd hx hy q k => by
  unfold gLtA at q
  split at q
  · exact .inl (opl_lt (K := K) O H _ _ x y Qd Q hd hx hy q k)
  · cases (show x = .str _ from hx)
    cases (show y = .str _ from hy)
    exact .inr ⟨_, _, rfl, rfl, k _ _ H (Out.sc (d := .bool _) rfl) q⟩
  · exact q.elim
theorem opl_gtA {K : Fg} : OpL K rGtA gGtA := fun O H d e x y Qd Q hd hx hy q k => by
  unfold gGtA at q
  split at q
  · exact .inl (opl_gt (K := K) O H _ _ x y Qd Q hd hx hy q k)
  · cases (show x = .str _ from hx)
    cases (show y = .str _ from hy)
    exact .inr ⟨_, _, rfl, rfl, k _ _ H (Out.sc (d := .bool _) rfl) q⟩
  · exact q.elim
/-! ### text * int -/
theorem op_mulS {X : Cx} : OpR X (binaryOp .Mult) (fun x y H Q => ∃ a n, x = .str a ∧ y = .int n ∧ MulOk a n ∧ Q (.str (PySem.Txt.mul a n)) H) := by
  intro pins s σ H x y v u Q I rx ry h
  obtain ⟨a, n, rfl, rfl, hz, q⟩ := h
  obtain ⟨t, rfl⟩ := rx
  obtain ⟨t', rfl⟩ := ry
  exact PySem.SB.mul hz (fun t' tk => ⟨.str _, H, I.tok _, ⟨_, rfl⟩, q⟩)
def gMulS : G2 := fun d e Q => match d, e with
  | .str a, .int n => (n < 1000000 ∧ a.length ≤ 10 ∧ -1000000 < n) ∧ Q (.d (.str (PySem.Txt.mul a n)))
  | _, _ => False
theorem mulOk_small {a : Str} {n : Int} (h1 : n < 1000000) (h2 : a.length ≤ 10) (h3 : -1000000 < n) : MulOk a n := by
  refine ⟨?_, fun h _ => ?_, fun h _ => ?_⟩
  · rw [decide_eq_false (by omega), decide_eq_false (by omega)]; rfl
  · have : (a.length : Int) ≤ (2 ^ 63 - 1) / n := by
      refine Int.le_ediv_of_mul_le (by omega) ?_
      have e1 : (a.length : Int) * n ≤ 10 * n := Int.mul_le_mul_of_nonneg_right (by omega) (by omega)
      omega
    omega
  · have : a.length * n.toNat ≤ 10 * 1000000 := Nat.mul_le_mul h2 (by omega)
    show decide (_ > sizeLine) = false
    rw [sizeLine_eq]
    exact decide_eq_false (by omega)
theorem opl_mulS {K : Fg} : OpL K (fun x y H Q => ∃ a n, x = .str a ∧ y = .int n ∧ MulOk a n ∧ Q (.str (PySem.Txt.mul a n)) H) gMulS := fun O H d e x y Qd Q hd hx hy q k => by
  unfold gMulS at q
  split at q
  · cases (show x = .str _ from hx)
    cases (show y = .int _ from hy)
    exact ⟨_, _, rfl, rfl, mulOk_small q.1.1 q.1.2.1 q.1.2.2, k _ _ H (Out.sc (d := .str _) rfl) q.2⟩
  · exact q.elim
/-! ### range(a, b, -1) -/
def itN (lo : Int) (i : Nat) : PyData := .int (lo - i)
def dItR3 (t : DTA) : DTI := fun ρ Q => t ρ fun rs ρ1 => match views ρ1 rs with
  | some [.int i, .int j, .int c] => (c = -1 ∧ -(2 ^ 62) ≤ i ∧ i < 2 ^ 62 ∧ -(2 ^ 62) ≤ j ∧ j < 2 ^ 62) ∧ Q (i - j).toNat (itN i) ρ1
  | _ => False
theorem itD_rngN {K : Fg} {S : Hp} {lo : Int} {n : Nat} : ItD K (Itc lo (-1) n) S n (itN lo) := fun H O sm dm =>
  ⟨fun i hi => ⟨hi, fun y H' hy => by
    obtain ⟨rfl, rfl⟩ := hy
    rw [show lo + (i : Int) * (-1) = lo - i by omega]
    exact Out.sc (d := .int _) rfl⟩, Nat.le_refl _⟩
theorem di_range3 {X : Cx} {tg a b c : Expr} {tas : DTA} {p pos : Pos} (hg : Gl X "range") (hm : X.mg "range" = none) (h : DA X [a, b, c] tas)
    (hs : starEach [a, b, c] X.env = (false, eval a X.env) :: starEach [b, c] X.env := by rfl) (hpl : (backTo pos (starEach [b, c] X.env)).any (·.1) = false := by rfl) : DI X tg (.Call (.Name "range" p) [a, b, c] [] pos) (dItR3 tas) := by
  obtain ⟨te, pa, s⟩ := h
  refine ⟨_, pi_range3 hg hm pa (hs := hs) (hpl := hpl), fun F ρ O σ H A P Qd R G q k => s F ρ O σ H A P _ _ G q fun rs ρ1 vs O1 H1 A1 P1 S1 G1 R1 q1 => ?_⟩
  cases e1 : views ρ1 rs with
  | none => simp only [e1] at q1
  | some ds =>
    have V1 := views_ok G1 R1 e1
    simp only [e1] at q1
    split at q1
    · next i j c heq =>
      cases heq
      obtain ⟨v, ws, e2, V2, v2, ws2, e3, V3, v3, ws3, e4, V4, V5⟩ := V1
      have e5 : v = V.int i := V2
      have e6 : v2 = V.int j := V3
      have e7 : v3 = V.int c := V4
      have e8 : ws3 = [] := V5
      obtain ⟨⟨rfl, q2, q3, q4, q5⟩, q6⟩ := q1
      exact ⟨i, j, -1, _, by rw [e2, e3, e4, e5, e6, e7, e8], RgC.neg q2 q3 q4 q5, k _ _ ρ1 _ O1 H1 A1 P1 S1 G1 itD_rngN q6⟩
    · exact q1.elim
/-! ### zip of two lists -/
def zpD (ds es : List PyData) (i : Nat) : PyData := .tuple [nth ds i, nth es i]
theorem itD_zip {K : Fg} {a b : Addr} {xs ys : List V} {ds es : List PyData} {S : Hp} (h : SqL K S a xs) (D : DvL K S ds xs) (h2 : SqL K S b ys) (D2 : DvL K S es ys) (hl : ds.length = es.length) : ItD K (Itz K a b) S ds.length (zpD ds es) := fun H O sm dm => by
  have g1 := same_sqL sm h
  have g2 := same_sqL sm h2
  have k1 := same_sqL (Hs_sub (H := H) (O := O)) g1
  have k2 := same_sqL (Hs_sub (H := H) (O := O)) g2
  have E1 := D.mono sm
  have E2 := D2.mono sm
  have l1 := D.length
  have l2 := D2.length
  refine ⟨fun i hi => ?_, xs, ys, k1, k2, .inl (by omega)⟩
  obtain ⟨x, hx, dx⟩ := E1.get (List.getElem?_eq_getElem hi)
  obtain ⟨y, hy, dy⟩ := E2.get (List.getElem?_eq_getElem (show i < es.length by omega))
  refine ⟨⟨xs, ys, x, y, k1, k2, hx, hy⟩, fun v H' hv => ?_⟩
  obtain ⟨T, x', y', rfl, hT, rfl, e1, e2⟩ := hv
  have ex : x' = x := by have := e1 xs k1; rw [hx] at this; exact (Option.some.inj this).symm
  have ey : y' = y := by have := e2 ys k2; rw [hy] at this; exact (Option.some.inj this).symm
  subst ex; subst ey
  unfold zpD
  rw [nth_at (List.getElem?_eq_getElem hi), nth_at (List.getElem?_eq_getElem (show i < es.length by omega))]
  exact Out.tup dm hT ⟨_, _, rfl, dx, _, _, rfl, dy, rfl⟩
def dItZ (t : DTL) : DTI := fun ρ Q => t ρ fun ds ρ1 => match ds with
  | [.list xs, .list ys] => xs.length = ys.length ∧ Q xs.length (zpD xs ys) ρ1
  | _ => False
theorem di_zip {X : Cx} {e e2 : Expr} {tl : DTL} {p pos tpos : Pos} {elts : List Expr} {kk : Nat} (hg : Gl X "zip") (hm : X.mg "zip" = none) (h : DLs X [e, e2] tl)
    (hs : starEach [e, e2] X.env = (false, eval e X.env) :: starEach [e2] X.env := by rfl) (hpl : (backTo pos (starEach [e2] X.env)).any (·.1) = false := by rfl) :
    DI X (.Tuple elts kk tpos) (.Call (.Name "zip" p) [e, e2] [] pos) (dItZ tl) := by
  obtain ⟨te, pa, s⟩ := h
  refine ⟨_, pi_zip hg hm pa (hs := hs) (hpl := hpl), fun F ρ O σ H A P Qd R G q k => s F ρ O σ H A P _ _ G q fun ds ρ1 vs O1 H1 A1 P1 S1 G1 D1 q1 => ?_⟩
  split at q1
  · next xs ys =>
    obtain ⟨v, ws, e2, ⟨a, us, e3, s3, d3⟩, v2, ws2, e4, ⟨b, us2, e5, s5, d5⟩, e6⟩ := D1
    have e7 : ws2 = [] := e6
    obtain ⟨hl, q2⟩ := q1
    refine ⟨a, b, us, us2, by rw [e2, e3, e4, e5, e7], same_sqL Hs_sub s3, same_sqL Hs_sub s5, k _ _ ρ1 _ O1 H1 A1 P1 S1 G1 (itD_zip s3 d3 s5 d5 hl) q2⟩
  · exact q1.elim
/-! ### sorted -/
theorem DvL.bools {K : Fg} {H : Hp} : ∀ {bs : List Bool} {xs : List V}, DvL K H (bs.map PyData.bool) xs → xs = bs.map V.bl
  | [], _, h => h
  | n :: ns, _, h => by
    obtain ⟨y, ys, e1, h1, h2⟩ := h
    have h1' : y = V.bl n := h1
    rw [e1, h1', DvL.bools h2]; rfl
theorem DvL.strs {K : Fg} {H : Hp} : ∀ {ss : List Str} {xs : List V}, DvL K H (ss.map PyData.str) xs → xs = ss.map V.str
  | [], _, h => h
  | n :: ns, _, h => by
    obtain ⟨y, ys, e1, h1, h2⟩ := h
    have h1' : y = V.str n := h1
    rw [e1, h1', DvL.strs h2]; rfl
theorem DvL.of_strs {K : Fg} {H : Hp} : ∀ (ss : List Str), DvL K H (ss.map PyData.str) (ss.map V.str)
  | [] => rfl
  | n :: ns => ⟨_, _, rfl, rfl, DvL.of_strs ns⟩
def gSortI : GL := fun ds Q => match ds with
  | [.list xs] => ∃ ns : List Int, xs = ns.map .int ∧ ∀ ns' : List Int, ns'.Perm ns → ns'.Pairwise (· ≤ ·) → Q (.n (.lst (ns'.map .int)))
  | _ => False
theorem cll_sortI {K : Fg} : ClL K (rSortedI K) gSortI := fun O H ds xs Qd Q hd hx q k => by
  unfold gSortI at q
  split at q
  · obtain ⟨v, ws, e1, h1, h2⟩ := hx
    obtain ⟨a, ys, e2, g1, g2⟩ := h1
    have e3 : ws = [] := h2
    obtain ⟨ns, rfl, q⟩ := q
    rw [g2.ints] at g1
    exact ⟨a, ns, by rw [e1, e2, e3], g1, fun ns' p hp hs hn => k _ _ _ (Out.lst hd hn (DvL.of_ints ns')) (q ns' hp hs)⟩
  · exact q.elim
def gSortS : GL := fun ds Q => match ds with
  | [.list xs] => ∃ ss : List Str, xs = ss.map .str ∧ ss.length < 64 ∧ ∀ ys : List Str, ys.Perm ss → sortedS ys = true → Q (.n (.lst (ys.map .str)))
  | _ => False
theorem cll_sortS {K : Fg} : ClL K (rSortedS K) gSortS := fun O H ds xs Qd Q hd hx q k => by
  unfold gSortS at q
  split at q
  · obtain ⟨v, ws, e1, h1, h2⟩ := hx
    obtain ⟨a, ys, e2, g1, g2⟩ := h1
    have e3 : ws = [] := h2
    obtain ⟨ss, rfl, hl, q⟩ := q
    rw [g2.strs] at g1
    exact ⟨a, ss, by rw [e1, e2, e3], g1, hl, fun ys p hp hs hn => k _ _ _ (Out.lst hd hn (DvL.of_strs ys)) (q ys hp hs)⟩
  · exact q.elim
/-! sorted pairs of ints, in whatever way the pairs are held -/
open Classical in
noncomputable def pairK (K : Fg) (H : Hp) (v : V) : Int × Int := if h : ∃ p : Int × Int, ∃ t, v = V.ref t ∧ SqT K H t [.int p.1, .int p.2] then h.choose else (0, 0)
theorem sqT_inj {X : Cx} {pins : List (Addr × Obj)} {σ : L2.St} {H : Hp} {s : Shared} (I : Inv X pins σ H s) {t : Addr} {i j k l : Int} (a : SqT X.K H t [.int i, .int j]) (b : SqT X.K H t [.int k, .int l]) : i = k ∧ j = l := by
  obtain ⟨i1, r1, ⟨o1, a1, _, n1, d1⟩, _⟩ := I.tuple a
  obtain ⟨i2, r2, ⟨o2, a2, _, n2, d2⟩, _⟩ := I.tuple b
  rw [a1] at a2
  cases a2
  rw [d1] at d2
  injection d2 with d3 _
  have e : i1 = i2 := by simpa using d3
  subst e
  obtain ⟨t1, t2, e1⟩ := Vals.int2 r1
  obtain ⟨t3, t4, e2⟩ := Vals.int2 r2
  rw [e1] at e2
  injection e2 with e3 e4
  injection e3 with e5 _
  injection e4 with e6 _
  injection e6 with e7 _
  exact ⟨e5, e7⟩
def prD (p : Int × Int) : PyData := .tuple [.int p.1, .int p.2]
def rSortedPT (K : Fg) : List V → Hp → VK → Prop := fun vs H Q => ∃ (a : Addr) (xs : List V), vs = [V.ref a] ∧ SqL K H a xs ∧ (∀ x ∈ xs, ∃ t, ∃ p : Int × Int, x = V.ref t ∧ SqT K H t [.int p.1, .int p.2]) ∧
  ((∀ t, ∀ p q : Int × Int, SqT K H t [.int p.1, .int p.2] → SqT K H t [.int q.1, .int q.2] → p = q) → ∀ ys p, SrtO.Srtd (ltP (pairK K H)) ys → ys.Perm xs → H p = none → Q (.ref p) (upd H p (.lst ys)))
theorem cr_sortedPT {X : Cx} : CallR X (.builtin "sorted") (rSortedPT X.K) := by
  intro pins s σ H vs us Q I r h
  obtain ⟨a, xs, rfl, hs, hx, q⟩ := h
  obtain ⟨its, rv, hl, hz⟩ := I.list hs
  obtain ⟨u, rfl, ru⟩ := vals1 r
  obtain rfl : u = Value.ref a := ru
  have inj : ∀ t, ∀ p q : Int × Int, SqT X.K H t [.int p.1, .int p.2] → SqT X.K H t [.int q.1, .int q.2] → p = q := fun t p q h1 h2 => by
    obtain ⟨e1, e2⟩ := sqT_inj I h1 h2
    exact Prod.ext e1 e2
  obtain ⟨e1, e2⟩ := refs_back rv fun x m => by
    obtain ⟨t, _, e, _⟩ := hx x m
    exact ⟨t, e⟩
  refine SrtO.sorted_pairsO (k := fun u => pairK X.K H (backV u)) hl.isList (by rw [← rv.length]; exact hz) (fun v hv => ?_) fun h' d out h1 h2 kp hd hn => ?_
  · obtain ⟨t, rfl⟩ := e2 v hv
    have hm : V.ref t ∈ xs := by rw [e1]; exact List.mem_map.mpr ⟨_, hv, rfl⟩
    obtain ⟨t', p, e, ht⟩ := hx _ hm
    cases e
    have hex : ∃ p : Int × Int, ∃ t', V.ref t = V.ref t' ∧ SqT X.K H t' [.int p.1, .int p.2] := ⟨p, t, rfl, ht⟩
    have ek : pairK X.K H (V.ref t) = p := by
      unfold pairK
      rw [dif_pos hex]
      obtain ⟨t2, e3, h3⟩ := hex.choose_spec
      cases e3
      exact inj t _ _ h3 ht
    simp only [show backV (Value.ref t) = V.ref t from rfl, ek]
    obtain ⟨its2, r2, ⟨o, ho, hc, n, hd⟩, _⟩ := I.tuple ht
    obtain ⟨t1, t2, rfl⟩ := Vals.int2 r2
    exact ⟨t, o, t1, t2, n, rfl, ho, hc, hd⟩
  · have h3 : ∀ u ∈ out, ∃ a, u = Value.ref a := fun u hu => e2 u (h2.perm.mem_iff.mp hu)
    obtain ⟨n, hn⟩ := hn
    have hb : SrtO.Stb (ltP (pairK X.K H)) (out.map backV) xs := by
      rw [e1]
      exact SrtO.Stb.map (ltP_swo _) backV h2
    refine ⟨.ref d, upd H d (.lst (out.map backV)), I.laid (t' := s.toks) kp hd ⟨?_, out, n, vals_back h3, hn⟩, rfl, q inj _ d (SrtO.srtd_map h1) hb.perm (I.hok.fresh hd)⟩
    rw [hb.perm.length_eq]
    exact hz
def leP (p q : Int × Int) : Prop := p.1 < q.1 ∨ (p.1 = q.1 ∧ p.2 ≤ q.2)
def gSortP : GL := fun ds Q => match ds with
  | [.list xs] => ∃ ps : List (Int × Int), xs = ps.map prD ∧ ∀ qs : List (Int × Int), qs.Perm ps → qs.Pairwise leP → Q (.n (.lst (qs.map prD)))
  | _ => False
/-- the pairs that such items bear -/
theorem DvL.pairs {K : Fg} {H : Hp} : ∀ {ps : List (Int × Int)} {xs : List V}, DvL K H (ps.map prD) xs → xs.length = ps.length ∧ ∀ i (h : i < ps.length), ∃ t, xs[i]? = some (V.ref t) ∧ SqT K H t [.int ps[i].1, .int ps[i].2]
  | [], xs, h => by
    have h' : xs = [] := h
    subst h'
    exact ⟨rfl, fun i hi => absurd hi (by simp)⟩
  | p :: ps, xs, h => by
    obtain ⟨y, ys, rfl, ⟨t, zs, e, s1, d1⟩, h2⟩ := h
    obtain ⟨l, g⟩ := DvL.pairs h2
    refine ⟨by simp [l], fun i hi => ?_⟩
    cases i with
    | zero =>
      obtain ⟨y1, ys1, e1, g1, y2, ys2, e2, g2, e3⟩ := d1
      have e4 : y1 = V.int p.1 := g1
      have e5 : y2 = V.int p.2 := g2
      have e6 : ys2 = [] := e3
      rw [e1, e2, e4, e5, e6] at s1
      exact ⟨t, by rw [e]; rfl, s1⟩
    | succ i => exact g i (by simpa using hi)
theorem pairs_dv {K : Fg} {H : Hp} {f : V → Int × Int} : ∀ {zs : List V}, (∀ z ∈ zs, ∃ t, z = V.ref t ∧ SqT K H t [.int (f z).1, .int (f z).2]) → DvL K H ((zs.map f).map prD) zs
  | [], _ => rfl
  | z :: zs, h => by
    obtain ⟨a, e, s⟩ := h z (by simp)
    exact ⟨z, zs, rfl, ⟨a, _, e, s, ⟨_, _, rfl, rfl, _, _, rfl, rfl, rfl⟩⟩, pairs_dv fun y hy => h y (by simp [hy])⟩
theorem cll_sortP {K : Fg} : ClL K (rSortedPT K) gSortP := fun O H ds xs Qd Q hd hx q k => by
  unfold gSortP at q
  split at q
  · obtain ⟨v, ws, e1, h1, h2⟩ := hx
    obtain ⟨a, ys, e2, g1, g2⟩ := h1
    have e3 : ws = [] := h2
    obtain ⟨ps, rfl, q⟩ := q
    obtain ⟨hl, hg⟩ := g2.pairs
    have sub : Same (Hs H O) H := Hs_sub
    refine ⟨a, ys, by rw [e1, e2, e3], g1, fun x hx => ?_, fun inj zs p hs hp hn => ?_⟩
    · obtain ⟨i, hi, e⟩ := List.getElem_of_mem hx
      obtain ⟨t, q1, q2⟩ := hg i (by omega)
      rw [List.getElem?_eq_getElem hi] at q1
      exact ⟨t, _, by rw [← e]; exact Option.some.inj q1, same_sqT sub q2⟩
    · have key : ∀ i (h : i < ps.length), pairK K H (ys[i]'(by omega)) = ps[i] := fun i hi => by
        obtain ⟨t, q1, q2⟩ := hg i hi
        rw [List.getElem?_eq_getElem (by omega)] at q1
        rw [Option.some.inj q1]
        have hex : ∃ p : Int × Int, ∃ t', V.ref t = V.ref t' ∧ SqT K H t' [.int p.1, .int p.2] := ⟨ps[i], t, rfl, same_sqT sub q2⟩
        unfold pairK
        rw [dif_pos hex]
        obtain ⟨t2, e4, h4⟩ := hex.choose_spec
        cases e4
        exact inj t _ _ h4 (same_sqT sub q2)
      have eps : ys.map (pairK K H) = ps := by
        refine List.ext_getElem (by simp [hl]) fun i h1 h2 => ?_
        rw [List.getElem_map, key i h2]
      have hq := q (zs.map (pairK K H)) (by rw [← eps]; exact hp.map _) (by
        refine List.pairwise_map.mpr (hs.imp fun {x y} h => ?_)
        have := SrtO.lexB_no.mp h
        unfold leP
        omega)
      refine k _ _ _ (Out.lst hd hn (pairs_dv fun z hz => ?_)) hq
      obtain ⟨i, hi, e⟩ := List.getElem_of_mem (hp.mem_iff.mp hz)
      obtain ⟨t, q1, q2⟩ := hg i (by omega)
      rw [List.getElem?_eq_getElem hi] at q1
      have e5 := key i (by omega)
      rw [← e, e5]
      exact ⟨t, Option.some.inj q1, q2⟩
  · exact q.elim
/-! ### all, any of a list of truths -/
def gAll : GL := fun ds Q => match ds with
  | [.list xs] => ∃ bs : List Bool, xs = bs.map .bool ∧ Q (.d (.bool (bs.all id)))
  | _ => False
def gAny : GL := fun ds Q => match ds with
  | [.list xs] => ∃ bs : List Bool, xs = bs.map .bool ∧ Q (.d (.bool (bs.any id)))
  | _ => False
theorem cll_all {K : Fg} : ClL K (rAll K) gAll := fun O H ds xs Qd Q hd hx q k => by
  unfold gAll at q
  split at q
  · obtain ⟨v, ws, e1, h1, h2⟩ := hx
    obtain ⟨a, ys, e2, g1, g2⟩ := h1
    have e3 : ws = [] := h2
    obtain ⟨bs, rfl, q⟩ := q
    rw [g2.bools] at g1
    exact ⟨a, bs, by rw [e1, e2, e3], g1, k _ _ _ (Out.sc (d := .bool _) rfl) q⟩
  · exact q.elim
theorem cll_any {K : Fg} : ClL K (rAny K) gAny := fun O H ds xs Qd Q hd hx q k => by
  unfold gAny at q
  split at q
  · obtain ⟨v, ws, e1, h1, h2⟩ := hx
    obtain ⟨a, ys, e2, g1, g2⟩ := h1
    have e3 : ws = [] := h2
    obtain ⟨bs, rfl, q⟩ := q
    rw [g2.bools] at g1
    exact ⟨a, bs, by rw [e1, e2, e3], g1, k _ _ _ (Out.sc (d := .bool _) rfl) q⟩
  · exact q.elim
end DL
/-! numbers of words -/
namespace DL
open PySem PySem.Spec PyProof.Rows L2
/-- completions that begin with D -/
def sc (h l : Nat) : Nat := if h = 0 then 0 else cp (h - 1) l
theorem cp_split (h l : Nat) : cp h (l + 1) = sc h l + cp (h + 1) l := by
  unfold sc
  cases h with
  | zero => rw [if_pos rfl, cp_zero, Nat.zero_add]
  | succ g => rw [if_neg (by omega), cp_up]; rfl
/-- the rest of a word, from a height -/
def Co : Nat → List Bool → Prop
  | h, [] => h = 0
  | h, true :: w => Co (h + 1) w
  | h, false :: w => 0 < h ∧ Co (h - 1) w
def rk : Nat → List Bool → Nat
  | _, [] => 0
  | h, true :: w => sc h w.length + rk (h + 1) w
  | h, false :: w => rk (h - 1) w
def un : Nat → Nat → Nat → List Bool
  | _, 0, _ => []
  | h, l + 1, r => if r < sc h l then false :: un (h - 1) l r else true :: un (h + 1) l (r - sc h l)
theorem un_len : ∀ (l h r : Nat), (un h l r).length = l
  | 0, _, _ => rfl
  | l + 1, h, r => by
    unfold un
    split
    · rw [List.length_cons, un_len]
    · rw [List.length_cons, un_len]
theorem rk_lt : ∀ {w : List Bool} {h : Nat}, Co h w → rk h w < cp h w.length
  | [], h, c => by
    have e : h = 0 := c
    subst e; decide
  | true :: w, h, c => by
    have i := rk_lt (w := w) (h := h + 1) c
    rw [List.length_cons, cp_split]
    show sc h w.length + rk (h + 1) w < _
    omega
  | false :: w, h, c => by
    have i := rk_lt (w := w) (h := h - 1) c.2
    have c0 : 0 < h := c.1
    rw [List.length_cons, cp_split]
    show rk (h - 1) w < _
    have e : sc h w.length = cp (h - 1) w.length := if_neg (by omega)
    omega
theorem un_co : ∀ {l h r : Nat}, r < cp h l → Co h (un h l r) ∧ rk h (un h l r) = r
  | 0, h, r, hr => by
    rw [cp_zero_l] at hr
    split at hr
    · rename_i e
      subst e
      exact ⟨rfl, by show 0 = r; omega⟩
    · omega
  | l + 1, h, r, hr => by
    unfold un
    split
    · rename_i e
      have h0 : 0 < h := by
        refine Nat.pos_of_ne_zero fun z => ?_
        subst z
        exact absurd e (by show ¬ r < 0; omega)
      have e2 : sc h l = cp (h - 1) l := if_neg (by omega)
      obtain ⟨c, k⟩ := un_co (l := l) (h := h - 1) (r := r) (by omega)
      exact ⟨⟨h0, c⟩, k⟩
    · rename_i e
      rw [cp_split] at hr
      obtain ⟨c, k⟩ := un_co (l := l) (h := h + 1) (r := r - sc h l) (by omega)
      refine ⟨c, ?_⟩
      show sc h (un (h + 1) l (r - sc h l)).length + rk (h + 1) (un (h + 1) l (r - sc h l)) = r
      rw [k, un_len]
      omega
theorem un_rk : ∀ {w : List Bool} {h : Nat}, Co h w → un h w.length (rk h w) = w
  | [], h, c => rfl
  | true :: w, h, c => by
    have i := un_rk (w := w) (h := h + 1) c
    show un h (w.length + 1) (sc h w.length + rk (h + 1) w) = _
    unfold un
    rw [if_neg (by omega), Nat.add_sub_cancel_left, i]
  | false :: w, h, c => by
    have i := un_rk (w := w) (h := h - 1) c.2
    have b := rk_lt (w := w) (h := h - 1) c.2
    have c0 : 0 < h := c.1
    show un h (w.length + 1) (rk (h - 1) w) = _
    unfold un
    rw [if_pos (by rw [show sc h w.length = cp (h - 1) w.length from if_neg (by omega)]; exact b), i]
theorem rk_inj {h : Nat} {v w : List Bool} (cv : Co h v) (cw : Co h w) (hl : v.length = w.length) (e : rk h v = rk h w) : v = w := by
  rw [← un_rk cv, ← un_rk cw, hl, e]
def cps (w : List Bool) : List Nat := w.map fun b => if b then 85 else 68
theorem wd_cps (w : List Bool) : (wd w).cps.toList = cps w := by unfold wd cps; rw [ofL_list]
theorem rk_mono : ∀ {v w : List Bool} {h : Nat}, Co h v → Co h w → v.length = w.length → rk h v < rk h w → cps v < cps w
  | [], w, h, _, _, hl, hr => by
    have e : w = [] := List.length_eq_zero_iff.mp hl.symm
    subst e
    exact absurd hr (Nat.lt_irrefl _)
  | b :: v, [], h, _, _, hl, _ => absurd hl (by simp)
  | true :: v, true :: w, h, cv, cw, hl, hr => by
    have hl2 : v.length = w.length := by simpa using hl
    have hr2 : sc h v.length + rk (h + 1) v < sc h w.length + rk (h + 1) w := hr
    rw [hl2] at hr2
    exact List.cons_lt_cons_iff.mpr (.inr ⟨rfl, rk_mono (h := h + 1) cv cw hl2 (by omega)⟩)
  | false :: v, false :: w, h, cv, cw, hl, hr => by
    have hl2 : v.length = w.length := by simpa using hl
    exact List.cons_lt_cons_iff.mpr (.inr ⟨rfl, rk_mono (h := h - 1) cv.2 cw.2 hl2 hr⟩)
  | false :: v, true :: w, h, cv, cw, hl, hr => List.cons_lt_cons_iff.mpr (.inl (by decide))
  | true :: v, false :: w, h, cv, cw, hl, hr => by
    have hl2 : v.length = w.length := by simpa using hl
    have b := rk_lt (w := w) (h := h - 1) cw.2
    have c0 : 0 < h := cw.1
    have hr2 : sc h v.length + rk (h + 1) v < rk (h - 1) w := hr
    rw [hl2, show sc h w.length = cp (h - 1) w.length from if_neg (by omega)] at hr2
    omega
/-! words and rests -/
theorem co_of : ∀ {w : List Bool} {h : Nat}, (h : Int) + ht w = 0 → (∀ i, 0 ≤ (h : Int) + hp w i) → Co h w
  | [], h, e, _ => by
    have : ht [] = 0 := rfl
    show h = 0
    omega
  | true :: w, h, e, p => by
    have e2 : ht (true :: w) = 1 + ht w := rfl
    refine co_of (w := w) (h := h + 1) (by omega) fun i => ?_
    have := p (i + 1)
    rw [hp_cons] at this
    simp at this
    omega
  | false :: w, h, e, p => by
    have e2 : ht (false :: w) = -1 + ht w := rfl
    have p1 := p 1
    have : hp (false :: w) 1 = -1 := by rw [hp_cons, hp_zero]; rfl
    rw [this] at p1
    refine ⟨by omega, co_of (w := w) (h := h - 1) (by omega) fun i => ?_⟩
    have := p (i + 1)
    rw [hp_cons] at this
    simp at this
    omega
theorem co_to : ∀ {w : List Bool} {h : Nat}, Co h w → (h : Int) + ht w = 0 ∧ ∀ i, 0 ≤ (h : Int) + hp w i
  | [], h, c => by
    have e : h = 0 := c
    subst e
    refine ⟨rfl, fun i => ?_⟩
    have : hp [] i = 0 := by unfold hp; rw [List.take_nil]; rfl
    omega
  | true :: w, h, c => by
    obtain ⟨e, p⟩ := co_to (w := w) (h := h + 1) c
    have e2 : ht (true :: w) = 1 + ht w := rfl
    refine ⟨by omega, fun i => ?_⟩
    cases i with
    | zero => rw [hp_zero]; omega
    | succ i => rw [hp_cons]; have := p i; simp; omega
  | false :: w, h, c => by
    obtain ⟨e, p⟩ := co_to (w := w) (h := h - 1) c.2
    have c0 : 0 < h := c.1
    have e2 : ht (false :: w) = -1 + ht w := rfl
    refine ⟨by omega, fun i => ?_⟩
    cases i with
    | zero => rw [hp_zero]; omega
    | succ i => rw [hp_cons]; have := p i; simp; omega
theorem Dyck.co {n : Nat} {w : List Bool} (D : Dyck n w) : Co 0 w := co_of (by have := D.end0; omega) fun i => by have := D.pos i; omega
theorem Co.dyck {n : Nat} {w : List Bool} (c : Co 0 w) (hl : w.length = 2 * n) : Dyck n w := by
  obtain ⟨e, p⟩ := co_to c
  exact ⟨hl, by omega, fun i => by have := p i; omega⟩
theorem Dyck.rk_lt {n : Nat} {w : List Bool} (D : Dyck n w) : rk 0 w < cp 0 (2 * n) := by
  have := DL.rk_lt D.co
  rw [D.len] at this
  exact this
theorem Dyck.un {n : Nat} {w : List Bool} (D : Dyck n w) : DL.un 0 (2 * n) (rk 0 w) = w := by
  have := un_rk D.co
  rw [D.len] at this
  exact this
theorem un_dyck {n r : Nat} (h : r < cp 0 (2 * n)) : Dyck n (un 0 (2 * n) r) := (un_co h).1.dyck (un_len _ _ _)
theorem rk_un {n r : Nat} (h : r < cp 0 (2 * n)) : rk 0 (un 0 (2 * n) r) = r := (un_co h).2
/-- the first word, the last word -/
def udn : Nat → List Bool
  | 0 => []
  | n + 1 => true :: false :: udn n
theorem udn_co : ∀ n, Co 0 (udn n) ∧ rk 0 (udn n) = 0 ∧ (udn n).length = 2 * n
  | 0 => ⟨rfl, rfl, rfl⟩
  | n + 1 => by
    obtain ⟨c, k, l⟩ := udn_co n
    refine ⟨⟨by decide, c⟩, ?_, by simp [udn, l]; omega⟩
    show sc 0 _ + rk 0 (udn n) = 0
    rw [k]; rfl
theorem un_first (n : Nat) : un 0 (2 * n) 0 = udn n := by
  obtain ⟨c, k, l⟩ := udn_co n
  have := un_rk c
  rw [k, l] at this
  exact this
theorem cp_self : ∀ h, cp h h = 1
  | 0 => rfl
  | h + 1 => by rw [cp_up, cp_self h, cp_above (by omega)]
theorem down_co : ∀ h, Co h (List.replicate h false) ∧ rk h (List.replicate h false) = 0
  | 0 => ⟨rfl, rfl⟩
  | h + 1 => by
    obtain ⟨c, k⟩ := down_co h
    exact ⟨⟨by omega, c⟩, k⟩
theorem top_co : ∀ a h, Co h (List.replicate a true ++ List.replicate (h + a) false) ∧ rk h (List.replicate a true ++ List.replicate (h + a) false) + 1 = cp h (h + 2 * a)
  | 0, h => by
    obtain ⟨c, k⟩ := down_co h
    refine ⟨c, ?_⟩
    show rk h (List.replicate h false) + 1 = _
    rw [k, show h + 2 * 0 = h from rfl, cp_self]
  | a + 1, h => by
    obtain ⟨c, k⟩ := top_co a (h + 1)
    rw [show h + (a + 1) = h + 1 + a by omega, List.replicate_succ, List.cons_append]
    refine ⟨c, ?_⟩
    show sc h (List.replicate a true ++ List.replicate (h + 1 + a) false).length + rk (h + 1) _ + 1 = _
    rw [show h + 2 * (a + 1) = h + 1 + 2 * a + 1 by omega, cp_split, ← k]
    rw [List.length_append, List.length_replicate, List.length_replicate, show a + (h + 1 + a) = h + 1 + 2 * a by omega]
    omega
theorem un_last (n : Nat) : un 0 (2 * n) (cp 0 (2 * n) - 1) = List.replicate n true ++ List.replicate n false := by
  obtain ⟨c, k⟩ := top_co n 0
  rw [Nat.zero_add, Nat.zero_add] at k
  rw [Nat.zero_add] at c
  have := un_rk c
  rw [List.length_append, List.length_replicate, List.length_replicate, show n + n = 2 * n by omega] at this
  rw [← k, Nat.add_sub_cancel]
  exact this
theorem cp_pos (n : Nat) : 0 < cp 0 (2 * n) := by
  obtain ⟨c, k, l⟩ := udn_co n
  have := rk_lt c
  rw [k, l] at this
  exact this
/-! texts that are made by * -/
theorem foldl_reps (xs : List Nat) : ∀ (n : Nat) (acc : Array Nat), ((List.replicate n xs.toArray).foldl (· ++ ·) acc).toList = acc.toList ++ (List.replicate n xs).flatten
  | 0, acc => by simp
  | n + 1, acc => by
    rw [List.replicate_succ, List.foldl_cons, foldl_reps xs n, List.replicate_succ, List.flatten_cons, Array.toList_append, List.append_assoc]
theorem mul_wd {w : List Bool} {n : Nat} (hw : w ≠ []) : PySem.Txt.mul (wd w) (n : Int) = wd (List.replicate n w).flatten := by
  unfold PySem.Txt.mul
  split
  · have e : n = 0 := by omega
    subst e; rfl
  · split
    · rename_i h1 h2
      have h3 : n = 1 := by
        rw [wd_len] at h2
        have : w.length ≠ 0 := fun z => hw (List.length_eq_zero_iff.mp z)
        simp [this] at h2
        omega
      subst h3
      simp
    · unfold wd ofL
      congr 1
      apply Array.ext'
      rw [Int.toNat_natCast, foldl_reps, List.nil_append, List.map_flatten, List.map_replicate]
theorem udn_mul : ∀ n, (List.replicate n [true, false]).flatten = udn n
  | 0 => rfl
  | n + 1 => by
    rw [List.replicate_succ, List.flatten_cons, udn_mul n]; rfl
theorem one_mul : ∀ (n : Nat) (b : Bool), (List.replicate n [b]).flatten = List.replicate n b
  | 0, b => rfl
  | n + 1, b => by
    rw [List.replicate_succ, List.flatten_cons, one_mul n]; rfl
end DL
namespace DL
open PySem PySem.Spec PyProof.Rows L2
/-! ### sorted texts, equal data -/
theorem ltCps_iff : ∀ a b : List Nat, PySem.Spec.ltCps a b = true ↔ a < b
  | [], [] => by simp [PySem.Spec.ltCps]
  | [], _ :: _ => by simp [PySem.Spec.ltCps]
  | _ :: _, [] => by simp [PySem.Spec.ltCps]
  | a :: r, b :: t => by
    rw [List.cons_lt_cons_iff, ← ltCps_iff r t]
    simp [PySem.Spec.ltCps]
def leS (a b : Str) : Prop := ¬ b.cps.toList < a.cps.toList
theorem leS_trans {a b c : Str} (h : leS a b) (g : leS b c) : leS a c := List.le_trans h g
theorem leS_anti {a b : Str} (h : leS a b) (g : leS b a) : a = b := by
  have e : a.cps.toList = b.cps.toList := List.le_antisymm h g
  cases a; cases b
  congr 1
  exact Array.ext' e
theorem rising_pw : ∀ {r : List Str} {p : Str}, PyProof.Rows.risingS p r = true → (p :: r).Pairwise leS
  | [], p, _ => List.pairwise_singleton _ _
  | x :: r, p, h => by
    have h' : (!PySem.Spec.ltCps x.cps.toList p.cps.toList && PyProof.Rows.risingS x r) = true := h
    rw [Bool.and_eq_true] at h'
    have i := rising_pw h'.2
    have hx : leS p x := fun z => by
      have := (ltCps_iff _ _).mpr z
      rw [this] at h'
      exact absurd h'.1 (by decide)
    refine List.pairwise_cons.mpr ⟨fun y hy => ?_, i⟩
    rcases List.mem_cons.mp hy with e | hy
    · rw [e]; exact hx
    · exact leS_trans hx ((List.pairwise_cons.mp i).1 y hy)
theorem sorted_pw {r : List Str} (h : PyProof.Rows.sortedS r = true) : r.Pairwise leS := by
  cases r with
  | nil => exact List.Pairwise.nil
  | cons x r => exact rising_pw h
theorem sorted_uniq {ys ss : List Str} (h : PyProof.Rows.sortedS ys = true) (p : ys.Perm ss) (g : ss.Pairwise leS) : ys = ss :=
  List.Perm.eq_of_pairwise (fun _ _ _ _ a b => leS_anti a b) (sorted_pw h) g p
theorem eqvAll_refl : ∀ {l : List PyData}, (∀ x ∈ l, PyData.eqv x x = true) → PyData.eqvAll l l = true
  | [], _ => rfl
  | x :: l, h => by
    show (PyData.eqv x x && PyData.eqvAll l l) = true
    rw [h x (by simp), eqvAll_refl fun y hy => h y (by simp [hy])]; rfl
theorem eqv_ints (l : List Int) : PyData.eqv (.list (l.map .int)) (.list (l.map .int)) = true := by
  show PyData.eqvAll _ _ = true
  refine eqvAll_refl fun x hx => ?_
  obtain ⟨i, _, rfl⟩ := List.mem_map.mp hx
  rw [eqv_int]; exact decide_eq_true rfl
theorem eqv_strs (l : List Str) : PyData.eqv (.list (l.map .str)) (.list (l.map .str)) = true := by
  show PyData.eqvAll _ _ = true
  refine eqvAll_refl fun x hx => ?_
  obtain ⟨i, _, rfl⟩ := List.mem_map.mp hx
  rw [eqv_str]; exact decide_eq_true rfl
theorem atI_neg1 {α : Type} {xs : List α} {v : α} (h : 0 < xs.length) (e : xs[xs.length - 1]? = some v) : atI xs (-1) = some v := by
  unfold atI ixN
  rw [if_neg (by decide), if_pos (by omega)]
  show xs[((-1 : Int) + xs.length).toNat]? = some v
  rw [show ((-1 : Int) + xs.length).toNat = xs.length - 1 by omega]
  exact e
theorem shp_wds (l : List (List Bool)) : SeqAt.shaped (.list (l.map fun w => .str (wd w))) = true := by
  refine shp (d := .list _) (okAll_map fun w _ => ok_wd w) ?_
  show PyData.depthAll _ + 1 ≤ 64
  have := depth_map (f := fun w => PyData.str (wd w)) (k := 0) (l := l) (fun _ _ => Nat.zero_le _)
  omega
end DL
namespace DL
open PySem PySem.Spec PyProof.Rows L2
section
variable {X : Cx} {a : Expr} {ta : DTE} {pos : Pos}
theorem dt_isN {j : Nat} {p2 : Pos} (ha : DE X a ta) (hm : behindInMarks .Is (.Constant .none j p2) = false := by rfl) : DT X (.Compare a [.Is] [.Constant .none j p2] pos) (dB (dIsN false ta)) := by
  obtain ⟨te, pa, s⟩ := ha
  refine ⟨_, pt_cmpR op_isN pa pe_non hm, fun F ρ O σ H A P Qd Q G q k => s F ρ O σ H A P _ _ G q fun r ρ1 v fp O1 H1 A1 P1 S1 G1 R1 N1 q1 => ?_⟩
  unfold dB dIsN at q
  cases e1 : view ρ1 r with
  | none => simp only [e1] at q1
  | some d =>
    simp only [e1] at q1
    have e2 := dv_none (view_ok G1 R1 e1)
    refine ⟨rfl, _, rfl, ?_⟩
    rw [e2]
    cases d <;> exact k _ ρ1 O1 H1 A1 P1 S1 G1 q1
theorem dt_isNotN {j : Nat} {p2 : Pos} (ha : DE X a ta) (hm : behindInMarks .IsNot (.Constant .none j p2) = false := by rfl) : DT X (.Compare a [.IsNot] [.Constant .none j p2] pos) (dB (dIsN true ta)) := by
  obtain ⟨te, pa, s⟩ := ha
  refine ⟨_, pt_cmpR op_notN pa pe_non hm, fun F ρ O σ H A P Qd Q G q k => s F ρ O σ H A P _ _ G q fun r ρ1 v fp O1 H1 A1 P1 S1 G1 R1 N1 q1 => ?_⟩
  unfold dB dIsN at q
  cases e1 : view ρ1 r with
  | none => simp only [e1] at q1
  | some d =>
    simp only [e1] at q1
    have e2 := dv_none (view_ok G1 R1 e1)
    refine ⟨rfl, _, rfl, ?_⟩
    rw [e2]
    cases d <;> exact k _ ρ1 O1 H1 A1 P1 S1 G1 q1
end
end DL
/-! diagrams -/
namespace DL
open PySem PySem.Spec PyProof.Rows L2
def apart (p q : Int × Int) : Prop := p.2 < q.1 ∨ q.2 < p.1 ∨ (p.1 < q.1 ∧ q.2 < p.2) ∨ (q.1 < p.1 ∧ p.2 < q.2)
theorem apart.symm {p q : Int × Int} (h : apart p q) : apart q p := by unfold apart at *; omega
/-- chords without a crossing, in any order -/
structure NC (n : Nat) (ps : List (Int × Int)) : Prop where
  len : ps.length = n
  inn : ∀ p ∈ ps, 1 ≤ p.1 ∧ p.1 < p.2 ∧ p.2 ≤ 2 * (n : Int)
  ap : ps.Pairwise apart
theorem NC.perm {n : Nat} {ps qs : List (Int × Int)} (h : NC n ps) (p : qs.Perm ps) : NC n qs :=
  ⟨p.length_eq.trans h.len, fun q hq => h.inn q (p.mem_iff.mp hq), (p.pairwise_iff fun h => h.symm).mpr h.ap⟩
/-- a diagram -/
structure Dg (n : Nat) (ps : List (Int × Int)) : Prop where
  nc : NC n ps
  asc : ps.Pairwise fun p q => p.1 < q.1
theorem NC.dg {n : Nat} {ps : List (Int × Int)} (h : NC n ps) (s : ps.Pairwise leP) : Dg n ps := by
  refine ⟨h, ?_⟩
  refine (List.Pairwise.and s h.ap).imp_of_mem fun {p q} mp mq r => ?_
  have hp := h.inn p mp
  have hq := h.inn q mq
  obtain ⟨r1, r2⟩ := r
  unfold leP at r1
  unfold apart at r2
  omega
theorem Dg.behind {n : Nat} {ps : List (Int × Int)} (h : Dg n ps) {i j : Nat} (hij : i < j) (hj : j < ps.length) : ps[i].1 < ps[j].1 ∧ (ps[i].2 < ps[j].1 ∨ ps[j].2 < ps[i].2) := by
  have h1 := List.pairwise_iff_getElem.mp h.asc i j (by omega) hj hij
  have h2 := List.pairwise_iff_getElem.mp h.nc.ap i j (by omega) hj hij
  have h3 := h.nc.inn _ (List.getElem_mem hj)
  have h4 := h.nc.inn _ (List.getElem_mem (show i < ps.length by omega))
  unfold apart at h2
  omega
theorem Dg.uniq {n : Nat} {ps qs : List (Int × Int)} (p : qs.Perm ps) (s : qs.Pairwise leP) (t : ps.Pairwise leP) : qs = ps :=
  List.Perm.eq_of_pairwise (fun a b _ _ h1 h2 => by unfold leP at h1 h2; exact Prod.ext (by omega) (by omega)) s t p
theorem Dg.le {n : Nat} {ps : List (Int × Int)} (h : Dg n ps) : ps.Pairwise leP := h.asc.imp fun h => .inl h
/-! ### renaming by a rotation -/
def rotp (N t p : Int) : Int := (p - 1 - t) % N + 1
def ren (f : Int → Int) (p : Int × Int) : Int × Int := (min (f p.1) (f p.2), max (f p.1) (f p.2))
theorem rotp_val {N t p : Int} (h1 : 1 ≤ p) (h2 : p ≤ N) : ∃ u, 0 ≤ u ∧ u < N ∧ u = t % N ∧ rotp N t p = if u < p then p - u else p - u + N := by
  have hN : 0 < N := by omega
  refine ⟨t % N, Int.emod_nonneg _ (by omega), Int.emod_lt_of_pos _ hN, rfl, ?_⟩
  have a0 := Int.emod_nonneg t (show N ≠ 0 by omega)
  have a1 := Int.emod_lt_of_pos t hN
  unfold rotp
  rw [show (p - 1 - t) % N = (p - 1 - t % N) % N by rw [Int.sub_emod (p - 1) t, Int.sub_emod (p - 1) (t % N), Int.emod_emod_of_dvd _ (Int.dvd_refl N)]]
  split
  · rw [Int.emod_eq_of_lt (by omega) (by omega)]; omega
  · rw [show p - 1 - t % N = (p - 1 - t % N + N) + N * (-1) by omega, Int.add_mul_emod_self_left, Int.emod_eq_of_lt (by omega) (by omega)]; omega
theorem min_max (a b : Int) : (a ≤ b ∧ min a b = a ∧ max a b = b) ∨ (b ≤ a ∧ min a b = b ∧ max a b = a) := by
  by_cases h : a ≤ b
  · exact .inl ⟨h, Int.min_eq_left h, Int.max_eq_right h⟩
  · exact .inr ⟨by omega, Int.min_eq_right (by omega), Int.max_eq_left (by omega)⟩
theorem NC.rot {n : Nat} {ps : List (Int × Int)} (h : NC n ps) (t : Int) : NC n (ps.map (ren (rotp (2 * (n : Int)) t))) := by
  have val : ∀ p : Int, 1 ≤ p → p ≤ 2 * (n : Int) → rotp (2 * (n : Int)) t p = if t % (2 * (n : Int)) < p then p - t % (2 * (n : Int)) else p - t % (2 * (n : Int)) + 2 * (n : Int) := fun p h1 h2 => by
    obtain ⟨u, _, _, rfl, e⟩ := rotp_val (t := t) h1 h2
    exact e
  refine ⟨by rw [List.length_map, h.len], fun q hq => ?_, ?_⟩
  · obtain ⟨p, hp, rfl⟩ := List.mem_map.mp hq
    have i := h.inn p hp
    have u0 := Int.emod_nonneg t (show 2 * (n : Int) ≠ 0 by omega)
    have u1 := Int.emod_lt_of_pos t (show 0 < 2 * (n : Int) by omega)
    have e1 := val p.1 (by omega) (by omega)
    have e2 := val p.2 (by omega) (by omega)
    unfold ren
    have mm := min_max (rotp (2 * (n : Int)) t p.1) (rotp (2 * (n : Int)) t p.2)
    generalize rotp (2 * (n : Int)) t p.1 = x at *
    generalize rotp (2 * (n : Int)) t p.2 = y at *
    show 1 ≤ min x y ∧ min x y < max x y ∧ max x y ≤ 2 * (n : Int)
    generalize t % (2 * (n : Int)) = u at *
    split at e1 <;> split at e2 <;> omega
  · refine List.pairwise_map.mpr (h.ap.imp_of_mem fun {p q} mp mq a => ?_)
    have ip := h.inn p mp
    have iq := h.inn q mq
    have u0 := Int.emod_nonneg t (show 2 * (n : Int) ≠ 0 by omega)
    have u1 := Int.emod_lt_of_pos t (show 0 < 2 * (n : Int) by omega)
    have e1 := val p.1 (by omega) (by omega)
    have e2 := val p.2 (by omega) (by omega)
    have e3 := val q.1 (by omega) (by omega)
    have e4 := val q.2 (by omega) (by omega)
    unfold ren apart
    have m1 := min_max (rotp (2 * (n : Int)) t p.1) (rotp (2 * (n : Int)) t p.2)
    have m2 := min_max (rotp (2 * (n : Int)) t q.1) (rotp (2 * (n : Int)) t q.2)
    generalize rotp (2 * (n : Int)) t p.1 = x at *
    generalize rotp (2 * (n : Int)) t p.2 = y at *
    generalize rotp (2 * (n : Int)) t q.1 = z at *
    generalize rotp (2 * (n : Int)) t q.2 = w at *
    show max x y < min z w ∨ max z w < min x y ∨ (min x y < min z w ∧ max z w < max x y) ∨ (min z w < min x y ∧ max x y < max z w)
    generalize t % (2 * (n : Int)) = u at *
    generalize 2 * (n : Int) = N at *
    unfold apart at a
    generalize min x y = a1 at *
    generalize max x y = a2 at *
    generalize min z w = a3 at *
    generalize max z w = a4 at *
    split at e1 <;> split at e2 <;> split at e3 <;> split at e4 <;> rcases a with a | a | a | a <;> rcases m1 with m1 | m1 <;> rcases m2 with m2 | m2 <;> omega
/-! ### two numbers in order -/
theorem two_sorted {a b : Int} {ns : List Int} (p : ns.Perm [a, b]) (s : ns.Pairwise (· ≤ ·)) : ns = [min a b, max a b] := by
  refine List.Perm.eq_of_pairwise (fun _ _ _ _ h1 h2 => Int.le_antisymm h1 h2) s ?_ (p.trans ?_)
  · have := min_max a b
    refine List.pairwise_cons.mpr ⟨fun x hx => ?_, List.pairwise_singleton _ _⟩
    rw [List.mem_singleton.mp hx]
    omega
  · rcases min_max a b with ⟨_, e1, e2⟩ | ⟨_, e1, e2⟩
    · rw [e1, e2]
    · rw [e1, e2]; exact List.Perm.swap _ _ _
/-! ### depths -/
def encl (c : Int × Int) (p : Int × Int) : Bool := decide (p.1 < c.1) && decide (c.2 < p.2)
theorem count_three {α : Type} (A B C : α → Bool) : ∀ l : List α, (∀ x ∈ l, (if A x then 1 else 0) + (if C x then 1 else 0) = (if B x then 1 else (0 : Nat))) → (l.filter A).length + (l.filter C).length = (l.filter B).length
  | [], _ => rfl
  | x :: l, h => by
    have i := count_three A B C l fun y hy => h y (by simp [hy])
    have e := h x (by simp)
    rw [List.filter_cons, List.filter_cons, List.filter_cons]
    revert e
    cases A x <;> cases B x <;> cases C x <;> simp <;> omega
theorem Dg.depth {n : Nat} {ps : List (Int × Int)} (h : Dg n ps) {c : Int × Int} (hc : c ∈ ps) : (ps.filter (encl c)).length + (ps.filter fun p => decide (p.2 < c.1)).length = (ps.filter fun p => decide (p.1 < c.1)).length := by
  refine count_three _ _ _ ps fun p hp => ?_
  have hi := h.nc.inn c hc
  have hj := h.nc.inn p hp
  have key : p = c ∨ apart p c := by
    obtain ⟨i, li, rfl⟩ := List.getElem_of_mem hp
    obtain ⟨j, lj, rfl⟩ := List.getElem_of_mem hc
    rcases Nat.lt_trichotomy i j with q | q | q
    · exact .inr (List.pairwise_iff_getElem.mp h.nc.ap i j li lj q)
    · subst q; exact .inl rfl
    · exact .inr (List.pairwise_iff_getElem.mp h.nc.ap j i lj li q).symm
  unfold encl
  rcases key with rfl | a
  · simp
    omega
  · unfold apart at a
    by_cases c1 : p.1 < c.1
    · by_cases c2 : c.2 < p.2
      · rw [decide_eq_true c1, decide_eq_true c2, decide_eq_false (show ¬ p.2 < c.1 by omega)]; rfl
      · rw [decide_eq_true c1, decide_eq_false c2, decide_eq_true (show p.2 < c.1 by omega)]; rfl
    · rw [decide_eq_false c1, decide_eq_false (show ¬ p.2 < c.1 by omega)]; rfl
/-! ### the chords of a word, by a stack -/
structure StC (w : List Bool) (i : Nat) (st : List Int) (fs : List (Int × Int)) : Prop where
  num : st.length + 2 * fs.length = i
  hgt : (st.length : Int) = hp w i
  stin : ∀ s ∈ st, 1 ≤ s ∧ s ≤ i
  sasc : st.Pairwise (· < ·)
  fin : ∀ p ∈ fs, 1 ≤ p.1 ∧ p.1 < p.2 ∧ p.2 ≤ i
  fap : fs.Pairwise apart
  sf : ∀ s ∈ st, ∀ p ∈ fs, p.2 < s ∨ s < p.1
theorem StC.start (w : List Bool) : StC w 0 [] [] := ⟨rfl, rfl, fun _ h => absurd h (by simp), List.Pairwise.nil, fun _ h => absurd h (by simp), List.Pairwise.nil, fun _ h => absurd h (by simp)⟩
theorem StC.push {w : List Bool} {i : Nat} {st : List Int} {fs : List (Int × Int)} (S : StC w i st fs) (h : i < w.length) (hb : w[i] = true) : StC w (i + 1) (st ++ [(i : Int) + 1]) fs := by
  have hs := hp_succ h
  rw [hb] at hs
  simp at hs
  refine ⟨by have := S.num; simp; omega, by have := S.hgt; simp; omega, fun s hs => ?_, ?_, fun p hp => ?_, S.fap, fun s hs p hp => ?_⟩
  · rcases List.mem_append.mp hs with e | e
    · have := S.stin s e; omega
    · rw [List.mem_singleton.mp e]; omega
  · refine List.pairwise_append.mpr ⟨S.sasc, List.pairwise_singleton _ _, fun a ha b hb => ?_⟩
    rw [List.mem_singleton.mp hb]
    have := S.stin a ha; omega
  · have := S.fin p hp; omega
  · rcases List.mem_append.mp hs with e | e
    · exact S.sf s e p hp
    · rw [List.mem_singleton.mp e]
      have := S.fin p hp; omega
theorem StC.pop {w : List Bool} {i : Nat} {st : List Int} {s : Int} {fs : List (Int × Int)} (S : StC w i (st ++ [s]) fs) (h : i < w.length) (hb : w[i] = false) : StC w (i + 1) st (fs ++ [(s, (i : Int) + 1)]) := by
  have hs := hp_succ h
  rw [hb] at hs
  simp at hs
  have as := List.pairwise_append.mp S.sasc
  have s1 := S.stin s (by simp)
  refine ⟨by have := S.num; simp at this ⊢; omega, by have := S.hgt; simp at this; omega, fun t ht => ?_, as.1, fun p hp => ?_, ?_, fun t ht p hp => ?_⟩
  · have := S.stin t (by simp [ht]); omega
  · rcases List.mem_append.mp hp with e | e
    · have := S.fin p e; omega
    · rw [List.mem_singleton.mp e]
      show 1 ≤ s ∧ s < (i : Int) + 1 ∧ (i : Int) + 1 ≤ ((i + 1 : Nat) : Int)
      omega
  · refine List.pairwise_append.mpr ⟨S.fap, List.pairwise_singleton _ _, fun a ha b hb => ?_⟩
    rw [List.mem_singleton.mp hb]
    have q := S.sf s (by simp) a ha
    have := S.fin a ha
    unfold apart
    show a.2 < s ∨ (i : Int) + 1 < a.1 ∨ (a.1 < s ∧ (i : Int) + 1 < a.2) ∨ (s < a.1 ∧ a.2 < (i : Int) + 1)
    omega
  · rcases List.mem_append.mp hp with e | e
    · exact S.sf t (by simp [ht]) p e
    · rw [List.mem_singleton.mp e]
      exact .inr (as.2.2 t ht s (by simp))
theorem StC.nc {n : Nat} {w : List Bool} {st : List Int} {fs : List (Int × Int)} (S : StC w w.length st fs) (D : Dyck n w) : NC n fs := by
  have h0 := S.hgt
  rw [hp_len, D.end0] at h0
  have h1 := S.num
  have h2 := D.len
  refine ⟨by omega, fun p hp => ?_, S.fap⟩
  have := S.fin p hp
  omega
theorem StC.ne {w : List Bool} {i : Nat} {st : List Int} {fs : List (Int × Int)} (S : StC w i st fs) (h : i < w.length) (hb : w[i] = false) (pos : ∀ j, 0 ≤ hp w j) : ∃ st' s, st = st' ++ [s] := by
  have hs := hp_succ h
  rw [hb] at hs
  simp at hs
  have h1 := pos (i + 1)
  have h2 := S.hgt
  have : st ≠ [] := fun z => by rw [z] at h2; simp at h2; omega
  exact ⟨st.dropLast, st.getLast this, (List.dropLast_concat_getLast this).symm⟩
/-! ### data -/
theorem okD_pr {p : Int × Int} (h1 : p.1.natAbs < 1000000000000) (h2 : p.2.natAbs < 1000000000000) : okD (prD p) = true := by
  show (okD (.int p.1) && (okD (.int p.2) && true)) = true
  rw [show okD (.int p.1) = true from decide_eq_true h1, show okD (.int p.2) = true from decide_eq_true h2]; rfl
theorem Dg.ok {n : Nat} {ps : List (Int × Int)} (h : Dg n ps) (hn : n ≤ 30) : okAll (ps.map prD) = true := okAll_map fun p hp => by
  have := h.nc.inn p hp
  exact okD_pr (by omega) (by omega)
theorem pr_sz (ps : List (Int × Int)) : szAll (ps.map prD) ≤ 3 * ps.length := szAll_map fun p _ => by
  show szD (.int p.1) + (szD (.int p.2) + 0) + 1 ≤ 3
  exact Nat.le_refl _
theorem pr_dp (ps : List (Int × Int)) : PyData.depthAll (ps.map prD) ≤ 1 := depth_map fun p _ => Nat.le_refl _
theorem nth_pr {ps : List (Int × Int)} {i : Nat} (h : i < ps.length) : nth (ps.map prD) i = prD ps[i] := nth_map h
theorem eqv_pr (p q : Int × Int) : PyData.eqv (prD p) (prD q) = (decide (p.1 = q.1) && (decide (p.2 = q.2) && true)) := by
  show (PyData.eqv (.int p.1) (.int q.1) && (PyData.eqv (.int p.2) (.int q.2) && true)) = _
  rw [eqv_int, eqv_int]
theorem shp_pr (p : Int × Int) : SeqAt.shaped (prD p) = true := rfl
theorem take_filter_map {α β : Type} (g : α → Bool) (f : α → β) {l : List α} {i : Nat} (h : i < l.length) : ((l.take (i + 1)).filter g).map f = ((l.take i).filter g).map f ++ (if g l[i] then [f l[i]] else []) := by
  rw [List.take_succ, List.getElem?_eq_getElem h, List.filter_append, List.map_append]
  congr 1
  show (([l[i]] : List α).filter g).map f = _
  rw [List.filter_cons]
  cases g l[i] <;> rfl
theorem rep_sm {d : PyData} (h : okD d = true) (hd : d.depth ≤ 64) (hz : szD d ≤ 20000) : d.showable = true ∧ d.hasDict = false ∧ d.depth ≤ 64 ∧ d.shown.length ≤ sizeLine := rep_facts h hd hz
end DL
/-! words and their diagrams -/
namespace DL
open PySem PySem.Spec PyProof.Rows L2
theorem hp_step (w : List Bool) (i : Nat) : hp w (i + 1) = hp w i ∨ (∃ h : i < w.length, hp w (i + 1) = hp w i + if w[i] then 1 else -1) := by
  by_cases h : i < w.length
  · exact .inr ⟨h, hp_succ h⟩
  · left
    rw [hp_over (show w.length ≤ i + 1 by omega), hp_over (show w.length ≤ i by omega)]
/-- every opener has its closer -/
theorem cl_exists {n : Nat} {w : List Bool} (D : Dyck n w) {k : Nat} (h : k < w.length) (hb : w[k] = true) : ∃ m, Cl w k m := by
  have hs := hp_succ h
  rw [hb] at hs
  simp at hs
  have key : ∀ d, (∀ j, k < j → j ≤ k + 1 + d → hp w k < hp w j) ∨ ∃ m, Cl w k m := by
    intro d
    induction d with
    | zero => exact .inl fun j h1 h2 => by rw [show j = k + 1 by omega]; omega
    | succ d ih =>
      rcases ih with ih | ih
      · by_cases c : hp w k < hp w (k + 1 + d + 1)
        · exact .inl fun j h1 h2 => by
            by_cases hj : j ≤ k + 1 + d
            · exact ih j h1 hj
            · rw [show j = k + 1 + d + 1 by omega]; exact c
        · refine .inr ⟨k + 1 + d, by omega, ?_, ?_, fun j h1 h2 => ih j h1 h2⟩
          · have h1 := ih (k + 1 + d) (by omega) (Nat.le_refl _)
            rcases hp_step w (k + 1 + d) with e | ⟨e, _⟩
            · omega
            · exact e
          · have h1 := ih (k + 1 + d) (by omega) (Nat.le_refl _)
            rcases hp_step w (k + 1 + d) with e | ⟨e1, e⟩
            · omega
            · revert e
              cases w[k + 1 + d] <;> simp <;> omega
      · exact .inr ih
  rcases key w.length with q | q
  · have h1 := q w.length h (by omega)
    have h2 := D.pos k
    rw [hp_len, D.end0] at h1
    omega
  · exact q
open Classical in
noncomputable def clo (w : List Bool) (k : Nat) : Nat := if h : ∃ m, Cl w k m then h.choose else 0
theorem clo_cl {w : List Bool} {k m : Nat} (h : Cl w k m) : clo w k = m := by
  have e : ∃ m, Cl w k m := ⟨m, h⟩
  unfold clo
  rw [dif_pos e]
  exact e.choose_spec.right h
/-- the chords of a word, in order -/
noncomputable def cdsT (w : List Bool) (j : Nat) : List (Int × Int) := ((List.range j).filter fun k => w.getD k false).map fun (k : Nat) => ((k : Int) + 1, ((clo w k : Nat) : Int) + 1)
noncomputable def cds (w : List Bool) : List (Int × Int) := cdsT w w.length
theorem cdsT_succ {w : List Bool} {j : Nat} (h : j < w.length) : cdsT w (j + 1) = cdsT w j ++ (if w[j] then [((j : Int) + 1, ((clo w j : Nat) : Int) + 1)] else []) := by
  unfold cdsT
  rw [List.range_succ, List.filter_append, List.map_append]
  congr 1
  have e : w.getD j false = w[j] := by rw [List.getD_eq_getElem?_getD, List.getElem?_eq_getElem h]; rfl
  rw [List.filter_cons, e]
  cases w[j] <;> rfl
theorem cdsT_len (w : List Bool) (j : Nat) : (cdsT w j).length ≤ j := by
  unfold cdsT
  rw [List.length_map]
  exact Nat.le_trans (List.length_filter_le _ _) (by simp)
/-- chords in any order that are those of a word -/
structure WD (n : Nat) (w : List Bool) (ps : List (Int × Int)) : Prop where
  dy : Dyck n w
  len : ps.length = n
  nd : ps.Nodup
  mem : ∀ a b : Int, (a, b) ∈ ps ↔ ∃ p q : Nat, a = (p : Int) + 1 ∧ b = (q : Int) + 1 ∧ Cl w p q
theorem WD.perm {n : Nat} {w : List Bool} {ps qs : List (Int × Int)} (h : WD n w ps) (p : qs.Perm ps) : WD n w qs :=
  ⟨h.dy, p.length_eq.trans h.len, (p.nodup_iff).mpr h.nd, fun a b => by rw [p.mem_iff, h.mem]⟩
theorem cl_apart {w : List Bool} {p q r s : Nat} (a : Cl w p q) (b : Cl w r s) (ne : p ≠ r) : apart ((p : Int) + 1, (q : Int) + 1) ((r : Int) + 1, (s : Int) + 1) := by
  have hpq := a.1
  have hrs := b.1
  unfold apart
  show (q : Int) + 1 < (r : Int) + 1 ∨ (s : Int) + 1 < (p : Int) + 1 ∨ ((p : Int) + 1 < (r : Int) + 1 ∧ (s : Int) + 1 < (q : Int) + 1) ∨ ((r : Int) + 1 < (p : Int) + 1 ∧ (q : Int) + 1 < (s : Int) + 1)
  have nqs : q ≠ s := fun z => by subst z; exact ne (a.left b)
  have nqr : q ≠ r := fun z => by
    subst z
    have h1 := a.down a.2.1
    have h2 := b.up a.2.1
    rw [h1] at h2; cases h2
  have nsp : s ≠ p := fun z => by
    subst z
    have h1 := b.down b.2.1
    have h2 := a.up b.2.1
    rw [h1] at h2; cases h2
  -- no crossing
  have c1 : ¬ (p < r ∧ r < q ∧ q < s) := fun ⟨z1, z2, z3⟩ => by
    have h1 := a.2.2.2 r z1 (by omega)
    have h2 := b.2.2.2 (q + 1) (by omega) (by omega)
    have h3 := a.2.2.1
    omega
  have c2 : ¬ (r < p ∧ p < s ∧ s < q) := fun ⟨z1, z2, z3⟩ => by
    have h1 := b.2.2.2 p z1 (by omega)
    have h2 := a.2.2.2 (s + 1) (by omega) (by omega)
    have h3 := b.2.2.1
    omega
  omega
theorem WD.nc {n : Nat} {w : List Bool} {ps : List (Int × Int)} (h : WD n w ps) : NC n ps := by
  have dl := h.dy.len
  refine ⟨h.len, fun x hx => ?_, ?_⟩
  · obtain ⟨p, q, e1, e2, c⟩ := (h.mem x.1 x.2).mp hx
    have := c.1; have := c.2.1
    omega
  · refine List.Pairwise.imp_of_mem (fun {x y} mx my ne => ?_) h.nd
    obtain ⟨p, q, e1, e2, c⟩ := (h.mem x.1 x.2).mp mx
    obtain ⟨r, s, e3, e4, d⟩ := (h.mem y.1 y.2).mp my
    have hne : p ≠ r := fun z => by
      subst z
      have := c.right d
      subst this
      exact ne (Prod.ext (by omega) (by omega))
    have ap := cl_apart c d hne
    rw [← e1, ← e2, ← e3, ← e4] at ap
    exact ap
theorem ups_ht : ∀ w : List Bool, ht w = 2 * ((w.filter id).length : Int) - w.length
  | [] => rfl
  | true :: w => by
    have e : ht (true :: w) = 1 + ht w := rfl
    rw [e, ups_ht w, List.filter_cons_of_pos (by rfl)]
    simp only [List.length_cons]
    omega
  | false :: w => by
    have e : ht (false :: w) = -1 + ht w := rfl
    rw [e, ups_ht w, List.filter_cons_of_neg (by decide)]
    simp only [List.length_cons]
    omega
theorem range_ups : ∀ (w : List Bool) (j : Nat), j ≤ w.length → ((List.range j).filter fun k => w.getD k false).length = ((w.take j).filter id).length
  | w, 0, _ => by simp
  | w, j + 1, h => by
    have hj : j < w.length := h
    rw [List.range_succ, List.filter_append, List.length_append, range_ups w j (by omega), List.take_succ, List.getElem?_eq_getElem hj, List.filter_append, List.length_append]
    congr 1
    have e : w.getD j false = w[j] := by rw [List.getD_eq_getElem?_getD, List.getElem?_eq_getElem hj]; rfl
    show (List.filter (fun k => w.getD k false) [j]).length = (List.filter id [w[j]]).length
    rw [List.filter_cons, List.filter_cons, e]
    cases w[j] <;> rfl
theorem Dyck.cds {n : Nat} {w : List Bool} (D : Dyck n w) : WD n w (DL.cds w) ∧ (DL.cds w).Pairwise fun p q => p.1 < q.1 := by
  have dl := D.len
  have asc : (DL.cds w).Pairwise fun p q => p.1 < q.1 := by
    unfold DL.cds cdsT
    refine List.pairwise_map.mpr (List.Pairwise.imp (fun {a b} h => ?_) (List.Pairwise.filter _ List.pairwise_lt_range))
    show (a : Int) + 1 < (b : Int) + 1
    omega
  refine ⟨⟨D, ?_, asc.imp fun h z => by rw [z] at h; exact absurd h (Int.lt_irrefl _), fun a b => ⟨fun h => ?_, fun h => ?_⟩⟩, asc⟩
  · unfold DL.cds cdsT
    rw [List.length_map, range_ups w w.length (Nat.le_refl _), List.take_length]
    have := ups_ht w
    rw [D.end0, dl] at this
    omega
  · unfold DL.cds cdsT at h
    obtain ⟨k, hk, e⟩ := List.mem_map.mp h
    obtain ⟨h1, h2⟩ := List.mem_filter.mp hk
    have hk1 := List.mem_range.mp h1
    rw [List.getD_eq_getElem?_getD, List.getElem?_eq_getElem hk1] at h2
    obtain ⟨m, c⟩ := cl_exists D hk1 h2
    injection e with e1 e2
    exact ⟨k, m, e1.symm, by rw [← e2, clo_cl c], c⟩
  · obtain ⟨p, q, rfl, rfl, c⟩ := h
    have hp : p < w.length := by have := c.1; have := c.2.1; omega
    unfold DL.cds cdsT
    refine List.mem_map.mpr ⟨p, List.mem_filter.mpr ⟨List.mem_range.mpr hp, ?_⟩, by rw [clo_cl c]⟩
    rw [List.getD_eq_getElem?_getD, List.getElem?_eq_getElem hp]
    exact c.up hp
theorem Dyck.dg {n : Nat} {w : List Bool} (D : Dyck n w) : Dg n (DL.cds w) := ⟨D.cds.1.nc, D.cds.2⟩
theorem WD.eq {n : Nat} {w : List Bool} {ps : List (Int × Int)} (h : WD n w ps) (s : ps.Pairwise leP) : ps = DL.cds w := by
  have c := h.dy.cds
  refine List.Perm.eq_of_pairwise (le := leP) (fun a b _ _ h1 h2 => by unfold leP at h1 h2; exact Prod.ext (by omega) (by omega)) s (c.2.imp fun h => .inl h) ?_
  refine (List.perm_ext_iff_of_nodup h.nd c.1.nd).mpr fun x => ?_
  have h1 := h.mem x.1 x.2
  have h2 := c.1.mem x.1 x.2
  exact h1.trans h2.symm
/-! ### one more chord between neighbours -/
def ins (w : List Bool) (t : Nat) : List Bool := w.take t ++ true :: false :: w.drop t
theorem ins_len {w : List Bool} {t : Nat} (h : t ≤ w.length) : (ins w t).length = w.length + 2 := by
  unfold ins
  rw [List.length_append, List.length_cons, List.length_cons, List.length_take, List.length_drop]
  omega
theorem hp_ins {w : List Bool} {t : Nat} (h : t ≤ w.length) (i : Nat) : hp (ins w t) i = if i ≤ t then hp w i else if i = t + 1 then hp w t + 1 else hp w (i - 2) := by
  have lt : (w.take t).length = t := by rw [List.length_take]; omega
  unfold ins
  by_cases h1 : i ≤ t
  · rw [if_pos h1, hp_app_le (by omega)]
    unfold hp
    rw [List.take_take, Nat.min_eq_left h1]
  · rw [if_neg h1, hp_app_ge (u := w.take t) (z := true :: false :: w.drop t) (i := i) (by rw [lt]; omega), lt]
    have e0 : ht (w.take t) = hp w t := rfl
    rw [e0]
    obtain ⟨d, rfl⟩ : ∃ d, i = t + 1 + d := ⟨i - t - 1, by omega⟩
    rw [show t + 1 + d - t = d + 1 by omega, hp_cons]
    cases d with
    | zero => rw [if_pos (show t + 1 + 0 = t + 1 from rfl), hp_zero]; simp
    | succ d =>
      rw [if_neg (show ¬ t + 1 + (d + 1) = t + 1 by omega), hp_cons, show t + 1 + (d + 1) - 2 = t + d by omega]
      have e1 : hp w (t + d) = hp w t + hp (w.drop t) d := by
        have := hp_app_ge (u := w.take t) (z := w.drop t) (i := t + d) (by rw [lt]; omega)
        rw [List.take_append_drop, lt, show t + d - t = d by omega] at this
        exact this
      rw [e1]
      show hp w t + (1 + (-1 + hp (w.drop t) d)) = hp w t + hp (w.drop t) d
      omega
theorem dyck_ins {n t : Nat} {w : List Bool} (D : Dyck n w) (h : t ≤ w.length) : Dyck (n + 1) (ins w t) := by
  have dl := D.len
  have hl := ins_len h
  refine ⟨by omega, ?_, fun i => ?_⟩
  · rw [← hp_len, hl, hp_ins h, if_neg (by omega), if_neg (by omega), show w.length + 2 - 2 = w.length by omega, hp_len, D.end0]
  · rw [hp_ins h]
    split
    · exact D.pos i
    · split
      · have := D.pos t; omega
      · exact D.pos _
def sh (t p : Nat) : Nat := if t ≤ p then p + 2 else p
theorem cl_ins_new {w : List Bool} {t : Nat} (h : t ≤ w.length) : Cl (ins w t) t (t + 1) := by
  refine ⟨by omega, by rw [ins_len h]; omega, ?_, fun j h1 h2 => ?_⟩
  · have e1 := hp_ins h t
    have e2 := hp_ins h (t + 1 + 1)
    rw [if_pos (Nat.le_refl _)] at e1
    rw [if_neg (by omega), if_neg (by omega), show t + 1 + 1 - 2 = t by omega] at e2
    rw [e1, e2]
  · have e1 := hp_ins h t
    have e2 := hp_ins h (t + 1)
    rw [if_pos (Nat.le_refl _)] at e1
    rw [if_neg (by omega), if_pos rfl] at e2
    rw [show j = t + 1 by omega, e1, e2]; omega
theorem hp_sh {w : List Bool} {t p : Nat} (h : t ≤ w.length) : hp (ins w t) (sh t p) = hp w p := by
  unfold sh
  rw [hp_ins h]
  split
  · rw [if_neg (by omega), if_neg (by omega), Nat.add_sub_cancel]
  · rw [if_pos (by omega)]
theorem hp_sh1 {w : List Bool} {t p : Nat} (h : t ≤ w.length) : hp (ins w t) (sh t p + 1) = hp w (p + 1) := by
  unfold sh
  rw [hp_ins h]
  split
  · rw [if_neg (by omega), if_neg (by omega), show p + 2 + 1 - 2 = p + 1 by omega]
  · rw [if_pos (by omega)]
theorem cl_ins {w : List Bool} {t p q : Nat} (h : t ≤ w.length) (c : Cl w p q) : Cl (ins w t) (sh t p) (sh t q) := by
  have hpq := c.1
  have hq := c.2.1
  refine ⟨by unfold sh; split <;> split <;> omega, by rw [ins_len h]; unfold sh; split <;> omega, ?_, fun j h1 h2 => ?_⟩
  · rw [hp_sh1 h, hp_sh h]; exact c.2.2.1
  · rw [hp_sh h, hp_ins h]
    unfold sh at h1 h2
    split
    · refine c.2.2.2 j ?_ ?_ <;> (split at h1 <;> split at h2 <;> omega)
    · split
      · rename_i z1 z2
        have h3 : p < t := by split at h1 <;> split at h2 <;> omega
        have h4 : t ≤ q := by split at h1 <;> split at h2 <;> omega
        have := c.2.2.2 t h3 h4
        omega
      · refine c.2.2.2 (j - 2) ?_ ?_ <;> (split at h1 <;> split at h2 <;> omega)
theorem all_of_sub {α : Type} [BEq α] [LawfulBEq α] : ∀ {l m : List α}, l.Nodup → (∀ x ∈ l, x ∈ m) → m.length ≤ l.length → ∀ x ∈ m, x ∈ l
  | [], m, _, _, hl => by
    have e : m = [] := List.length_eq_zero_iff.mp (Nat.le_zero.mp hl)
    subst e
    exact fun x hx => hx
  | x :: l, m, nd, sub, hl => fun y hy => by
    have hx := sub x (by simp)
    have nd' := List.nodup_cons.mp nd
    by_cases e : y = x
    · rw [e]; simp
    · refine List.mem_cons_of_mem _ (all_of_sub (m := m.erase x) nd'.2 (fun z hz => ?_) ?_ y ((List.mem_erase_of_ne e).mpr hy))
      · have hne : z ≠ x := fun q => nd'.1 (q ▸ hz)
        exact (List.mem_erase_of_ne hne).mpr (sub z (by simp [hz]))
      · rw [List.length_erase_of_mem hx]
        simp only [List.length_cons] at hl
        omega
/-- how the chords are renumbered -/
def shp2 (t : Int) (p : Int × Int) : Int × Int := (p.1 + 2 * (if t < p.1 then 1 else 0), p.2 + 2 * (if t < p.2 then 1 else 0))
theorem WD.ins {n t : Nat} {w : List Bool} {ps : List (Int × Int)} (h : WD n w ps) (ht : t ≤ w.length) : WD (n + 1) (DL.ins w t) (ps.map (shp2 (t : Int)) ++ [((t : Int) + 1, (t : Int) + 2)]) := by
  have fwd : ∀ a b : Int, (a, b) ∈ ps.map (shp2 (t : Int)) ++ [((t : Int) + 1, (t : Int) + 2)] → ∃ p q : Nat, a = (p : Int) + 1 ∧ b = (q : Int) + 1 ∧ Cl (DL.ins w t) p q := fun a b hm => by
    rcases List.mem_append.mp hm with e | e
    · obtain ⟨x, hx, e⟩ := List.mem_map.mp e
      obtain ⟨p, q, e1, e2, c⟩ := (h.mem x.1 x.2).mp hx
      unfold shp2 at e
      injection e with e3 e4
      refine ⟨sh t p, sh t q, ?_, ?_, cl_ins ht c⟩
      · rw [← e3, e1]; unfold sh; split <;> split <;> omega
      · rw [← e4, e2]; unfold sh; split <;> split <;> omega
    · have e' := List.mem_singleton.mp e
      injection e' with e1 e2
      exact ⟨t, t + 1, e1, by omega, cl_ins_new ht⟩
  have inj : ∀ x y : Int × Int, shp2 (t : Int) x = shp2 (t : Int) y → x = y := fun x y e => by
    unfold shp2 at e
    injection e with e1 e2
    refine Prod.ext ?_ ?_
    · split at e1 <;> split at e1 <;> omega
    · split at e2 <;> split at e2 <;> omega
  have nd : (ps.map (shp2 (t : Int)) ++ [((t : Int) + 1, (t : Int) + 2)]).Nodup := by
    refine List.nodup_append.mpr ⟨?_, by simp, fun a ha b hb => ?_⟩
    · refine List.pairwise_map.mpr (h.nd.imp fun {x y} ne e => ne (inj x y e))
    · obtain ⟨x, hx, e⟩ := List.mem_map.mp ha
      rw [List.mem_singleton.mp hb, ← e]
      intro z
      unfold shp2 at z
      injection z with z1 _
      split at z1 <;> omega
  have D2 := dyck_ins h.dy ht
  have len : (ps.map (shp2 (t : Int)) ++ [((t : Int) + 1, (t : Int) + 2)]).length = n + 1 := by rw [List.length_append, List.length_map, h.len]; rfl
  refine ⟨D2, len, nd, fun a b => ⟨fwd a b, fun hr => ?_⟩⟩
  -- as many as the word has, so all of them
  have c := D2.cds
  have m2 := (c.1.mem a b).mpr hr
  exact all_of_sub nd (fun x hx => (c.1.mem x.1 x.2).mpr (fwd x.1 x.2 hx)) (by rw [c.1.len, len]; exact Nat.le_refl _) _ m2
theorem WD.none : WD 0 [] [] := ⟨dyck_of rfl rfl (by decide), rfl, List.Pairwise.nil, fun a b => ⟨fun h => absurd h (by simp), fun ⟨p, q, _, _, c⟩ => by have := c.2.1; simp at this⟩⟩
/-- lows are the openers -/
theorem WD.low {n : Nat} {w : List Bool} {ps : List (Int × Int)} (h : WD n w ps) {k : Nat} (hk : k < w.length) : (ps.any fun p => decide (p.1 = (k : Int) + 1)) = w[k] := by
  cases hb : w[k] with
  | true =>
    obtain ⟨m, c⟩ := cl_exists h.dy hk hb
    exact List.any_eq_true.mpr ⟨_, (h.mem _ _).mpr ⟨k, m, rfl, rfl, c⟩, decide_eq_true rfl⟩
  | false =>
    refine List.any_eq_false.mpr fun x hx => ?_
    obtain ⟨p, q, e1, _, c⟩ := (h.mem x.1 x.2).mp hx
    intro z
    have z' := of_decide_eq_true z
    have : p = k := by omega
    subst this
    have := c.up hk
    rw [hb] at this; cases this
end DL
namespace DL
open PySem PySem.Spec PyProof.Rows L2
/-! ### defs that change their first argument's object, and call repr -/
theorem fnIG_ok {P : Program} {w : World} {K : Fg} {mg : Str → Option Value} {base : Heap} {x qual : Str} {st : Stmt} {f : Addr} {fd : FuncData} {N ps : List Str} {k : Nat} {sp : DSpI} (Fn : Fun K x qual st f fd) (S : FnScope N ps (defScope st)) (hN : N ≠ []) (len : ∀ wo ds Q, sp wo ds Q → ds.length + 1 = ps.length)
    (hbody : ∀ (cdv : Value) (A : Around) (outer : List Env) (s : Shared) (H : Hp) (E : XK), Room k (A.deeper (envOfC qual (defScope st) s.heap.objs.size f cdv)) → A.guards = some [] →
      ∃ t, DSs (cxOf CX0 P w K mg base N qual (defScope st) f cdv A outer s H E).nox true (defBody st) t ∧ ∀ wo ds Qd, sp wo ds Qd →
        t { nx := fun ρ => ∃ wo', slot ρ 0 = .own wo' ∧ Qd .none wo', rt := fun r ρ => ∃ d wo', r = .d d ∧ slot ρ 0 = .own wo' ∧ Qd d wo' } (.own wo :: startD (N.length - 1) ds)) :
    FnG P w K mg base CX0 (k + 1) f fd ps (spI K sp) := by
  refine fnG_body Fn S (fun vs H Q E h => ?_) fun cdv A outer s H vs Q E hr hg h => ?_
  · obtain ⟨O, a, fp, wo, ds, Qd, ws, e, _, _, _, _, D, q, _⟩ := h
    rw [e, List.length_cons, D.length, len wo ds Qd q]
  · obtain ⟨O, a, fp, wo, ds, Qd, ws, rfl, hd, ho, hf, hw, D, q, fin⟩ := h
    obtain ⟨t, ⟨ts, p, s⟩, hq⟩ := hbody cdv A outer s H E hr hg
    have last : ∀ {ρ : DEnv} {O' : Own} {H' : Hp} {d : PyData} {v : V} {wo' : Ow}, Aft K (fxI H O a fp) ρ O' H' → Dv K (Hs H' O') d v → slot ρ 0 = .own wo' → Qd d wo' → Q v H' := fun {ρ O' H' d v wo'} af dv es q' => by
      obtain ⟨fp', g1, g2⟩ := af.io a wo' rfl es
      exact fin d wo' v H' fp' af.frame af.alive g1 (fun b hb => (g2 b hb).1) (Dv.mono (Hs_mono fun b o e n => ⟨e, fun z => z.elim (fun z => n (af.base b z)) fun z => n (g2 b z).2⟩) dv) q'
    refine ⟨ts, p, s (fxI H O a fp) _ O _ H _ _ _ _ (fun z => nomatch z) (start_goodI hN hd ho hf hw D) ⟨fun ρ O' σ H' A' P' G q' => ?_, fun _ _ _ _ _ _ _ z => z, fun _ _ _ _ _ _ _ z => z, fun r ρ v O' H' af rt q' => ?_⟩ (hq wo ds Qd q)⟩
    · obtain ⟨wo', e1, q2⟩ := q'
      exact last G.aft (show Dv K (Hs H' O') .none .non from rfl) e1 q2
    · obtain ⟨d, wo', rfl, e1, q2⟩ := q'
      exact last af rt e1 q2
section
variable {X : Cx} {io : Bool} {e a b c o tg : Expr} {es : List Expr} {pos : Pos} {tl : DTL} {ta tb : DTE}
theorem de_callIG (i : Nat) {CX : CXT} {k : Nat} {f : Addr} {fd : FuncData} {ps : List Str} {sp : DSpI} {E : XK} {x y : Str} {p p2 : Pos} (Fo : FnG X.prog X.w X.K X.mg X.base CX k f fd ps (spI X.K sp)) (hr : Room k X.A) (hgd : X.A.guards = some []) (hg : Gl X x) (hm : X.mg x = some (.ref f)) (hk : PySem.W.keepIn X.K (.ref f) = true) (hb : Binds X.K fd ps []) (hx : Passes CX X E)
    (ha : DLs X es tl) (hN : X.N[i]? = some y := by rfl) (hv : Vis X.env.scope y := by first | exact Or.inl rfl | exact Or.inr (Or.inl rfl)) (hdb : (x == ("__debug__" : Str)) = false := by decide) (hd : (y == ("__debug__" : Str)) = false := by decide) (hcd : (y == ("__classdict__" : Str)) = false := by decide)
    (he : starEach (.Name y p2 :: es) X.env = (false, eval (.Name y p2) X.env) :: starEach es X.env := by rfl) (hpl : (backTo pos (starEach es X.env)).any (·.1) = false := by rfl) : DE X (.Call (.Name x p) (.Name y p2 :: es) [] pos) (dCallI i sp tl) := by
  obtain ⟨te, pa, s⟩ := ha
  exact ⟨_, pe_callG Fo hr hgd hg hm hk hb hx (pa_cons (pe_var hN hv hd hcd) pa he) hdb he hpl, sim_callI s⟩
/-! ### list(range(a, b)) -/
def dLstR (ta tb : DTE) : DTE := fun ρ Q => ta ρ fun r ρ1 => tb ρ1 fun s ρ2 => match view ρ2 r, view ρ2 s with
  | some (.int i), some (.int j) => (0 ≤ i ∧ i ≤ 100000 ∧ 0 ≤ j ∧ j ≤ 100000) ∧ Q (.n (.lst ((List.range (j - i).toNat).map fun (k : Nat) => .int (i + k)))) ρ2
  | _, _ => False
theorem rgV_dv {K : Fg} {H : Hp} (a b : Int) : DvL K H ((List.range (b - a).toNat).map fun (k : Nat) => PyData.int (a + k)) (rgV a b) := by
  unfold rgV
  have : ((List.range (b - a).toNat).map fun (k : Nat) => PyData.int (a + k)) = ((List.range (b - a).toNat).map fun (k : Nat) => a + (k : Int)).map PyData.int := by rw [List.map_map]; rfl
  rw [this]
  have e2 : ((List.range (b - a).toNat).map fun i => V.int (a + (i : Nat))) = ((List.range (b - a).toNat).map fun (k : Nat) => a + (k : Int)).map V.int := by rw [List.map_map]; rfl
  rw [e2]
  exact DvL.of_ints _
theorem de_listR {p p2 pos2 : Pos} (hc : X.calm = true) (hg : Gl X "list") (hm : X.mg "list" = none) (hg2 : Gl X "range") (hm2 : X.mg "range" = none) (ha : DE X a ta) (hb : DE X b tb)
    (na : starEach [a, b] X.env = (false, eval a X.env) :: starEach [b] X.env := by rfl) (nb : starEach [b] X.env = (false, eval b X.env) :: starEach [] X.env := by rfl)
    (n2 : starEach [.Call (.Name "range" p2) [a, b] [] pos2] X.env = (false, eval (.Call (.Name "range" p2) [a, b] [] pos2) X.env) :: starEach [] X.env := by rfl) :
    DE X (.Call (.Name "list" p) [.Call (.Name "range" p2) [a, b] [] pos2] [] pos) (dLstR ta tb) := by
  obtain ⟨ea, pa, sa⟩ := ha
  obtain ⟨eb, pb, sb⟩ := hb
  refine ⟨_, pe_listRg hc hg hm (prg_2 hg2 hm2 pa pb na nb (by rw [nb]; rfl)) n2, fun F ρ O σ H A P Qd Q G q k => ?_⟩
  refine sa F ρ O σ H A P _ _ G q fun r1 ρ1 v1 fp1 O1 H1 A1 P1 S1 G1 R1 N1 q1 => sb F ρ1 O1 σ H1 A1 P1 _ _ G1 q1 fun r2 ρ2 v2 fp2 O2 H2 A2 P2 S2 G2 R2 N2 q2 => ?_
  have R1' := S2.rk R1
  split at q2
  · next i j e1 e2 =>
    have V1 : v1 = V.int i := view_ok G2 R1' e1
    have V2 : v2 = V.int j := view_ok G2 R2 e2
    refine ⟨i, j, V1, V2, RgOk.of_le q2.1.1 (by omega) (by omega) q2.1.2.2.1, fun p hp => ?_⟩
    obtain ⟨O3, fo, S3, G3, R3, N3⟩ := (Out.lst G2.dom hp (rgV_dv (K := X.K) i j)).fin G2
    exact k _ ρ2 _ fo O3 _ A2 P2 ((S1.trans S2).trans S3) G3 R3 ((S1.trans S2).back N3) q2.2
  · exact q2.elim
/-! ### enumerate(tuple, start=k) -/
variable {p tpos kpos : Pos} {elts : List Expr} {kk : Nat}
theorem pi_enumTk {te : TA} {k : Int} {j : Nat} {c : Pos} (hg : Gl X "enumerate") (hm : X.mg "enumerate" = none) (he : PA X [e] te) (h0 : -(2 ^ 63) ≤ k) (h1 : k < 2 ^ 63) (hs : starEach [e] X.env = [(false, eval e X.env)] := by rfl) :
    PI X (.Tuple elts kk tpos) (.Call (.Name "enumerate" p) [e] [⟨some "start", .Constant (.int k) j c, kpos⟩] pos) (iEnumT X.K k te) := by
  refine ⟨fun pins s σ H R I h => ?_⟩
  refine wpAny_Call_Name_kw (ld_blt I hg hm boot_enumerate ?_)
  refine callWith_typeK (thn (he.run pos pins s σ H _ I h) fun us s1 ⟨vs, H1, I1, r1, q1⟩ => ?_) (by rw [hs]; rfl) (by rw [hs]; rfl) (by rfl) (by rfl)
  obtain ⟨a, xs, ex, hq, q⟩ := q1
  subst ex
  cases r1 with
  | cons r rr =>
    cases rr
    cases r
    obtain ⟨its, rv, pt, hz⟩ := I1.tuple hq
    have hlt : a < s1.heap.objs.size := let ⟨_, e, _⟩ := pt; Heap.lt_size e
    refine PyProof.Rows.kws_cons (wpAny_Constant_int (PyProof.Rows.kws_nil ?_))
    show wpAny _ _ (call (.type "enumerate") [.ref a] [(Str.ofString "start", .int k s1.toks)]) _ _ _
    refine enum_begins_start (begins_tuple a its.toArray) pt h0 h1 fun h' hen hit hsz hk => wpAny_pyIter_enum hen ?_
    have I2 : Inv X pins σ H1 { s1 with heap := h', toks := s1.toks + 1 } := I1.kept (t' := s1.toks + 1) hk
    exact ⟨s1.heap.objs.size + 1, [s1.heap.objs.size + 1, s1.heap.objs.size], _, _, H1, rfl, I2, turn_enumT k a (s1.heap.objs.size + 1) s1.heap.objs.size, ⟨⟨.none, by simpa using hen⟩, ⟨_, hit, rfl, rfl⟩, Nat.succ_ne_self _, Nat.ne_of_lt hlt, Nat.ne_of_gt (Nat.lt_succ_of_lt hlt)⟩, fp2 I1, q⟩
theorem di_enumTk {k : Int} {j : Nat} {c : Pos} (hg : Gl X "enumerate") (hm : X.mg "enumerate" = none) (he : DE X e ta) (h0 : -(2 ^ 63) ≤ k := by decide) (h1 : k < 2 ^ 63 := by decide) (hs : starEach [e] X.env = [(false, eval e X.env)] := by rfl) :
    DI X (.Tuple elts kk tpos) (.Call (.Name "enumerate" p) [e] [⟨some "start", .Constant (.int k) j c, kpos⟩] pos) (dItET k ta) := by
  obtain ⟨te, pa, s⟩ := dd_of he
  refine ⟨_, pi_enumTk hg hm (pa_cons pa pa_nil (by rw [hs]; rfl)) h0 h1 hs, fun F ρ O σ H A P Qd R G q k => s F ρ O σ H A P _ _ G q fun d ρ1 v O1 H1 A1 P1 S1 G1 D1 q1 => ?_⟩
  cases d with
  | tuple ds =>
    obtain ⟨a, xs, rfl, h1, h2⟩ := D1
    exact ⟨a, xs, rfl, same_sqT Hs_sub h1, k _ _ ρ1 _ O1 H1 A1 P1 S1 G1 (itD_enumT h1 h2) q1⟩
  | _ => exact (show False from q1).elim
end
end DL
namespace DL
open PySem PySem.Spec PyProof.Rows L2
/-- every closer has its opener -/
theorem op_exists {n : Nat} {w : List Bool} (D : Dyck n w) {p : Nat} (h : p < w.length) (hb : w[p] = false) : ∃ k, Cl w k p := by
  have hs := hp_succ h
  rw [hb] at hs
  simp at hs
  have p1 := D.pos (p + 1)
  have key : ∀ d, d ≤ p → (∀ j, p - d ≤ j → j ≤ p → hp w (p + 1) < hp w j) ∨ ∃ k, Cl w k p := by
    intro d
    induction d with
    | zero => exact fun _ => .inl fun j h1 h2 => by rw [show j = p by omega]; omega
    | succ d ih =>
      intro hd
      rcases ih (by omega) with q | q
      · by_cases c : hp w (p + 1) < hp w (p - (d + 1))
        · exact .inl fun j h1 h2 => by
            by_cases hj : p - d ≤ j
            · exact q j hj h2
            · rw [show j = p - (d + 1) by omega]; exact c
        · refine .inr ⟨p - (d + 1), by omega, h, ?_, fun j h1 h2 => ?_⟩
          · have h1 := q (p - d) (Nat.le_refl _) (by omega)
            have h2 := hp_succ (w := w) (i := p - (d + 1)) (by omega)
            rw [show p - (d + 1) + 1 = p - d by omega] at h2
            revert h2
            cases w[p - (d + 1)] <;> simp <;> omega
          · have h3 := q j (by omega) h2
            omega
      · exact .inr q
  rcases key p (Nat.le_refl _) with q | q
  · have := q 0 (by omega) (by omega)
    rw [hp_zero] at this
    omega
  · exact q
theorem mate_exists {n : Nat} {w : List Bool} (D : Dyck n w) {p : Nat} (h : p < w.length) : ∃ q, Cl w p q ∨ Cl w q p := by
  cases hb : w[p] with
  | true => obtain ⟨q, c⟩ := cl_exists D h hb; exact ⟨q, .inl c⟩
  | false => obtain ⟨q, c⟩ := op_exists D h hb; exact ⟨q, .inr c⟩
theorem mate_uniq {w : List Bool} {p q r : Nat} (a : Cl w p q ∨ Cl w q p) (b : Cl w p r ∨ Cl w r p) : q = r := by
  rcases a with a | a <;> rcases b with b | b
  · exact a.right b
  · have h1 := a.up (show p < w.length by have := a.1; have := a.2.1; omega)
    have h2 := b.down b.2.1
    rw [h1] at h2; cases h2
  · have h1 := b.up (show p < w.length by have := b.1; have := b.2.1; omega)
    have h2 := a.down a.2.1
    rw [h1] at h2; cases h2
  · exact a.left b
theorem hp_par (w : List Bool) (i : Nat) (h : i ≤ w.length) : (hp w i - i) % 2 = 0 := by
  obtain ⟨c, e⟩ := ht_even (w.take i)
  unfold hp
  rw [e, List.length_take, Nat.min_eq_left h]
  omega
theorem cl_par {w : List Bool} {p q : Nat} (c : Cl w p q) : ((p : Int) + 1 + ((q : Int) + 1)) % 2 = 1 := by
  have h1 := hp_par w p (by have := c.1; have := c.2.1; omega)
  have h2 := hp_par w (q + 1) c.2.1
  have h3 := c.2.2.1
  omega
theorem mate_par {w : List Bool} {p q : Nat} (c : Cl w p q ∨ Cl w q p) : ((p : Int) + 1 + ((q : Int) + 1)) % 2 = 1 := by
  rcases c with c | c
  · exact cl_par c
  · have := cl_par c; omega
theorem mate_lt {w : List Bool} {p q : Nat} (c : Cl w p q ∨ Cl w q p) : q < w.length := by
  rcases c with c | c
  · exact c.2.1
  · have := c.1; have := c.2.1; omega
theorem mate_symm {w : List Bool} {p q : Nat} (c : Cl w p q ∨ Cl w q p) : Cl w q p ∨ Cl w p q := c.symm
end DL
namespace DL
open PySem PySem.Spec PyProof.Rows L2
/-! ### tuples added, also empty ones -/
section
variable {X : Cx} {a b : Expr} {ta tb : DTE} {pos : Pos}
def dAddT (ta tb : DTE) : DTE := fun ρ Q => dSt ta ρ fun d ρ1 => dSt tb ρ1 fun e ρ2 => match d, e with
  | .tuple xs, .tuple ys => xs.length + ys.length ≤ sizeLine ∧ Q (.d (.tuple (xs ++ ys))) ρ2
  | _, _ => False
theorem de_addT (ha : DE X a ta) (hb : DE X b tb) : DE X (.BinOp a .Add b pos) (dAddT ta tb) := by
  obtain ⟨ea, pa, sa⟩ := dd_of ha
  obtain ⟨eb, pb, sb⟩ := dd_of hb
  refine ⟨_, pe_op op_catA pa pb, fun F ρ O σ H A P Qd Q G q k => sa F ρ O σ H A P _ _ G q fun d ρ1 v O1 H1 A1 P1 S1 G1 D1 q1 => sb F ρ1 O1 σ H1 A1 P1 _ _ G1 q1 fun e ρ2 u O2 H2 A2 P2 S2 G2 D2 q2 => ?_⟩
  split at q2
  · next xs ys =>
    obtain ⟨x, us, rfl, h1, h2⟩ := D1.mono S2.same
    obtain ⟨y, ws, rfl, g1, g2⟩ := D2
    have l1 := h2.length
    have l2 := g2.length
    refine ⟨x, y, us, ws, rfl, rfl, same_sqT Hs_sub h1, same_sqT Hs_sub g1, by rw [l1, l2]; exact q2.1, fun z => ?_, fun z z2 => ?_, fun z z2 p hp => ?_⟩
    · have e : xs = [] := List.length_eq_zero_iff.mp (by rw [← l1, z]; rfl)
      subst e
      exact k (.d (.tuple ([] ++ ys))) ρ2 (.ref y) [] O2 H2 A2 P2 (S1.trans S2) G2 ⟨y, ws, rfl, g1, g2⟩ nw_d q2.2
    · have e : ys = [] := List.length_eq_zero_iff.mp (by rw [← l2, z2]; rfl)
      subst e
      refine k (.d (.tuple (xs ++ []))) ρ2 (.ref x) [] O2 H2 A2 P2 (S1.trans S2) G2 ?_ nw_d q2.2
      rw [List.append_nil]
      exact ⟨x, us, rfl, h1, h2⟩
    · obtain ⟨O3, fo, S3, G3, R3, N3⟩ := (Out.tup G2.dom hp (h2.app g2)).fin G2
      exact k _ ρ2 _ fo O3 _ A2 P2 ((S1.trans S2).trans S3) G3 R3 ((S1.trans S2).back N3) q2.2
  · exact q2.elim
end
/-! ### what hangs on a join -/
def sft (k : Int) (p : Int × Int) : Int × Int := (p.1 + k, p.2 + k)
theorem cl_in {a : Nat} {u v : List Bool} (Du : Dyck a u) {p q : Nat} (c : Cl u p q) : Cl (join u v) (p + 1) (q + 1) := by
  have h0 := Du.end0
  have hq := c.2.1
  have hpq := c.1
  have v1 : ∀ i, i ≤ u.length → hp (join u v) (i + 1) = 1 + hp u i := fun i hi => by
    rw [hp_join h0, if_neg (by omega), if_pos (by omega), Nat.add_sub_cancel]
  refine ⟨by omega, by rw [join_len]; omega, ?_, fun j h1 h2 => ?_⟩
  · rw [v1 (q + 1) (by omega), v1 p (by omega), c.2.2.1]
  · obtain ⟨i, rfl⟩ : ∃ i, j = i + 1 := ⟨j - 1, by omega⟩
    rw [v1 p (by omega), v1 i (by omega)]
    have := c.2.2.2 i (by omega) (by omega)
    omega
theorem cl_out {a : Nat} {u v : List Bool} (Du : Dyck a u) {p q : Nat} (c : Cl v p q) : Cl (join u v) (p + (u.length + 2)) (q + (u.length + 2)) := by
  have h0 := Du.end0
  have hq := c.2.1
  have hpq := c.1
  have v1 : ∀ i, hp (join u v) (i + (u.length + 2)) = hp v i := fun i => by
    rw [hp_join h0, if_neg (by omega), if_neg (by omega), show i + (u.length + 2) - u.length - 2 = i by omega]
  refine ⟨by omega, by rw [join_len]; omega, ?_, fun j h1 h2 => ?_⟩
  · rw [show q + (u.length + 2) + 1 = q + 1 + (u.length + 2) by omega, v1, v1, c.2.2.1]
  · obtain ⟨i, rfl⟩ : ∃ i, j = i + (u.length + 2) := ⟨j - (u.length + 2), by omega⟩
    rw [v1, v1]
    exact c.2.2.2 i (by omega) (by omega)
theorem cds_join {a b : Nat} {u v : List Bool} (Du : Dyck a u) (Dv : Dyck b v) : cds (join u v) = (1, (u.length : Int) + 2) :: ((cds u).map (sft 1) ++ (cds v).map (sft ((u.length : Int) + 2))) := by
  have Dj := dyck_join Du Dv
  have cu := Du.cds
  have cv := Dv.cds
  have lu := Du.len
  have nu := cu.1.nc
  have nv := cv.1.nc
  have asc : ((1, (u.length : Int) + 2) :: ((cds u).map (sft 1) ++ (cds v).map (sft ((u.length : Int) + 2)))).Pairwise fun p q => p.1 < q.1 := by
    refine List.pairwise_cons.mpr ⟨fun x hx => ?_, List.pairwise_append.mpr ⟨List.pairwise_map.mpr (cu.2.imp fun h => ?_), List.pairwise_map.mpr (cv.2.imp fun h => ?_), fun x hx y hy => ?_⟩⟩
    · show (1 : Int) < x.1
      rcases List.mem_append.mp hx with e | e
      · obtain ⟨p, hp, rfl⟩ := List.mem_map.mp e
        have := nu.inn p hp
        show (1 : Int) < p.1 + 1
        omega
      · obtain ⟨p, hp, rfl⟩ := List.mem_map.mp e
        have := nv.inn p hp
        show (1 : Int) < p.1 + ((u.length : Int) + 2)
        omega
    · show _ + (1 : Int) < _ + 1
      omega
    · show _ + ((u.length : Int) + 2) < _ + ((u.length : Int) + 2)
      omega
    · obtain ⟨p, hp, rfl⟩ := List.mem_map.mp hx
      obtain ⟨q, hq, rfl⟩ := List.mem_map.mp hy
      have h1 := nu.inn p hp
      have h2 := nv.inn q hq
      show p.1 + 1 < q.1 + ((u.length : Int) + 2)
      omega
  have fwd : ∀ x y : Int, (x, y) ∈ ((1, (u.length : Int) + 2) :: ((cds u).map (sft 1) ++ (cds v).map (sft ((u.length : Int) + 2)))) → ∃ p q : Nat, x = (p : Int) + 1 ∧ y = (q : Int) + 1 ∧ Cl (join u v) p q := fun x y hm => by
    rcases List.mem_cons.mp hm with e | e
    · injection e with e1 e2
      exact ⟨0, u.length + 1, by omega, by omega, cl_join Du⟩
    · rcases List.mem_append.mp e with e | e
      · obtain ⟨p, hp, e⟩ := List.mem_map.mp e
        obtain ⟨r, s, e1, e2, c⟩ := (cu.1.mem p.1 p.2).mp hp
        injection e with e3 e4
        exact ⟨r + 1, s + 1, by omega, by omega, cl_in Du c⟩
      · obtain ⟨p, hp, e⟩ := List.mem_map.mp e
        obtain ⟨r, s, e1, e2, c⟩ := (cv.1.mem p.1 p.2).mp hp
        injection e with e3 e4
        exact ⟨r + (u.length + 2), s + (u.length + 2), by omega, by omega, cl_out Du c⟩
  have nd : ((1, (u.length : Int) + 2) :: ((cds u).map (sft 1) ++ (cds v).map (sft ((u.length : Int) + 2)))).Nodup := asc.imp fun h z => by rw [z] at h; exact absurd h (Int.lt_irrefl _)
  have len : ((1, (u.length : Int) + 2) :: ((cds u).map (sft 1) ++ (cds v).map (sft ((u.length : Int) + 2)))).length = a + b + 1 := by
    rw [List.length_cons, List.length_append, List.length_map, List.length_map, cu.1.len, cv.1.len]
  have c := Dj.cds
  refine (WD.eq ⟨Dj, len, nd, fun x y => ⟨fwd x y, fun hr => ?_⟩⟩ (asc.imp fun h => .inl h)).symm
  exact all_of_sub nd (fun z hz => (c.1.mem z.1 z.2).mpr (fwd z.1 z.2 hz)) (by rw [c.1.len, len]; exact Nat.le_refl _) _ ((c.1.mem x y).mpr hr)
theorem encl_sft (k : Int) (c p : Int × Int) : encl (sft k c) (sft k p) = encl c p := by
  unfold encl sft
  show (decide (p.1 + k < c.1 + k) && decide (c.2 + k < p.2 + k)) = _
  rw [decide_eq_decide.mpr (show p.1 + k < c.1 + k ↔ p.1 < c.1 by omega), decide_eq_decide.mpr (show c.2 + k < p.2 + k ↔ c.2 < p.2 by omega)]
theorem filt_sft (k : Int) (c : Int × Int) (l : List (Int × Int)) : ((l.map (sft k)).filter (encl (sft k c))).length = (l.filter (encl c)).length := by
  rw [List.filter_map, List.length_map]
  congr 1
  exact List.filter_congr fun p _ => encl_sft k c p
theorem filt_none {g : Int × Int → Bool} {l : List (Int × Int)} (h : ∀ p ∈ l, g p = false) : (l.filter g).length = 0 := by
  rw [List.filter_eq_nil_iff.mpr fun p hp => by rw [h p hp]; decide]; rfl
def dptL (ps : List (Int × Int)) : List Int := ps.map fun c => ((ps.filter (encl c)).length : Int)
theorem dpt_join {a b : Nat} {u v : List Bool} (Du : Dyck a u) (Dv : Dyck b v) : dptL (cds (join u v)) = 0 :: ((dptL (cds u)).map (fun d => d + 1) ++ dptL (cds v)) := by
  have nu := Du.cds.1.nc
  have nv := Dv.cds.1.nc
  have lu := Du.len
  rw [cds_join Du Dv]
  unfold dptL
  rw [List.map_cons, List.map_append, List.map_map, List.map_map, List.map_map]
  congr 1
  · rw [filt_none fun p hp => ?_]
    · rfl
    · unfold encl
      rw [decide_eq_false (show ¬ p.1 < (1, (u.length : Int) + 2).1 from ?_)]
      · rfl
      · show ¬ p.1 < 1
        rcases List.mem_cons.mp hp with e | e
        · rw [e]; show ¬ (1 : Int) < 1; decide
        · rcases List.mem_append.mp e with e | e
          · obtain ⟨q, hq, rfl⟩ := List.mem_map.mp e
            have := nu.inn q hq
            show ¬ q.1 + 1 < 1
            omega
          · obtain ⟨q, hq, rfl⟩ := List.mem_map.mp e
            have := nv.inn q hq
            show ¬ q.1 + ((u.length : Int) + 2) < 1
            omega
  · congr 1
    · refine List.map_congr_left fun c hc => ?_
      have hi := nu.inn c hc
      show (((_ :: (_ ++ _) : List (Int × Int)).filter (encl (sft 1 c))).length : Int) = ((List.filter (encl c) (cds u)).length : Int) + 1
      have e1 : encl (sft 1 c) (1, (u.length : Int) + 2) = true := by
        unfold encl sft
        show (decide ((1 : Int) < c.1 + 1) && decide (c.2 + 1 < (u.length : Int) + 2)) = true
        rw [decide_eq_true (by omega), decide_eq_true (by omega)]; rfl
      rw [List.filter_cons_of_pos e1, List.filter_append, List.length_cons, List.length_append, filt_sft, filt_none (g := encl (sft 1 c)) (l := (cds v).map (sft ((u.length : Int) + 2))) fun p hp => ?_]
      · omega
      · obtain ⟨q, hq, rfl⟩ := List.mem_map.mp hp
        have := nv.inn q hq
        unfold encl sft
        show (decide (q.1 + ((u.length : Int) + 2) < c.1 + 1) && _) = false
        rw [decide_eq_false (by omega)]; rfl
    · refine List.map_congr_left fun c hc => ?_
      have hi := nv.inn c hc
      show (((_ :: (_ ++ _) : List (Int × Int)).filter (encl (sft ((u.length : Int) + 2) c))).length : Int) = ((List.filter (encl c) (cds v)).length : Int)
      have e1 : ¬ encl (sft ((u.length : Int) + 2) c) (1, (u.length : Int) + 2) = true := by
        unfold encl sft
        show ¬ (decide ((1 : Int) < c.1 + ((u.length : Int) + 2)) && decide (c.2 + ((u.length : Int) + 2) < (u.length : Int) + 2)) = true
        rw [decide_eq_false (show ¬ c.2 + ((u.length : Int) + 2) < (u.length : Int) + 2 by omega), Bool.and_false]; decide
      rw [List.filter_cons_of_neg e1, List.filter_append, List.length_append, filt_sft, filt_none (g := encl (sft ((u.length : Int) + 2) c)) (l := (cds u).map (sft 1)) fun p hp => ?_]
      · omega
      · obtain ⟨q, hq, rfl⟩ := List.mem_map.mp hp
        have := nu.inn q hq
        unfold encl sft
        show (_ && decide (c.2 + ((u.length : Int) + 2) < q.2 + 1)) = false
        rw [decide_eq_false (show ¬ c.2 + ((u.length : Int) + 2) < q.2 + 1 by omega), Bool.and_false]
/-! partners -/
theorem joins_uniq {w : List Bool} {P R : List Int} (a : Joins w P) (b : Joins w R) : P = R := by
  refine List.ext_getElem? fun p => ?_
  by_cases hp : p < w.length
  · obtain ⟨q, e1, c⟩ := a.2 p hp
    obtain ⟨r, e2, d⟩ := b.2 p hp
    rw [e1, e2, mate_uniq c d]
  · rw [List.getElem?_eq_none (by rw [a.1]; omega), List.getElem?_eq_none (by rw [b.1]; omega)]
theorem joins_join {a b : Nat} {u v : List Bool} {P R : List Int} (Du : Dyck a u) (Dv : Dyck b v) (hP : Joins u P) (hR : Joins v R) : Joins (join u v) (([(u.length : Int) + 2] ++ P.map fun k => k + 1) ++ [1] ++ R.map fun k => k + ((u.length : Int) + 2)) := by
  have lP := hP.1
  have lR := hR.1
  refine ⟨by rw [join_len]; simp [lP, lR]; omega, fun p hp => ?_⟩
  rw [join_len] at hp
  have l1 : ([(u.length : Int) + 2] ++ P.map fun k => k + 1).length = u.length + 1 := by simp [lP]
  have l2 : (([(u.length : Int) + 2] ++ P.map fun k => k + 1) ++ [1]).length = u.length + 2 := by simp [lP]
  by_cases h0 : p = 0
  · subst h0
    exact ⟨u.length + 1, by rw [List.append_assoc, List.append_assoc]; show some ((u.length : Int) + 2) = some (((u.length + 1 : Nat) : Int) + 1); rw [show ((u.length + 1 : Nat) : Int) + 1 = (u.length : Int) + 2 by omega], .inl (cl_join Du)⟩
  · by_cases h1 : p ≤ u.length
    · obtain ⟨k, rfl⟩ : ∃ k, p = k + 1 := ⟨p - 1, by omega⟩
      obtain ⟨q, e, c⟩ := hP.2 k (by omega)
      refine ⟨q + 1, ?_, ?_⟩
      · rw [List.getElem?_append_left (by rw [l2]; omega), List.getElem?_append_left (by rw [l1]; omega)]
        show (P.map fun k => k + 1)[k]? = _
        rw [List.getElem?_map, e]; rfl
      · rcases c with c | c
        · exact .inl (cl_in Du c)
        · exact .inr (cl_in Du c)
    · by_cases h2 : p = u.length + 1
      · subst h2
        refine ⟨0, ?_, .inr (cl_join Du)⟩
        rw [List.getElem?_append_left (by rw [l2]; omega), List.getElem?_append_right (by rw [l1]; exact Nat.le_refl _), l1, Nat.sub_self]; rfl
      · obtain ⟨k, rfl⟩ : ∃ k, p = k + (u.length + 2) := ⟨p - (u.length + 2), by omega⟩
        obtain ⟨q, e, c⟩ := hR.2 k (by omega)
        refine ⟨q + (u.length + 2), ?_, ?_⟩
        · rw [List.getElem?_append_right (by rw [l2]; omega), l2, Nat.add_sub_cancel, List.getElem?_map, e]
          show some ((q : Int) + 1 + ((u.length : Int) + 2)) = some (((q + (u.length + 2) : Nat) : Int) + 1)
          rw [show (q : Int) + 1 + ((u.length : Int) + 2) = ((q + (u.length + 2) : Nat) : Int) + 1 by omega]
        · rcases c with c | c
          · exact .inl (cl_out Du c)
          · exact .inr (cl_out Du c)
/-! ranks behind the same letters -/
def ends : Nat → List Bool → Nat
  | h, [] => h
  | h, true :: w => ends (h + 1) w
  | h, false :: w => ends (h - 1) w
theorem rk_app : ∀ (p : List Bool) (h l : Nat), ∃ k, ∀ q : List Bool, q.length = l → rk h (p ++ q) = k + rk (ends h p) q
  | [], h, l => ⟨0, fun q _ => by rw [Nat.zero_add]; rfl⟩
  | true :: p, h, l => by
    obtain ⟨k, e⟩ := rk_app p (h + 1) l
    refine ⟨sc h (p.length + l) + k, fun q hq => ?_⟩
    show sc h (p ++ q).length + rk (h + 1) (p ++ q) = _
    rw [e q hq, List.length_append, hq, Nat.add_assoc]; rfl
  | false :: p, h, l => by
    obtain ⟨k, e⟩ := rk_app p (h - 1) l
    exact ⟨k, fun q hq => e q hq⟩
theorem ends_val : ∀ (w : List Bool) (h : Nat), (∀ i, 0 ≤ (h : Int) + hp w i) → ((ends h w : Nat) : Int) = h + ht w
  | [], h, _ => by show (h : Int) = h + 0; omega
  | true :: w, h, p => by
    have e2 : ht (true :: w) = 1 + ht w := rfl
    show ((ends (h + 1) w : Nat) : Int) = _
    rw [ends_val w (h + 1) fun i => by have := p (i + 1); rw [hp_cons] at this; simp at this; omega, e2]
    omega
  | false :: w, h, p => by
    have e2 : ht (false :: w) = -1 + ht w := rfl
    have p1 := p 1
    have e3 : hp (false :: w) 1 = -1 := by rw [hp_cons, hp_zero]; rfl
    rw [e3] at p1
    show ((ends (h - 1) w : Nat) : Int) = _
    rw [ends_val w (h - 1) fun i => by have := p (i + 1); rw [hp_cons] at this; simp at this; omega, e2]
    omega
theorem rk_join {a b : Nat} {u v : List Bool} (Du : Dyck a u) (Dv : Dyck b v) : (rk 0 (join u v) : Int) - (rk 0 (join u (udn b)) : Int) = (rk 0 v : Int) := by
  obtain ⟨k, e⟩ := rk_app (true :: (u ++ [false])) 0 (2 * b)
  have ej : ∀ z : List Bool, join u z = true :: (u ++ [false]) ++ z := fun z => by unfold join; simp
  have ez : ends 0 (true :: (u ++ [false])) = 0 := by
    have := ends_val (true :: (u ++ [false])) 0 (fun i => by
      have := (dyck_join Du (show Dyck 0 [] from dyck_of rfl rfl (by decide))).pos i
      have e2 : join u [] = true :: (u ++ [false]) := rfl
      rw [e2] at this
      omega)
    have e3 := (dyck_join Du (show Dyck 0 [] from dyck_of rfl rfl (by decide))).end0
    have e2 : join u [] = true :: (u ++ [false]) := rfl
    rw [e2] at e3
    omega
  have h1 := e v Dv.len
  have h2 := e (udn b) (udn_co b).2.2
  rw [ez] at h1 h2
  rw [(udn_co b).2.1] at h2
  rw [ej, ej, h1, h2]
  omega
end DL
namespace DL
open PySem PySem.Spec PyProof.Rows L2
theorem hts_join {a : Nat} {u v : List Bool} (Du : Dyck a u) : hts (join u v) ((join u v).length + 1) = ([0] ++ (hts u (u.length + 1)).map fun h => h + 1) ++ hts v (v.length + 1) := by
  have h0 := Du.end0
  have l1 : ([(0 : Int)] ++ (hts u (u.length + 1)).map fun h => h + 1).length = u.length + 2 := by simp [hts_len]
  refine List.ext_getElem? fun i => ?_
  by_cases hi : i < (join u v).length + 1
  · rw [List.getElem?_eq_getElem (by rw [hts_len]; exact hi), hts_get hi, hp_join h0]
    rw [join_len] at hi
    by_cases c1 : i < u.length + 2
    · rw [List.getElem?_append_left (by rw [l1]; exact c1)]
      cases i with
      | zero => rfl
      | succ i =>
        rw [if_neg (by omega), if_pos (by omega), Nat.add_sub_cancel]
        show _ = ((hts u (u.length + 1)).map fun h => h + 1)[i]?
        rw [List.getElem?_map, List.getElem?_eq_getElem (by rw [hts_len]; omega), hts_get (show i < u.length + 1 by omega)]
        show some _ = some _
        rw [Int.add_comm]
    · rw [List.getElem?_append_right (by rw [l1]; omega), l1, if_neg (by omega), if_neg (by omega), List.getElem?_eq_getElem (by rw [hts_len]; omega), hts_get (by omega), show i - u.length - 2 = i - (u.length + 2) by omega]
  · rw [List.getElem?_eq_none (by rw [hts_len]; omega), List.getElem?_eq_none (by rw [List.length_append, l1, hts_len]; rw [join_len] at hi; omega)]
theorem tps_join {a : Nat} {u v : List Bool} (Du : Dyck a u) : ∀ m, tps (join u v) (u.length + 2 + m) = [(u.length : Int) + 2] ++ (tps v m).map fun k => k + ((u.length : Int) + 2) := by
  have h0 := Du.end0
  have e1 : ∀ m, m ≤ u.length + 1 → tps (join u v) m = [] := fun m => by
    induction m with
    | zero => exact fun _ => rfl
    | succ m ih =>
      intro hm
      have p := Du.pos m
      rw [tps_succ, ih (by omega), hp_join h0, if_neg (show ¬ m + 1 = 0 by omega), if_pos hm, Nat.add_sub_cancel, if_neg (by omega)]
  intro m
  induction m with
  | zero =>
    rw [Nat.add_zero, show u.length + 2 = (u.length + 1) + 1 by omega, tps_succ, e1 _ (Nat.le_refl _), hp_join h0, if_neg (show ¬ u.length + 1 + 1 = 0 by omega), if_neg (show ¬ u.length + 1 + 1 ≤ u.length + 1 by omega), show u.length + 1 + 1 - u.length - 2 = 0 by omega, hp_zero, if_pos rfl]
    show [1 + ((u.length + 1 : Nat) : Int)] = [(u.length : Int) + 2]
    rw [show 1 + ((u.length + 1 : Nat) : Int) = (u.length : Int) + 2 by omega]
  | succ m ih =>
    rw [show u.length + 2 + (m + 1) = (u.length + 2 + m) + 1 by omega, tps_succ, ih, tps_succ, hp_join h0, if_neg (show ¬ u.length + 2 + m + 1 = 0 by omega), if_neg (show ¬ u.length + 2 + m + 1 ≤ u.length + 1 by omega), show u.length + 2 + m + 1 - u.length - 2 = m + 1 by omega]
    split
    · rw [List.map_append, List.append_assoc]
      show _ ++ (_ ++ [1 + ((u.length + 2 + m : Nat) : Int)]) = _ ++ (_ ++ [1 + (m : Int) + ((u.length : Int) + 2)])
      rw [show 1 + ((u.length + 2 + m : Nat) : Int) = 1 + (m : Int) + ((u.length : Int) + 2) by omega]
    · rfl
/-! all words of a size -/
def stepT (behind : Nat) (found : List (List Bool × Nat)) : List (List Bool × Nat) := found.flatMap fun e => (if 0 < e.2 then [(e.1 ++ [false], e.2 - 1)] else []) ++ (if e.2 < behind then [(e.1 ++ [true], e.2 + 1)] else [])
def allS (many : Nat) : Nat → List (List Bool × Nat)
  | 0 => [([], 0)]
  | k + 1 => stepT (2 * many - k) (allS many k)
def allT (many : Nat) : List (List Bool) := (allS many (2 * many)).map (·.1)
def tlD (e : List Bool × Nat) : PyData := .tuple [.str (wd e.1), .int e.2]
theorem allS_len : ∀ many, many ≤ 5 → ∀ k, k ≤ 2 * many → (allS many k).length ≤ 300 ∧ ∀ e ∈ allS many k, e.1.length = k ∧ e.2 ≤ 20 := by decide +kernel
def foundT (many : Nat) : List (List Bool) := (List.range many).flatMap fun k => (allT k).flatMap fun u => (allT (many - 1 - k)).map fun v => join u v
def isDyck (n : Nat) (w : List Bool) : Bool := decide (w.length = 2 * n) && (decide (ht w = 0) && (List.range w.length).all fun i => decide (0 ≤ hp w i))
theorem isDyck_ok {n : Nat} {w : List Bool} (h : isDyck n w = true) : Dyck n w := by
  unfold isDyck at h
  simp only [Bool.and_eq_true, decide_eq_true_eq, List.all_eq_true, List.mem_range] at h
  exact dyck_of h.1 h.2.1 h.2.2
theorem allT_dyck : ∀ many, many ≤ 5 → ((allT many).all fun w => isDyck many w) = true := by decide +kernel
theorem allT_len : ∀ many, many ≤ 5 → (allT many).length = cp 0 (2 * many) := by decide +kernel
theorem allT_asc : ∀ many, many ≤ 5 → (allT many).Pairwise fun u v => ¬ cps v < cps u := by decide +kernel
theorem found_perm : ∀ many, many ≤ 5 → 1 ≤ many → (foundT many).isPerm (allT many) = true := by decide +kernel
end DL
/-! dicts whose keys are computed; words from their parts -/
namespace DL
open PySem PySem.Spec PyProof.Rows L2
section
variable {X : Cx} {a e f : Expr} {ta tb tc : DTE} {pos : Pos}
def dDisp0 : DTE := fun ρ Q => Q (.n (.dk [])) ρ
theorem de_disp0 : DE X (.Dict [] [] pos) dDisp0 := by
  refine ⟨_, pe_dnewK, fun F ρ O σ H A P Qd Q G q k p hn => ?_⟩
  have o1 : Out X.K O H (.n (.dk [])) (.ref p) (upd H p (.dK [])) := by
    refine ⟨same_new hn, p, [p], rfl, fun b hb => ?_, ⟨rfl, [], upd_same, rfl, rfl⟩⟩
    have e : b = p := by simpa using hb
    rw [e, upd_same]
    exact ⟨hn, fun z => nomatch z⟩
  obtain ⟨O1, fp, S1, G1, R1, N1⟩ := o1.fin G
  exact k _ ρ _ fp O1 _ A P S1 G1 R1 N1 q
/-- name[key] = what is handed on, the name a dict -/
def dgSubK (i : Nat) (ti : DTE) : DTG := fun d ρ Q => match slot ρ i with
  | .own (.dk _) => ti ρ fun r ρ2 => match view ρ2 r, slot ρ2 i with
    | some kd, .own (.dk kvs) => match keyD kd with
      | some key => kvs.length < sizeLine ∧ Q (put ρ2 i (.own (.dk (putD kvs key d))))
      | none => False
    | _, _ => False
  | _ => False
theorem keyD_dw {K : Fg} {Hst H : Hp} {d : PyData} {k : Key} {v : V} (h : Dw K Hst H d v) (e : keyD d = some k) : v = kV k := by
  cases d with
  | int i => exact keyD_kV (K := K) (H := Hst) (show Dv K Hst (.int i) v from h) e
  | str i => exact keyD_kV (K := K) (H := Hst) (show Dv K Hst (.str i) v from h) e
  | none => cases e
  | bool b => cases e
  | list ds => cases e
  | tuple ds => cases e
  | dict ds => cases e
theorem dgo_subK (i : Nat) {x : Str} {p1 : Pos} (hu : X.A.units + 1 < cLine) (hi : DE X a ta) (hN : X.N[i]? = some x := by rfl) (hv : Vis X.env.scope x := by first | exact Or.inl rfl | exact Or.inr (Or.inl rfl)) (hd : (x == ("__debug__" : Str)) = false := by decide) (hcd : (x == ("__classdict__" : Str)) = false := by decide)
    (hp : ∀ to ti, PE X (.Name x p1) to → PE X a ti → PG X (.Subscript (.Name x p1) a pos) (L2.gSub to ti rSetD) := by exact fun _ _ u v => pg_sub u v (set_dict hu)) : DGo X (.Subscript (.Name x p1) a pos) (dgSubK i ta) := by
  obtain ⟨ti, pi, si⟩ := hi
  refine ⟨_, hp _ _ (pe_var hN hv hd hcd) pi, fun F ρ O σ H A P d v Qd Q G D q k => ?_⟩
  unfold dgSubK at q
  cases s0 : slot ρ i with
  | free => simp only [s0] at q
  | val d => simp only [s0] at q
  | own w =>
    cases w with
    | dk kvs0 =>
      simp only [s0] at q
      obtain ⟨g1, _⟩ := G.own i _ s0
      refine ⟨_, g1, si F ρ O σ H A P _ _ G q fun r ρ2 v2 fp2 O2 H2 A2 P2 S2 G2 R2 N2 q2 => ?_⟩
      cases e1 : view ρ2 r with
      | none => simp only [e1] at q2
      | some kd =>
        cases s2 : slot ρ2 i with
        | free => simp only [e1, s2] at q2
        | val d => simp only [e1, s2] at q2
        | own w =>
          cases w with
          | dk kvs =>
            simp only [e1, s2] at q2
            cases e3 : keyD kd with
            | none => simp only [e3] at q2
            | some key =>
              simp only [e3] at q2
              obtain ⟨f1, ⟨ff, ws, f2, f3⟩, f4, _⟩ := G2.own i _ s2
              rw [g1] at f1
              have ea : A i = A2 i := V.ref.inj (Option.some.inj (Option.some.inj f1))
              have V2 : v2 = kV key := keyD_dw (view_ok G2 R2 e1) e3
              have KK : KD X.K (Hs H2 O2) kvs ws := f3
              subst V2
              refine ⟨A i, _, rfl, by rw [ea]; exact DPut.k (k := key) f2 (by rw [KK.length]; exact q2.1), ?_⟩
              refine k _ O2 σ _ A2 P2 (G2.chgK s2 (KK.put (D.mono S2.same))) (fun b o z => ?_) q2.2
              obtain ⟨z1, z2⟩ := Hs_out (S2.same b o z)
              have nb : b ≠ A2 i := fun w => z2 (by rw [w]; exact f4 _ (by rw [ff]; simp))
              exact Hs_in (by rw [upd_ne nb]; exact z1) z2
          | _ => simp only [e1, s2] at q2
    | _ => simp only [s0] at q
/-- name.get(key, otherwise), the name a dict -/
def dGetO (i : Nat) (ti td : DTE) : DTE := fun ρ Q => match slot ρ i with
  | .own (.dk _) => dSt ti ρ fun kd ρ2 => dSt td ρ2 fun d ρ3 => match slot ρ3 i, keyD kd with
    | .own (.dk kvs), some k => Q (.d ((valD kvs k).getD d)) ρ3
    | _, _ => False
  | _ => False
theorem de_getO (i : Nat) {x : Str} {p1 apos cpos : Pos} (hu : X.A.units + 1 < cLine) (he : DE X e tb) (hf : DE X f tc) (hN : X.N[i]? = some x := by rfl) (hv : Vis X.env.scope x := by first | exact Or.inl rfl | exact Or.inr (Or.inl rfl)) (hd : (x == ("__debug__" : Str)) = false := by decide) (hcd : (x == ("__classdict__" : Str)) = false := by decide)
    (m : M2 X (.Name x p1) "get" apos e f cpos := by exact ⟨rfl, rfl, rfl, rfl⟩) : DE X (.Call (.Attribute (.Name x p1) "get" apos) [e, f] [] cpos) (dGetO i tb tc) := by
  obtain ⟨te, pe, se⟩ := dd_of he
  obtain ⟨tf, pf, sf⟩ := dd_of hf
  refine ⟨_, pe_dget2 hu (pe_var hN hv hd hcd) pe pf m, fun F ρ O σ H A P Qd Q G q k => ?_⟩
  unfold dGetO at q
  cases s0 : slot ρ i with
  | free => simp only [s0] at q
  | val d => simp only [s0] at q
  | own w =>
    cases w with
    | dk kvs0 =>
      simp only [s0] at q
      obtain ⟨g1, ⟨ff0, ws0, f20, _⟩, _, _⟩ := G.own i _ s0
      refine ⟨_, g1, A i, rfl, .inl ⟨ws0, .inl f20⟩, se F ρ O σ H A P _ _ G q fun kd ρ2 v2 O2 H2 A2 P2 S2 G2 D2 q2 => sf F ρ2 O2 σ H2 A2 P2 _ _ G2 q2 fun d ρ3 v3 O3 H3 A3 P3 S3 G3 D3 q3 => ?_⟩
      cases s3 : slot ρ3 i with
      | free => simp only [s3] at q3
      | val d => simp only [s3] at q3
      | own w =>
        cases w with
        | dk kvs =>
          cases e5 : keyD kd with
          | none => simp only [s3, e5] at q3
          | some key =>
            simp only [s3, e5] at q3
            obtain ⟨h1, ⟨_, ws, g2, g3⟩, _, _⟩ := G3.own i _ s3
            rw [g1] at h1
            have ea : A i = A3 i := V.ref.inj (Option.some.inj (Option.some.inj h1))
            have KK : KD X.K (Hs H3 O3) kvs ws := g3
            have ek := keyD_kV D2 e5
            subst ek
            refine ⟨_, by rw [ea]; exact DGet.k (k := key) g2, ?_⟩
            have S := S2.trans S3
            cases e6 : valD kvs key with
            | none =>
              rw [KK.none e6]
              rw [e6] at q3
              exact k (.d d) ρ3 _ [] O3 H3 A3 P3 S G3 D3 nw_d q3
            | some d2 =>
              obtain ⟨u, u1, u2⟩ := KK.get e6
              rw [u1]
              rw [e6] at q3
              exact k (.d d2) ρ3 _ [] O3 H3 A3 P3 S G3 u2 nw_d q3
        | _ => simp only [s3] at q3
    | _ => simp only [s0] at q
end
theorem valD_put (kvs : List (Key × PyData)) (k : Key) (d : PyData) (k' : Key) : valD (putD kvs k d) k' = if k' = k then some d else valD kvs k' := by
  unfold putD
  split
  · rename_i h
    unfold valD
    induction kvs with
    | nil => simp at h
    | cons p kvs ih =>
      rw [List.map_cons, List.find?_cons, List.find?_cons]
      by_cases c : p.1 = k
      · rw [if_pos c]
        by_cases c2 : k' = k
        · rw [if_pos c2, decide_eq_true (show (p.1, d).1 = k' by rw [c2]; exact c)]; rfl
        · rw [if_neg c2, decide_eq_false (show ¬ (p.1, d).1 = k' by intro z; exact c2 (z.symm.trans c))]
          clear ih h
          induction kvs with
          | nil => rfl
          | cons q kvs ih =>
            rw [List.map_cons, List.find?_cons, List.find?_cons]
            by_cases c3 : q.1 = k
            · rw [if_pos c3, decide_eq_false (show ¬ (q.1, d).1 = k' by intro z; exact c2 (z.symm.trans c3))]
              exact ih
            · rw [if_neg c3]
              by_cases c4 : q.1 = k'
              · rw [decide_eq_true c4]
              · rw [decide_eq_false c4]; exact ih
      · rw [if_neg c]
        have h' : (kvs.any fun kv => decide (kv.1 = k)) = true := by
          rw [List.any_cons, decide_eq_false c, Bool.false_or] at h
          exact h
        by_cases c4 : p.1 = k'
        · rw [decide_eq_true c4, if_neg (fun z => c (c4.trans z))]
        · rw [decide_eq_false c4]; exact ih h'
  · rename_i h
    have h' : (kvs.any fun kv => decide (kv.1 = k)) = false := Bool.eq_false_iff.mpr h
    unfold valD
    rw [List.find?_append]
    by_cases c : k' = k
    · subst c
      rw [if_pos rfl]
      have : kvs.find? (fun kv => decide (kv.1 = k')) = none := by
        rw [List.find?_eq_none]
        intro x hx z
        exact absurd (List.any_eq_true.mpr ⟨x, hx, z⟩) (by rw [h']; decide)
      rw [this]
      simp
    · rw [if_neg c]
      have : ([(k, d)] : List (Key × PyData)).find? (fun kv => decide (kv.1 = k')) = none := by
        rw [List.find?_cons, decide_eq_false (show ¬ (k, d).1 = k' from fun z => c z.symm)]; rfl
      rw [this]
      simp
end DL
/-! words from their blocks; mates; mirrored pairs -/
namespace DL
open PySem PySem.Spec PyProof.Rows L2
/-- the block of a word that starts at a place -/
def Mb (w : List Bool) (p : Nat) (u : List Bool) : Prop := ∃ a r, Dyck a u ∧ w.drop p = u ++ r ∧ (r = [] ∨ ∃ r2, r = false :: r2)
theorem dyck_nil : Dyck 0 [] := dyck_of rfl rfl (by decide)
theorem mb_nil {w : List Bool} {p : Nat} (h : ∀ hl : p < w.length, w[p] = false) : Mb w p [] := by
  refine ⟨0, w.drop p, dyck_nil, rfl, ?_⟩
  by_cases hl : p < w.length
  · right; rw [List.drop_eq_getElem_cons hl, h hl]; exact ⟨_, rfl⟩
  · left; exact List.drop_eq_nil_of_le (by omega)
theorem Mb.le {w u : List Bool} {p : Nat} (h : Mb w p u) : u.length ≤ w.length - p := by
  obtain ⟨a, r, _, e, _⟩ := h
  have := congrArg List.length e
  rw [List.length_drop, List.length_append] at this
  omega
theorem mb_join {n : Nat} {w : List Bool} (D : Dyck n w) {p q : Nat} (C : Cl w p q) {u v : List Bool} (hu : Mb w (p + 1) u) (hv : Mb w (q + 1) v) : Mb w p (join u v) := by
  obtain ⟨a, r, Du, e1, hr⟩ := hu
  obtain ⟨b, r2, Dv, e2, hr2⟩ := hv
  have hlp : p < w.length := by have := C.1; have := C.2.1; omega
  have hb : w[p] = true := C.up hlp
  have hd : w.drop p = true :: (u ++ r) := by rw [List.drop_eq_getElem_cons hlp, hb, e1]
  have hw : w.take p ++ (true :: (u ++ r)) = w := by rw [← hd, List.take_append_drop]
  have lt : (w.take p).length = p := by rw [List.length_take]; omega
  have hL : w.length = p + 1 + u.length + r.length := by
    have := congrArg List.length hd
    rw [List.length_drop, List.length_cons, List.length_append] at this
    omega
  have hh : ∀ i, hp w (p + 1 + i) = hp w p + 1 + hp (u ++ r) i := fun i => by
    have := hp_app_ge (u := w.take p) (z := true :: (u ++ r)) (i := p + 1 + i) (by omega)
    rw [hw, lt, show p + 1 + i - p = i + 1 by omega, hp_cons] at this
    rw [this]
    show hp w p + (1 + _) = _
    omega
  have h0 := D.pos p
  rcases hr with rfl | ⟨r3, rfl⟩
  · have h1 := hh u.length
    rw [show p + 1 + u.length = w.length by simp at hL; omega, hp_len, D.end0, hp_app_le (Nat.le_refl _), hp_len, Du.end0] at h1
    omega
  · have Cq : Cl w p (p + 1 + u.length) := by
      refine ⟨by omega, by simp at hL; omega, ?_, fun j h1 h2 => ?_⟩
      · have h1 := hh (u.length + 1)
        rw [hp_app_ge (by omega), Du.end0, show u.length + 1 - u.length = 0 + 1 by omega, hp_cons, hp_zero] at h1
        rw [show p + 1 + u.length + 1 = p + 1 + (u.length + 1) by omega, h1]
        simp
        omega
      · have h3 := hh (j - (p + 1))
        rw [show p + 1 + (j - (p + 1)) = j by omega, hp_app_le (by omega)] at h3
        have := Du.pos (j - (p + 1))
        omega
    have eq := C.right Cq
    have e3 : w.drop (q + 1) = r3 := by
      rw [eq, show p + 1 + u.length + 1 = p + (u.length + 2) by omega, ← List.drop_drop, hd]
      show (u ++ false :: r3).drop (u.length + 1) = r3
      rw [List.drop_append]
      simp
    rw [e3] at e2
    exact ⟨_, r2, dyck_join Du Dv, by rw [hd, e2]; simp [join], hr2⟩
theorem mb_full {n : Nat} {w u : List Bool} (D : Dyck n w) (h : Mb w 0 u) : u = w := by
  obtain ⟨a, r, Du, e, hr⟩ := h
  rw [List.drop_zero] at e
  rcases hr with rfl | ⟨r2, rfl⟩
  · rw [e, List.append_nil]
  · have := D.pos (u.length + 1)
    rw [e, hp_app_ge (by omega), Du.end0, show u.length + 1 - u.length = 0 + 1 by omega, hp_cons, hp_zero] at this
    simp at this
open Classical in
noncomputable def mt (w : List Bool) (p : Nat) : Nat := if h : ∃ q, Cl w p q ∨ Cl w q p then h.choose else 0
theorem mt_of {w : List Bool} {p q : Nat} (h : Cl w p q ∨ Cl w q p) : mt w p = q := by
  have e : ∃ q, Cl w p q ∨ Cl w q p := ⟨q, h⟩
  unfold mt
  rw [dif_pos e]
  exact mate_uniq e.choose_spec h
noncomputable def jn (w : List Bool) (j : Nat) : List Int := (List.range j).map fun p => ((mt w p : Nat) : Int) + 1
theorem jn_len (w : List Bool) (j : Nat) : (jn w j).length = j := by simp [jn]
theorem jn_succ (w : List Bool) (j : Nat) : jn w (j + 1) = jn w j ++ [((mt w j : Nat) : Int) + 1] := by
  unfold jn; rw [List.range_succ, List.map_append]; rfl
theorem jn_get (w : List Bool) {p j : Nat} (h : p < j) : (jn w j)[p]? = some (((mt w p : Nat) : Int) + 1) := by
  unfold jn; rw [List.getElem?_map, List.getElem?_range h]; rfl
theorem jn_joins {n : Nat} {w : List Bool} (D : Dyck n w) : Joins w (jn w w.length) := ⟨jn_len _ _, fun p h => by
  obtain ⟨q, hq⟩ := mate_exists D h
  exact ⟨q, by rw [jn_get w h, mt_of hq], hq⟩⟩
/-- a pair seen from the other end -/
def mir (t : Int) (p : Int × Int) : Int × Int := (t - p.2, t - p.1)
theorem turn2 (w : List Bool) : turnW (turnW w) = w := by
  unfold turnW
  rw [List.map_reverse, List.reverse_reverse, List.map_map]
  have : (not ∘ not) = id := by funext b; simp
  rw [this, List.map_id]
theorem turn_join (u v : List Bool) : turnW (join u v) = turnW v ++ join (turnW u) [] := by
  unfold turnW join
  simp
theorem dyckT {n : Nat} {w : List Bool} (D : Dyck n w) : Dyck n (turnW w) :=
  dyck_of (by rw [turnW_len]; exact D.len) (by rw [ht_turnW, D.end0]; rfl) fun i h => by
    rw [turnW_len] at h
    rw [hp_turnW w i (by omega), D.end0]
    have := D.pos (w.length - i)
    omega
theorem cl_turn {n : Nat} {w : List Bool} (D : Dyck n w) {p q : Nat} (C : Cl w p q) : Cl (turnW w) (w.length - 1 - q) (w.length - 1 - p) := by
  have h1 := C.1
  have h2 := C.2.1
  refine ⟨by omega, by rw [turnW_len]; omega, ?_, fun j g1 g2 => ?_⟩
  · rw [hp_turnW w _ (by omega), hp_turnW w _ (by omega), show w.length - (w.length - 1 - p + 1) = p by omega, show w.length - (w.length - 1 - q) = q + 1 by omega, C.2.2.1]
  · rw [hp_turnW w _ (by omega), hp_turnW w _ (by omega), show w.length - (w.length - 1 - q) = q + 1 by omega, C.2.2.1]
    have := C.2.2.2 (w.length - j) (by omega) (by omega)
    omega
theorem WD.turn {n : Nat} {w : List Bool} (D : Dyck n w) : WD n (turnW w) ((DL.cds w).map (mir ((w.length : Int) + 1))) := by
  have W := D.cds.1
  refine ⟨dyckT D, by rw [List.length_map]; exact W.len, ?_, fun a b => ?_⟩
  · rw [List.nodup_iff_pairwise_ne, List.pairwise_map]
    refine (List.nodup_iff_pairwise_ne.mp W.nd).imp fun {x y} h z => h ?_
    have z1 := congrArg Prod.fst z
    have z2 := congrArg Prod.snd z
    simp only [mir] at z1 z2
    exact Prod.ext (by omega) (by omega)
  · rw [List.mem_map]
    constructor
    · rintro ⟨⟨x, y⟩, hm, e⟩
      obtain ⟨p, q, rfl, rfl, C⟩ := (W.mem x y).mp hm
      have h1 := C.1
      have h2 := C.2.1
      have e1 := congrArg Prod.fst e
      have e2 := congrArg Prod.snd e
      simp only [mir] at e1 e2
      exact ⟨_, _, by omega, by omega, cl_turn D C⟩
    · rintro ⟨p, q, rfl, rfl, C⟩
      have h1 := C.1
      have h2 := C.2.1
      have C2 := cl_turn (dyckT D) C
      rw [turn2, turnW_len] at C2
      rw [turnW_len] at h2
      exact ⟨_, (W.mem _ _).mpr ⟨_, _, rfl, rfl, C2⟩, Prod.ext (by simp only [mir]; omega) (by simp only [mir]; omega)⟩
/-- the blocks left, and the pairs of each -/
noncomputable def blk (e : List Bool × Nat) : List (Int × Int) := (cds e.1).map (sft (e.2 : Int))
theorem blk_join {a b o : Nat} {u v : List Bool} (Du : Dyck a u) (Dv : Dyck b v) : blk (join u v, o) = ((o : Int) + 1, (o : Int) + u.length + 2) :: (blk (u, o + 1) ++ blk (v, o + u.length + 2)) := by
  unfold blk
  rw [cds_join Du Dv, List.map_cons, List.map_append, List.map_map, List.map_map]
  congr 1
  · exact Prod.ext (by simp only [sft]; omega) (by simp only [sft]; omega)
  · congr 1 <;> (refine List.map_congr_left fun x _ => ?_; exact Prod.ext (by simp only [sft, Function.comp]; omega) (by simp only [sft, Function.comp]; omega))
theorem blk_nil (o : Nat) : blk ([], o) = [] := rfl
theorem blk_zero (w : List Bool) : blk (w, 0) = cds w := by
  unfold blk
  refine Eq.trans (List.map_congr_left (g := id) fun x _ => ?_) (List.map_id _)
  exact Prod.ext (by simp [sft]) (by simp [sft])
theorem perm_step {fs B U V cs : List (Int × Int)} {c : Int × Int} (h : (fs ++ (B ++ (c :: (U ++ V)))).Perm cs) : ((fs ++ [c]) ++ (B ++ (U ++ V))).Perm cs := by
  refine List.Perm.trans ?_ h
  rw [List.append_assoc]
  exact List.Perm.append_left _ (show (c :: (B ++ (U ++ V))).Perm (B ++ c :: (U ++ V)) from List.perm_middle.symm)
/-- the dict of the blocks built so far, from the last pair -/
structure BuI (w : List Bool) (i : Nat) (kvs : List (Key × PyData)) : Prop where
  len : kvs.length ≤ i
  hit : ∀ j (h : j < (cds w).length), (cds w).length ≤ j + i → ∃ (p : Nat) (u : List Bool), (cds w)[j].1 = (p : Int) + 1 ∧ Mb w p u ∧ valD kvs (.inl ((p : Int) + 1)) = some (.str (wd u))
  miss : ∀ k : Int, (∀ j (h : j < (cds w).length), (cds w).length ≤ j + i → (cds w)[j].1 ≠ k) → valD kvs (.inl k) = none
theorem BuI.start (w : List Bool) : BuI w 0 [] := ⟨Nat.le_refl _, fun j h1 h2 => absurd h1 (by omega), fun _ _ => rfl⟩
theorem BuI.get {n : Nat} {w : List Bool} (D : Dyck n w) {i : Nat} {kvs : List (Key × PyData)} (B : BuI w i kvs) {p : Nat} (hq : ∀ j (h : j < (cds w).length), (cds w)[j].1 = (p : Int) + 1 → (cds w).length ≤ j + i) : ∃ u, Mb w p u ∧ (valD kvs (.inl ((p : Int) + 1))).getD (.str "") = .str (wd u) := by
  by_cases c : ∃ j, ∃ h : j < (cds w).length, (cds w)[j].1 = (p : Int) + 1
  · obtain ⟨j, h, e⟩ := c
    obtain ⟨p2, u, e2, m, v⟩ := B.hit j h (hq j h e)
    have : p2 = p := by omega
    subst this
    exact ⟨u, m, by rw [v]; rfl⟩
  · refine ⟨[], mb_nil fun hl => ?_, ?_⟩
    · cases hb : w[p] with
      | false => rfl
      | true =>
        obtain ⟨q, C⟩ := cl_exists D hl hb
        have hm := (D.cds.1.mem _ _).mpr ⟨p, q, rfl, rfl, C⟩
        obtain ⟨j, h, e⟩ := List.mem_iff_getElem.mp hm
        exact absurd ⟨j, h, by rw [e]⟩ c
    · rw [B.miss _ fun j h _ e => c ⟨j, h, e⟩]; rfl
theorem cds_asc {n : Nat} {w : List Bool} (D : Dyck n w) {i j : Nat} (hij : i < j) (hj : j < (cds w).length) : ((cds w)[i]'(by omega)).1 < (cds w)[j].1 := List.pairwise_iff_getElem.mp D.cds.2 i j (by omega) hj hij
theorem BuI.step {n : Nat} {w : List Bool} (D : Dyck n w) {i : Nat} {kvs : List (Key × PyData)} (B : BuI w i kvs) (hi : i < (cds w).length) {p : Nat} {q : Int} {u : List Bool} (e : (cds w)[(cds w).length - 1 - i]'(by omega) = ((p : Int) + 1, q)) (m : Mb w p u) :
    BuI w (i + 1) (putD kvs (.inl ((p : Int) + 1)) (.str (wd u))) := by
  refine ⟨Nat.le_trans (putD_le _ _ _) (Nat.succ_le_succ B.len), fun j h1 h2 => ?_, fun k hk => ?_⟩
  · by_cases c : (cds w).length ≤ j + i
    · obtain ⟨p2, u2, e2, m2, v2⟩ := B.hit j h1 c
      refine ⟨p2, u2, e2, m2, ?_⟩
      have := cds_asc D (i := (cds w).length - 1 - i) (j := j) (by omega) h1
      rw [e, e2] at this
      rw [valD_put, if_neg (fun z => by have := Sum.inl.inj z; omega), v2]
    · have ej : j = (cds w).length - 1 - i := by omega
      subst ej
      exact ⟨p, u, by rw [e], m, by rw [valD_put, if_pos rfl]⟩
  · rw [valD_put, if_neg, B.miss k fun j h c => hk j h (by omega)]
    intro z
    have : k = (p : Int) + 1 := Sum.inl.inj z
    exact hk ((cds w).length - 1 - i) (by omega) (by omega) (by rw [e, this])
/-- the dict of the partners of the pairs met so far -/
structure JoI (w : List Bool) (i : Nat) (kvs : List (Key × PyData)) : Prop where
  len : kvs.length ≤ 2 * i
  hit : ∀ j (h : j < (cds w).length), j < i → ∀ p q : Nat, (cds w)[j] = ((p : Int) + 1, (q : Int) + 1) → valD kvs (.inl ((p : Int) + 1)) = some (.int ((q : Int) + 1)) ∧ valD kvs (.inl ((q : Int) + 1)) = some (.int ((p : Int) + 1))
theorem JoI.start (w : List Bool) : JoI w 0 [] := ⟨Nat.le_refl _, fun j _ h2 => absurd h2 (by omega)⟩
theorem cds_cl {n : Nat} {w : List Bool} (D : Dyck n w) {j : Nat} (h : j < (cds w).length) : ∃ p q : Nat, (cds w)[j] = ((p : Int) + 1, (q : Int) + 1) ∧ Cl w p q := by
  have hm := List.getElem_mem h
  generalize (cds w)[j] = c at hm
  obtain ⟨a, b⟩ := c
  obtain ⟨p, q, e1, e2, C⟩ := (D.cds.1.mem a b).mp hm
  exact ⟨p, q, by rw [e1, e2], C⟩
theorem JoI.step {n : Nat} {w : List Bool} (D : Dyck n w) {i : Nat} {kvs : List (Key × PyData)} (J : JoI w i kvs) (hi : i < (cds w).length) {p q : Nat} (e : (cds w)[i] = ((p : Int) + 1, (q : Int) + 1)) :
    JoI w (i + 1) (putD (putD kvs (.inl ((p : Int) + 1)) (.int ((q : Int) + 1))) (.inl ((q : Int) + 1)) (.int ((p : Int) + 1))) := by
  have C : Cl w p q := by
    obtain ⟨p2, q2, e2, C⟩ := cds_cl D hi
    rw [e] at e2
    have e3 := congrArg Prod.fst e2
    have e4 := congrArg Prod.snd e2
    have : p = p2 := by simp at e3; omega
    have : q = q2 := by simp at e4; omega
    subst p2 q2
    exact C
  have V : ∀ k : Int, valD (putD (putD kvs (.inl ((p : Int) + 1)) (.int ((q : Int) + 1))) (.inl ((q : Int) + 1)) (.int ((p : Int) + 1))) (.inl k) = if k = (q : Int) + 1 then some (.int ((p : Int) + 1)) else if k = (p : Int) + 1 then some (.int ((q : Int) + 1)) else valD kvs (.inl k) := fun k => by
    rw [valD_put, valD_put]
    by_cases c1 : k = (q : Int) + 1
    · rw [if_pos (by rw [c1]), if_pos c1]
    · rw [if_neg (fun z => c1 (Sum.inl.inj z)), if_neg c1]
      by_cases c2 : k = (p : Int) + 1
      · rw [if_pos (by rw [c2]), if_pos c2]
      · rw [if_neg (fun z => c2 (Sum.inl.inj z)), if_neg c2]
  have hpq := C.1
  refine ⟨Nat.le_trans (putD_le _ _ _) (by have := putD_le kvs (.inl ((p : Int) + 1)) (.int ((q : Int) + 1)); have := J.len; omega), fun j h1 h2 p2 q2 e2 => ?_⟩
  rw [V, V]
  by_cases c : j = i
  · subst c
    rw [e] at e2
    have e3 := congrArg Prod.fst e2
    have e4 := congrArg Prod.snd e2
    have : p = p2 := by simp at e3; omega
    have : q = q2 := by simp at e4; omega
    subst p2 q2
    rw [if_neg (by omega), if_pos rfl, if_pos rfl]
    exact ⟨rfl, rfl⟩
  · have C2 : Cl w p2 q2 := by
      obtain ⟨p3, q3, e3, C3⟩ := cds_cl D h1
      rw [e2] at e3
      have e5 := congrArg Prod.fst e3
      have e4 := congrArg Prod.snd e3
      have : p2 = p3 := by simp at e5; omega
      have : q2 = q3 := by simp at e4; omega
      subst p3 q3
      exact C3
    obtain ⟨v1, v2⟩ := J.hit j h1 (by omega) p2 q2 e2
    have M : ∀ a b x y : Nat, (Cl w a b ∨ Cl w b a) → (Cl w x y ∨ Cl w y x) → a = x → b = y := fun a b x y m1 m2 z => by subst z; exact mate_uniq m1 m2
    constructor
    · by_cases g1 : p2 = q
      · have := M _ _ _ _ (.inl C2) (.inr C) g1
        subst this g1
        rw [if_pos rfl]
      · rw [if_neg (by omega)]
        by_cases g2 : p2 = p
        · have := M _ _ _ _ (.inl C2) (.inl C) g2
          subst this g2
          rw [if_pos rfl]
        · rw [if_neg (by omega), v1]
    · by_cases g1 : q2 = q
      · have := M _ _ _ _ (.inr C2) (.inr C) g1
        subst this g1
        rw [if_pos rfl]
      · rw [if_neg (by omega)]
        by_cases g2 : q2 = p
        · have := M _ _ _ _ (.inr C2) (.inl C) g2
          subst this g2
          rw [if_pos rfl]
        · rw [if_neg (by omega), v2]
theorem JoI.get {n : Nat} {w : List Bool} (D : Dyck n w) {kvs : List (Key × PyData)} (J : JoI w (cds w).length kvs) {p : Nat} (h : p < w.length) : valD kvs (.inl ((p : Int) + 1)) = some (.int (((mt w p : Nat) : Int) + 1)) := by
  obtain ⟨q, hq⟩ := mate_exists D h
  rw [mt_of hq]
  rcases hq with C | C
  · obtain ⟨j, hj, e⟩ := List.mem_iff_getElem.mp ((D.cds.1.mem _ _).mpr ⟨p, q, rfl, rfl, C⟩)
    exact (J.hit j hj hj p q e).1
  · obtain ⟨j, hj, e⟩ := List.mem_iff_getElem.mp ((D.cds.1.mem _ _).mpr ⟨q, p, rfl, rfl, C⟩)
    exact (J.hit j hj hj q p e).2
end DL
/-! sorted(set(xs)), xs a list of ints -/
namespace L2
open PySem PySem.Spec PyProof.Rows
abbrev newS (w : World) : Obj := { cls := .type "set", dict := none, data := .set #[] 0 (.fresh 0 0 (!w.params.followText "set-order")) }
section
variable {P : Program} {w : World} {A : Around} {E : Value → Shared → Prop} {s : Shared}
theorem set_of_ints {l : Addr} {xs : Array Value} {ns : List Int} {Q : Value → Shared → Prop} (h0 : A.handled = none) (hl : s.heap.IsList l xs) (hi : IntsAre xs.toList ns) (room : ns.length + 1 < scanBound)
    (k : ∀ (H : Heap) (tk c : Nat), SetR w H s.heap.objs.size (fun j => decide (j ∈ ns)) c → c ≤ ns.length → (∀ b o, s.heap.get? b = some o → H.get? b = some o) → Q (.ref s.heap.objs.size) { s with heap := H, toks := tk }) :
    wpAny (model P w) A (call (.type "set") [.ref l]) Q E s := by
  have sz : xs.size = ns.length := by
    have := IntsAre.length hi; rw [Array.length_toList] at this; exact this
  obtain ⟨_, _, m1⟩ := F.called_set.mro; have m2 := F.called_set.made; have m3 := F.called_set.sub; have m4 := F.called_set.notType; have m5 := F.called_set.canCreate; have m6 := F.typeCall_set_1 (.ref l)
  refine wpAny_call (codeAny_of_tree ?_); show wpAny _ _ (callAny (.type "set") _) _ _ _
  refine wpAny_pure ⟨Code.quiet_builtin _ (by decide +kernel), codeAny_builtin F.entry_type_call ?_⟩; rw [Around.under_plain (weight_type_call_type "set" [.ref l] []) rfl]
  repeat (any_goals (first | assumption | wp_step))
  refine codeAny_mono (code_set_led1 (.ref l) (E := E) (Q₁ := fun v t => v = .ref s.heap.objs.size ∧ t = { s with heap := s.heap.push (newS w) }) ⟨rfl, rfl⟩) fun r t hr => ?_
  match r, hr with
  | .error e, hr => exact hr
  | .ok (.ret v), hr =>
    obtain ⟨rfl, rfl⟩ := hr
    have g0 : (s.heap.push (newS w)).get? s.heap.objs.size = some (newS w) := Heap.get?_push_size _ rfl
    have ty : Shared.TypeIs { s with heap := s.heap.push (newS w) } (.ref s.heap.objs.size) "set" := ⟨_, g0, rfl⟩
    have n1 := F.called_set.init.lookup; have n2 := F.called_set.init.bind (.ref s.heap.objs.size)
    repeat (any_goals (first | assumption | wp_step))
    refine codeAny_mono (codeAny_call_builtin (R := wants (fun r t => r = .none ∧ ∃ H tk c, t = { s with heap := H, toks := tk } ∧ SetR w H s.heap.objs.size (fun j => decide (j ∈ ns)) c ∧ c ≤ ns.length ∧ (∀ b o, s.heap.get? b = some o → H.get? b = some o)) E)
      F.called_set.init.plain F.entry_set_init (check_set_init_1 ty ?_)) fun r2 t2 hr2 => ?_
    · obtain ⟨⟨c0, d0, da, sl⟩, g1, e1, nl, e2⟩ := hl
      simp only at e1 e2; subst e1; subst e2
      have g2 : (s.heap.push (newS w)).get? l = some { cls := .type "list", dict := d0, data := .seq xs nl, slots := sl } := Heap.get?_push_of_some _ g1
      have b1 := F.sub_list_set; have b2 := F.sub_list_frozenset; have b3 : (Value.type "list" == Value.type "dict") = false := by decide
      have il : (s.heap.push (newS w)).IsList l xs := ⟨_, g2, rfl, nl, rfl⟩
      unfold Builtin.«set.__init__» noKeywords Builtin.Frozenset.updateFrom
      generalize eI : pyIter = PI; wp_walk; subst eI
      refine wpAny_pyIter_list il (wpAny_bind (wpAny_runValue ?_))
      have lt : l < s.heap.objs.size := Heap.lt_size g1
      have z3 : A.in1.in1.in1.handled = none := by simp [h0]
      have zp : (s.heap.push (newS w)).objs.size = s.heap.objs.size + 1 := Heap.size_push ..
      have ne1 : l ≠ (s.heap.push (newS w)).objs.size := by rw [zp]; exact Nat.ne_of_lt (Nat.lt_succ_of_lt lt)
      have ne2 : s.heap.objs.size ∉ [(s.heap.push (newS w)).objs.size, l] := by
        rw [zp]; intro z
        rcases List.mem_cons.mp z with z | z
        · exact Nat.ne_of_lt (Nat.lt_succ_self _) z
        · exact Nat.ne_of_gt lt (List.mem_singleton.mp z)
      have hv : ∀ (i : Nat) (v : Value), xs[i]? = some v → ∃ k t, ns[i]? = some k ∧ v = .int k t := fun i v e => by
        have lti : i < ns.length := by rw [← sz]; exact (Array.getElem?_eq_some_iff.mp e).1
        obtain ⟨t, e'⟩ := PyProof.Rows.IntsAre.int_at hi i v (by rw [Array.getElem?_toList]; exact e)
        exact ⟨ns[i], t, List.getElem?_eq_getElem lti, by rw [e', List.getD_eq_getElem?_getD, List.getElem?_eq_getElem lti] <;> rfl⟩
      refine set_update_ints ((Walks.list z3 _ l ne1 xs).toS) s.heap.objs.size ne2 ns sz room hv (xs.size - 0) 0 _ (by omega) (Nat.zero_le _) ⟨⟨_, Heap.get?_push_size _ rfl, rfl, rfl⟩, (il.push _)⟩ ?S ?R
      case S => exact ⟨0, Nat.le_refl 0, setR_new_at (Heap.get?_push_of_some _ g0)⟩
      case R =>
        intro t c mv hc hS
        obtain ⟨H, g', d', tk, os'⟩ := t
        have q1 : g' = s.gens := mv.gens; have q2 : d' = s.drawn := mv.drawn; have q3 : os' = s.os := mv.os
        subst q1; subst q2; subst q3
        show wpAny _ _ _ _ _ _
        refine wpAny_pure ?_; show wpAny _ _ (ret Value.none) _ _ _
        rw [sz] at hc
        refine wpAny_pure ⟨rfl, H, tk, c, rfl, hS, hc, fun b o e => mv.heap b o ?_ (Heap.get?_push_of_some _ (Heap.get?_push_of_some _ e))⟩
        have le := Heap.lt_size e; rw [zp]; intro z
        rcases List.mem_cons.mp z with z | z
        · exact Nat.ne_of_lt le z
        · exact Nat.ne_of_lt (Nat.lt_succ_of_lt le) (List.mem_singleton.mp z)
    · match r2, hr2 with
      | .error e, hr2 => exact hr2
      | .ok (.ret r), hr2 =>
        obtain ⟨rfl, H, tk, c, rfl, hS, hc, hk⟩ := hr2
        repeat (any_goals (first | assumption | wp_step))
        exact k _ _ _ hS hc hk
      | .ok .next, hr2 => exact hr2.elim
      | .ok .brk, hr2 => exact hr2.elim
      | .ok .cont, hr2 => exact hr2.elim
  | .ok .next, hr => exact hr.elim
  | .ok .brk, hr => exact hr.elim
  | .ok .cont, hr => exact hr.elim
/-- set(xs), xs a list of fewer than 64 ints -/
def rSetI (K : PySem.W.Frag) (w : World) : List V → Hp → VK → Prop := fun vs H Q => ∃ (l : Addr) (ns : List Int), vs = [V.ref l] ∧ SqL K H l (ns.map V.int) ∧ ns.length < 64 ∧
  ∀ (p : Addr) (c : Nat), c ≤ ns.length → H p = none → Q (.ref p) (upd H p (SetO w p (fun j => decide (j ∈ ns)) c))
theorem cr_setI {X : Cx} (hc : X.calm = true) : CallR X (.type "set") (rSetI X.K X.w) := by
  intro pins s σ H vs us Q I r h
  obtain ⟨l, ns, rfl, hq, h64, q⟩ := h
  rw [Vals.ref1 r]
  obtain ⟨its, rv, pl, hz⟩ := I.list hq
  refine set_of_ints (I.ok.hd hc) pl.isList (ns := ns) (by simpa using rv.ints) (by unfold scanBound; omega) fun h' tk c hS hcl hk => ?_
  exact ⟨.ref _, upd H s.heap.objs.size (SetO X.w s.heap.objs.size (fun j => decide (j ∈ ns)) c), I.laid (t' := tk) hk (Nat.le_refl _) (setO_new hS), rfl, q _ _ hcl (I.hok.fresh (Nat.le_refl _))⟩
end
end L2
/-! sorted(set(xs)), of data -/
namespace DL
open PySem PySem.Spec PyProof.Rows L2
def gSortSet : GL := fun ds Q => match ds with
  | [.list xs] => ∃ ns : List Int, xs = ns.map .int ∧ ns.length < 64 ∧ ∀ ms : List Int, ms.Pairwise (· < ·) → (∀ k, k ∈ ms ↔ k ∈ ns) → Q (.n (.lst (ms.map .int)))
  | _ => False
def rSortSet (K : Fg) (w : World) : List V → Hp → VK → Prop := fun xs H Q => L2.rSetI K w xs H fun v H1 => L2.rSortedSet w [v] H1 Q
theorem cll_sortSet {K : Fg} {w : World} : ClL K (rSortSet K w) gSortSet := fun O H ds xs Qd Q hd hx q k => by
  unfold gSortSet at q
  split at q
  · obtain ⟨v, ws, e1, h1, h2⟩ := hx
    obtain ⟨a, ys, e2, g1, g2⟩ := h1
    have e3 : ws = [] := h2
    obtain ⟨ns, rfl, hl, q⟩ := q
    rw [g2.ints] at g1
    refine ⟨a, ns, by rw [e1, e2, e3], g1, hl, fun p c hc hn => ⟨p, _, c, rfl, upd_same, by omega, fun ms p2 hs hm hlen hn2 => ?_⟩⟩
    have sm := same_new (o := L2.SetO w p (fun j => decide (j ∈ ns)) c) hn
    have o2 := Out.lst (K := K) (O := O) (fun b ob => by
      rw [upd_ne (ne_of_none (o := (H b).get (Option.ne_none_iff_isSome.mp (hd b ob))) (by simp) hn)]; exact hd b ob) hn2 (DvL.of_ints (K := K) ms)
    obtain ⟨s2, p3, fp, ev, hf, ow⟩ := o2
    refine k (.n (.lst (ms.map .int))) _ _ ⟨sm.trans s2, p3, fp, ev, fun b hb => ⟨?_, (hf b hb).2⟩, ow⟩ (q ms hs fun j => by rw [hm]; simp)
    have h0 := (hf b hb).1
    by_cases eb : b = p
    · rw [eb]; exact hn
    · rw [upd_ne eb] at h0; exact h0
  · exact q.elim
section
variable {X : Cx} {e : Expr} {tas : DTA} {p p2 q pos : Pos}
theorem de_sortedSet (hc : X.calm = true) (hg : Gl X "sorted") (hm : X.mg "sorted" = none) (hg2 : Gl X "set") (hm2 : X.mg "set" = none) (ha : DA X [e] tas)
    (he2 : starEach [e] X.env = (false, eval e X.env) :: starEach [] X.env := by rfl) (he : starEach [.Call (.Name "set" p2) [e] [] q] X.env = (false, eval (.Call (.Name "set" p2) [e] [] q) X.env) :: starEach [] X.env := by rfl)
    (hp2 : (backTo q (starEach [] X.env)).any (·.1) = false := by rfl) (hp1 : (backTo pos (starEach [] X.env)).any (·.1) = false := by rfl) :
    DE X (.Call (.Name "sorted" p) [.Call (.Name "set" p2) [e] [] q] [] pos) (dCl gSortSet tas) := by
  obtain ⟨te, pa, s⟩ := ha
  have p1 : PE X (.Call (.Name "set" p2) [e] [] q) (tCB (L2.rSetI X.K X.w) te) := pe_callTy (L2.cr_setI hc) hg2 hm2 (by decide +kernel) pa (he := he2) (hpl := hp2)
  have p0 : PE X (.Call (.Name "sorted" p) [.Call (.Name "set" p2) [e] [] q] [] pos) (tCB (L2.rSortedSet X.w) (tCons (tCB (L2.rSetI X.K X.w) te) tNil)) := pe_callB (L2.cr_sortedSet hc) hg hm (by decide +kernel) (pa_cons p1 pa_nil he) (he := he) (hpl := hp1)
  exact ⟨tCB (rSortSet X.K X.w) te, p0, sim_cl cll_sortSet s⟩
end
end DL
/-! all words of a size are those of the numbers from 0 -/
namespace DL
open PySem PySem.Spec PyProof.Rows L2
def fullS (b : Nat) (X : List (List Bool × Nat)) : List (List Bool) := X.flatMap fun e => (List.range (cp e.2 b)).map fun r => e.1 ++ un e.2 b r
theorem range_add_map {α : Type} (a b : Nat) (f : Nat → α) : (List.range (a + b)).map f = (List.range a).map f ++ (List.range b).map fun r => f (a + r) := by
  rw [List.range_add, List.map_append, List.map_map]; rfl
theorem un_step (p : List Bool) (h b : Nat) : ((List.range (cp h (b + 1))).map fun r => p ++ un h (b + 1) r) =
    (if 0 < h then (List.range (cp (h - 1) b)).map (fun r => (p ++ [false]) ++ un (h - 1) b r) else []) ++ (if h < b + 1 then (List.range (cp (h + 1) b)).map (fun r => (p ++ [true]) ++ un (h + 1) b r) else []) := by
  rw [cp_split, range_add_map]
  congr 1
  · unfold sc
    by_cases c : h = 0
    · rw [if_pos c, if_neg (by omega)]; rfl
    · rw [if_neg c, if_pos (by omega)]
      refine List.map_congr_left fun r hr => ?_
      have : r < sc h b := by unfold sc; rw [if_neg c]; exact List.mem_range.mp hr
      rw [show un h (b + 1) r = if r < sc h b then false :: un (h - 1) b r else true :: un (h + 1) b (r - sc h b) from rfl, if_pos this]
      simp
  · by_cases c : h < b + 1
    · rw [if_pos c]
      refine List.map_congr_left fun r _ => ?_
      rw [show un h (b + 1) (sc h b + r) = if sc h b + r < sc h b then false :: un (h - 1) b (sc h b + r) else true :: un (h + 1) b (sc h b + r - sc h b) from rfl, if_neg (by omega), Nat.add_sub_cancel_left]
      simp
    · rw [if_neg c, cp_above (by omega)]; rfl
theorem full_step (b : Nat) : ∀ X, fullS b (stepT (b + 1) X) = fullS (b + 1) X
  | [] => rfl
  | e :: X => by
    have ih := full_step b X
    have e1 : stepT (b + 1) (e :: X) = ((if 0 < e.2 then [(e.1 ++ [false], e.2 - 1)] else []) ++ (if e.2 < b + 1 then [(e.1 ++ [true], e.2 + 1)] else [])) ++ stepT (b + 1) X := rfl
    have e2 : ∀ Y Z, fullS b (Y ++ Z) = fullS b Y ++ fullS b Z := fun Y Z => List.flatMap_append
    have e3 : fullS (b + 1) (e :: X) = ((List.range (cp e.2 (b + 1))).map fun r => e.1 ++ un e.2 (b + 1) r) ++ fullS (b + 1) X := rfl
    have e4 : ∀ x, fullS b [x] = (List.range (cp x.2 b)).map fun r => x.1 ++ un x.2 b r := fun x => by
      show _ ++ [] = _
      rw [List.append_nil]
    rw [e1, e2, ih, e3, un_step, e2]
    congr 2
    · split
      · exact e4 _
      · rfl
    · split
      · exact e4 _
      · rfl
theorem full_all (many : Nat) : ∀ k, k ≤ 2 * many → fullS (2 * many - k) (allS many k) = fullS (2 * many) [([], 0)]
  | 0, _ => rfl
  | k + 1, h => by
    have ih := full_all many k (by omega)
    rw [← ih, show allS many (k + 1) = stepT (2 * many - k) (allS many k) from rfl]
    obtain ⟨b, hb⟩ : ∃ b, 2 * many - k = b + 1 := ⟨2 * many - k - 1, by omega⟩
    rw [hb, show 2 * many - (k + 1) = b by omega]
    exact full_step b _
theorem allS_inv (many : Nat) : ∀ k, k ≤ 2 * many → ∀ e ∈ allS many k, e.1.length = k ∧ e.2 + k ≤ 2 * many ∧ (e.2 + k) % 2 = 0
  | 0, h, e, he => by
    have : e = ([], 0) := List.mem_singleton.mp he
    subst this
    exact ⟨rfl, by simp, rfl⟩
  | k + 1, h, e, he => by
    obtain ⟨f, hf, hm⟩ := List.mem_flatMap.mp (show e ∈ (allS many k).flatMap _ from he)
    obtain ⟨i1, i2, i3⟩ := allS_inv many k (by omega) f hf
    rcases List.mem_append.mp hm with hm | hm
    · split at hm
      · rename_i c
        rw [List.mem_singleton.mp hm]
        exact ⟨by simp [i1], by simp only; omega, by simp only; omega⟩
      · exact absurd hm (by simp)
    · split at hm
      · rename_i c
        rw [List.mem_singleton.mp hm]
        exact ⟨by simp [i1], by simp only; omega, by simp only; omega⟩
      · exact absurd hm (by simp)
theorem allS_le (many : Nat) : ∀ k, (allS many k).length ≤ 2 ^ k
  | 0 => Nat.le_refl _
  | k + 1 => by
    have ih := allS_le many k
    have : ∀ l : List (List Bool × Nat), (stepT (2 * many - k) l).length ≤ 2 * l.length := fun l => by
      induction l with
      | nil => exact Nat.le_refl _
      | cons e l i =>
        show ((if 0 < e.2 then [(e.1 ++ [false], e.2 - 1)] else []) ++ (if e.2 < 2 * many - k then [(e.1 ++ [true], e.2 + 1)] else []) ++ stepT (2 * many - k) l).length ≤ 2 * (l.length + 1)
        rw [List.length_append, List.length_append]
        split <;> split <;> simp <;> omega
    have h := this (allS many k)
    show (stepT (2 * many - k) (allS many k)).length ≤ _
    rw [Nat.pow_succ]
    omega
theorem allT_un (many : Nat) : allT many = (List.range (cp 0 (2 * many))).map (un 0 (2 * many)) := by
  have h := full_all many (2 * many) (Nat.le_refl _)
  rw [Nat.sub_self] at h
  have e0 : ∀ X : List (List Bool × Nat), (∀ e ∈ X, e.2 = 0) → fullS 0 X = X.map (·.1) := fun X => by
    induction X with
    | nil => exact fun _ => rfl
    | cons e X ih =>
      intro hX
      have z := hX e (by simp)
      show ((List.range (cp e.2 0)).map fun r => e.1 ++ un e.2 0 r) ++ fullS 0 X = e.1 :: X.map (·.1)
      rw [ih fun f hf => hX f (by simp [hf]), z, cp_zero_l, if_pos rfl]
      show (e.1 ++ []) :: _ = _
      rw [List.append_nil]; rfl
  have e1 : allT many = fullS 0 (allS many (2 * many)) := (e0 _ fun e he => by have := (allS_inv many (2 * many) (Nat.le_refl _) e he).2.1; omega).symm
  rw [e1, h]
  show ((List.range (cp 0 (2 * many))).map fun r => [] ++ un 0 (2 * many) r) ++ [] = _
  rw [List.append_nil]; rfl
theorem allT_cnt (many : Nat) : (allT many).length = cp 0 (2 * many) := by rw [allT_un]; simp
theorem allT_get {many k : Nat} (h : k < cp 0 (2 * many)) : (allT many)[k]? = some (un 0 (2 * many) k) := by
  rw [allT_un, List.getElem?_map, List.getElem?_range h]; rfl
/-! list(range(n)) -/
section
variable {X : Cx} {a : Expr} {ta : DTE} {pos : Pos}
def dLstR1 (ta : DTE) : DTE := fun ρ Q => ta ρ fun r ρ1 => match view ρ1 r with
  | some (.int j) => (0 ≤ j ∧ j ≤ 100000) ∧ Q (.n (.lst ((List.range (j - 0).toNat).map fun (k : Nat) => .int (0 + k)))) ρ1
  | _ => False
theorem de_listR1 {p p2 pos2 : Pos} (hc : X.calm = true) (hg : Gl X "list") (hm : X.mg "list" = none) (hg2 : Gl X "range") (hm2 : X.mg "range" = none) (ha : DE X a ta)
    (na : starEach [a] X.env = (false, eval a X.env) :: starEach [] X.env := by rfl)
    (n2 : starEach [.Call (.Name "range" p2) [a] [] pos2] X.env = (false, eval (.Call (.Name "range" p2) [a] [] pos2) X.env) :: starEach [] X.env := by rfl) :
    DE X (.Call (.Name "list" p) [.Call (.Name "range" p2) [a] [] pos2] [] pos) (dLstR1 ta) := by
  obtain ⟨ea, pa, sa⟩ := ha
  refine ⟨_, pe_listRg hc hg hm (prg_1 hg2 hm2 pa na) n2, fun F ρ O σ H A P Qd Q G q k => ?_⟩
  refine sa F ρ O σ H A P _ _ G q fun r1 ρ1 v1 fp1 O1 H1 A1 P1 S1 G1 R1 N1 q1 => ?_
  split at q1
  · next j e1 =>
    have V1 : v1 = V.int j := view_ok G1 R1 e1
    refine ⟨j, V1, RgOk.of_le (Int.le_refl 0) (by omega) (by omega) (by omega), fun p hp => ?_⟩
    obtain ⟨O3, fo, S3, G3, R3, N3⟩ := (Out.lst G1.dom hp (rgV_dv (K := X.K) 0 j)).fin G1
    exact k _ ρ1 _ fo O3 _ A1 P1 (S1.trans S3) G3 R3 (S1.back N3) q1.2
  · exact q1.elim
end
end DL
/-! calls of defs with keyword-only defaults -/
namespace DL
open PySem PySem.Spec PyProof.Rows L2
section
variable {X : Cx} {e : Expr} {es : List Expr} {kws : List Keyword} {tl tk2 : DTL} {pos : Pos}
/-- f(e, ..), the defaults dds fill up -/
def dCallD (sp : DSp) (dds : List PyData) (t : DTL) : DTE := fun ρ Q => t ρ fun ds ρ1 => sp (ds ++ dds) fun r => Q r ρ1
theorem sim_callD {K : Fg} {te : TA} {sp : DSp} {E : XK} {dds : List PyData} {dvs : List V} (hdv : ∀ H, DvL K H dds dvs) (s : SimL K te tl) : Sim K (tCall (spD K sp) dvs E te) (dCallD sp dds tl) := fun F ρ O σ H A P Qd Q G q k => by
  refine s F ρ O σ H A P _ _ G q fun ds ρ1 vs O1 H1 A1 P1 S1 G1 D1 q1 => ?_
  refine ⟨O1, ds ++ dds, _, G1.dom, D1.app (hdv _), q1, fun r v H2 sm rt q2 => ?_⟩
  obtain ⟨O2, fo, S2, G2, R2, N2⟩ := (rt.out sm).fin G1
  exact k r ρ1 v fo O2 H2 A1 P1 (S1.trans S2) G2 R2 (S1.back N2) q2
theorem de_callD {CX : CXT} {k : Nat} {f : Addr} {fd : FuncData} {ps : List Str} {sp : DSp} {E : XK} {x : Str} {p : Pos} {dds : List PyData} {dvs : List V} {ds : List Value} (Fo : FnOk X.prog X.w X.K X.mg X.base CX k f fd ps (spD X.K sp)) (hr : Room k X.A) (hg : Gl X x) (hm : X.mg x = some (.ref f)) (hk : PySem.W.keepIn X.K (.ref f) = true) (hb : Binds X.K fd ps ds) (hd : Vals dvs ds) (hdv : ∀ H, DvL X.K H dds dvs) (hx : Passes CX X E)
    (ha : DLs X (e :: es) tl) (hdb : (x == ("__debug__" : Str)) = false := by decide) (he : starEach (e :: es) X.env = (false, eval e X.env) :: starEach es X.env := by rfl) (hpl : (backTo pos (starEach es X.env)).any (·.1) = false := by rfl) : DE X (.Call (.Name x p) (e :: es) [] pos) (dCallD sp dds tl) := by
  obtain ⟨te, pa, s⟩ := ha
  exact ⟨_, pe_call Fo hr hg hm hk hb hd hx pa hdb he hpl, sim_callD hdv s⟩
/-- f(e, .., k = v, ..): n values by place, m by name; gd puts them in the parameters' order -/
def dCallN (n m : Nat) (sp : DSp) (gd : List PyData → List PyData → List PyData) (t u : DTL) : DTE := fun ρ Q => t ρ fun ds ρ1 => u ρ1 fun es ρ2 => ds.length = n ∧ es.length = m ∧ sp (gd ds es) fun r => Q r ρ2
theorem de_callN {CX : CXT} {k n : Nat} {f : Addr} {fd : FuncData} {ps ks : List Str} {sp : DSp} {E : XK} {x : Str} {p : Pos} {g : List Value → List Value → List Value} {gV : List V → List V → List V} {gd : List PyData → List PyData → List PyData}
    (Fo : FnOk X.prog X.w X.K X.mg X.base CX k f fd ps (spD X.K sp)) (hr : Room k X.A) (hg : Gl X x) (hm : X.mg x = some (.ref f)) (hk : PySem.W.keepIn X.K (.ref f) = true) (hb : KBn X.K fd ps n ks g gV) (hx : Passes CX X E)
    (hd : ∀ {H : Hp} {ds es : List PyData} {vs us : List V}, DvL X.K H ds vs → DvL X.K H es us → DvL X.K H (gd ds es) (gV vs us)) (ha : DLs X (e :: es) tl) (hkw : DKs X kws tk2)
    (hall : (backToKw pos (keywordEach kws X.env)).all (·.1.isSome) = true := by rfl) (hks : (backToKw pos (keywordEach kws X.env)).filterMap (·.1) = ks := by rfl)
    (hdb : (x == ("__debug__" : Str)) = false := by decide) (he : starEach (e :: es) X.env = (false, eval e X.env) :: starEach es X.env := by rfl)
    (hpl : ((backTo pos (starEach (e :: es) X.env)).any (·.1) || (backToKw pos (keywordEach kws X.env)).any (·.1.isNone)) = false := by rfl) : DE X (.Call (.Name x p) (e :: es) kws pos) (dCallN n ks.length sp gd tl tk2) := by
  obtain ⟨te, pa, s⟩ := ha
  obtain ⟨tk, pk, u⟩ := hkw
  refine ⟨_, pe_callN Fo hr hg hm hk hb hx pa pk hall hks hdb he hpl, fun F ρ O σ H A P Qd Q G q k => ?_⟩
  refine s F ρ O σ H A P _ _ G q fun ds ρ1 vs O1 H1 A1 P1 S1 G1 D1 q1 => u F ρ1 O1 σ H1 A1 P1 _ _ G1 q1 fun es2 ρ2 us O2 H2 A2 P2 S2 G2 D2 q2 => ?_
  have D1' := D1.mono S2.same
  refine ⟨by rw [D1.length]; exact q2.1, by rw [D2.length]; exact q2.2.1, O2, gd ds es2, _, G2.dom, hd D1' D2, q2.2.2, fun r v H3 sm rt q3 => ?_⟩
  obtain ⟨O3, fo, S3, G3, R3, N3⟩ := (rt.out sm).fin G2
  exact k r ρ2 v fo O3 H3 A2 P2 ((S1.trans S2).trans S3) G3 R3 ((S1.trans S2).back N3) q3
end
end DL
/-! sorted, min, max over data of any depth; defs with a keyword-only default -/
namespace DL
open PySem PySem.Spec PyProof.Rows L2

/-! ### sorted of data -/
theorem each_zipV {K : Fg} {H : Hp} : ∀ {ds : List PyData} {xs : List V} {us : List Value}, DvL K H ds xs → Vals xs us → PySem.W.EachIs (fun (v : Value) (b : PyData × V) => RelV b.2 v) us (ds.zip xs)
  | [], _, _, h, r => by
    have h' : _ = [] := h
    subst h'
    cases r
    exact .nil
  | d :: ds, _, _, h, r => by
    obtain ⟨y, ys, e, h1, h2⟩ := h
    subst e
    cases r with
    | cons r1 r2 => exact .cons r1 (each_zipV h2 r2)
mutual
theorem alike_nd : ∀ {d : PyData}, PySem.W.alike d d = true → d.hasDict = false
  | .none, _ => by simp only [PyData.hasDict]
  | .bool _, _ => by simp only [PyData.hasDict]
  | .int _, _ => by simp only [PyData.hasDict]
  | .str _, _ => by simp only [PyData.hasDict]
  | .list xs, h => by
    simp only [PyData.hasDict]
    exact alikeAll_nd (show PySem.W.alikeAll xs xs = true from h)
  | .tuple xs, h => by
    simp only [PyData.hasDict]
    exact alikeAll_nd (show PySem.W.alikeAll xs xs = true from h)
  | .dict _, h => nomatch (show false = true from h)
theorem alikeAll_nd : ∀ {ds : List PyData}, PySem.W.alikeAll ds ds = true → PyData.hasDictAll ds = false
  | [], _ => by simp only [PyData.hasDictAll]
  | d :: ds, h => by
    have h' : (PySem.W.alike d d && PySem.W.alikeAll ds ds) = true := h
    rw [Bool.and_eq_true] at h'
    simp only [PyData.hasDictAll, alike_nd h'.1, alikeAll_nd h'.2, Bool.or_self]
end
theorem nd_all : ∀ {ds : List PyData}, (∀ d ∈ ds, PySem.W.alike d d = true) → PyData.hasDictAll ds = false
  | [], _ => by simp only [PyData.hasDictAll]
  | d :: ds, h => by
    have q := nd_all (ds := ds) fun x hx => h x (List.mem_cons_of_mem _ hx)
    simp only [PyData.hasDictAll, alike_nd (h d List.mem_cons_self), q, Bool.or_self]
theorem each_readsV {X : Cx} {pins : List (Addr × Obj)} {σ : L2.St} {H : Hp} {s : Shared} (I : Inv X pins σ H s) : ∀ {ds : List PyData} {xs : List V} {us : List Value}, DvL X.K H ds xs → PyData.hasDictAll ds = false → Vals xs us → PySem.W.EachIs (fun (v : Value) (b : PyData × V) => ∃ as, Reads s.heap v b.1 as) us (ds.zip xs)
  | [], _, _, h, _, r => by
    have h' : _ = [] := h
    subst h'
    cases r
    exact .nil
  | d :: ds, _, _, h, n, r => by
    obtain ⟨y, ys, e, h1, h2⟩ := h
    subst e
    simp only [PyData.hasDictAll, Bool.or_eq_false_iff] at n
    cases r with
    | cons r1 r2 => exact .cons (Dp.reads I _ _ _ (h1.dp n.1) r1) (each_readsV I h2 n.2 r2)
theorem vals_each : ∀ {us : List Value} {bs : List (PyData × V)}, PySem.W.EachIs (fun (v : Value) (b : PyData × V) => RelV b.2 v) us bs → Vals (bs.map (·.2)) us
  | _, _, .nil => .nil
  | _, _, .cons r t => .cons r (vals_each t)
theorem zip_fst {K : Fg} {H : Hp} {ds : List PyData} {xs : List V} (h : DvL K H ds xs) : (ds.zip xs).map Prod.fst = ds := List.map_fst_zip (by rw [h.length]; exact Nat.le_refl _)
theorem zip_dv {K : Fg} {H : Hp} : ∀ {ds : List PyData} {xs : List V}, DvL K H ds xs → ∀ b ∈ ds.zip xs, Dv K H b.1 b.2
  | [], _, h, b, hb => by simp at hb
  | d :: ds, _, h, b, hb => by
    obtain ⟨y, ys, e, h1, h2⟩ := h
    subst e
    rcases List.mem_cons.mp (show b ∈ (d, y) :: ds.zip ys from hb) with e | hb
    · rw [e]; exact h1
    · exact zip_dv h2 b hb
theorem dvl_of {K : Fg} {H : Hp} : ∀ {bs : List (PyData × V)}, (∀ b ∈ bs, Dv K H b.1 b.2) → DvL K H (bs.map (·.1)) (bs.map (·.2))
  | [], _ => rfl
  | b :: bs, h => ⟨_, _, rfl, h b (by simp), dvl_of fun c hc => h c (by simp [hc])⟩
theorem depth_mem : ∀ {ds : List PyData} {d : PyData}, d ∈ ds → d.depth ≤ PyData.depthAll ds
  | e :: ds, d, h => by
    have e1 : PyData.depthAll (e :: ds) = max e.depth (PyData.depthAll ds) := rfl
    rcases List.mem_cons.mp h with z | z
    · rw [z]; omega
    · have := depth_mem z; omega
def rSortD (K : Fg) : List V → Hp → VK → Prop := fun vs H Q => ∃ (a : Addr) (xs : List V) (ds : List PyData), vs = [V.ref a] ∧ SqL K H a xs ∧ DvL K H ds xs ∧ PySem.W.AllAlike ds ∧ PySem.W.Sortable ds ∧ PyData.depthAll ds ≤ 60 ∧
  ∀ (zs : List (PyData × V)) (p : Addr), zs.Perm (ds.zip xs) → zs.map (·.1) = ds.mergeSort (PySem.W.dataLe false id) → H p = none → Q (.ref p) (upd H p (.lst (zs.map (·.2))))
theorem cr_sortD {X : Cx} (hu : X.A.units + 200 < cLine) : CallR X (.builtin "sorted") (rSortD X.K) := by
  intro pins s σ H vs us Q I r h
  obtain ⟨a, xs, ds, rfl, hs, hd, al, so, dp, q⟩ := h
  obtain ⟨its, rv, hl, hz⟩ := I.list hs
  rw [Vals.ref1 r]
  have zf := zip_fst hd
  have zl : (ds.zip xs).length = xs.length := by rw [List.length_zip, hd.length, Nat.min_self]
  refine PySem.W.sorted_data (β := PyData × V) (enc := Prod.fst) (bs := ds.zip xs) (R := fun (v : Value) (b : PyData × V) => RelV b.2 v) hl.isList (each_zipV hd rv) (each_readsV I hd (nd_all fun d hd' => al d hd' d hd') rv) (by rw [zf]; exact al) (by rw [zf]; exact so) (by rw [zl]; exact hz) (fun b hb => ?_) fun out hlen he => ?_
  · have : b.1 ∈ ds := by rw [← zf]; exact List.mem_map.mpr ⟨b, hb, rfl⟩
    have := depth_mem this
    omega
  · obtain ⟨ep, he'⟩ := PyProof.Rows.sortedAll_at s.heap its out.toArray
    have hp := List.mergeSort_perm (ds.zip xs) (PySem.W.dataLe false Prod.fst)
    have hlen2 : (((ds.zip xs).mergeSort (PySem.W.dataLe false Prod.fst)).map (·.2)).length ≤ sizeLine := by rw [List.length_map, hp.length_eq, zl]; exact hz
    have hm : ((ds.zip xs).mergeSort (PySem.W.dataLe false Prod.fst)).map (·.1) = ds.mergeSort (PySem.W.dataLe false id) := by
      have e := List.map_mergeSort (r := PySem.W.dataLe false (Prod.fst : PyData × V → PyData)) (s := PySem.W.dataLe false (id : PyData → PyData)) (f := (Prod.fst : PyData × V → PyData)) (l := ds.zip xs) (fun _ _ _ _ => rfl)
      rw [zf] at e
      exact e
    exact ⟨.ref _, upd H (s.heap.objs.size + 1) (.lst (((ds.zip xs).mergeSort (PySem.W.dataLe false Prod.fst)).map (·.2))), I.laid (t' := s.toks) (fun _ _ => PyProof.Rows.sortedAll_old) (Nat.le_succ _) ⟨hlen2, out, ep, vals_each he, he'⟩, rfl, q _ _ hp hm (I.hok.fresh (Nat.le_succ _))⟩
def gSortD : GL := fun ds Q => match ds with
  | [.list xs] => PySem.W.AllAlike xs ∧ PySem.W.Sortable xs ∧ PyData.depthAll xs ≤ 60 ∧ Q (.n (.lst (xs.mergeSort (PySem.W.dataLe false id))))
  | _ => False
theorem cll_sortD {K : Fg} : ClL K (rSortD K) gSortD := fun O H ds xs Qd Q hd hx q k => by
  unfold gSortD at q
  split at q
  · obtain ⟨v, ws, e1, h1, h2⟩ := hx
    obtain ⟨a, ys, e2, g1, g2⟩ := h1
    have e3 : ws = [] := h2
    refine ⟨a, ys, _, by rw [e1, e2, e3], g1, DvL.mono Hs_sub g2, q.1, q.2.1, q.2.2.1, fun zs p hp hm hn => ?_⟩
    refine k _ _ _ (Out.lst hd hn ?_) q.2.2.2
    rw [← hm]
    exact dvl_of fun b hb => zip_dv g2 b (hp.mem_iff.mp hb)
  · exact q.elim
/-- typed items -/
theorem sortD_of {α : Type} (enc : α → PyData) (as : List α) : ∃ bs : List α, bs.Perm as ∧ bs.Pairwise (fun a b => PySem.W.dataLt (enc b) (enc a) = false) ∧ (as.map enc).mergeSort (PySem.W.dataLe false id) = bs.map enc := by
  refine ⟨as.mergeSort (PySem.W.dataLe false enc), List.mergeSort_perm _ _, ?_, ?_⟩
  · have h := PySem.W.sort_pairwise (PySem.W.sortLe_total (PyProof.Rows.listOrd PyProof.Rows.itemOrd) false fun a : α => PySem.W.keyToks (enc a)) as
    refine h.imp fun {a b} h => ?_
    have h' : (!PySem.W.dataLt (enc b) (enc a)) = true := h
    simpa using h'
  · exact (List.map_mergeSort (r := PySem.W.dataLe false enc) (s := PySem.W.dataLe false (id : PyData → PyData)) (f := enc) (l := as) (fun _ _ _ _ => rfl)).symm

/-! ### min, max of a list or a tuple of data -/
mutual
theorem reads_inj {h : Heap} : ∀ {d e : PyData} {v : Value} {as bs : List Addr}, PySem.W.alike d d = true → Reads h v d as → Reads h v e bs → d = e
  | .none, _, _, _, _, _, .none, r => by cases r; rfl
  | .bool _, _, _, _, _, _, .bool _, r => by cases r; rfl
  | .int _, _, _, _, _, _, .int _ _, r => by cases r; rfl
  | .str _, _, _, _, _, _, .str _ _, r => by cases r; rfl
  | .list xs, _, _, _, _, l, .list h1 h2 h3 h4, r => by
    cases r with
    | list g1 g2 g3 g4 =>
      rw [h1] at g1; cases g1
      rw [h3] at g3; cases g3
      rw [readsAll_inj l h4 g4]
    | tuple g1 g2 g3 g4 => rw [h1] at g1; cases g1; rw [h2] at g2; exact absurd (Value.type.inj g2) (by decide)
    | dict g1 g2 g3 g4 g5 => rw [h1] at g1; cases g1; rw [h2] at g2; exact absurd (Value.type.inj g2) (by decide)
  | .tuple xs, _, _, _, _, l, .tuple h1 h2 h3 h4, r => by
    cases r with
    | tuple g1 g2 g3 g4 =>
      rw [h1] at g1; cases g1
      rw [h3] at g3; cases g3
      rw [readsAll_inj l h4 g4]
    | list g1 g2 g3 g4 => rw [h1] at g1; cases g1; rw [h2] at g2; exact absurd (Value.type.inj g2) (by decide)
    | dict g1 g2 g3 g4 g5 => rw [h1] at g1; cases g1; rw [h2] at g2; exact absurd (Value.type.inj g2) (by decide)
  | .dict _, _, _, _, _, l, _, _ => by cases l
theorem readsAll_inj {h : Heap} : ∀ {ds es : List PyData} {vs : List Value} {as bs : List Addr}, PySem.W.alikeAll ds ds = true → ReadsAll h vs ds as → ReadsAll h vs es bs → ds = es
  | [], _, _, _, _, _, .nil, r => by cases r; rfl
  | d :: ds, _, _, _, _, l, .cons h1 h2, r => by
    have l' : (PySem.W.alike d d && PySem.W.alikeAll ds ds) = true := l
    rw [Bool.and_eq_true] at l'
    cases r with
    | cons g1 g2 => rw [reads_inj l'.1 h1 g1, readsAll_inj l'.2 h2 g2]
end
def rMMD (K : Fg) (mm : PyData → List PyData → PyData) : List V → Hp → VK → Prop := fun vs H Q => ∃ (a : Addr) (xs : List V) (x : PyData) (ds : List PyData), vs = [V.ref a] ∧ (SqL K H a xs ∨ SqT K H a xs) ∧ DvL K H (x :: ds) xs ∧ PySem.W.AlikeAll (x :: ds) ∧ PyData.depthAll (x :: ds) ≤ 60 ∧
  ∀ (i : Nat) (v : V), xs[i]? = some v → (x :: ds)[i]? = some (mm x ds) → Q v H
theorem mm_fin {X : Cx} {pins : List (Addr × Obj)} {σ : L2.St} {H : Hp} {s : Shared} (I : Inv X pins σ H s) {xs : List V} {its : List Value} {ds : List PyData} {m : PyData} {Q : VK} {i : Nat} {v : Value} {h' : Heap} {tk : Nat} {bs : List Addr} (rv : Vals xs its) (hd : DvL X.K H ds xs) (al : ∀ x ∈ ds, ∀ y ∈ ds, PySem.W.alike x y = true)
    (hv : its.toArray[i]? = some v) (r : Reads h' v m bs) (k : ∀ b o, s.heap.get? b = some o → h'.get? b = some o) (q : ∀ (i : Nat) (v : V), xs[i]? = some v → ds[i]? = some m → Q v H) : EP X pins σ Q v { s with heap := h', toks := tk } := by
  have hv' : its[i]? = some v := by simpa using hv
  have hi : i < its.length := (List.getElem?_eq_some_iff.mp hv').1
  have hx : i < xs.length := by rw [rv.length]; exact hi
  have ex := List.getElem?_eq_getElem hx
  obtain ⟨u, e1, r1⟩ := rv.get ex
  rw [hv'] at e1; cases e1
  obtain ⟨d, e2, hdv⟩ := hd.getV ex
  have hm : d ∈ ds := List.mem_of_getElem? e2
  obtain ⟨as, rd⟩ := Dp.reads I _ _ _ (hdv.dp (alike_nd (al d hm d hm))) r1
  have e3 := reads_inj (al d hm d hm) (PyProof.Rows.Reads.keeps k rd) r
  exact ⟨xs[i], H, I.kept (t' := tk) k, r1, q i _ ex (by rw [e2, e3])⟩
theorem cr_minD {X : Cx} (hc : X.calm = true) (hu : X.A.units + 200 < cLine) : CallR X (.builtin "min") (rMMD X.K PySem.W.minD) := by
  intro pins s σ H vs us Q I r h
  obtain ⟨a, xs, x, ds, rfl, hs, hd, al, dp, q⟩ := h
  rw [Vals.ref1 r]
  rcases hs with hs | hs
  · obtain ⟨its, rv, hl, hz⟩ := I.list hs
    obtain ⟨as, rd⟩ := Dp.readsAll I _ _ _ (hd.dp (nd_all fun d hd' => al.1 d hd' d hd')) rv
    exact PySem.W.min_list_data (I.ok.hd hc) hl.isList rd al (by omega) fun i v h' tk bs hv rr k => mm_fin I rv hd al.1 hv rr k q
  · obtain ⟨its, rv, hl, hz⟩ := I.tuple hs
    obtain ⟨as, rd⟩ := Dp.readsAll I _ _ _ (hd.dp (nd_all fun d hd' => al.1 d hd' d hd')) rv
    exact PySem.W.min_tuple_data (I.ok.hd hc) hl rd al (by omega) fun i v h' tk bs hv rr k => mm_fin I rv hd al.1 hv rr k q
theorem cr_maxD {X : Cx} (hc : X.calm = true) (hu : X.A.units + 200 < cLine) : CallR X (.builtin "max") (rMMD X.K PySem.W.maxD) := by
  intro pins s σ H vs us Q I r h
  obtain ⟨a, xs, x, ds, rfl, hs, hd, al, dp, q⟩ := h
  rw [Vals.ref1 r]
  rcases hs with hs | hs
  · obtain ⟨its, rv, hl, hz⟩ := I.list hs
    obtain ⟨as, rd⟩ := Dp.readsAll I _ _ _ (hd.dp (nd_all fun d hd' => al.1 d hd' d hd')) rv
    exact PySem.W.max_list_data (I.ok.hd hc) hl.isList rd al (by omega) fun i v h' tk bs hv rr k => mm_fin I rv hd al.1 hv rr k q
  · obtain ⟨its, rv, hl, hz⟩ := I.tuple hs
    obtain ⟨as, rd⟩ := Dp.readsAll I _ _ _ (hd.dp (nd_all fun d hd' => al.1 d hd' d hd')) rv
    exact PySem.W.max_tuple_data (I.ok.hd hc) hl rd al (by omega) fun i v h' tk bs hv rr k => mm_fin I rv hd al.1 hv rr k q
def gMMD (mm : PyData → List PyData → PyData) : GL := fun ds Q => match ds with
  | [.list (x :: xs)] => PySem.W.AlikeAll (x :: xs) ∧ PyData.depthAll (x :: xs) ≤ 60 ∧ Q (.d (mm x xs))
  | [.tuple (x :: xs)] => PySem.W.AlikeAll (x :: xs) ∧ PyData.depthAll (x :: xs) ≤ 60 ∧ Q (.d (mm x xs))
  | _ => False
theorem cll_mmD {K : Fg} {mm : PyData → List PyData → PyData} : ClL K (rMMD K mm) (gMMD mm) := fun O H ds xs Qd Q hd hx q k => by
  unfold gMMD at q
  split at q
  · obtain ⟨v, ws, e1, h1, h2⟩ := hx
    obtain ⟨a, ys, e2, g1, g2⟩ := h1
    have e3 : ws = [] := h2
    refine ⟨a, ys, _, _, by rw [e1, e2, e3], .inl g1, DvL.mono Hs_sub g2, q.1, q.2.1, fun i v hv hm => ?_⟩
    obtain ⟨d, e4, h4⟩ := g2.getV hv
    rw [hm] at e4; cases e4
    exact k _ _ H (Out.sc h4) q.2.2
  · obtain ⟨v, ws, e1, h1, h2⟩ := hx
    obtain ⟨a, ys, e2, g1, g2⟩ := h1
    have e3 : ws = [] := h2
    refine ⟨a, ys, _, _, by rw [e1, e2, e3], .inr g1, DvL.mono Hs_sub g2, q.1, q.2.1, fun i v hv hm => ?_⟩
    obtain ⟨d, e4, h4⟩ := g2.getV hv
    rw [hm] at e4; cases e4
    exact k _ _ H (Out.sc h4) q.2.2
  · exact q.elim
theorem mm_pair (a b : Int) : PySem.W.AlikeAll [.int a, .int b] ∧ PyData.depthAll [.int a, .int b] ≤ 60 ∧ PySem.W.minD (.int a) [.int b] = .int (min a b) ∧ PySem.W.maxD (.int a) [.int b] = .int (max a b) := by
  refine ⟨⟨fun x hx y hy => ?_, fun x hx => ?_⟩, by show max 0 (max 0 0) ≤ 60; decide, PySem.W.minD_ints a [b], PySem.W.maxD_ints a [b]⟩
  · simp only [List.mem_cons, List.not_mem_nil, or_false] at hx hy
    rcases hx with rfl | rfl <;> rcases hy with rfl | rfl <;> rfl
  · simp only [List.mem_cons, List.not_mem_nil, or_false] at hx
    rcases hx with rfl | rfl <;> exact fun z => nomatch z

/-! ### keyword-only defaults -/
theorem FunD.fun0 {K : Fg} {x qual : Str} {st : Stmt} {kws : List (Str × V)} {f : Addr} {fd : FuncData} (F : FunD K x qual (defArgs st) (defBody st) (defScope st) [] kws f fd) : Fun K x qual st f fd := by
  obtain ⟨oc, od, dV, kV, doc, pm, an, cdv, ct, osl, rfl, lk, hcd, hD, hK⟩ := F.ex
  rcases hD with ⟨_, rfl⟩ | ⟨e, _⟩
  · exact ⟨⟨oc, od, kV, doc, pm, an, cdv, ct, osl, rfl, lk, hcd⟩, F.kp⟩
  · exact absurd rfl e
theorem fund_mk {K : Fg} {x qual n : Str} {st : Stmt} {f D : Addr} {i : Int} {t : Tok} {oc : Value} {od an : Option Addr} {osl : Array (Option Value)} {doc pm cdv ct : Value} (l : K.lookup f = some ⟨oc, od, .func (PySem.W.fnOf x qual (defArgs st) (defBody st) (defScope st) .none (.ref D) doc pm an cdv ct), osl⟩)
    (c : PySem.W.codeIn K cdv qual = true) (k : PySem.W.keepIn K (.ref f) = true) (q : PySem.W.nsIn K D n = some (some (.int i t))) : FunD K x qual (defArgs st) (defBody st) (defScope st) [] [(n, V.int i)] f (PySem.W.fnOf x qual (defArgs st) (defBody st) (defScope st) .none (.ref D) doc pm an cdv ct) :=
  ⟨⟨oc, od, .none, .ref D, doc, pm, an, cdv, ct, osl, rfl, l, c, .inl ⟨rfl, rfl⟩, .inr ⟨D, rfl, fun p hp => by
    have e : p = (n, V.int i) := by simpa using hp
    rw [e]
    exact ⟨_, q, ⟨t, rfl⟩⟩⟩⟩, k⟩
section
variable {X : Cx} {e : Expr} {es : List Expr} {kws : List Keyword} {tl tk2 : DTL} {pos : Pos}
/-- f(e, ..), one keyword-only default -/
theorem de_callD1 {CX : CXT} {k : Nat} {f : Addr} {fd : FuncData} {ps : List Str} {sp : DSp} {E : XK} {x : Str} {p : Pos} {i : Int} (Fo : FnOk X.prog X.w X.K X.mg X.base CX k f fd ps (spD X.K sp)) (hr : Room k X.A) (hg : Gl X x) (hm : X.mg x = some (.ref f)) (hk : PySem.W.keepIn X.K (.ref f) = true) (hb : ∃ ds, Vals [V.int i] ds ∧ Binds X.K fd ps ds) (hx : Passes CX X E)
    (ha : DLs X (e :: es) tl) (hdb : (x == ("__debug__" : Str)) = false := by decide) (he : starEach (e :: es) X.env = (false, eval e X.env) :: starEach es X.env := by rfl) (hpl : (backTo pos (starEach es X.env)).any (·.1) = false := by rfl) : DE X (.Call (.Name x p) (e :: es) [] pos) (dCallD sp [.int i] tl) := by
  obtain ⟨ds, hd, hb⟩ := hb
  exact de_callD Fo hr hg hm hk hb hd (fun H => ⟨_, _, rfl, rfl, rfl⟩) hx ha hdb he hpl
/-- f(k = v, ..), one keyword-only default lacks -/
theorem de_callK1 {CX : CXT} {k : Nat} {f : Addr} {fd : FuncData} {ps ks : List Str} {sp : DSp} {E : XK} {x : Str} {p : Pos} {i : Int} (Fo : FnOk X.prog X.w X.K X.mg X.base CX k f fd ps (spD X.K sp)) (hr : Room k X.A) (hg : Gl X x) (hm : X.mg x = some (.ref f)) (hk : PySem.W.keepIn X.K (.ref f) = true)
    (hb : ∃ u, RelV (V.int i) u ∧ KB0 X.K fd ps ks (fun ws => ws ++ [u]) (fun zs => zs ++ [V.int i])) (hx : Passes CX X E) (hkw : DKs X kws tk2)
    (hall : (backToKw pos (keywordEach kws X.env)).all (·.1.isSome) = true := by rfl) (hks : (backToKw pos (keywordEach kws X.env)).filterMap (·.1) = ks := by rfl) (hdb : (x == ("__debug__" : Str)) = false := by decide)
    (hpl : ((backTo pos (starEach [] X.env)).any (·.1) || (backToKw pos (keywordEach kws X.env)).any (·.1.isNone)) = false := by rfl) : DE X (.Call (.Name x p) [] kws pos) (dCallK sp (fun ds => ds ++ [.int i]) tk2) := by
  obtain ⟨u, hu, hb⟩ := hb
  exact de_callK0 Fo hr hg hm hk hb hx (fun h => h.app ⟨_, _, rfl, rfl, rfl⟩) hkw hall hks hdb hpl
end
section
variable {K : Fg} {x qual n m : Str} {st : Stmt} {f : Addr} {fd : FuncData} {i : Int}
theorem bd_one (F : FunD K x qual (defArgs st) (defBody st) (defScope st) [] [(m, V.int i)] f fd)
    (h : ∀ (D : Addr) (doc pm : Value) (an : Option Addr) (cdv ct u v : Value), KwChain D [(m, v)] (bindArgs (PySem.W.fnOf x qual (defArgs st) (defBody st) (defScope st) .none (.ref D) doc pm an cdv ct) ⟨[u], []⟩) [(n, u), (m, v)]) : ∃ ds, Vals [V.int i] ds ∧ Binds K fd [n, m] ds :=
  FunD.binds0 (ps := [n, m]) F 1 (List.cons_ne_nil _ _) rfl fun D doc pm an cdv ct us ks h1 h2 => match us, ks, h1, h2 with
    | [u], [v], _, _ => h D doc pm an cdv ct u v
theorem bk_one (F : FunD K x qual (defArgs st) (defBody st) (defScope st) [] [(m, V.int i)] f fd)
    (h : ∀ (D : Addr) (doc pm : Value) (an : Option Addr) (cdv ct u v : Value), KwChain D [(m, v)] (bindArgs (PySem.W.fnOf x qual (defArgs st) (defBody st) (defScope st) .none (.ref D) doc pm an cdv ct) ⟨[], [(n, u)]⟩) [(n, u), (m, v)]) : ∃ u, RelV (V.int i) u ∧ KB0 K fd [n, m] [n] (fun ws => ws ++ [u]) (fun zs => zs ++ [V.int i]) := by
  obtain ⟨oc, od, dV, kV, doc, pm, an, cdv, ct, osl, rfl, lk, hcd, hD, hK⟩ := F.ex
  rcases hD with ⟨_, rfl⟩ | ⟨e, _⟩
  · rcases hK with e | ⟨D, rfl, hq⟩
    · cases e
    · obtain ⟨ks, hl, rk, hks⟩ := kwd_vals hq
      match ks, hl, rk, hks with
      | [v], _, .cons r1 _, hks =>
        refine ⟨v, r1, ⟨fun s ws X hlen => ?_, fun r => r.append (.cons r1 .nil)⟩⟩
        match ws, hlen with
        | [u], _ => exact BindsTo.of_looks fun M => KwChain.looks X hks (h D doc pm an cdv ct u v)
        | [], z => simp at z
        | _ :: _ :: _, z => simp at z
  · exact absurd rfl e
theorem kbn_one (F : Fun K x qual st f fd)
    (h : ∀ (kV doc pm : Value) (an : Option Addr) (cdv ct a b : Value), bindArgs (PySem.W.fnOf x qual (defArgs st) (defBody st) (defScope st) .none kV doc pm an cdv ct) ⟨[a], [(m, b)]⟩ = pure [(n, a), (m, b)]) : KBn K fd [n, m] 1 [m] (fun us ws => us ++ ws) (fun us ws => us ++ ws) := by
  obtain ⟨oc, od, kV, doc, pm, an, cdv, ct, osl, rfl, lk, hcd⟩ := F.ex
  refine ⟨fun s us ws _ h1 h2 => ?_, fun r1 r2 => r1.append r2⟩
  match us, ws, h1, h2 with
  | [a], [b], _, _ => exact .of_eq (h kV doc pm an cdv ct a b)
end
/-! ### list(range(a, b, -1)) -/
section
variable {X : Cx} {a b c : Expr} {ta tb tc : TE} {da db dc : DTE}
def rgN (a b : Int) : List V := (List.range (a - b).toNat).map fun i => V.int (a - (i : Nat))
theorem vals_rgN {a b : Int} {acc : Array Value} (h : ItemsOf (fun i v => ∃ t, v = .int (a + i * (-1)) t) acc (a - b).toNat) : Vals (rgN a b) acc.toList := by
  have e : acc.toList.length = (a - b).toNat := by rw [Array.length_toList]; exact h.1
  unfold rgN
  rw [← e]
  refine vals_of_get acc.toList _ fun j u hj => ?_
  obtain ⟨t, rfl⟩ := h.2 j u (by rw [← hj, Array.getElem?_toList])
  exact ⟨t, by rw [show a + (j : Int) * (-1) = a - (j : Int) by omega]⟩
def tLstRgN (ta tb tc : TE) : TE := fun σ H Q => ta σ H fun x H1 => tb σ H1 fun y H2 => tc σ H2 fun z H3 => ∃ i j, x = .int i ∧ y = .int j ∧ z = .int (-1) ∧ (0 ≤ i ∧ i ≤ 100000 ∧ 0 ≤ j ∧ j ≤ 100000) ∧ ∀ q, H3 q = none → Q (.ref q) (upd H3 q (.lst (rgN i j)))
theorem pe_listRgN {p p2 pos pos2 : Pos} (hc : X.calm = true) (hg : Gl X "list") (hm : X.mg "list" = none) (hg2 : Gl X "range") (hm2 : X.mg "range" = none) (ha : PE X a ta) (hb : PE X b tb) (hcc : PE X c tc)
    (na : starEach [a, b, c] X.env = (false, eval a X.env) :: starEach [b, c] X.env := by rfl) (nb : starEach [b, c] X.env = (false, eval b X.env) :: starEach [c] X.env := by rfl) (nc : starEach [c] X.env = (false, eval c X.env) :: starEach [] X.env := by rfl)
    (n2 : starEach [.Call (.Name "range" p2) [a, b, c] [] pos2] X.env = (false, eval (.Call (.Name "range" p2) [a, b, c] [] pos2) X.env) :: starEach [] X.env := by rfl)
    (hp : (backTo pos2 (starEach [b, c] X.env)).any (·.1) = false := by rfl) : PE X (.Call (.Name "list" p) [.Call (.Name "range" p2) [a, b, c] [] pos2] [] pos) (tLstRgN ta tb tc) := by
  refine ⟨fun pins s σ H Q I h => ?_⟩
  refine Call_ (ld_blt I hg hm boot_list (PyProof.Rows.callWith_type1 (args_cons ?_ n2) n2))
  refine Call_ (ld_blt I hg2 hm2 boot_range (PyProof.Rows.callWith_type1 (args_cons (thn (ha.run pins s σ H _ I h) fun v s1 ⟨x, H1, I1, r1, q1⟩ => args_cons (thn (hb.run pins s1 σ H1 _ I1 q1) fun v2 s2 ⟨y, H2, I2, r2, q2⟩ => one_arg hcc I2 q2 (fun u s3 z H3 I3 r3 q => ?_) nc) nb) na) na hp))
  obtain ⟨i, j, rfl, rfl, rfl, ⟨h1, h2, h3, h4⟩, q⟩ := q
  obtain ⟨t1, rfl⟩ := r1
  obtain ⟨t2, rfl⟩ := r2
  obtain ⟨t3, rfl⟩ := r3
  obtain ⟨_, c1, c2, c3⟩ := RgC.neg (i := i) (j := j) (by omega) (by omega) (by omega) (by omega)
  refine call_range_3 (by decide) ?_ (.inl (PyProof.noPylong_small c1))
  refine args_nil ?_
  have I4 : Inv X pins σ H3 { s3 with heap := s3.heap.push { cls := .type "range", data := .fields #[.int i t1, .int j t2, .int (-1) t3] }, toks := s3.toks } := I3.kept fun b u e => Heap.get?_push_of_some _ e
  refine call_list_range (n := (i - j).toNat) (I4.ok.hd hc) (IsRange.new _ _ _ _ _ _ _) c2 c3 (by omega) fun h' tk acc c' hk e' hi => ?_
  refine ⟨.ref _, upd H3 _ (.lst (rgN i j)), I4.laid hk (Nat.le_refl _) (show ObjOk X.prog X.w _ _ _ (.lst (rgN i j)) from ⟨?_, acc.toList, c', vals_rgN hi, ?_⟩), rfl, q _ (I4.hok.fresh (Nat.le_refl _))⟩
  · unfold rgN
    rw [List.length_map, List.length_range, sizeLine_eq]; omega
  · rw [Array.toArray_toList]; exact e'
def dLstRN (ta tb tc : DTE) : DTE := fun ρ Q => ta ρ fun r ρ1 => tb ρ1 fun s ρ2 => tc ρ2 fun u ρ3 => match view ρ3 r, view ρ3 s, view ρ3 u with
  | some (.int i), some (.int j), some (.int k) => (0 ≤ i ∧ i ≤ 100000 ∧ 0 ≤ j ∧ j ≤ 100000) ∧ k = -1 ∧ Q (.n (.lst ((List.range (i - j).toNat).map fun (k : Nat) => .int (i - k)))) ρ3
  | _, _, _ => False
theorem rgN_dv {K : Fg} {H : Hp} (a b : Int) : DvL K H ((List.range (a - b).toNat).map fun (k : Nat) => PyData.int (a - k)) (rgN a b) := by
  unfold rgN
  have : ((List.range (a - b).toNat).map fun (k : Nat) => PyData.int (a - k)) = ((List.range (a - b).toNat).map fun (k : Nat) => a - (k : Int)).map PyData.int := by rw [List.map_map]; rfl
  rw [this]
  have e2 : ((List.range (a - b).toNat).map fun i => V.int (a - (i : Nat))) = ((List.range (a - b).toNat).map fun (k : Nat) => a - (k : Int)).map V.int := by rw [List.map_map]; rfl
  rw [e2]
  exact DvL.of_ints _
theorem de_listRN {p p2 pos pos2 : Pos} (hc : X.calm = true) (hg : Gl X "list") (hm : X.mg "list" = none) (hg2 : Gl X "range") (hm2 : X.mg "range" = none) (ha : DE X a da) (hb : DE X b db) (hcc : DE X c dc)
    (na : starEach [a, b, c] X.env = (false, eval a X.env) :: starEach [b, c] X.env := by rfl) (nb : starEach [b, c] X.env = (false, eval b X.env) :: starEach [c] X.env := by rfl) (nc : starEach [c] X.env = (false, eval c X.env) :: starEach [] X.env := by rfl)
    (n2 : starEach [.Call (.Name "range" p2) [a, b, c] [] pos2] X.env = (false, eval (.Call (.Name "range" p2) [a, b, c] [] pos2) X.env) :: starEach [] X.env := by rfl)
    (hp : (backTo pos2 (starEach [b, c] X.env)).any (·.1) = false := by rfl) : DE X (.Call (.Name "list" p) [.Call (.Name "range" p2) [a, b, c] [] pos2] [] pos) (dLstRN da db dc) := by
  obtain ⟨ea, pa, sa⟩ := ha
  obtain ⟨eb, pb, sb⟩ := hb
  obtain ⟨ec, pc, sc⟩ := hcc
  refine ⟨_, pe_listRgN hc hg hm hg2 hm2 pa pb pc na nb nc n2 hp, fun F ρ O σ H A P Qd Q G q k => ?_⟩
  refine sa F ρ O σ H A P _ _ G q fun r1 ρ1 v1 fp1 O1 H1 A1 P1 S1 G1 R1 N1 q1 => sb F ρ1 O1 σ H1 A1 P1 _ _ G1 q1 fun r2 ρ2 v2 fp2 O2 H2 A2 P2 S2 G2 R2 N2 q2 => sc F ρ2 O2 σ H2 A2 P2 _ _ G2 q2 fun r3 ρ3 v3 fp3 O3 H3 A3 P3 S3 G3 R3 N3 q3 => ?_
  have R1' := (S2.trans S3).rk R1
  have R2' := S3.rk R2
  split at q3
  · next i j kk e1 e2 e3 =>
    have V1 : v1 = V.int i := view_ok G3 R1' e1
    have V2 : v2 = V.int j := view_ok G3 R2' e2
    have V3 : v3 = V.int kk := view_ok G3 R3 e3
    obtain ⟨q4, rfl, q5⟩ := q3
    refine ⟨i, j, V1, V2, V3, q4, fun p hp => ?_⟩
    obtain ⟨O4, fo, S4, G4, R4, N4⟩ := (Out.lst G3.dom hp (rgN_dv (K := X.K) i j)).fin G3
    have S := (S1.trans S2).trans S3
    exact k _ ρ3 _ fo O4 _ A3 P3 (S.trans S4) G4 R4 (S.back N4) q5
  · exact q3.elim
end
end DL
namespace DL
open PySem PySem.Spec PyProof.Rows L2
/-! ### is, is not of truth values -/
def gIsB (neg : Bool) : G2 := fun d e Q => match d, e with
  | .bool a, .bool b => Q (.d (.bool (if neg then !decide (a = b) else decide (a = b))))
  | _, _ => False
theorem opl_isB {K : Fg} : OpL K rIsB (gIsB false) := fun O H d e x y Qd Q hd hx hy q k => by
  unfold gIsB at q
  split at q
  · exact ⟨_, _, hx, hy, k _ _ H (Out.sc (d := .bool _) rfl) q⟩
  · exact q.elim
theorem opl_notB {K : Fg} : OpL K rNotB (gIsB true) := fun O H d e x y Qd Q hd hx hy q k => by
  unfold gIsB at q
  split at q
  · exact ⟨_, _, hx, hy, k _ _ H (Out.sc (d := .bool _) rfl) q⟩
  · exact q.elim
end DL
namespace DL
open PySem PySem.Spec PyProof.Rows L2
/-! ### zip of two tuples or lists -/
theorem itD_zipT {K : Fg} {a b : Addr} {xs ys : List V} {ds es : List PyData} {S : Hp} (h : SqT K S a xs) (D : DvL K S ds xs) (h2 : SqT K S b ys) (D2 : DvL K S es ys) (hl : ds.length = es.length) : ItD K (RZ.ItzT K a b) S ds.length (zpD ds es) := fun H O sm dm => by
  have g1 := same_sqT sm h
  have g2 := same_sqT sm h2
  have k1 := same_sqT (Hs_sub (H := H) (O := O)) g1
  have k2 := same_sqT (Hs_sub (H := H) (O := O)) g2
  have E1 := D.mono sm
  have E2 := D2.mono sm
  have l1 := D.length
  have l2 := D2.length
  refine ⟨fun i hi => ?_, xs, ys, k1, k2, .inl (by omega)⟩
  obtain ⟨x, hx, dx⟩ := E1.get (List.getElem?_eq_getElem hi)
  obtain ⟨y, hy, dy⟩ := E2.get (List.getElem?_eq_getElem (show i < es.length by omega))
  refine ⟨⟨xs, ys, x, y, k1, k2, hx, hy⟩, fun v H' hv => ?_⟩
  obtain ⟨T, x', y', rfl, hT, rfl, e1, e2⟩ := hv
  have ex : x' = x := by have := e1 xs k1; rw [hx] at this; exact (Option.some.inj this).symm
  have ey : y' = y := by have := e2 ys k2; rw [hy] at this; exact (Option.some.inj this).symm
  subst ex; subst ey
  unfold zpD
  rw [nth_at (List.getElem?_eq_getElem hi), nth_at (List.getElem?_eq_getElem (show i < es.length by omega))]
  exact Out.tup dm hT ⟨_, _, rfl, dx, _, _, rfl, dy, rfl⟩
def dItZA (t : DTL) : DTI := fun ρ Q => t ρ fun ds ρ1 => match ds with
  | [.list xs, .list ys] => xs.length = ys.length ∧ Q xs.length (zpD xs ys) ρ1
  | [.tuple xs, .tuple ys] => xs.length = ys.length ∧ Q xs.length (zpD xs ys) ρ1
  | _ => False
theorem di_zipA {X : Cx} {e e2 : Expr} {tl : DTL} {p pos tpos : Pos} {elts : List Expr} {kk : Nat} (hg : Gl X "zip") (hm : X.mg "zip" = none) (h : DLs X [e, e2] tl)
    (hs : starEach [e, e2] X.env = (false, eval e X.env) :: starEach [e2] X.env := by rfl) (hpl : (backTo pos (starEach [e2] X.env)).any (·.1) = false := by rfl) :
    DI X (.Tuple elts kk tpos) (.Call (.Name "zip" p) [e, e2] [] pos) (dItZA tl) := by
  obtain ⟨te, pa, s⟩ := h
  refine ⟨_, RZ.pi_zipA hg hm pa (hs := hs) (hpl := hpl), fun F ρ O σ H A P Qd R G q k => s F ρ O σ H A P _ _ G q fun ds ρ1 vs O1 H1 A1 P1 S1 G1 D1 q1 => ?_⟩
  split at q1
  · next xs ys =>
    obtain ⟨v, ws, e2, ⟨a, us, e3, s3, d3⟩, v2, ws2, e4, ⟨b, us2, e5, s5, d5⟩, e6⟩ := D1
    have e7 : ws2 = [] := e6
    obtain ⟨hl, q2⟩ := q1
    exact ⟨a, b, us, us2, by rw [e2, e3, e4, e5, e7], .inl ⟨same_sqL Hs_sub s3, same_sqL Hs_sub s5, k _ _ ρ1 _ O1 H1 A1 P1 S1 G1 (itD_zip s3 d3 s5 d5 hl) q2⟩⟩
  · next xs ys =>
    obtain ⟨v, ws, e2, ⟨a, us, e3, s3, d3⟩, v2, ws2, e4, ⟨b, us2, e5, s5, d5⟩, e6⟩ := D1
    have e7 : ws2 = [] := e6
    obtain ⟨hl, q2⟩ := q1
    exact ⟨a, b, us, us2, by rw [e2, e3, e4, e5, e7], .inr ⟨same_sqT Hs_sub s3, same_sqT Hs_sub s5, k _ _ ρ1 _ O1 H1 A1 P1 S1 G1 (itD_zipT s3 d3 s5 d5 hl) q2⟩⟩
  · exact q1.elim
end DL
/-! diagrams turned and mirrored: their words, their renumberings -/
namespace DL
open PySem PySem.Spec PyProof.Rows L2

theorem WD.permC {n : Nat} {w : List Bool} {ps : List (Int × Int)} (h : WD n w ps) : ps.Perm (DL.cds w) := by
  have c := h.dy.cds
  refine (List.perm_ext_iff_of_nodup h.nd c.1.nd).mpr fun x => ?_
  rw [show x = (x.1, x.2) from rfl, h.mem, c.1.mem]
theorem WD.uniq {n : Nat} {w : List Bool} {ps qs : List (Int × Int)} (h : WD n w ps) (p : qs.Perm ps) (s : qs.Pairwise leP) : qs = DL.cds w := (h.perm p).eq s
/-- the word of the diagram that is turned by one point -/
theorem WD.rot1 {a b : Nat} {u v : List Bool} (Du : Dyck a u) (Dv : Dyck b v) : WD (a + b + 1) (u ++ join v []) ((DL.cds (join u v)).map (ren (rotp (2 * ((a + b + 1 : Nat) : Int)) 1))) := by
  have lu := Du.len
  have lv := Dv.len
  have Dw := dyck_join Du Dv
  have W := Dw.cds.1
  have D0 : Dyck 0 ([] : List Bool) := ⟨rfl, rfl, fun i => by simp [hp, ht]⟩
  have Dj : Dyck (b + 0 + 1) (join v []) := dyck_join Dv D0
  have D2 : Dyck (a + b + 1) (u ++ join v []) := by
    refine ⟨by rw [List.length_append, join_len, lu, lv]; simp; omega, by rw [ht_app, Du.end0, Dj.end0]; rfl, fun i => ?_⟩
    by_cases hi : i ≤ u.length
    · rw [hp_app_le hi]; exact Du.pos i
    · rw [hp_app_ge (by omega), Du.end0, Int.zero_add]; exact Dj.pos _
  have low : ∀ i, i ≤ u.length → hp (u ++ join v []) i = hp (join u v) (i + 1) - 1 := fun i hi => by
    rw [hp_app_le hi, hp_join Du.end0, if_neg (by omega), if_pos (by omega), Nat.add_sub_cancel]; omega
  have high : ∀ i, u.length < i → i ≤ u.length + v.length + 1 → hp (u ++ join v []) i = hp (join u v) (i + 1) + 1 := fun i h1 h2 => by
    rw [hp_app_ge (by omega), Du.end0, hp_join Dv.end0, if_neg (by omega), if_pos (by omega), hp_join Du.end0, if_neg (by omega), if_neg (by omega), show i + 1 - u.length - 2 = i - u.length - 1 by omega]; omega
  have last : hp (u ++ join v []) (u.length + v.length + 2) = 0 := by
    rw [hp_app_ge (by omega), Du.end0, hp_join Dv.end0, if_neg (by omega), if_neg (by omega)]
    have : hp ([] : List Bool) (u.length + v.length + 2 - u.length - v.length - 2) = 0 := by simp [hp, ht]
    rw [this]; rfl
  have len2 : (u ++ join v []).length = u.length + v.length + 2 := by rw [List.length_append, join_len]; simp; omega
  have rp : ∀ p : Nat, p + 1 < u.length + v.length + 2 → rotp (2 * ((a + b + 1 : Nat) : Int)) 1 ((p : Int) + 1 + 1) = (p : Int) + 1 := fun p h => by
    unfold rotp
    rw [Int.emod_eq_of_lt (by omega) (by omega)]; omega
  have rp0 : rotp (2 * ((a + b + 1 : Nat) : Int)) 1 1 = (u.length : Int) + v.length + 2 := by
    unfold rotp
    have e : (1 - 1 - 1 : Int) = -1 := rfl
    rw [e, Int.emod_def, show (-1 : Int) / (2 * ((a + b + 1 : Nat) : Int)) = -1 from by
      rw [Int.ediv_eq_neg_one_of_neg_of_le (by omega) (by omega)]]
    omega
  have fwd : ∀ x ∈ (DL.cds (join u v)).map (ren (rotp (2 * ((a + b + 1 : Nat) : Int)) 1)), ∃ p q : Nat, x.1 = (p : Int) + 1 ∧ x.2 = (q : Int) + 1 ∧ Cl (u ++ join v []) p q := fun x hx => by
    obtain ⟨y, hy, rfl⟩ := List.mem_map.mp hx
    obtain ⟨p, q, e1, e2, c⟩ := (W.mem y.1 y.2).mp hy
    have c1 := c.1
    have c2 := c.2.1
    rw [join_len] at c2
    unfold ren
    rw [e1, e2]
    by_cases hp0 : p = 0
    · subst hp0
      have eq := Cl.right c (cl_join Du)
      subst eq
      rw [show ((0 : Nat) : Int) + 1 = 1 from rfl, rp0, show ((u.length + 1 : Nat) : Int) + 1 = (u.length : Int) + 1 + 1 by omega, rp u.length (by omega)]
      refine ⟨u.length, u.length + v.length + 1, by omega, by omega, by omega, by omega, ?_, fun j h1 h2 => ?_⟩
      · rw [show u.length + v.length + 1 + 1 = u.length + v.length + 2 by omega, last, low _ (Nat.le_refl _), hp_join Du.end0, if_neg (by omega), if_pos (by omega), Nat.add_sub_cancel, hp_len, Du.end0]; rfl
      · rw [low _ (Nat.le_refl _), high j h1 h2, hp_join Du.end0, if_neg (by omega), if_pos (by omega), Nat.add_sub_cancel, hp_len, Du.end0]
        have := Dw.pos (j + 1)
        omega
    · obtain ⟨p', rfl⟩ : ∃ p', p = p' + 1 := ⟨p - 1, by omega⟩
      obtain ⟨q', rfl⟩ : ∃ q', q = q' + 1 := ⟨q - 1, by omega⟩
      rw [show ((p' + 1 : Nat) : Int) + 1 = (p' : Int) + 1 + 1 by omega, show ((q' + 1 : Nat) : Int) + 1 = (q' : Int) + 1 + 1 by omega, rp p' (by omega), rp q' (by omega)]
      refine ⟨p', q', by omega, by omega, by omega, by omega, ?_⟩
      have c3 := c.2.2.1
      have c4 := c.2.2.2
      have end0 : hp (join u v) (u.length + 2) = 0 := by
        rw [hp_join Du.end0, if_neg (by omega), if_neg (by omega), show u.length + 2 - u.length - 2 = 0 by omega]; rfl
      by_cases hpu : p' < u.length
      · have hpp : 1 ≤ hp (join u v) (p' + 1) := by
          rw [hp_join Du.end0, if_neg (by omega), if_pos (by omega), Nat.add_sub_cancel]
          have := Du.pos p'
          omega
        have hq : q' < u.length := by
          refine Nat.lt_of_not_le fun z => ?_
          have z2 : u.length + 2 ≤ q' + 1 ∨ q' = u.length := by omega
          rcases z2 with z2 | z2
          · have := c4 (u.length + 2) (by omega) z2
            omega
          · subst z2
            rw [show u.length + 1 + 1 = u.length + 2 by omega, end0] at c3
            omega
        refine ⟨?_, fun j h1 h2 => ?_⟩
        · rw [low _ (by omega), low _ (by omega), c3]
        · rw [low _ (by omega), low _ (by omega)]
          have := c4 (j + 1) (by omega) (by omega)
          omega
      · have hpu2 : u.length < p' := by
          refine Nat.lt_of_le_of_ne (by omega) fun z => ?_
          have d := Cl.up c (by rw [join_len]; omega)
          have d2 := Cl.down (cl_join (v := v) Du) (by rw [join_len]; omega)
          subst z
          rw [d] at d2
          cases d2
        refine ⟨?_, fun j h1 h2 => ?_⟩
        · by_cases hz : q' + 1 ≤ u.length + v.length + 1
          · rw [high _ (by omega) hz, high _ hpu2 (by omega), c3]
          · have := Dw.pos (p' + 1)
            have e : q' + 1 + 1 = (join u v).length := by rw [join_len]; omega
            have c5 := c3
            rw [e, hp_len, Dw.end0] at c5
            omega
        · rw [high _ hpu2 (by omega), high _ (by omega) (by omega)]
          have := c4 (j + 1) (by omega) (by omega)
          omega
  have N0 := (NC.rot (Dw.dg.nc) 1)
  have nd : ((DL.cds (join u v)).map (ren (rotp (2 * ((a + b + 1 : Nat) : Int)) 1))).Nodup := by
    refine List.nodup_iff_pairwise_ne.mpr (N0.ap.imp_of_mem fun {x y} mx my h e => ?_)
    subst e
    have := N0.inn x mx
    unfold apart at h
    omega
  have len : ((DL.cds (join u v)).map (ren (rotp (2 * ((a + b + 1 : Nat) : Int)) 1))).length = a + b + 1 := N0.len
  refine ⟨D2, len, nd, fun x y => ⟨fun h => ?_, fun hr => ?_⟩⟩
  · obtain ⟨p, q, e1, e2, c⟩ := fwd _ h
    exact ⟨p, q, e1, e2, c⟩
  · have c := D2.cds
    have m2 := (c.1.mem x y).mpr hr
    refine all_of_sub nd (fun z hz => ?_) (by rw [c.1.len, len]; exact Nat.le_refl _) _ m2
    obtain ⟨p, q, e1, e2, cc⟩ := fwd z hz
    exact (c.1.mem z.1 z.2).mpr ⟨p, q, e1, e2, cc⟩

theorem rotp_rotp {N s t p : Int} (hN : 0 < N) : rotp N t (rotp N s p) = rotp N (s + t) p := by
  unfold rotp
  rw [show (p - 1 - s) % N + 1 - 1 - t = (p - 1 - s) % N - t by omega, Int.sub_emod, Int.emod_emod_of_dvd _ (Int.dvd_refl N), ← Int.sub_emod, show p - 1 - s - t = p - 1 - (s + t) by omega]
theorem rotp_mod {N t p : Int} : rotp N (t % N) p = rotp N t p := by
  unfold rotp
  rw [Int.sub_emod, Int.emod_emod_of_dvd _ (Int.dvd_refl N), ← Int.sub_emod]
theorem rotp_in {N t p : Int} (hN : 0 < N) : 1 ≤ rotp N t p ∧ rotp N t p ≤ N := by
  unfold rotp
  have := Int.emod_nonneg (p - 1 - t) (show N ≠ 0 by omega)
  have := Int.emod_lt_of_pos (p - 1 - t) hN
  omega
theorem rotp_zero {N p : Int} (h1 : 1 ≤ p) (h2 : p ≤ N) : rotp N 0 p = p := by
  unfold rotp
  rw [Int.emod_eq_of_lt (by omega) (by omega)]; omega
/-- renumbering twice -/
theorem ren_ren (f g : Int → Int) (p : Int × Int) : ren f (ren g p) = ren (fun x => f (g x)) p := by
  unfold ren
  simp only
  have m := min_max (g p.1) (g p.2)
  rcases m with ⟨_, m1, m2⟩ | ⟨_, m1, m2⟩
  · rw [m1, m2]
  · rw [m1, m2, Int.min_comm (f (g p.2)), Int.max_comm (f (g p.2))]
theorem map_ren_congr {f g : Int → Int} {ps : List (Int × Int)} {n : Nat} (h : NC n ps) (e : ∀ x : Int, 1 ≤ x → x ≤ 2 * (n : Int) → f x = g x) : ps.map (ren f) = ps.map (ren g) :=
  List.map_congr_left fun p hp => by
    have i := h.inn p hp
    unfold ren
    rw [e p.1 (by omega) (by omega), e p.2 (by omega) (by omega)]
theorem map_ren_id {f : Int → Int} {ps : List (Int × Int)} {n : Nat} (h : NC n ps) (e : ∀ x : Int, 1 ≤ x → x ≤ 2 * (n : Int) → f x = x) : ps.map (ren f) = ps :=
  (List.map_congr_left fun p hp => by
    have i := h.inn p hp
    unfold ren
    rw [e p.1 (by omega) (by omega), e p.2 (by omega) (by omega)]
    exact Prod.ext (Int.min_eq_left (by omega)) (Int.max_eq_right (by omega))).trans (List.map_id ps)
theorem dyck_open {n : Nat} {w : List Bool} (D : Dyck n w) (h : 0 < n) : ∃ (a b : Nat) (u v : List Bool), w = join u v ∧ Dyck a u ∧ Dyck b v ∧ n = a + b + 1 := by
  have dl := D.len
  have h0 : 0 < w.length := by omega
  have hb : w[0] = true := by
    cases e : w[0] with
    | true => rfl
    | false =>
      have := D.pos 1
      rw [show 1 = 0 + 1 from rfl, hp_succ h0, e, hp_zero] at this
      simp at this
  obtain ⟨q, c⟩ := cl_exists D h0 hb
  obtain ⟨a, b, u, v, e, _, Du, Dv, en⟩ := dyck_split D c
  exact ⟨a, b, u, v, e, Du, Dv, en⟩
/-- chords (in any order) that some word has -/
def HasW (n : Nat) (ps : List (Int × Int)) : Prop := ∃ w, WD n w ps
theorem HasW.perm {n : Nat} {ps qs : List (Int × Int)} (h : HasW n ps) (p : qs.Perm ps) : HasW n qs := let ⟨w, W⟩ := h; ⟨w, W.perm p⟩
theorem HasW.nc {n : Nat} {ps : List (Int × Int)} (h : HasW n ps) : NC n ps := let ⟨_, W⟩ := h; W.nc
theorem HasW.rotN {n : Nat} {ps : List (Int × Int)} (h : HasW n ps) (hn : 0 < n) : ∀ k : Nat, HasW n (ps.map (ren (rotp (2 * (n : Int)) (k : Int))))
  | 0 => by
    have e := map_ren_id (f := rotp (2 * (n : Int)) ((0 : Nat) : Int)) h.nc fun x h1 h2 => rotp_zero h1 h2
    rw [e]
    exact h
  | k + 1 => by
    obtain ⟨w, W⟩ := HasW.rotN h hn k
    obtain ⟨a, b, u, v, rfl, Du, Dv, rfl⟩ := dyck_open W.dy hn
    have W2 := WD.rot1 (v := v) Du Dv
    have p := (W.permC.map (ren (rotp (2 * ((a + b + 1 : Nat) : Int)) 1)))
    refine ⟨_, W2.perm ?_⟩
    refine List.Perm.trans (List.Perm.of_eq ?_) p
    rw [List.map_map]
    refine List.map_congr_left fun x hx => ?_
    show _ = ren _ (ren _ x)
    rw [ren_ren]
    refine congrArg (fun f => ren f x) (funext fun y => ?_)
    rw [rotp_rotp (by omega)]; rfl
theorem HasW.rot {n : Nat} {ps : List (Int × Int)} (h : HasW n ps) (t : Int) : HasW n (ps.map (ren (rotp (2 * (n : Int)) t))) := by
  by_cases hn : n = 0
  · subst hn
    have e : ps = [] := List.eq_nil_of_length_eq_zero h.nc.len
    rw [e]; exact ⟨[], WD.none⟩
  · have k := h.rotN (by omega) (t % (2 * (n : Int))).toNat
    rw [Int.toNat_of_nonneg (Int.emod_nonneg _ (by omega))] at k
    have e : rotp (2 * (n : Int)) (t % (2 * (n : Int))) = rotp (2 * (n : Int)) t := funext fun y => rotp_mod
    rwa [e] at k
/-- p seen in the mirror -/
def mirp (N p : Int) : Int := N + 1 - p
theorem ren_mir {N : Int} {p : Int × Int} (h : p.1 < p.2) : ren (mirp N) p = mir (N + 1) p := by
  unfold ren mirp mir
  exact Prod.ext (Int.min_eq_right (by omega)) (Int.max_eq_left (by omega))
theorem HasW.mirror {n : Nat} {ps : List (Int × Int)} (h : HasW n ps) : HasW n (ps.map (ren (mirp (2 * (n : Int))))) := by
  obtain ⟨w, W⟩ := h
  have M := WD.turn W.dy
  have p := W.permC.map (ren (mirp (2 * (n : Int))))
  have e : (DL.cds w).map (ren (mirp (2 * (n : Int)))) = (DL.cds w).map (mir ((w.length : Int) + 1)) := List.map_congr_left fun x hx => by
    rw [ren_mir ((W.dy.dg.nc.inn x hx).2.1), W.dy.len]
    congr 1
  rw [e] at p
  exact ⟨_, M.perm p⟩
/-- s * p + c, around the circle -/
def affp (N s c p : Int) : Int := (s * p + c - 1) % N + 1
theorem affp_in {N s c p : Int} (hN : 0 < N) : 1 ≤ affp N s c p ∧ affp N s c p ≤ N := by
  unfold affp
  have := Int.emod_nonneg (s * p + c - 1) (show N ≠ 0 by omega)
  have := Int.emod_lt_of_pos (s * p + c - 1) hN
  omega
theorem affp_id {N p : Int} (h1 : 1 ≤ p) (h2 : p ≤ N) : affp N 1 0 p = p := by
  unfold affp
  rw [Int.one_mul, Int.emod_eq_of_lt (by omega) (by omega)]; omega
theorem rot_aff {N s c t p : Int} : rotp N t (affp N s c p) = affp N s (c - t) p := by
  unfold rotp affp
  rw [show (s * p + c - 1) % N + 1 - 1 - t = (s * p + c - 1) % N - t by omega, Int.sub_emod, Int.emod_emod_of_dvd _ (Int.dvd_refl N), ← Int.sub_emod, show s * p + c - 1 - t = s * p + (c - t) - 1 by omega]
theorem mir_aff {N s c p : Int} (hN : 0 < N) : mirp N (affp N s c p) = affp N (0 - s) (1 - c) p := by
  unfold mirp affp
  have e : (0 - s) * p + (1 - c) - 1 = -(s * p + c - 1) - 1 := by rw [Int.sub_mul]; omega
  rw [e]
  generalize s * p + c - 1 = y
  have h0 := Int.emod_nonneg y (show N ≠ 0 by omega)
  have h1 := Int.emod_lt_of_pos y hN
  have e2 : (-y - 1) % N = N - 1 - y % N := by
    have e3 : -y - 1 = (N - 1 - y % N) + N * (-(y / N) - 1) := by
      have := Int.mul_ediv_add_emod y N
      rw [Int.mul_sub, Int.mul_neg]; omega
    rw [e3, Int.add_mul_emod_self_left, Int.emod_eq_of_lt (by omega) (by omega)]
  rw [e2]; omega
end DL
namespace DL
open PySem PySem.Spec PyProof.Rows L2
/-! ### a, b, c, d, .. = w, x, y, z, .. where new objects may be stored -/
/-- results that stay or are new since H0, the new ones apart from each other; l: the places of the new ones -/
def RkN (K : Fg) (F : Fx) (ρ : DEnv) (O : Own) (H : Hp) (P : Nat → List Addr) (H0 : Hp) : List RV → List V → List Addr → Prop
  | [], vs, l => vs = [] ∧ l = []
  | .d d :: rs, vs, l => ∃ v ws, vs = v :: ws ∧ Dv K (Hs H O) d v ∧ RkN K F ρ O H P H0 rs ws l
  | .n w :: rs, vs, l => ∃ p ws fp m, vs = .ref p :: ws ∧ l = fp ++ m ∧ (∀ b ∈ fp, F.H0 b = none ∧ O b ∧ ∀ (i : Nat) (w : Ow), slot ρ i = .own w → b ∉ P i) ∧ OwnAt K (Hs H O) H w p fp ∧ (∀ b ∈ fp, H0 b = none ∧ b ∉ m) ∧ RkN K F ρ O H P H0 rs ws m
  | .o _ :: _, _, _ => False
theorem RkN.back {K : Fg} {F : Fx} {ρ : DEnv} {O : Own} {H : Hp} {P : Nat → List Addr} {H0 H1 : Hp} (h : ∀ b, H1 b ≠ none → H0 b ≠ none) : ∀ {rs : List RV} {vs : List V} {l : List Addr}, RkN K F ρ O H P H0 rs vs l → RkN K F ρ O H P H1 rs vs l
  | [], _, _, q => q
  | .d d :: rs, _, _, q => by
    obtain ⟨v, ws, e, h1, h2⟩ := q
    exact ⟨v, ws, e, h1, RkN.back h h2⟩
  | .n w :: rs, _, _, q => by
    obtain ⟨p, ws, fp, m, e, e2, h1, h2, h3, h4⟩ := q
    exact ⟨p, ws, fp, m, e, e2, h1, h2, fun b hb => ⟨Classical.byContradiction fun z => h b z (h3 b hb).1, (h3 b hb).2⟩, RkN.back h h4⟩
  | .o _ :: _, _, _, q => (show False from q).elim
theorem RkN.new {K : Fg} {F : Fx} {ρ : DEnv} {O : Own} {H : Hp} {P : Nat → List Addr} {H0 : Hp} : ∀ {rs : List RV} {vs : List V} {l : List Addr}, RkN K F ρ O H P H0 rs vs l → ∀ b ∈ l, H0 b = none
  | [], _, _, q, b, hb => by
    rw [q.2] at hb; cases hb
  | .d d :: rs, _, _, q, b, hb => by
    obtain ⟨v, ws, e, h1, h2⟩ := q
    exact RkN.new h2 b hb
  | .n w :: rs, _, _, q, b, hb => by
    obtain ⟨p, ws, fp, m, e, e2, h1, h2, h3, h4⟩ := q
    rw [e2] at hb
    rcases List.mem_append.mp hb with z | z
    · exact (h3 b z).1
    · exact RkN.new h4 b z
  | .o _ :: _, _, _, q, _, _ => (show False from q).elim
theorem RkN.step {K : Fg} {F : Fx} {ρ ρ' : DEnv} {O O' : Own} {H H' : Hp} {P P' : Nat → List Addr} {H0 : Hp} (a : Stp ρ O H P ρ' O' H' P') : ∀ {rs : List RV} {vs : List V} {l : List Addr}, RkN K F ρ O H P H0 rs vs l → RkN K F ρ' O' H' P' H0 rs vs l
  | [], _, _, q => q
  | .d d :: rs, _, _, q => by
    obtain ⟨v, ws, e, h1, h2⟩ := q
    exact ⟨v, ws, e, Dv.mono a.same h1, RkN.step a h2⟩
  | .n w :: rs, _, _, q => by
    obtain ⟨p, ws, fp, m, e, e2, h1, h2, h3, h4⟩ := q
    refine ⟨p, ws, fp, m, e, e2, fun b hb => ?_, h2.keep a.same fun b hb => (a.fr b (h1 b hb).2.1 (h1 b hb).2.2).1, h3, RkN.step a h4⟩
    obtain ⟨q1, q2, q3⟩ := a.fr b (h1 b hb).2.1 (h1 b hb).2.2
    exact ⟨(h1 b hb).1, q2, q3⟩
  | .o _ :: _, _, _, q => (show False from q).elim
theorem RkN.len {K : Fg} {F : Fx} {ρ : DEnv} {O : Own} {H : Hp} {P : Nat → List Addr} {H0 : Hp} : ∀ {rs : List RV} {vs : List V} {l : List Addr}, RkN K F ρ O H P H0 rs vs l → vs.length = rs.length
  | [], _, _, q => by
    rw [q.1]; rfl
  | .d d :: rs, _, _, q => by
    obtain ⟨v, ws, e, h1, h2⟩ := q
    rw [e, List.length_cons, List.length_cons, RkN.len h2]
  | .n w :: rs, _, _, q => by
    obtain ⟨p, ws, fp, m, e, e2, h1, h2, h3, h4⟩ := q
    rw [e, List.length_cons, List.length_cons, RkN.len h4]
  | .o _ :: _, _, _, q => (show False from q).elim
/-- a name's own is not moved, what a name holds that stays is told -/
def fixR (ρ : DEnv) : RV → Option RV
  | .d d => some (.d d)
  | .n w => some (.n w)
  | .o i => match slot ρ i with
    | .val d => some (.d d)
    | _ => none
def SimN (K : Fg) (te : TA) (t : DTA) : Prop := ∀ (F : Fx) (ρ : DEnv) (O : Own) (σ : Sg) (H : Hp) (A : Nat → Addr) (P : Nat → List Addr) (Qd : List RV → DEnv → Prop) (Q : List V → Hp → Prop), Good K F ρ O σ H A P → t ρ Qd →
  (∀ rs ρ' vs l O' H' A' P', Stp ρ O H P ρ' O' H' P' → Good K F ρ' O' σ H' A' P' → RkN K F ρ' O' H' P' H rs vs l → Qd rs ρ' → Q vs H') → te σ H Q
def DNs (X : Cx) (es : List Expr) (t : DTA) : Prop := ∃ te, PA X es te ∧ SimN X.K te t
section
variable {X : Cx} {io : Bool} {e : Expr} {es : List Expr} {ta : DTE} {tas : DTA} {pos : Pos}
def dnNil : DTA := fun ρ Q => Q [] ρ
def dnCons (t : DTE) (u : DTA) : DTA := fun ρ Q => t ρ fun r ρ1 => match fixR ρ1 r with
  | some r' => u ρ1 fun rs ρ2 => Q (r' :: rs) ρ2
  | none => False
theorem dn_nil : DNs X [] dnNil := ⟨_, pa_nil, fun F ρ O σ H A P Qd Q G q k => k [] ρ [] [] O H A P Stp.refl G ⟨rfl, rfl⟩ q⟩
theorem dn_cons (h : DE X e ta) (hr : DNs X es tas) (hs : starEach (e :: es) X.env = (false, eval e X.env) :: starEach es X.env := by rfl) : DNs X (e :: es) (dnCons ta tas) := by
  obtain ⟨te, p, s⟩ := h
  obtain ⟨tr, pr, sr⟩ := hr
  refine ⟨_, pa_cons p pr hs, fun F ρ O σ H A P Qd Q G q k => s F ρ O σ H A P _ _ G q fun r ρ1 v fp1 O1 H1 A1 P1 S1 G1 R1 N1 q1 => ?_⟩
  cases r with
  | d d =>
    refine sr F ρ1 O1 σ H1 A1 P1 _ _ G1 q1 fun rs ρ2 vs l O2 H2 A2 P2 S2 G2 R2 q2 => ?_
    exact k (.d d :: rs) ρ2 (v :: vs) l O2 H2 A2 P2 (S1.trans S2) G2 ⟨v, vs, rfl, Dv.mono S2.same R1, R2.back fun b hb => S1.dm b hb⟩ q2
  | o i =>
    unfold fixR at q1
    cases s0 : slot ρ1 i with
    | free => simp only [s0] at q1
    | own w => simp only [s0] at q1
    | val d =>
      simp only [s0] at q1
      obtain ⟨v', g1, g2⟩ := G1.val i d s0
      have R1' : σ[i]? = some (some v) := R1.1
      rw [R1'] at g1
      cases g1
      refine sr F ρ1 O1 σ H1 A1 P1 _ _ G1 q1 fun rs ρ2 vs l O2 H2 A2 P2 S2 G2 R2 q2 => ?_
      exact k (.d d :: rs) ρ2 (v :: vs) l O2 H2 A2 P2 (S1.trans S2) G2 ⟨v, vs, rfl, Dv.mono S2.same g2, R2.back fun b hb => S1.dm b hb⟩ q2
  | n w =>
    refine sr F ρ1 O1 σ H1 A1 P1 _ _ G1 q1 fun rs ρ2 vs l O2 H2 A2 P2 S2 G2 R2 q2 => ?_
    obtain ⟨p0, rfl, hf0, h0⟩ := R1
    have hd := h0.dom
    obtain ⟨p1, e1, hf, h⟩ := S2.rk (K := X.K) (F := F) (σ := σ) (r := .n w) (v := .ref p0) (fp := fp1) ⟨p0, rfl, hf0, h0⟩
    cases e1
    exact k (.n w :: rs) ρ2 (.ref p0 :: vs) (fp1 ++ l) O2 H2 A2 P2 (S1.trans S2) G2 ⟨p0, vs, fp1, l, rfl, rfl, hf, h, fun b hb => ⟨N1 w rfl b hb, fun z => hd b hb (R2.new b z)⟩, R2.back fun b hb => S1.dm b hb⟩ q2
/-- the results at the names -/
def puts : DEnv → List Nat → List RV → DEnv
  | ρ, i :: is, .d d :: rs => puts (put ρ i (.val d)) is rs
  | ρ, i :: is, .n w :: rs => puts (put ρ i (.own w)) is rs
  | ρ, _, _ => ρ
def sets : Sg → List Nat → List V → Sg
  | σ, i :: is, v :: vs => sets (σ.set i (some v)) is vs
  | σ, _, _ => σ
theorem puts_ok {K : Fg} {F : Fx} {O : Own} {H H0 : Hp} : ∀ {rs : List RV} {vs : List V} {l : List Addr} {is : List Nat} {ρ : DEnv} {σ : Sg} {A : Nat → Addr} {P : Nat → List Addr}, Good K F ρ O σ H A P → RkN K F ρ O H P H0 rs vs l → is.length = rs.length → (F.ra ≠ none → 0 ∉ is) → ∃ A' P', Good K F (puts ρ is rs) O (sets σ is vs) H A' P'
  | [], vs, l, is, ρ, σ, A, P, G, R, hl, h0 => by
    have : is = [] := List.length_eq_zero_iff.mp hl
    subst this
    exact ⟨A, P, G⟩
  | r :: rs, vs, l, [], ρ, σ, A, P, G, R, hl, h0 => by simp at hl
  | .d d :: rs, vs, l, i :: is, ρ, σ, A, P, G, R, hl, h0 => by
    obtain ⟨v, ws, rfl, h1, h2⟩ := R
    refine puts_ok (H0 := H0) (rs := rs) (vs := ws) (l := l) (is := is) (G.putV (i := i) h1) ?_ (by simpa using hl) fun z hz => h0 z (List.mem_cons_of_mem _ hz)
    have key : ∀ (rs : List RV) (ws : List V) (l : List Addr), RkN K F ρ O H P H0 rs ws l → RkN K F (put ρ i (.val d)) O H P H0 rs ws l := by
      intro rs
      induction rs with
      | nil => exact fun ws l q => q
      | cons r rs ih =>
        intro ws l q
        cases r with
        | d d' =>
          obtain ⟨v, ws, e, h1, h2⟩ := q
          exact ⟨v, ws, e, h1, ih _ _ h2⟩
        | o j => exact (show False from q).elim
        | n w =>
          obtain ⟨p, ws, fp, m, e, e2, h1, h2, h3, h4⟩ := q
          refine ⟨p, ws, fp, m, e, e2, fun b hb => ⟨(h1 b hb).1, (h1 b hb).2.1, fun k w2 e => ?_⟩, h2, h3, ih _ _ h4⟩
          by_cases hk : i = k
          · subst hk
            have hl : i < (put ρ i (.val d)).length := slot_lt (by rw [e]; exact fun z => nomatch z)
            rw [put_length] at hl
            rw [slot_put hl] at e
            cases e
          · rw [slot_put_ne hk] at e
            exact (h1 b hb).2.2 k w2 e
    exact key _ _ _ h2
  | .n w :: rs, vs, l, i :: is, ρ, σ, A, P, G, R, hl, h0 => by
    obtain ⟨p, ws, fp, m, rfl, rfl, h1, h2, h3, h4⟩ := R
    refine puts_ok (H0 := H0) (rs := rs) (vs := ws) (l := m) (is := is) (G.putN (i := i) (fun z e => h0 z (e ▸ List.mem_cons_self)) h1 h2) ?_ (by simpa using hl) fun z hz => h0 z (List.mem_cons_of_mem _ hz)
    have key : ∀ (rs : List RV) (ws : List V) (l : List Addr), (∀ b ∈ fp, b ∉ l) → RkN K F ρ O H P H0 rs ws l → RkN K F (put ρ i (.own w)) O H (fun j => if j = i then fp else P j) H0 rs ws l := by
      intro rs
      induction rs with
      | nil => exact fun ws l n q => q
      | cons r rs ih =>
        intro ws l n q
        cases r with
        | d d' =>
          obtain ⟨v, ws, e, h1, h2⟩ := q
          exact ⟨v, ws, e, h1, ih _ _ n h2⟩
        | o j => exact (show False from q).elim
        | n w' =>
          obtain ⟨p, ws, fp', m, e, e2, h1, h2, h3, h4⟩ := q
          subst e2
          refine ⟨p, ws, fp', m, e, rfl, fun b hb => ⟨(h1 b hb).1, (h1 b hb).2.1, fun k w2 e => ?_⟩, h2, h3, ih _ _ (fun b hb z => n b hb (List.mem_append_right _ z)) h4⟩
          by_cases hk : k = i
          · subst hk
            show b ∉ (if k = k then fp else P k)
            rw [if_pos rfl]
            exact fun z => n b z (List.mem_append_left _ hb)
          · rw [slot_put_ne (fun z => hk z.symm)] at e
            show b ∉ (if k = i then fp else P k)
            rw [if_neg hk]
            exact (h1 b hb).2.2 k w2 e
    exact key _ _ _ (fun b hb => (h3 b hb).2) h4
/-- the targets: names -/
def PNs (X : Cx) (es : List Expr) (is : List Nat) : Prop := ∃ g, PGs X es g ∧ ∀ (σ : Sg) (H : Hp) (vs : List V) (Q : Sg → Hp → Prop), vs.length = is.length → Q (sets σ is vs) H → g vs σ H Q
theorem pn_nil : PNs X [] [] := ⟨_, pgs_nil, fun σ H vs Q hl q => by
  have : vs = [] := List.length_eq_zero_iff.mp hl
  subst this
  exact ⟨rfl, q⟩⟩
theorem pn_cons (i : Nat) {is : List Nat} {x : Str} (hN : X.N.Nodup) (h : PNs X es is) (hi : X.N[i]? = some x := by rfl) (hx : Loc X.env.scope x := by first | exact Or.inl rfl | exact Or.inr rfl) (hf : X.fn x = true ∨ X.env.scope.names.lookup x = some .local := by first | exact .inl rfl | exact .inr rfl | assumption)
    (hs : (assignEach (.Name x pos :: es) X.env).map (·.2) = assign (.Name x pos) X.env :: (assignEach es X.env).map (·.2) := by rfl) : PNs X (.Name x pos :: es) (i :: is) := by
  obtain ⟨g, p, s⟩ := h
  refine ⟨_, pgs_cons (pg_name hN hi hx hf) p hs, fun σ H vs Q hl q => ?_⟩
  cases vs with
  | nil => simp at hl
  | cons v vs => exact ⟨v, vs, rfl, s (σ.set i (some v)) H vs Q (by simpa using hl) q⟩
def dParM (is : List Nat) (t : DTA) : DTS := fun D ρ => t ρ fun rs ρ1 => rs.length = is.length ∧ D.nx (puts ρ1 is rs)
theorem ds_parM {is : List Nat} {n k x1 : Nat} {ts : List Expr} {pos' pos2 : Pos} (hc : X.calm = true) (ha : DNs X es tas) (ht : PNs X ts is) (hz : n ≤ sizeLine := by decide) (hl : is.length = n := by rfl)
    (hn : (assignEach ts X.env).length = n := by rfl) (hst : (assignEach ts X.env).findIdx? (·.1) = none := by rfl) (hs : swapsWithSole [.Tuple ts k pos'] (.Tuple es x1 pos2) pos.line X.env = pure false := by rfl) (hw : swappedStores [.Tuple ts k pos'] (.Tuple es x1 pos2) X.env = pure none := by rfl)
    (h1 : (assignEach [.Tuple ts k pos'] X.env).map (·.2) = [assign (.Tuple ts k pos') X.env] := by rfl) (hio : io = true → 0 ∉ is := by first | exact (fun z => nomatch z) | exact (fun _ => by decide)) :
    DS X io (.Assign [.Tuple ts k pos'] (.Tuple es x1 pos2) pos) (dParM is tas) := by
  obtain ⟨te, p, s⟩ := ha
  obtain ⟨g, pg, sg⟩ := ht
  refine ⟨_, ps_asg (pe_tup p) (pg_tup hc pg hn hst) hs hw h1, fun F ρ O σ H A P Dd D hr G E q => s F ρ O σ H A P _ _ G q fun rs ρ1 vs l O1 H1 A1 P1 S1 G1 R1 q1 => ?_⟩
  have hvl : vs.length = n := by rw [R1.len, q1.1, hl]
  refine ⟨by rw [hvl]; exact hz, fun p hp => ?_⟩
  have o : Out X.K O1 H1 (.d .none) .non (upd H1 p (.tup vs)) := ⟨same_new hp, rfl⟩
  obtain ⟨O2, fo, S2, G2, _, _⟩ := o.fin G1
  obtain ⟨A3, P3, G3⟩ := puts_ok G2 (R1.step S2) q1.1.symm fun z => by
    cases io with
    | true => exact hio rfl
    | false => exact absurd (hr rfl).1 z
  exact ⟨p, vs, rfl, SqT.of upd_same, hvl, sg _ _ _ _ (by rw [hvl, hl]) (E.nx _ O2 _ _ A3 P3 G3 q1.2)⟩
end
end DL
/-! int(text) of a long text -/
namespace DL
open PySem PySem.Spec PyProof.Rows L2 PySem.Calls PySem.NumText
theorem wp_lim {M : Model} {A : Around} {E : Value → Shared → Prop} {s : Shared} {Q : Nat → Shared → Prop} (hd : PySem.W.Looks M s.heap (nsGet cStatics "sys.int_max_str_digits") none) (h : Q 4300 s) : wpAny M A Builtin.intMaxStrDigits Q E s := by
  unfold Builtin.intMaxStrDigits
  exact wpAny_bind (hd.here (wpAny_pure h))
theorem wp_textD {M : Model} {A : Around} {E : Value → Shared → Prop} {s : Shared} {Q : Value → Shared → Prop} {v : Value} {text : List Nat} {n : Int} (hd : PySem.W.Looks M s.heap (nsGet cStatics "sys.int_max_str_digits") none)
    (hs : ¬ (text.takeWhile (· != 0)).length ≤ 640) (hr : (int_private% "readNumeral") 4300 10 (text.takeWhile (· != 0)) = (int_private% "Numeral.value") n)
    (ha : ((text.takeWhile (· != 0)).length == text.length) = true) (h : Q (.int n s.toks) { s with toks := s.toks + 1 }) :
    wpAny M A ((int_private% "intFromText") v text 10) Q E s := by
  obtain ⟨hp, g, d, tk, os⟩ := s
  wp_step
  wp_step
  refine wpAny_bind (wp_lim hd ?_)
  dsimp only
  rw [hr]
  dsimp only
  rw [if_pos ha]
  wp_step
  exact h
open PySem.W.KIN in
set_option maxHeartbeats 4000000 in
theorem meets_textD {x : PySem.Str} {u : Tok} {n : Int} (hs : ¬ (numSeenOf x).length ≤ 640) (hr : (int_private% "readNumeral") 4300 10 (numSeenOf x) = (int_private% "Numeral.value") n) (ha : ((numSeenOf x).length == (numTextOf x).length) = true) :
    Meets (Builtin.«int.__new__» ⟨[.type "int", .str x u], []⟩) (fun A R s => (∀ M, PySem.W.Looks M s.heap (nsGet cStatics "sys.int_max_str_digits") none) ∧ R (.ok (.ret (.int n s.toks))) { s with toks := s.toks + 1 }) := by
  intro prog w A R s h
  obtain ⟨hd, h⟩ := h
  refine wpAny_mono (Q := fun fin s' => ∃ v, fin = .done (.ret v) ∧ R (.ok (.ret v)) s') ?_ (fun fin s' h' => by obtain ⟨v, rfl, hv⟩ := h'; exact hv) fun _ _ x => x
  obtain ⟨hp, g, d, tk, os⟩ := s
  have f1 := F.conv_sub_int
  have f2 := F.madeHere_int
  have f3 := str_int
  have f4 := str_idx
  have f5 := str_trunc
  have f6 : typeOf (.str x u) = pure (.type "str") := rfl
  have hk := Hid.mk (And.intro hs (And.intro hr (And.intro ha hd)))
  clear hs hr ha hd
  repeat (any_goals (first
    | assumption
    | ((with_reducible show wpAny _ _ ((int_private% "intFromText") _ _ _) _ _ _); refine wp_textD (hk.out.2.2.2 _) hk.out.1 hk.out.2.1 hk.out.2.2.1 ?_)
    | wp_step))
  all_goals first | exact ⟨_, rfl, h⟩ | skip
/-- int(text), at most 4300 digits -/
def rIntD (t : Str) (n : Int) : List V → Hp → VK → Prop := fun xs H Q => xs = [.str t] ∧ Q (.int n) H
theorem call_intD {X : Cx} {t : Str} {n : Int} (hK : PySem.W.nsIn X.K cStatics "sys.int_max_str_digits" = some none) (hs : ¬ (numSeenOf t).length ≤ 640) (hr : (int_private% "readNumeral") 4300 10 (numSeenOf t) = (int_private% "Numeral.value") n) (ha : ((numSeenOf t).length == (numTextOf t).length) = true) : CallR X (.type "int") (rIntD t n) := by
  intro pins s σ H xs us Q I rs h
  obtain ⟨rfl, h⟩ := h
  cases rs with
  | cons r1 rs =>
    cases rs
    obtain ⟨u, rfl⟩ := r1
    exact call_int_1 (meets_textD hs hr ha) ⟨fun M => PySem.W.looks_nsIn I.kIn hK, rfl, ⟨.int n, H, I.tok _, ⟨_, rfl⟩, h⟩⟩
def gIntD (t : Str) (n : Int) : GL := fun ds Q => match ds with
  | [.str x] => x = t ∧ Q (.d (.int n))
  | _ => False
theorem cll_intD {K : Fg} {t : Str} {n : Int} : ClL K (rIntD t n) (gIntD t n) := fun O H ds xs Qd Q hd hx q k => by
  unfold gIntD at q
  split at q
  · obtain ⟨v, ws, e1, h1, h2⟩ := hx
    have e2 : v = .str _ := h1
    have e3 : ws = [] := h2
    obtain ⟨rfl, q⟩ := q
    exact ⟨by rw [e1, e2, e3], k (.d (.int n)) _ _ (Out.sc (d := .int n) rfl) q⟩
  · exact q.elim
/-- '9' * 1000 -/
def nines : Str := PySem.Txt.mul "9" 1000
theorem tw_rep {p : Nat → Bool} {a : Nat} (h : p a = true) : ∀ n, (List.replicate n a).takeWhile p = List.replicate n a
  | 0 => rfl
  | n + 1 => by rw [List.replicate_succ, List.takeWhile_cons, if_pos h, tw_rep h n]
theorem dw_rep {p : Nat → Bool} {a : Nat} (h : p a = false) : ∀ n, (List.replicate n a).dropWhile p = List.replicate n a
  | 0 => rfl
  | n + 1 => by rw [List.replicate_succ, List.dropWhile_cons, if_neg (by rw [h]; exact Bool.false_ne_true)]
theorem nines_list : nines.cps.toList = List.replicate 1000 57 := by
  unfold nines PySem.Txt.mul
  rw [if_neg (by decide), if_neg (by decide)]
  show ((List.replicate 1000 ([57] : List Nat).toArray).foldl (· ++ ·) #[]).toList = _
  rw [foldl_reps, List.nil_append]
  exact List.flatten_replicate_singleton
theorem nines_seen : numTextOf nines = List.replicate 1000 57 ∧ numSeenOf nines = List.replicate 1000 57 := by
  have h : numTextOf nines = List.replicate 1000 57 := by
    show (if nines.cps.all (· < 128) then nines.cps.toList else _) = _
    rw [if_pos, nines_list]
    rw [← Array.all_toList, nines_list, List.all_replicate]
    decide
  refine ⟨h, ?_⟩
  show (numTextOf nines).takeWhile (· != 0) = _
  rw [h]
  exact tw_rep (by decide) 1000
theorem fold_nines : ∀ (n : Nat) (acc : Array Nat) (b : Bool), ∃ ds : Array Nat, (List.replicate (n + 1) 57).foldlM (step 10) (acc, b) = some (ds, true) ∧ ds.size = acc.size + n + 1
  | 0, acc, b => ⟨acc.push 9, rfl, by simp⟩
  | n + 1, acc, b => by
    obtain ⟨ds, h, e⟩ := fold_nines n (acc.push 9) true
    refine ⟨ds, ?_, by rw [e, Array.size_push]; omega⟩
    rw [List.replicate_succ, List.foldlM_cons]
    exact h
theorem nines_some : (intText? nines).isSome = true := by
  obtain ⟨e1, e2⟩ := nines_seen
  unfold intText?
  rw [e1, e2, if_pos (by rw [beq_self_eq_true])]
  have c : core (List.replicate 1000 57) = List.replicate 1000 57 := by
    unfold core
    rw [dw_rep (by decide)]
    have s : (sign (List.replicate 1000 57)).2 = List.replicate 1000 57 := by
      rw [show (1000 : Nat) = 999 + 1 from rfl, List.replicate_succ]; rfl
    rw [s, List.reverse_replicate, dw_rep (by decide), List.reverse_replicate]
  rw [c]
  obtain ⟨ds, h, e⟩ := fold_nines 999 #[] false
  have d : digits? 10 (List.replicate 1000 57) = some ds := by
    unfold digits?
    rw [show (1000 : Nat) = 999 + 1 from rfl, h]; rfl
  rw [d]
  simp only []
  rw [if_pos (by rw [e]; simp)]; rfl
def far : Int := (intText? nines).getD 0
theorem nines_text : intText? nines = some far := by
  unfold far
  have h := nines_some
  cases e : intText? nines with
  | none => rw [e] at h; cases h
  | some n => rfl
theorem nines_long : ¬ (numSeenOf nines).length ≤ 640 := by
  rw [nines_seen.2, List.length_replicate]; decide
theorem nines_len : nines.length ≤ sizeLine := by
  have : nines.length = 1000 := by
    show nines.cps.size = 1000
    rw [← Array.length_toList, nines_list, List.length_replicate]
  rw [this]; decide
theorem nines_reads : ((numSeenOf nines).length == (numTextOf nines).length) = true ∧ (int_private% "readNumeral") 4300 10 (numSeenOf nines) = (int_private% "Numeral.value") far := by
  rcases read4300 nines nines_len with ⟨n, h1, h2, h3⟩ | ⟨h1, _⟩
  · rw [nines_text] at h1
    cases h1
    exact ⟨h2, h3⟩
  · rw [nines_text] at h1
    cases h1
theorem call_nines {X : Cx} (hK : PySem.W.nsIn X.K cStatics "sys.int_max_str_digits" = some none) : CallR X (.type "int") (rIntD nines far) := call_intD hK nines_long nines_reads.2 nines_reads.1
end DL
/-! sets of ints; dicts that stay; extend -/
namespace DL
open PySem PySem.Spec PyProof.Rows L2

/-- an owned object of one place that is no data is changed by place -/
theorem Good.chgW {K : Fg} {F : Fx} {ρ : DEnv} {O : Own} {σ : Sg} {H : Hp} {A : Nat → Addr} {P : Nat → List Addr} {i : Nat} {w0 w' : Ow} {ho : HO} (G : Good K F ρ O σ H A P) (hs : slot ρ i = .own w0) (f1 : P i = [A i]) (hd : w0.data = none) (hd' : w'.data = none)
    (h : ∀ Hst', Same (Hs H O) Hst' → OwnAt K Hst' (upd H (A i) ho) w' (A i) [A i]) : Good K F (put ρ i (.own w')) O σ (upd H (A i) ho) A P := by
  obtain ⟨g1, g2, g3, g4⟩ := G.own i _ hs
  have hA : O (A i) := g3 _ (by rw [f1]; simp)
  have h0 : F.H0 (A i) = none ∨ F.fx (A i) := (g4 (A i) (by rw [f1]; simp)).imp id fun z => z.2
  have hl : i < ρ.length := slot_lt (by rw [hs]; exact fun z => nomatch z)
  have nO : ∀ b, ¬ O b → b ≠ A i := fun b n z => n (by rw [z]; exact hA)
  have sst : Same (Hs H O) (Hs (upd H (A i) ho) O) := Hs_mono fun b o e n => ⟨by rw [upd_ne (nO b n)]; exact e, n⟩
  have dm : ∀ b, H b ≠ none → upd H (A i) ho b ≠ none := fun b hb => by
    by_cases e : b = A i
    · rw [e, upd_same]; exact fun z => nomatch z
    · rw [upd_ne e]; exact hb
  have bk : ∀ (j : Nat) (w2 : Ow), slot (put ρ i (.own w')) j = .own w2 → (j = i ∧ w2 = w') ∨ (j ≠ i ∧ slot ρ j = .own w2) := fun j w2 e => by
    by_cases hj : i = j
    · subst hj
      rw [slot_put hl] at e
      cases e
      exact .inl ⟨rfl, rfl⟩
    · rw [slot_put_ne hj] at e
      exact .inr ⟨fun z => hj z.symm, e⟩
  have src : ∀ (j : Nat) (w2 : Ow), slot (put ρ i (.own w')) j = .own w2 → ∃ w3, slot ρ j = .own w3 := fun j w2 e => by
    rcases bk j w2 e with ⟨rfl, _⟩ | ⟨_, e'⟩
    · exact ⟨_, hs⟩
    · exact ⟨_, e'⟩
  refine ⟨by rw [put_length]; exact G.len, fun b o e n => ?_, fun b hb => dm b (G.alive b hb), fun b o e => ?_, G.base, G.dom0, fun b hb => dm b (G.dom b hb), fun j d e => ?_, fun j w e => ?_, fun j l w1 w2 e e' hjl => ?_, fun a w e1 e2 => ?_⟩
  · rw [upd_ne (fun z => by
      rcases h0 with h0 | h0
      · rw [z, h0] at e; cases e
      · exact n (by rw [z]; exact h0))]
    exact G.frame b o e n
  · obtain ⟨h1, h2⟩ := G.still b o e
    exact ⟨by rw [upd_ne (nO b h2)]; exact h1, h2⟩
  · by_cases hj : i = j
    · subst hj
      rw [slot_put hl] at e
      cases e
    · rw [slot_put_ne hj] at e
      obtain ⟨x, h1, h2⟩ := G.val j d e
      exact ⟨x, h1, h2.mono sst⟩
  · rcases bk j w e with ⟨rfl, rfl⟩ | ⟨hj, e'⟩
    · exact ⟨g1, by rw [f1]; exact h _ sst, g3, fun b hb => (g4 b hb).imp id fun z => ⟨hd', z.2⟩⟩
    · obtain ⟨h1, h2, h3, h4⟩ := G.own j w e'
      refine ⟨h1, h2.keep sst fun b hb => ?_, h3, h4⟩
      have nb : b ≠ A i := fun z => G.sep j i w _ e' hs hj b hb (by rw [f1, z]; simp)
      rw [upd_ne nb]
  · obtain ⟨w3, q1⟩ := src j w1 e
    obtain ⟨w4, q2⟩ := src l w2 e'
    exact G.sep j l w3 w4 q1 q2 hjl
  · obtain ⟨w3, q1⟩ := src 0 w e2
    exact G.pin a w3 e1 q1

/-! ### sets of ints -/
def lft (S : Int → Bool) : Key → Bool
  | .inl i => S i
  | .inr _ => false
/-- the set at a: its members, how many they are -/
def SetI (a : Addr) (S : Int → Bool) (n : Nat) : HO := .ext fun h => ∀ (P : Program) (w : World), h.SetOf (mixKind P w) a (lft S) n
theorem setOf_any {P P' : Program} {w w' : World} {h : Heap} {a : Addr} {S : Int → Bool} {n : Nat} (R : h.SetOf (mixKind P w) a (lft S) n) : h.SetOf (mixKind P' w') a (lft S) n := by
  obtain ⟨o, es, ep, t, ho, r1, r2, r3, r4, r5, r6, r7⟩ := R
  refine ⟨o, es, ep, t, ho, r1, r2, fun e he => ?_, r4, r5, r6, r7⟩
  obtain ⟨⟨k, k1, k2⟩, sc⟩ := r3 e he
  have hk : lft S k = true := (r4 k).mpr ⟨e, he, k1⟩
  cases k with
  | inl i => exact ⟨⟨.inl i, k1, k2⟩, sc⟩
  | inr x => cases hk
theorem setI_new {w : World} {P : Program} {H : Hp} {h : Heap} {a : Addr} {S : Int → Bool} {n : Nat} (R : h.SetOf (mixKind P w) a (lft S) n) : ObjOk P w H h a (SetI a S n) := by
  have ⟨o, _, _, _, ho, _⟩ := R
  exact ⟨fun P' w' => setOf_any R, ⟨o, ho⟩, fun h1 h2 p k P' w' => setOf_at (p P' w') k⟩
section
variable {X : Cx}
theorem setI_get {pins : List (Addr × Obj)} {σ : L2.St} {H : Hp} {s : Shared} {a : Addr} {S : Int → Bool} {n : Nat} (I : Inv X pins σ H s) (ha : H a = some (SetI a S n)) : s.heap.SetOf (mixKind X.prog X.w) a (lft S) n := (I.hok a _ ha).1 _ _
def rSet0I : List V → Hp → VK → Prop := fun xs H Q => xs = [] ∧ ∀ p, H p = none → Q (.ref p) (upd H p (SetI p (fun _ => false) 0))
theorem lft_none : lft (fun _ => false) = fun _ => false := by
  funext k
  cases k <;> rfl
theorem cr_set0I : CallR X (.type "set") rSet0I := by
  intro pins s σ H xs us Q I r h
  obtain ⟨rfl, q⟩ := h
  cases r
  refine setR_new fun _ => ?_
  have new : (s.heap.push { cls := .type "set", dict := none, data := .set #[] 0 (.fresh 0 0 (!X.w.params.followText "set-order")) }).SetOf (mixKind X.prog X.w) s.heap.objs.size (lft fun _ => false) 0 := by
    rw [lft_none]
    exact ⟨_, #[], 0, _, Heap.get?_push_size _ rfl, ⟨rfl, rfl, rfl⟩, rfl, (fun e he => by simp at he), (fun k => by simp), (by decide), (by rfl), rfl⟩
  exact ⟨.ref _, upd H s.heap.objs.size (SetI s.heap.objs.size (fun _ => false) 0), I.laid (t' := s.toks) (fun b u e => Heap.get?_push_of_some _ e) (Nat.le_refl _) (setI_new new), rfl, q _ (I.hok.fresh (Nat.le_refl _))⟩
theorem lft_add {S : Int → Bool} {i : Int} : (fun j => lft S j || decide (j = Sum.inl i)) = lft (fun j => S j || decide (j = i)) := by
  funext k
  cases k with
  | inl j =>
    show (S j || decide (Sum.inl j = Sum.inl i)) = (S j || decide (j = i))
    congr 1
    exact decide_eq_decide.mpr ⟨fun h => Sum.inl.inj h, fun h => h ▸ rfl⟩
  | inr x => rfl
def rSAddI : V → List V → Hp → VK → Prop := fun x xs H Q => ∃ (a : Addr) (i : Int) (S : Int → Bool) (n : Nat), x = V.ref a ∧ xs = [.int i] ∧ H a = some (SetI a S n) ∧ n + 1 < scanBound ∧
  Q .non (upd H a (SetI a (fun j => S j || decide (j = i)) (if S i = true then n else n + 1)))
theorem mt_saddI : MtR X "set.add" rSAddI := by
  intro pins s σ H x xs v us Q I rx rxs h
  obtain ⟨a, i, S, n, rfl, rfl, ha, room, q⟩ := h
  cases rx
  cases rxs with
  | cons ry rt =>
    cases rt
    refine call_set_add (k := Sum.inl i) (kV_is ry) (key_scan (k := .inl i) ry) (setI_get I ha) room fun h' sb new => ?_
    have he : ∃ u, h'.get? a = some u := by
      have ⟨o, _, _, _, ho, _⟩ := new
      exact ⟨o, ho⟩
    rw [lft_add] at new
    exact ⟨.non, upd H a (SetI a (fun j => S j || decide (j = i)) (if S i = true then n else n + 1)), I.write (e := a) (t' := s.toks + 1) (by rw [ha]; trivial) (.inl rfl) (fun b u hb hu => (sb.2 b hb).trans hu) he (setI_new new), rfl, q⟩
def tSAddI (to : TE) (t : TA) : TE := fun σ H Q => to σ H fun x H1 => (∃ a S n, x = V.ref a ∧ H1 a = some (SetI a S n)) ∧ t σ H1 fun xs H2 => rSAddI x xs H2 Q
theorem pe_saddI {o e : Expr} {es : List Expr} {to : TE} {t : TA} {apos cpos : Pos} (ho : PE X o to) (ha : PA X (e :: es) t)
    (hbase : attributeBase o "add" X.env (eval o X.env) = eval o X.env := by rfl)
    (hfew : ((backTo cpos (starEach (e :: es) X.env)).all (fun x => !x.1) && (backToKw cpos (keywordEach [] X.env)).all (fun x => x.1.isSome)
      && decide ((e :: es).length + ([] : List Keyword).length + (if ([] : List Keyword).isEmpty then 0 else 1) < 30)) = true := by rfl)
    (hline : (apos.endLine == cpos.line) = true := by rfl) (hs : starEach (e :: es) X.env = (false, eval e X.env) :: starEach es X.env := by rfl) (hplain : (backTo cpos (starEach es X.env)).any (·.1) = false := by rfl) :
    PE X (.Call (.Attribute o "add" apos) (e :: es) [] cpos) (tSAddI to t) := by
  refine ⟨fun pins s σ H Q I h => ?_⟩
  refine wpAny_Call_method_late hbase hfew hline rfl (thn (ho.run pins s σ H _ I h) fun v s1 ⟨x, H1, I1, r1, ty, q1⟩ => ?_)
  obtain ⟨a, S, n, rfl, hka⟩ := ty
  have hS := setI_get I1 hka
  cases r1
  refine ⟨"set", "set.add", F.plainAttrs_set, F.slot_set_add, F.type_set_add, hS.typeIs, hS.noDict, ?_⟩
  have hA := ha.run cpos pins s1 σ H1 _ I1 q1
  rw [hs] at hA ⊢
  refine Calls.callWith_builtin (by show (false || (backTo cpos (starEach es X.env)).any (·.1)) = false; rw [hplain] <;> rfl) (Calls.evalArgs_plain ?_)
  exact thn hA fun us s2 ⟨vs, H2, I2, r2, q2⟩ => mt_saddI pins s2 σ H2 (.ref a) vs (.ref a) us Q I2 rfl r2 q2
def rSInI (neg : Bool) : V → V → Hp → VK → Prop := fun x y H Q => ∃ (i : Int) (a : Addr) (S : Int → Bool) (n : Nat), x = .int i ∧ y = V.ref a ∧ H a = some (SetI a S n) ∧ Q (.bl (if neg then !S i else S i)) H
theorem or_sinI : OpR X (compareOp .In) (rSInI false) := by
  intro pins s σ H x y v u Q I rx ry h
  obtain ⟨k, a, S, n, rfl, rfl, ha, q⟩ := h
  cases ry
  exact wpAny_inSet_of (k := Sum.inl k) (kV_is rx) (key_scan (k := .inl k) rx) (setI_get I ha) ⟨.bl (S k), H, I.tok _, rfl, q⟩
theorem or_snotinI : OpR X (compareOp .NotIn) (rSInI true) := by
  intro pins s σ H x y v u Q I rx ry h
  obtain ⟨k, a, S, n, rfl, rfl, ha, q⟩ := h
  cases ry
  exact wpAny_notInSet_of (k := Sum.inl k) (kV_is rx) (key_scan (k := .inl k) rx) (setI_get I ha) ⟨.bl (!S k), H, I.tok _, rfl, q⟩
end
/-- the set as an owned object -/
def setR (S : Int → Bool) (n : Nat) : ResP where
  P := fun H a fp => fp = [a] ∧ H a = some (SetI a S n)
  keep := by
    rintro H H' a fp ⟨rfl, h⟩ k
    exact ⟨rfl, (k a (by simp)).trans h⟩
  dom := by
    rintro H a fp ⟨rfl, h⟩ b hb
    have e : b = a := by simpa using hb
    rw [e, h]; exact fun z => nomatch z
def gSet0 : GL := fun ds Q => match ds with
  | [] => Q (.n (.res (setR (fun _ => false) 0)))
  | _ => False
theorem cll_set0 {K : Fg} : ClL K rSet0I gSet0 := fun O H ds xs Qd Q hd hx q k => by
  unfold gSet0 at q
  split at q
  · have e : xs = [] := hx
    refine ⟨e, fun p hp => ?_⟩
    refine k (.n (.res (setR (fun _ => false) 0))) _ _ ⟨same_new hp, p, [p], rfl, fun b hb => ?_, ⟨rfl, upd_same⟩⟩ q
    have e : b = p := by simpa using hb
    rw [e, upd_same]
    exact ⟨hp, fun z => nomatch z⟩
  · exact q.elim
section
variable {X : Cx} {io : Bool} {e a b c o : Expr} {es : List Expr} {st : Stmt} {rest : List Stmt} {pos : Pos} {ta tb tc : DTE} {tt tu : DTT} {t u : DTS}
/-- e in name, e not in name: a set -/
def dInS (neg : Bool) (i : Nat) (t : DTE) : DTE := fun ρ Q => t ρ fun r ρ1 => ∃ S n k, slot ρ1 i = .own (.res (setR S n)) ∧ view ρ1 r = some (.int k) ∧ Q (.d (.bool (if neg then !S k else S k))) ρ1
theorem sim_inS {K : Fg} {neg : Bool} {i : Nat} {te : TE} (s : Sim K te ta) : Sim K (tOp (rSInI neg) te (tVar i)) (dInS neg i ta) := fun F ρ O σ H A P Qd Q G q k => by
  refine s F ρ O σ H A P _ _ G q fun r ρ1 v fp O1 H1 A1 P1 S1 G1 R1 N1 q1 => ?_
  obtain ⟨S, n, kk, s1, e1, q2⟩ := q1
  obtain ⟨f1, ⟨_, f2⟩, _, _⟩ := G1.own i _ s1
  cases (show v = .int kk from view_ok G1 R1 e1)
  exact ⟨_, f1, kk, A1 i, S, n, rfl, rfl, f2, k (.d (.bool _)) ρ1 _ [] O1 H1 A1 P1 S1 G1 rfl nw_d q2⟩
theorem de_inS (i : Nat) {x : Str} {op : CmpOp} {p1 : Pos} {neg : Bool} (ho : OpR X (compareOp op) (rSInI neg)) (ha : DE X e ta) (hN : X.N[i]? = some x := by rfl) (hv : Vis X.env.scope x := by first | exact Or.inl rfl | exact Or.inr (Or.inl rfl)) (hm : behindInMarks op (.Name x p1) = false := by rfl) (hd : (x == ("__debug__" : Str)) = false := by decide) (hcd : (x == ("__classdict__" : Str)) = false := by decide) :
    DE X (.Compare e [op] [.Name x p1] pos) (dInS neg i ta) := by
  obtain ⟨te, p, s⟩ := ha
  exact ⟨_, pe_cmpR ho p (pe_var hN hv hd hcd) hm, sim_inS s⟩
theorem dt_inS (i : Nat) {x : Str} {op : CmpOp} {p1 : Pos} {neg : Bool} (ho : OpR X (compareOp op) (rSInI neg)) (ha : DE X e ta) (hN : X.N[i]? = some x := by rfl) (hv : Vis X.env.scope x := by first | exact Or.inl rfl | exact Or.inr (Or.inl rfl)) (hm : behindInMarks op (.Name x p1) = false := by rfl) (hd : (x == ("__debug__" : Str)) = false := by decide) (hcd : (x == ("__classdict__" : Str)) = false := by decide) :
    DT X (.Compare e [op] [.Name x p1] pos) (dB (dInS neg i ta)) := by
  obtain ⟨te, p, s⟩ := ha
  refine ⟨_, pt_cmpR ho p (pe_var hN hv hd hcd) hm, fun F ρ O σ H A P Qd Q G q k => sim_inS s F ρ O σ H A P _ _ G q fun r1 ρ1 v1 fp1 O1 H1 A1 P1 S1 G1 R1 N1 q1 => ?_⟩
  cases r1 with
  | d d =>
    cases d with
    | bool b => exact ⟨b, R1, k b ρ1 O1 H1 A1 P1 S1 G1 q1⟩
    | _ => exact (show False from q1).elim
  | _ => exact (show False from q1).elim
/-- T() -/
theorem de_callTy0 {x : Str} {p : Pos} {T : String} {r : List V → Hp → VK → Prop} {g : GL} (hc : CallR X (.type T) r) (L : ClL X.K r g) (hg : Gl X x) (hm : X.mg x = none) (hv : bootBuiltins x = some (.type T)) (hn : x ≠ "__name__" := by decide) (hdb : (x == ("__debug__" : Str)) = false := by decide) : DE X (.Call (.Name x p) [] [] pos) (dCl g daNil) := by
  obtain ⟨te, pa, s⟩ := (da_nil : DA X [] daNil)
  exact ⟨_, pe_callTy0 hc hg hm hv hn hdb, sim_cl L (fun F ρ O σ H A P Qd Q G q k => k [] ρ [] O H A P Stp.refl G rfl q)⟩
/-- name.add(e): a set -/
def dSAdd (i : Nat) (t : DTE) : DTS := fun D ρ => match slot ρ i with
  | .own (.res _) => (∃ S n, slot ρ i = .own (.res (setR S n))) ∧ t ρ fun r ρ1 => ∃ S n k, slot ρ1 i = .own (.res (setR S n)) ∧ view ρ1 r = some (.int k) ∧ n + 1 < scanBound ∧ D.nx (put ρ1 i (.own (.res (setR (fun j => S j || decide (j = k)) (if S k = true then n else n + 1)))))
  | _ => False
theorem ds_sadd (i : Nat) {x : Str} {apos cpos p1 : Pos} (he : DE X e ta) (hN : X.N[i]? = some x := by rfl) (hv : Vis X.env.scope x := by first | exact Or.inl rfl | exact Or.inr (Or.inl rfl))
    (hb : attributeBase (.Name x p1) "add" X.env (eval (.Name x p1) X.env) = eval (.Name x p1) X.env := by rfl)
    (hfew : ((backTo cpos (starEach [e] X.env)).all (fun x => !x.1) && (backToKw cpos (keywordEach [] X.env)).all (fun x => x.1.isSome)
      && decide ([e].length + ([] : List Keyword).length + (if ([] : List Keyword).isEmpty then 0 else 1) < 30)) = true := by rfl)
    (hline : (apos.endLine == cpos.line) = true := by rfl) (hst : starEach [e] X.env = (false, eval e X.env) :: starEach [] X.env := by rfl) (hplain : (backTo cpos (starEach [] X.env)).any (·.1) = false := by rfl)
    (hs : swapsWith (.Call (.Attribute (.Name x p1) "add" apos) [e] [] cpos) none pos.line X.env = pure false := by rfl) (hd : (x == ("__debug__" : Str)) = false := by decide) (hcd : (x == ("__classdict__" : Str)) = false := by decide) :
    DS X io (.Expr (.Call (.Attribute (.Name x p1) "add" apos) [e] [] cpos) pos) (dSAdd i ta) := by
  obtain ⟨te, p, s⟩ := he
  refine ⟨_, ps_expr (pe_saddI (pe_var hN hv hd hcd) (pa_cons p pa_nil hst) hb hfew hline hst hplain) hs, fun F ρ O σ H A P Dd D hr G E q => ?_⟩
  unfold dSAdd at q
  cases s0 : slot ρ i with
  | free => simp only [s0] at q
  | val d => simp only [s0] at q
  | own w =>
    cases w with
    | res Φ =>
      simp only [s0] at q
      obtain ⟨⟨S0, n0, e0⟩, q⟩ := q
      have s0' : slot ρ i = .own (.res (setR S0 n0)) := s0.trans e0
      obtain ⟨g1, ⟨_, g3⟩, _, _⟩ := G.own i _ s0'
      refine ⟨_, g1, ⟨_, S0, n0, rfl, g3⟩, s F ρ O σ H A P _ _ G q fun r ρ1 v fp O1 H1 A1 P1 S1 G1 R1 N1 q1 => ?_⟩
      obtain ⟨S, n, k, s1, e1, hb', q2⟩ := q1
      cases (show v = .int k from view_ok G1 R1 e1)
      obtain ⟨f1, ⟨f2, f3⟩, _, _⟩ := G1.own i _ s1
      rw [g1] at f1
      have ea : A i = A1 i := V.ref.inj (Option.some.inj (Option.some.inj f1))
      refine ⟨A i, k, S, n, rfl, rfl, by rw [ea]; exact f3, hb', ?_⟩
      rw [ea]
      exact E.nx _ O1 σ _ A1 P1 (G1.chgW (w' := .res (setR _ _)) s1 f2 rfl rfl fun _ _ => ⟨rfl, upd_same⟩) q2
    | _ => simp only [s0] at q
/-! ### extend -/
def dExt (i : Nat) (t : DTE) : DTS := fun D ρ => match slot ρ i with
  | .own (.lst _) => t ρ fun r ρ1 => match r, slot ρ1 i with
    | .n (.lst es), .own (.lst ds) => ds.length + es.length ≤ sizeLine ∧ D.nx (put ρ1 i (.own (.lst (ds ++ es))))
    | _, _ => False
  | _ => False
theorem ds_ext (i : Nat) {x : Str} {apos cpos pos p1 : Pos} (hN : X.N[i]? = some x := by rfl) (hv : Vis X.env.scope x := by first | exact Or.inl rfl | exact Or.inr (Or.inl rfl)) (he : DE X e ta)
    (hp : ∀ to t, PE X (.Name x p1) to → PA X [e] t → PE X (.Call (.Attribute (.Name x p1) "extend" apos) [e] [] cpos) (tBM X.K "list" rExtend to t))
    (hs : swapsWith (.Call (.Attribute (.Name x p1) "extend" apos) [e] [] cpos) none pos.line X.env = pure false := by rfl) (hst : starEach [e] X.env = (false, eval e X.env) :: starEach [] X.env := by rfl) (hd : (x == ("__debug__" : Str)) = false := by decide) (hcd : (x == ("__classdict__" : Str)) = false := by decide) :
    DS X io (.Expr (.Call (.Attribute (.Name x p1) "extend" apos) [e] [] cpos) pos) (dExt i ta) := by
  obtain ⟨te, p, s⟩ := he
  refine ⟨_, ps_expr (hp _ _ (pe_var hN hv hd hcd) (pa_cons p pa_nil hst)) hs, fun F ρ O σ H A P Dd D hr G E q => ?_⟩
  unfold dExt at q
  cases s0 : slot ρ i with
  | free => simp only [s0] at q
  | val d => simp only [s0] at q
  | own w =>
    cases w with
    | lst ds0 =>
      simp only [s0] at q
      obtain ⟨g1, g2, _, _⟩ := G.own i _ s0
      obtain ⟨_, xs0, g3, _⟩ := g2
      refine ⟨_, g1, .inl ⟨rfl, xs0, SqL.of g3⟩, s F ρ O σ H A P _ _ G q fun r ρ1 v fp O1 H1 A1 P1 S1 G1 R1 N1 q1 => ?_⟩
      cases r with
      | d d => exact (show False from q1).elim
      | o j => exact (show False from q1).elim
      | n w2 =>
        cases w2 with
        | lst es =>
          cases s1 : slot ρ1 i with
          | free => simp only [s1] at q1
          | val d => simp only [s1] at q1
          | own w3 =>
            cases w3 with
            | lst ds =>
              simp only [s1] at q1
              obtain ⟨f1, ⟨_, xs, f2, f3⟩, _, _⟩ := G1.own i _ s1
              rw [g1] at f1
              have ea : A i = A1 i := V.ref.inj (Option.some.inj (Option.some.inj f1))
              obtain ⟨b, rfl, hf, _, zs, z1, z2⟩ := R1
              refine ⟨A i, b, xs, zs, rfl, rfl, by rw [ea]; exact f2, z1, by rw [f3.length, z2.length]; exact q1.1, ?_⟩
              rw [ea]
              exact E.nx _ O1 σ _ A1 P1 (G1.chg s1 (f3.app z2)) q1.2
            | _ => simp only [s1] at q1
        | _ => exact (show False from q1).elim
    | _ => simp only [s0] at q
/-! ### a dict that stays -/
def encP (kvs : List (Key × PyData)) : List (PyData × PyData) := kvs.map fun p => (keyE p.1, p.2)
theorem dvp_of {K : Fg} {H : Hp} : ∀ {kvs : List (Key × PyData)} {ws : List (Key × V)}, kvs.map (·.1) = ws.map (·.1) → DvL K H (kvs.map (·.2)) (ws.map (·.2)) → DvP K H (encP kvs) ws
  | [], ws, e, _ => List.map_eq_nil_iff.mp e.symm
  | (k, d) :: kvs, [], e, _ => by simp at e
  | (k, d) :: kvs, (k', v) :: ws, e, h => by
    obtain ⟨y, ys, e1, h1, h2⟩ := h
    rw [List.map_cons, List.map_cons] at e
    injection e with e3 e4
    rw [List.map_cons] at e1
    injection e1 with e5 e6
    have e5' : v = y := e5
    subst e5'
    subst e6
    have e3' : k = k' := e3
    subst e3'
    exact ⟨k, v, ws, rfl, rfl, h1, dvp_of e4 h2⟩
theorem kd_of_dvp {K : Fg} {H : Hp} : ∀ {kvs : List (Key × PyData)} {ws : List (Key × V)}, DvP K H (encP kvs) ws → KD K H kvs ws
  | [], ws, h => by
    have e : ws = [] := h
    subst e
    exact ⟨rfl, rfl⟩
  | (k, d) :: kvs, ws, h => by
    obtain ⟨key, y, ys, e1, e2, h1, h2⟩ := h
    have e3 : k = key := by
      cases k <;> cases key <;> first | (cases e2; rfl) | cases e2
    subst e3
    subst e1
    have q := kd_of_dvp h2
    exact ⟨by rw [List.map_cons, List.map_cons, q.1], ⟨y, ys.map (·.2), rfl, h1, q.2⟩⟩
/-- name = a new dict that is not changed from here on -/
def dSetF (i : Nat) (t : DTE) : DTS := fun D ρ => t ρ fun r ρ1 => match r with
  | .n (.dk kvs) => D.nx (put ρ1 i (.val (.dict (encP kvs))))
  | _ => False
theorem ds_setF (i : Nat) {x : Str} {pos' : Pos} (hN : X.N.Nodup) (he : DE X e ta) (hi : X.N[i]? = some x := by rfl) (hx : Loc X.env.scope x := by first | exact Or.inl rfl | exact Or.inr rfl)
    (hs : swapsWith e (some (.Name x pos')) pos.line X.env = pure false := by rfl) (hf : X.fn x = true ∨ X.env.scope.names.lookup x = some .local := by first | exact .inl rfl | exact .inr rfl | assumption) : DS X io (.Assign [.Name x pos'] e pos) (dSetF i ta) := by
  obtain ⟨te, p, s⟩ := he
  refine ⟨_, ps_set hN hi hx p hs hf, fun F ρ O σ H A P Dd D hr G E q => s F ρ O σ H A P _ _ G q fun r ρ1 v fp O1 H1 A1 P1 S1 G1 R1 N1 q1 => ?_⟩
  cases r with
  | d d => exact (show False from q1).elim
  | o j => exact (show False from q1).elim
  | n w =>
    cases w with
    | dk kvs =>
      obtain ⟨p, rfl, hf, e1, ws, z1, z2, z3⟩ := R1
      subst e1
      obtain ⟨h1, h2, h3⟩ := hf p (by simp)
      have sm : Same (Hs H1 O1) (Hs H1 fun b => O1 b ∧ ¬ b = p) := Hs_mono fun b o h n => ⟨h, fun z => n z.1⟩
      have G2 := G1.drop (D := fun b => b = p) (ρ' := ρ1) (fun b z => z ▸ h1) rfl (fun i d q => .inl q) (fun i w q => ⟨q, fun b hb z => h3 i w q (z ▸ hb)⟩)
      have D2 : Dv X.K (Hs H1 fun b => O1 b ∧ ¬ b = p) (.dict (encP kvs)) (.ref p) := ⟨p, ws, rfl, Hs_in z1 (fun z => z.2 rfl), dvp_of z2 (DvL.mono sm z3)⟩
      exact E.nx _ _ _ H1 A1 P1 (G2.putV D2) q1
    | _ => exact (show False from q1).elim
/-- d[k]: a dict that stays -/
def dIxD (t ti : DTE) : DTE := fun ρ Q => t ρ fun r ρ1 => ∃ kvs, view ρ1 r = some (.dict (encP kvs)) ∧ dSt ti ρ1 fun kd ρ2 => match keyD kd with
    | some k => match valD kvs k with
      | some d => Q (.d d) ρ2
      | none => False
    | none => False
theorem view_dict {K : Fg} {F : Fx} {ρ : DEnv} {O : Own} {σ : Sg} {H : Hp} {A : Nat → Addr} {P : Nat → List Addr} {r : RV} {v : V} {fp : List Addr} {kvs : List (PyData × PyData)} (G : Good K F ρ O σ H A P) (h : Rk K F ρ O σ H P r v fp) (e : view ρ r = some (.dict kvs)) : Dv K (Hs H O) (.dict kvs) v := view_ok G h e
theorem de_ixD (hu : X.A.units + 1 < cLine) (ho : DE X o ta) (he : DE X e tb) (hs : NoSl e := by exact fun _ _ => rfl) : DE X (.Subscript o e pos) (dIxD ta tb) := by
  obtain ⟨to, po, so⟩ := ho
  obtain ⟨te, pe, se⟩ := dd_of he
  refine ⟨_, pe_dget hu po pe hs, fun F ρ O σ H A P Qd Q G q k => so F ρ O σ H A P _ _ G q fun r ρ1 v1 fp1 O1 H1 A1 P1 S1 G1 R1 N1 q1 => ?_⟩
  obtain ⟨kvs, e1, q1⟩ := q1
  have D1 := view_dict G1 R1 e1
  refine se F ρ1 O1 σ H1 A1 P1 _ _ G1 q1 fun kd ρ2 v2 O2 H2 A2 P2 S2 G2 D2 q2 => ?_
  obtain ⟨p, ws, rfl, g2, g3⟩ := Dv.mono S2.same D1
  have KK : KD X.K (Hs H2 O2) kvs ws := kd_of_dvp g3
  cases e5 : keyD kd with
  | none => simp only [e5] at q2
  | some key =>
    simp only [e5] at q2
    have ek := keyD_kV D2 e5
    subst ek
    cases e6 : valD kvs key with
    | none => simp only [e6] at q2
    | some d2 =>
      simp only [e6] at q2
      obtain ⟨u, u1, u2⟩ := KK.get e6
      have g := DGet.k (k := key) (Hs_out g2).1
      rw [u1] at g
      exact ⟨p, u, rfl, g, k (.d d2) ρ2 _ [] O2 H2 A2 P2 (S1.trans S2) G2 u2 nw_d q2⟩
end
/-! ### dict(pairs) -/
def mergeP (acc : List (Key × PyData)) (kvs : List (Key × PyData)) : List (Key × PyData) := kvs.foldl (fun kv p => putD kv p.1 p.2) acc
theorem KD.merge {K : Fg} {H : Hp} : ∀ {kvs : List (Key × PyData)} {ws : List (Key × V)} {acc : List (Key × PyData)} {acw : List (Key × V)}, KD K H acc acw → KD K H kvs ws → KD K H (mergeP acc kvs) (mergeK acw ws)
  | [], ws, acc, acw, h, g => by
    have e := g.length
    have e2 : ws = [] := List.length_eq_zero_iff.mp e
    subst e2
    exact h
  | p :: kvs, ws, acc, acw, h, g => by
    obtain ⟨v, ws', rfl, h1, h2⟩ := g.cases
    show KD K H (mergeP (putD acc p.1 p.2) kvs) (mergeK (L2.putK acw p.1 v) ws')
    exact KD.merge (h.put h1) h2
theorem pairK_dv {K : Fg} {H : Hp} : ∀ {kvs : List (Key × PyData)} {xs : List V}, DvL K H (kvs.map fun p => PyData.tuple [keyE p.1, p.2]) xs → ∃ (ps : List Addr) (ws : List (Key × V)), xs = ps.map V.ref ∧ Paired (fun p kv => SqT K H p [kV kv.1, kv.2]) ps ws ∧ KD K H kvs ws
  | [], xs, h => by
    have e : xs = [] := h
    subst e
    exact ⟨[], [], rfl, .nil, KD.nil⟩
  | (k, d) :: kvs, xs, h => by
    obtain ⟨y, ys, rfl, ⟨a, zs, rfl, t1, t2⟩, h2⟩ := h
    obtain ⟨z1, zr, rfl, u1, z2, zr2, rfl, u2, u3⟩ := t2
    have e3 : zr2 = [] := u3
    subst e3
    obtain ⟨ps, ws, rfl, p1, p2⟩ := pairK_dv h2
    have ek : z1 = kV k := by
      cases k with
      | inl i => exact u1
      | inr x => exact u1
    subst ek
    exact ⟨a :: ps, (k, z2) :: ws, rfl, .cons t1 p1, KD.cons u2 p2⟩
def rDictP (K : Fg) : List V → Hp → VK → Prop := fun xs H Q => ∃ (a : Addr) (ps : List Addr) (kvs : List (Key × V)), xs = [.ref a] ∧ SqL K H a (ps.map V.ref) ∧ Paired (fun p kv => SqT K H p [kV kv.1, kv.2]) ps kvs ∧ ∀ p, H p = none → Q (.ref p) (upd H p (.dK (mergeK [] kvs)))
theorem cr_dictP {X : Cx} (hc : X.calm = true) : CallR X (.type "dict") (rDictP X.K) := call_dictP hc
def gDictP : GL := fun ds Q => match ds with
  | [.list es] => ∃ kvs : List (Key × PyData), es = (kvs.map fun p => PyData.tuple [keyE p.1, p.2]) ∧ Q (.n (.dk (mergeP [] kvs)))
  | _ => False
theorem paired_mono {α β : Type} {R R' : α → β → Prop} (h : ∀ a b, R a b → R' a b) : ∀ {as : List α} {bs : List β}, Paired R as bs → Paired R' as bs
  | _, _, .nil => .nil
  | _, _, .cons x y => .cons (h _ _ x) (paired_mono h y)
theorem cll_dictP {K : Fg} : ClL K (rDictP K) gDictP := fun O H ds xs Qd Q hd hx q k => by
  unfold gDictP at q
  split at q
  · obtain ⟨kvs, rfl, q⟩ := q
    obtain ⟨v, ws, e1, h1, h2⟩ := hx
    obtain ⟨a, ys, e2, g1, g2⟩ := h1
    have e3 : ws = [] := h2
    obtain ⟨ps, wk, rfl, p1, p2⟩ := pairK_dv g2
    refine ⟨a, ps, wk, by rw [e1, e2, e3], g1, paired_mono (fun p kv x => same_sqT Hs_sub x) p1, fun p hp => ?_⟩
    refine k (.n (.dk _)) _ _ ⟨same_new hp, p, [p], rfl, fun b hb => ?_, ⟨rfl, mergeK [] wk, upd_same, ?_⟩⟩ q
    · have e : b = p := by simpa using hb
      rw [e, upd_same]
      exact ⟨hp, fun z => nomatch z⟩
    · refine (KD.merge KD.nil p2).mono (Hs_mono fun b o e n => ?_)
      have hb : b ≠ p := ne_of_none e hp
      exact ⟨by rw [upd_ne hb]; exact e, fun z => z.elim n fun z => hb (by simpa using z)⟩
  · exact q.elim
section
variable {X : Cx} {io : Bool} {e : Expr} {pos : Pos} {tb : DTE}
/-- name[k]: a dict of one's own -/
def dIxO (i : Nat) (ti : DTE) : DTE := fun ρ Q => match slot ρ i with
  | .own (.dk _) => dSt ti ρ fun kd ρ2 => ∃ kvs, slot ρ2 i = .own (.dk kvs) ∧ match keyD kd with
    | some k => match valD kvs k with
      | some d => Q (.d d) ρ2
      | none => False
    | none => False
  | _ => False
theorem de_ixO (i : Nat) {x : Str} {p1 : Pos} (hu : X.A.units + 1 < cLine) (he : DE X e tb) (hN : X.N[i]? = some x := by rfl) (hv : Vis X.env.scope x := by first | exact Or.inl rfl | exact Or.inr (Or.inl rfl)) (hs : NoSl e := by exact fun _ _ => rfl) (hd : (x == ("__debug__" : Str)) = false := by decide) (hcd : (x == ("__classdict__" : Str)) = false := by decide) : DE X (.Subscript (.Name x p1) e pos) (dIxO i tb) := by
  obtain ⟨te, pe, se⟩ := dd_of he
  refine ⟨_, pe_dget hu (pe_var hN hv hd hcd) pe hs, fun F ρ O σ H A P Qd Q G q k => ?_⟩
  unfold dIxO at q
  cases s0 : slot ρ i with
  | free => simp only [s0] at q
  | val d => simp only [s0] at q
  | own w =>
    cases w with
    | dk kvs0 =>
      simp only [s0] at q
      obtain ⟨g1, _⟩ := G.own i _ s0
      refine ⟨_, g1, se F ρ O σ H A P _ _ G q fun kd ρ2 v2 O2 H2 A2 P2 S2 G2 D2 q2 => ?_⟩
      obtain ⟨kvs, s1, q2⟩ := q2
      obtain ⟨f1, ⟨_, ws, z1, z2⟩, _, _⟩ := G2.own i _ s1
      rw [g1] at f1
      have ea : A i = A2 i := V.ref.inj (Option.some.inj (Option.some.inj f1))
      have KK : KD X.K (Hs H2 O2) kvs ws := z2
      cases e5 : keyD kd with
      | none => simp only [e5] at q2
      | some key =>
        simp only [e5] at q2
        have ek := keyD_kV D2 e5
        subst ek
        cases e6 : valD kvs key with
        | none => simp only [e6] at q2
        | some d2 =>
          simp only [e6] at q2
          obtain ⟨u, u1, u2⟩ := KK.get e6
          have g := DGet.k (k := key) z1
          rw [u1] at g
          exact ⟨_, u, rfl, by rw [ea]; exact g, k (.d d2) ρ2 _ [] O2 H2 A2 P2 S2 G2 u2 nw_d q2⟩
    | _ => simp only [s0] at q
end
/-! ### a, b = x, y: plain local names, new objects, names -/
section
variable {X : Cx} {io : Bool} {a b : Expr} {tas : DTA} {pos : Pos}
theorem ds_par2N (i j : Nat) {x y : Str} {px py pt : Pos} {kt : Nat} {k2 pt2} (hc : X.calm = true) (hN : X.N.Nodup) (ha : DNs X [a, b] tas) (hij : i ≠ j := by decide) (hi : X.N[i]? = some x := by rfl) (hj : X.N[j]? = some y := by rfl)
    (hx : X.env.scope.names.lookup x = some .local := by rfl) (hy : X.env.scope.names.lookup y = some .local := by rfl) (hw : swappedStores [.Tuple [.Name x px, .Name y py] kt pt] (.Tuple [a, b] k2 pt2) X.env = pure (some [x, y]) := by rfl)
    (hs : swapsWithSole [.Tuple [.Name x px, .Name y py] kt pt] (.Tuple [a, b] k2 pt2) pos.line X.env = pure false := by rfl) (hio : io = true → 0 ∉ [i, j] := by first | exact (fun z => nomatch z) | exact (fun _ => by decide)) :
    DS X io (.Assign [.Tuple [.Name x px, .Name y py] kt pt] (.Tuple [a, b] k2 pt2) pos) (dParM [i, j] tas) := by
  obtain ⟨te, p, s⟩ := ha
  refine ⟨_, ps_par hc hN hi hj hij hx hy p hw hs, fun F ρ O σ H A P Dd D hr G E q => s F ρ O σ H A P _ _ G q fun rs ρ1 vs l O1 H1 A1 P1 S1 G1 R1 q1 => ?_⟩
  have hvl : vs.length = 2 := by rw [R1.len, q1.1]; rfl
  obtain ⟨A3, P3, G3⟩ := puts_ok G1 R1 q1.1.symm fun z => by
    cases io with
    | true => exact hio rfl
    | false => exact absurd (hr rfl).1 z
  match vs, hvl, G3 with
  | [v, w], _, G3 => exact ⟨v, w, rfl, E.nx _ O1 _ _ A3 P3 G3 q1.2⟩
end
end DL
/-! loops: two joinings of 1..N followed in turn -/
namespace DL
open PySem PySem.Spec PyProof.Rows L2

/-- an involution of 1..N that turns parity -/
structure Mt (N : Nat) (f : Int → Int) : Prop where
  inn : ∀ p : Int, 1 ≤ p → p ≤ N → 1 ≤ f p ∧ f p ≤ N
  inv : ∀ p : Int, 1 ≤ p → p ≤ N → f (f p) = p
  par : ∀ p : Int, 1 ≤ p → p ≤ N → (p + f p) % 2 = 1
def lp (f g : Int → Int) (s : Int) : Nat → Int
  | 0 => s
  | k + 1 => g (f (lp f g s k))
/-- the first 2 k points of the loop from s -/
def rg (f g : Int → Int) (s : Int) : Nat → List Int
  | 0 => []
  | k + 1 => rg f g s k ++ [lp f g s k, f (lp f g s k)]
section
variable {N : Nat} {f g : Int → Int} {s : Int}
theorem lp_in (F : Mt N f) (G : Mt N g) (h1 : 1 ≤ s) (h2 : s ≤ N) : ∀ k, 1 ≤ lp f g s k ∧ lp f g s k ≤ N
  | 0 => ⟨h1, h2⟩
  | k + 1 => by
    have i := lp_in F G h1 h2 k
    have j := F.inn _ i.1 i.2
    exact G.inn _ j.1 j.2
theorem lp_par (F : Mt N f) (G : Mt N g) (h1 : 1 ≤ s) (h2 : s ≤ N) : ∀ k, (lp f g s k + s) % 2 = 0
  | 0 => by show (s + s) % 2 = 0; omega
  | k + 1 => by
    have i := lp_in F G h1 h2 k
    have j := F.inn _ i.1 i.2
    have a := lp_par F G h1 h2 k
    have b := F.par _ i.1 i.2
    have c := G.par _ j.1 j.2
    show (g (f (lp f g s k)) + s) % 2 = 0
    omega
theorem lp_inj (F : Mt N f) (G : Mt N g) (h1 : 1 ≤ s) (h2 : s ≤ N) {i j : Nat} (e : lp f g s (i + 1) = lp f g s (j + 1)) : lp f g s i = lp f g s j := by
  have i1 := lp_in F G h1 h2 i
  have i2 := lp_in F G h1 h2 j
  have j1 := F.inn _ i1.1 i1.2
  have j2 := F.inn _ i2.1 i2.2
  have e' : g (f (lp f g s i)) = g (f (lp f g s j)) := e
  have e2 := congrArg g e'
  rw [G.inv _ j1.1 j1.2, G.inv _ j2.1 j2.2] at e2
  have e3 := congrArg f e2
  rwa [F.inv _ i1.1 i1.2, F.inv _ i2.1 i2.2] at e3
theorem lp_cancel (F : Mt N f) (G : Mt N g) (h1 : 1 ≤ s) (h2 : s ≤ N) : ∀ (i d : Nat), lp f g s (i + d) = lp f g s i → lp f g s d = s
  | 0, d, e => by rw [Nat.zero_add] at e; exact e
  | i + 1, d, e => lp_cancel F G h1 h2 i d (lp_inj F G h1 h2 (by rw [show i + d + 1 = i + 1 + d by omega]; exact e))
theorem per_ex (F : Mt N f) (G : Mt N g) (h1 : 1 ≤ s) (h2 : s ≤ N) : ∃ m, (1 ≤ m ∧ lp f g s m = s) ∧ m ≤ N ∧ ∀ k, 1 ≤ k → k < m → lp f g s k ≠ s := by
  have ex : ∃ m, m ≤ N ∧ (1 ≤ m ∧ lp f g s m = s) := by
    refine Classical.byContradiction fun no => ?_
    have ne : ∀ i j, i < j → j ≤ N → lp f g s i ≠ lp f g s j := fun i j hij hj e => no ⟨j - i, by omega, by omega, lp_cancel F G h1 h2 i (j - i) (by rw [show i + (j - i) = j by omega]; exact e.symm)⟩
    have nd : ((List.range (N + 1)).map fun k => (lp f g s k).toNat).Nodup := by
      rw [List.nodup_iff_pairwise_ne, List.pairwise_map]
      refine (List.pairwise_lt_range (n := N + 1)).imp_of_mem fun {i j} mi mj hij e => ?_
      have a := lp_in F G h1 h2 i
      have b := lp_in F G h1 h2 j
      exact ne i j hij (by have := List.mem_range.mp mj; omega) (by omega)
    have len := nat_nodup_len ((List.range (N + 1)).map fun k => (lp f g s k).toNat) ((List.range N).map (· + 1)) nd fun x hx => by
      obtain ⟨k, _, rfl⟩ := List.mem_map.mp hx
      have a := lp_in F G h1 h2 k
      exact List.mem_map.mpr ⟨(lp f g s k).toNat - 1, List.mem_range.mpr (by omega), by omega⟩
    rw [List.length_map, List.length_map, List.length_range, List.length_range] at len
    omega
  obtain ⟨m, hm, p⟩ := ex
  obtain ⟨k, hk, pk, mn⟩ := st_least (p := fun m => 1 ≤ m ∧ lp f g s m = s) m p
  exact ⟨k, pk, by omega, fun j j1 j2 e => mn j j2 ⟨j1, e⟩⟩
open Classical in
/-- how many turns the loop takes -/
noncomputable def per (f g : Int → Int) (s : Int) : Nat := if h : ∃ m, (1 ≤ m ∧ lp f g s m = s) ∧ ∀ k, 1 ≤ k → k < m → lp f g s k ≠ s then h.choose else 0
theorem per_spec (F : Mt N f) (G : Mt N g) (h1 : 1 ≤ s) (h2 : s ≤ N) : 1 ≤ per f g s ∧ lp f g s (per f g s) = s ∧ ∀ k, 1 ≤ k → k < per f g s → lp f g s k ≠ s := by
  obtain ⟨m, a, b, c⟩ := per_ex F G h1 h2
  have h : ∃ m, (1 ≤ m ∧ lp f g s m = s) ∧ ∀ k, 1 ≤ k → k < m → lp f g s k ≠ s := ⟨m, a, c⟩
  unfold per
  rw [dif_pos h]
  exact ⟨h.choose_spec.1.1, h.choose_spec.1.2, h.choose_spec.2⟩
theorem per_le (F : Mt N f) (G : Mt N g) (h1 : 1 ≤ s) (h2 : s ≤ N) : per f g s ≤ N := by
  obtain ⟨m, a, b, c⟩ := per_ex F G h1 h2
  obtain ⟨p1, p2, p3⟩ := per_spec F G h1 h2
  refine Classical.byContradiction fun z => p3 m a.1 (by omega) a.2
theorem lp_ne (F : Mt N f) (G : Mt N g) (h1 : 1 ≤ s) (h2 : s ≤ N) {j k : Nat} (hj : j < k) (hk : k < per f g s) : lp f g s k ≠ lp f g s j := fun e => by
  obtain ⟨p1, p2, p3⟩ := per_spec F G h1 h2
  exact p3 (k - j) (by omega) (by omega) (lp_cancel F G h1 h2 j (k - j) (by rw [show j + (k - j) = k by omega]; exact e))
theorem lp_odd (F : Mt N f) (G : Mt N g) (h1 : 1 ≤ s) (h2 : s ≤ N) (j k : Nat) : lp f g s k ≠ f (lp f g s j) := fun e => by
  have i := lp_in F G h1 h2 j
  have a := lp_par F G h1 h2 j
  have b := lp_par F G h1 h2 k
  have c := F.par _ i.1 i.2
  omega
theorem mem_rg {y : Int} : ∀ {k : Nat}, y ∈ rg f g s k ↔ ∃ j, j < k ∧ (y = lp f g s j ∨ y = f (lp f g s j))
  | 0 => by simp [rg]
  | k + 1 => by
    show y ∈ rg f g s k ++ [lp f g s k, f (lp f g s k)] ↔ _
    rw [List.mem_append, mem_rg (k := k)]
    constructor
    · rintro (⟨j, h, e⟩ | h)
      · exact ⟨j, by omega, e⟩
      · simp only [List.mem_cons, List.not_mem_nil, or_false] at h
        exact ⟨k, by omega, h⟩
    · rintro ⟨j, h, e⟩
      by_cases c : j = k
      · subst c
        refine .inr ?_
        simp only [List.mem_cons, List.not_mem_nil, or_false]
        exact e
      · exact .inl ⟨j, by omega, e⟩
theorem rg_len : ∀ k, (rg f g s k).length = 2 * k
  | 0 => rfl
  | k + 1 => by
    show (rg f g s k ++ [_, _]).length = _
    rw [List.length_append, rg_len k]
    simp; omega
theorem lp_not_rg (F : Mt N f) (G : Mt N g) (h1 : 1 ≤ s) (h2 : s ≤ N) {k : Nat} (hk : k < per f g s) : lp f g s k ∉ rg f g s k := fun h => by
  obtain ⟨j, hj, e | e⟩ := mem_rg.mp h
  · exact lp_ne F G h1 h2 hj hk e
  · exact lp_odd F G h1 h2 j k e
theorem rg_nodup (F : Mt N f) (G : Mt N g) (h1 : 1 ≤ s) (h2 : s ≤ N) : ∀ k, k ≤ per f g s → (rg f g s k).Nodup
  | 0, _ => List.nodup_nil
  | k + 1, h => by
    show (rg f g s k ++ [lp f g s k, f (lp f g s k)]).Nodup
    refine List.nodup_append.mpr ⟨rg_nodup F G h1 h2 k (by omega), ?_, ?_⟩
    · refine List.nodup_cons.mpr ⟨fun z => ?_, List.nodup_cons.mpr ⟨fun z => by simp at z, List.nodup_nil⟩⟩
      have z' : lp f g s k = f (lp f g s k) := by simpa using z
      exact lp_odd F G h1 h2 k k z'
    · intro a ha b hb e
      subst e
      simp only [List.mem_cons, List.not_mem_nil, or_false] at hb
      rcases hb with rfl | e
      · exact lp_not_rg F G h1 h2 (by omega) ha
      · obtain ⟨j, hj, e2 | e2⟩ := mem_rg.mp ha
        · exact lp_odd F G h1 h2 k j (e2.symm.trans e)
        · have i1 := lp_in F G h1 h2 k
          have i2 := lp_in F G h1 h2 j
          have e3 := congrArg f (e.symm.trans e2)
          rw [F.inv _ i1.1 i1.2, F.inv _ i2.1 i2.2] at e3
          exact lp_ne F G h1 h2 hj (by omega) e3
/-- the loop from s -/
noncomputable def ring (f g : Int → Int) (s : Int) : List Int := rg f g s (per f g s)
theorem ring_in (F : Mt N f) (G : Mt N g) (h1 : 1 ≤ s) (h2 : s ≤ N) {y : Int} (h : y ∈ ring f g s) : 1 ≤ y ∧ y ≤ N := by
  obtain ⟨j, _, rfl | rfl⟩ := mem_rg.mp h
  · exact lp_in F G h1 h2 j
  · have i := lp_in F G h1 h2 j
    exact F.inn _ i.1 i.2
theorem ring_start (F : Mt N f) (G : Mt N g) (h1 : 1 ≤ s) (h2 : s ≤ N) : s ∈ ring f g s := mem_rg.mpr ⟨0, (per_spec F G h1 h2).1, .inl rfl⟩
theorem ring_f (F : Mt N f) (G : Mt N g) (h1 : 1 ≤ s) (h2 : s ≤ N) {y : Int} (h : y ∈ ring f g s) : f y ∈ ring f g s := by
  obtain ⟨j, hj, rfl | rfl⟩ := mem_rg.mp h
  · exact mem_rg.mpr ⟨j, hj, .inr rfl⟩
  · have i := lp_in F G h1 h2 j
    rw [F.inv _ i.1 i.2]
    exact mem_rg.mpr ⟨j, hj, .inl rfl⟩
theorem ring_g (F : Mt N f) (G : Mt N g) (h1 : 1 ≤ s) (h2 : s ≤ N) {y : Int} (h : y ∈ ring f g s) : g y ∈ ring f g s := by
  obtain ⟨p1, p2, p3⟩ := per_spec F G h1 h2
  have back : ∀ k, 1 ≤ k → g (lp f g s k) = f (lp f g s (k - 1)) := fun k hk => by
    obtain ⟨k', rfl⟩ : ∃ k', k = k' + 1 := ⟨k - 1, by omega⟩
    have i := lp_in F G h1 h2 k'
    have j := F.inn _ i.1 i.2
    show g (g (f (lp f g s k'))) = f (lp f g s k')
    exact G.inv _ j.1 j.2
  obtain ⟨j, hj, rfl | rfl⟩ := mem_rg.mp h
  · by_cases c : j = 0
    · subst c
      have e : lp f g s 0 = lp f g s (per f g s) := p2.symm
      rw [e, back _ p1]
      exact mem_rg.mpr ⟨per f g s - 1, by omega, .inr rfl⟩
    · rw [back j (by omega)]
      exact mem_rg.mpr ⟨j - 1, by omega, .inr rfl⟩
  · show lp f g s (j + 1) ∈ _
    by_cases c : j + 1 = per f g s
    · rw [c, p2]
      exact ring_start F G h1 h2
    · exact mem_rg.mpr ⟨j + 1, by omega, .inl rfl⟩
/-- from a point of the loop back to its start, in what is closed -/
theorem ring_back (F : Mt N f) (G : Mt N g) (h1 : 1 ≤ s) (h2 : s ≤ N) {C : Int → Prop} (cf : ∀ p : Int, 1 ≤ p → p ≤ N → C p → C (f p)) (cg : ∀ p : Int, 1 ≤ p → p ≤ N → C p → C (g p)) {y : Int} (h : y ∈ ring f g s) (hc : C y) : C s := by
  have lo : ∀ k, C (lp f g s k) → C s := by
    intro k
    induction k with
    | zero => exact id
    | succ k ih =>
      intro c
      have i := lp_in F G h1 h2 k
      have j := F.inn _ i.1 i.2
      have l := lp_in F G h1 h2 (k + 1)
      have c1 := cg _ l.1 l.2 c
      have e : g (lp f g s (k + 1)) = f (lp f g s k) := G.inv _ j.1 j.2
      rw [e] at c1
      have c2 := cf _ j.1 j.2 c1
      rw [F.inv _ i.1 i.2] at c2
      exact ih c2
  obtain ⟨j, hj, rfl | rfl⟩ := mem_rg.mp h
  · exact lo j hc
  · have i := lp_in F G h1 h2 j
    have k := F.inn _ i.1 i.2
    have c := cf _ k.1 k.2 hc
    rw [F.inv _ i.1 i.2] at c
    exact lo j c
theorem ring_fwd (F : Mt N f) (G : Mt N g) (h1 : 1 ≤ s) (h2 : s ≤ N) {C : Int → Prop} (cf : ∀ p : Int, 1 ≤ p → p ≤ N → C p → C (f p)) (cg : ∀ p : Int, 1 ≤ p → p ≤ N → C p → C (g p)) (hc : C s) {y : Int} (h : y ∈ ring f g s) : C y := by
  have lo : ∀ k, C (lp f g s k) := by
    intro k
    induction k with
    | zero => exact hc
    | succ k ih =>
      have i := lp_in F G h1 h2 k
      have j := F.inn _ i.1 i.2
      exact cg _ j.1 j.2 (cf _ i.1 i.2 ih)
  obtain ⟨j, hj, rfl | rfl⟩ := mem_rg.mp h
  · exact lo j
  · have i := lp_in F G h1 h2 j
    exact cf _ i.1 i.2 (lo j)
end
/-- the loops that start at 1 .. i -/
noncomputable def rgs (f g : Int → Int) : Nat → List (List Int)
  | 0 => []
  | i + 1 => if ((i : Int) + 1) ∈ (rgs f g i).flatten then rgs f g i else rgs f g i ++ [ring f g ((i : Int) + 1)]
structure Rgs (N : Nat) (f g : Int → Int) (i : Nat) (L : List (List Int)) : Prop where
  ok : ∀ r ∈ L, ∃ s : Int, 1 ≤ s ∧ s ≤ N ∧ r = ring f g s
  dj : L.Pairwise fun a b => ∀ y ∈ a, y ∉ b
  cov : ∀ p : Int, 1 ≤ p → p ≤ i → p ∈ L.flatten
section
variable {N : Nat} {f g : Int → Int}
theorem rgs_ok (F : Mt N f) (G : Mt N g) : ∀ i, i ≤ N → Rgs N f g i (rgs f g i)
  | 0, _ => ⟨fun r h => by simp [rgs] at h, List.Pairwise.nil, fun p a b => by omega⟩
  | i + 1, h => by
    have R := rgs_ok F G i (by omega)
    unfold rgs
    by_cases c : ((i : Int) + 1) ∈ (rgs f g i).flatten
    · rw [if_pos c]
      exact ⟨R.ok, R.dj, fun p a b => by
        by_cases e : p = (i : Int) + 1
        · rw [e]; exact c
        · exact R.cov p a (by omega)⟩
    · rw [if_neg c]
      have b1 : (1 : Int) ≤ (i : Int) + 1 := by omega
      have b2 : (i : Int) + 1 ≤ N := by omega
      refine ⟨fun r hr => ?_, ?_, fun p a b => ?_⟩
      · rcases List.mem_append.mp hr with e | e
        · exact R.ok r e
        · exact ⟨_, b1, b2, List.mem_singleton.mp e⟩
      · refine List.pairwise_append.mpr ⟨R.dj, List.pairwise_singleton _ _, fun a ha b hb y hy hy2 => ?_⟩
        rw [List.mem_singleton.mp hb] at hy2
        obtain ⟨s, s1, s2, rfl⟩ := R.ok a ha
        refine c (List.mem_flatten.mpr ⟨_, ha, ?_⟩)
        exact ring_back F G b1 b2 (C := fun z => z ∈ ring f g s) (fun p _ _ => ring_f F G s1 s2) (fun p _ _ => ring_g F G s1 s2) hy2 hy
      · rw [List.flatten_append, List.mem_append]
        by_cases e : p = (i : Int) + 1
        · refine .inr ?_
          rw [e]
          simpa using ring_start F G b1 b2
        · exact .inl (R.cov p a (by omega))
theorem flat_nodup : ∀ {L : List (List Int)}, (∀ r ∈ L, r.Nodup) → (L.Pairwise fun a b => ∀ y ∈ a, y ∉ b) → L.flatten.Nodup
  | [], _, _ => List.nodup_nil
  | r :: L, h, d => by
    obtain ⟨d1, d2⟩ := List.pairwise_cons.mp d
    rw [List.flatten_cons]
    refine List.nodup_append.mpr ⟨h r (by simp), flat_nodup (fun x hx => h x (by simp [hx])) d2, fun a ha b hb e => ?_⟩
    subst e
    obtain ⟨q, hq, hy⟩ := List.mem_flatten.mp hb
    exact d1 q hq a ha hy
theorem Rgs.nodup (F : Mt N f) (G : Mt N g) {i : Nat} {L : List (List Int)} (R : Rgs N f g i L) : L.flatten.Nodup := flat_nodup (fun r hr => by
  obtain ⟨s, s1, s2, rfl⟩ := R.ok r hr
  exact rg_nodup F G s1 s2 _ (Nat.le_refl _)) R.dj
theorem Rgs.inn (F : Mt N f) (G : Mt N g) {i : Nat} {L : List (List Int)} (R : Rgs N f g i L) {y : Int} (h : y ∈ L.flatten) : 1 ≤ y ∧ y ≤ N := by
  obtain ⟨r, hr, hy⟩ := List.mem_flatten.mp h
  obtain ⟨s, s1, s2, rfl⟩ := R.ok r hr
  exact ring_in F G s1 s2 hy
/-- all points, each once -/
theorem rgs_perm (F : Mt N f) (G : Mt N g) : (rgs f g N).flatten.Perm ((List.range N).map fun (k : Nat) => (k : Int) + 1) := by
  have R := rgs_ok F G N (Nat.le_refl _)
  refine (List.perm_ext_iff_of_nodup (R.nodup F G) ?_).mpr fun y => ⟨fun h => ?_, fun h => ?_⟩
  · rw [List.nodup_iff_pairwise_ne, List.pairwise_map]
    exact (List.pairwise_lt_range (n := N)).imp fun {a b} h e => by omega
  · have := R.inn F G h
    exact List.mem_map.mpr ⟨(y - 1).toNat, List.mem_range.mpr (by omega), by omega⟩
  · obtain ⟨k, hk, rfl⟩ := List.mem_map.mp h
    have := List.mem_range.mp hk
    exact R.cov _ (by omega) (by omega)
open Classical in
theorem inj_len {α β : Type} (T : α → β → Prop) : ∀ (A : List α) (B : List β), A.Nodup → (∀ a ∈ A, ∃ b ∈ B, T a b) → (∀ a ∈ A, ∀ a' ∈ A, ∀ b ∈ B, T a b → T a' b → a = a') → A.length ≤ B.length
  | [], B, _, _, _ => Nat.zero_le _
  | a :: A, B, nd, ex, un => by
    obtain ⟨n1, n2⟩ := List.nodup_cons.mp nd
    obtain ⟨b, hb, t⟩ := ex a (by simp)
    have := inj_len T A (B.erase b) n2 (fun a' ha' => by
      obtain ⟨b', hb', t'⟩ := ex a' (by simp [ha'])
      refine ⟨b', (List.mem_erase_of_ne fun e => ?_).mpr hb', t'⟩
      subst e
      exact n1 (un a (by simp) a' (by simp [ha']) _ hb t t' ▸ ha')) (fun x hx y hy z hz => un x (by simp [hx]) y (by simp [hy]) z (List.mem_of_mem_erase hz))
    rw [List.length_erase_of_mem hb] at this
    have := List.length_pos_of_mem hb
    rw [List.length_cons]
    omega
theorem Rgs.nd (F : Mt N f) (G : Mt N g) {i : Nat} {L : List (List Int)} (R : Rgs N f g i L) : L.Nodup := by
  refine R.dj.imp_of_mem fun {a b} ha hb h e => ?_
  subst e
  obtain ⟨s, s1, s2, rfl⟩ := R.ok a ha
  exact h s (ring_start F G s1 s2) (ring_start F G s1 s2)
/-- renumbering does not make loops fewer -/
theorem rgs_le {f' g' : Int → Int} (F : Mt N f) (G : Mt N g) (F' : Mt N f') (G' : Mt N g') (φ : Int → Int) (hin : ∀ p : Int, 1 ≤ p → p ≤ N → 1 ≤ φ p ∧ φ p ≤ N) (hinj : ∀ p q : Int, 1 ≤ p → p ≤ N → 1 ≤ q → q ≤ N → φ p = φ q → p = q)
    (hf : ∀ p : Int, 1 ≤ p → p ≤ N → f' (φ p) = φ (f p) ∨ f' (φ p) = φ (g p)) (hg : ∀ p : Int, 1 ≤ p → p ≤ N → g' (φ p) = φ (f p) ∨ g' (φ p) = φ (g p)) : (rgs f g N).length ≤ (rgs f' g' N).length := by
  have R := rgs_ok F G N (Nat.le_refl _)
  have R' := rgs_ok F' G' N (Nat.le_refl _)
  refine inj_len (fun a b => ∃ y ∈ a, φ y ∈ b) _ _ (R.nd F G) (fun a ha => ?_) fun a ha a' ha' b hb h h' => ?_
  · obtain ⟨s, s1, s2, rfl⟩ := R.ok a ha
    have i := hin s s1 s2
    obtain ⟨b, hb, hy⟩ := List.mem_flatten.mp (R'.cov _ i.1 i.2)
    exact ⟨b, hb, s, ring_start F G s1 s2, hy⟩
  · obtain ⟨y, hy, hb1⟩ := h
    obtain ⟨y', hy', hb2⟩ := h'
    obtain ⟨s, s1, s2, rfl⟩ := R.ok a ha
    obtain ⟨t, t1, t2, rfl⟩ := R'.ok b hb
    have key : y' ∈ ring f g s := by
      have cl : ∀ (h' : Int → Int), (∀ p : Int, 1 ≤ p → p ≤ N → h' (φ p) = φ (f p) ∨ h' (φ p) = φ (g p)) → ∀ p : Int, 1 ≤ p → p ≤ N → (∃ z ∈ ring f g s, φ z = p) → ∃ z ∈ ring f g s, φ z = h' p := fun h' hh p _ _ ⟨z, hz, e⟩ => by
        have i := ring_in F G s1 s2 hz
        subst e
        rcases hh z i.1 i.2 with e | e
        · exact ⟨f z, ring_f F G s1 s2 hz, e.symm⟩
        · exact ⟨g z, ring_g F G s1 s2 hz, e.symm⟩
      have c0 := ring_back F' G' t1 t2 (C := fun p => ∃ z ∈ ring f g s, φ z = p) (cl f' hf) (cl g' hg) hb1 ⟨y, hy, rfl⟩
      obtain ⟨z, hz, e⟩ := ring_fwd F' G' t1 t2 (C := fun p => ∃ z ∈ ring f g s, φ z = p) (cl f' hf) (cl g' hg) c0 hb2
      have i := ring_in F G s1 s2 hz
      obtain ⟨s', q1, q2, rfl⟩ := R.ok a' ha'
      have j := ring_in F G q1 q2 hy'
      rw [← hinj z y' i.1 i.2 j.1 j.2 e]
      exact hz
    refine Classical.byContradiction fun ne => ?_
    have := List.pairwise_iff_getElem.mp R.dj
    obtain ⟨i, hi, ei⟩ := List.getElem_of_mem ha
    obtain ⟨j, hj, ej⟩ := List.getElem_of_mem ha'
    rcases Nat.lt_trichotomy i j with c | c | c
    · exact this i j hi hj c y' (by rw [ei]; exact key) (by rw [ej]; exact hy')
    · subst c
      exact ne (ei.symm.trans ej)
    · exact this j i hj hi c y' (by rw [ej]; exact hy') (by rw [ei]; exact key)
/-- as many loops as chords: the two are one -/
theorem rgs_count (F : Mt N f) (G : Mt N g) : 2 * (rgs f g N).length = N ↔ ∀ p : Int, 1 ≤ p → p ≤ N → f p = g p := by
  have R := rgs_ok F G N (Nat.le_refl _)
  have tot : (rgs f g N).flatten.length = N := by rw [(rgs_perm F G).length_eq, List.length_map, List.length_range]
  have two : ∀ r ∈ rgs f g N, 2 ≤ r.length := fun r hr => by
    obtain ⟨s, s1, s2, rfl⟩ := R.ok r hr
    have := (per_spec F G s1 s2).1
    show 2 ≤ (rg _ _ _ _).length
    rw [rg_len]; omega
  have sum : ∀ L : List (List Int), (∀ r ∈ L, 2 ≤ r.length) → 2 * L.length ≤ L.flatten.length ∧ (2 * L.length = L.flatten.length → ∀ r ∈ L, r.length = 2) ∧ ((∀ r ∈ L, r.length = 2) → 2 * L.length = L.flatten.length) := by
    intro L
    induction L with
    | nil => exact fun _ => ⟨Nat.le_refl _, fun _ r h => by simp at h, fun _ => rfl⟩
    | cons r L ih =>
      intro h
      have h0 := h r (by simp)
      obtain ⟨i1, i2, i3⟩ := ih fun x hx => h x (by simp [hx])
      rw [List.flatten_cons, List.length_append, List.length_cons]
      refine ⟨by omega, fun e x hx => ?_, fun e => ?_⟩
      · rcases List.mem_cons.mp hx with rfl | hx
        · omega
        · exact i2 (by omega) x hx
      · have := e r (by simp)
        have := i3 fun x hx => e x (by simp [hx])
        omega
  obtain ⟨q1, q2, q3⟩ := sum _ two
  rw [tot] at q1 q2 q3
  constructor
  · intro e p p1 p2
    obtain ⟨r, hr, hp⟩ := List.mem_flatten.mp (R.cov p p1 p2)
    have l2 := q2 e r hr
    obtain ⟨s, s1, s2, rfl⟩ := R.ok r hr
    have l2' : (rg f g s (per f g s)).length = 2 := l2
    rw [rg_len] at l2'
    have p1' : per f g s = 1 := by omega
    have e1 := (per_spec F G s1 s2).2.1
    rw [p1'] at e1
    have e1' : g (f s) = s := e1
    have fs := F.inn s s1 s2
    have e2 : f s = g s := by
      have := congrArg g e1'
      rwa [G.inv _ fs.1 fs.2] at this
    obtain ⟨j, hj, e3 | e3⟩ := mem_rg.mp hp
    · have : j = 0 := by omega
      subst this
      rw [e3]
      exact e2
    · have : j = 0 := by omega
      subst this
      rw [e3]
      show f (f s) = g (f s)
      rw [F.inv s s1 s2, e1']
  · intro e
    refine q3 fun r hr => ?_
    obtain ⟨s, s1, s2, rfl⟩ := R.ok r hr
    obtain ⟨p1, p2, p3⟩ := per_spec F G s1 s2
    have fs := F.inn s s1 s2
    have one : lp f g s 1 = s := by
      show g (f s) = s
      rw [← e (f s) fs.1 fs.2, F.inv s s1 s2]
    have : per f g s = 1 := by
      refine Classical.byContradiction fun z => p3 1 (Nat.le_refl _) (by omega) one
    show (rg f g s (per f g s)).length = 2
    rw [rg_len, this]
end
end DL
namespace DL
open PySem PySem.Spec PyProof.Rows L2
/-! the partners in a diagram -/
open Classical in
noncomputable def mtI (w : List Bool) (p : Int) : Int := if h : ∃ q, (p, q) ∈ cds w ∨ (q, p) ∈ cds w then h.choose else 0
section
variable {n : Nat} {w : List Bool}
theorem mt_cl (D : Dyck n w) {p q : Int} (h : (p, q) ∈ cds w ∨ (q, p) ∈ cds w) : ∃ k m : Nat, p = (k : Int) + 1 ∧ q = (m : Int) + 1 ∧ (Cl w k m ∨ Cl w m k) := by
  rcases h with h | h
  · obtain ⟨k, m, e1, e2, c⟩ := (D.cds.1.mem _ _).mp h
    exact ⟨k, m, e1, e2, .inl c⟩
  · obtain ⟨k, m, e1, e2, c⟩ := (D.cds.1.mem _ _).mp h
    exact ⟨m, k, e2, e1, .inr c⟩
theorem mt_uniq (D : Dyck n w) {p q : Int} (h : (p, q) ∈ cds w ∨ (q, p) ∈ cds w) : mtI w p = q := by
  have ex : ∃ q, (p, q) ∈ cds w ∨ (q, p) ∈ cds w := ⟨q, h⟩
  unfold mtI
  rw [dif_pos ex]
  obtain ⟨k, m, e1, e2, c⟩ := mt_cl D h
  obtain ⟨k', m', f1, f2, c'⟩ := mt_cl D ex.choose_spec
  have : k' = k := by omega
  subst this
  have := mate_uniq c c'
  rw [f2, e2, this]
theorem mt_mem (D : Dyck n w) {p : Int} (h1 : 1 ≤ p) (h2 : p ≤ ((2 * n : Nat) : Int)) : (p, mtI w p) ∈ cds w ∨ (mtI w p, p) ∈ cds w := by
  have dl := D.len
  obtain ⟨k, rfl⟩ : ∃ k : Nat, p = (k : Int) + 1 := ⟨p.toNat - 1, by omega⟩
  obtain ⟨q, c⟩ := mate_exists D (show k < w.length by omega)
  have h : ((k : Int) + 1, (q : Int) + 1) ∈ cds w ∨ ((q : Int) + 1, (k : Int) + 1) ∈ cds w := by
    rcases c with c | c
    · exact .inl ((D.cds.1.mem _ _).mpr ⟨k, q, rfl, rfl, c⟩)
    · exact .inr ((D.cds.1.mem _ _).mpr ⟨q, k, rfl, rfl, c⟩)
  rw [mt_uniq D h]
  exact h
theorem mt_ok (D : Dyck n w) : Mt (2 * n) (mtI w) := by
  have dl := D.len
  refine ⟨fun p h1 h2 => ?_, fun p h1 h2 => ?_, fun p h1 h2 => ?_⟩
  · obtain ⟨k, m, e1, e2, c⟩ := mt_cl D (mt_mem D h1 h2)
    have := mate_lt c
    omega
  · exact mt_uniq D (mt_mem D h1 h2).symm
  · obtain ⟨k, m, e1, e2, c⟩ := mt_cl D (mt_mem D h1 h2)
    have := mate_par c
    omega
theorem mt_ren {w' : List Bool} {φ : Int → Int} (D : Dyck n w) (W : WD n w' ((cds w).map (ren φ))) {p : Int} (h1 : 1 ≤ p) (h2 : p ≤ ((2 * n : Nat) : Int)) : mtI w' (φ p) = φ (mtI w p) := by
  have m : (min (φ p) (φ (mtI w p)), max (φ p) (φ (mtI w p))) ∈ (cds w).map (ren φ) := by
    rcases mt_mem D h1 h2 with h | h
    · exact List.mem_map.mpr ⟨_, h, rfl⟩
    · refine List.mem_map.mpr ⟨_, h, ?_⟩
      unfold ren
      simp only
      rw [Int.min_comm, Int.max_comm]
  have m2 := W.permC.mem_iff.mp m
  refine mt_uniq W.dy ?_
  rcases min_max (φ p) (φ (mtI w p)) with ⟨_, a, b⟩ | ⟨_, a, b⟩
  · rw [a, b] at m2; exact .inl m2
  · rw [a, b] at m2; exact .inr m2
theorem mt_same {w' : List Bool} (D : Dyck n w) (D' : Dyck n w') (h : ∀ p : Int, 1 ≤ p → p ≤ ((2 * n : Nat) : Int) → mtI w p = mtI w' p) : cds w = cds w' := by
  refine D'.cds.1.uniq ?_ (D.dg.asc.imp fun h => .inl h)
  refine (List.perm_ext_iff_of_nodup D.cds.1.nd D'.cds.1.nd).mpr fun x => ?_
  have go : ∀ {v v' : List Bool} (V : Dyck n v) (V' : Dyck n v'), (∀ p : Int, 1 ≤ p → p ≤ ((2 * n : Nat) : Int) → mtI v p = mtI v' p) → x ∈ cds v → x ∈ cds v' := fun {v v'} V V' h hx => by
    have i := V.dg.nc.inn x hx
    have i2 : x.2 ≤ ((2 * n : Nat) : Int) := by omega
    have e : mtI v x.1 = x.2 := mt_uniq V (.inl hx)
    have m := mt_mem V' (p := x.1) i.1 (by omega)
    rw [← h x.1 i.1 (by omega), e] at m
    rcases m with m | m
    · exact m
    · have j := V'.dg.nc.inn _ m
      exact absurd j.2.1 (by show ¬ x.2 < x.1; omega)
  exact ⟨go D D' h, go D' D fun p a b => (h p a b).symm⟩
end
theorem merge_val {k : Key} {d : PyData} : ∀ {L acc : List (Key × PyData)}, (∀ x ∈ L, x.1 = k → x.2 = d) → ((∃ x ∈ L, x.1 = k) ∨ valD acc k = some d) → valD (mergeP acc L) k = some d
  | [], acc, _, h => by
    rcases h with ⟨x, hx, _⟩ | h
    · simp at hx
    · exact h
  | x :: L, acc, hu, h => by
    show valD (mergeP (putD acc x.1 x.2) L) k = some d
    refine merge_val (fun y hy => hu y (by simp [hy])) ?_
    by_cases e : x.1 = k
    · refine .inr ?_
      rw [valD_put, if_pos e.symm, hu x (by simp) e]
    · rcases h with ⟨y, hy, e2⟩ | h
      · rcases List.mem_cons.mp hy with rfl | hy
        · exact absurd e2 e
        · exact .inl ⟨y, hy, e2⟩
      · refine .inr ?_
        rw [valD_put, if_neg (fun z => e z.symm), h]
end DL
namespace DL
open PySem PySem.Spec PyProof.Rows L2
theorem rgs_swap {N : Nat} {f g : Int → Int} (F : Mt N f) (G : Mt N g) : (rgs g f N).length = (rgs f g N).length :=
  Nat.le_antisymm (rgs_le G F F G id (fun p a b => ⟨a, b⟩) (fun p q _ _ _ _ e => e) (fun p _ _ => .inr rfl) (fun p _ _ => .inl rfl)) (rgs_le F G G F id (fun p a b => ⟨a, b⟩) (fun p q _ _ _ _ e => e) (fun p _ _ => .inr rfl) (fun p _ _ => .inl rfl))
theorem rgs_ren {n : Nat} {w v w' v' : List Bool} {φ ψ : Int → Int} (D : Dyck n w) (E : Dyck n v) (W : WD n w' ((cds w).map (ren φ))) (V : WD n v' ((cds v).map (ren φ))) (hφ : ∀ p : Int, 1 ≤ p → p ≤ ((2 * n : Nat) : Int) → (1 ≤ φ p ∧ φ p ≤ ((2 * n : Nat) : Int)) ∧ ψ (φ p) = p)
    (hψ : ∀ p : Int, 1 ≤ p → p ≤ ((2 * n : Nat) : Int) → (1 ≤ ψ p ∧ ψ p ≤ ((2 * n : Nat) : Int)) ∧ φ (ψ p) = p) : (rgs (mtI w') (mtI v') (2 * n)).length = (rgs (mtI w) (mtI v) (2 * n)).length := by
  have F := mt_ok D
  have G := mt_ok E
  have F' := mt_ok W.dy
  have G' := mt_ok V.dy
  have back : ∀ {u u' : List Bool} (U : Dyck n u) (Q : WD n u' ((cds u).map (ren φ))) (p : Int), 1 ≤ p → p ≤ ((2 * n : Nat) : Int) → mtI u (ψ p) = ψ (mtI u' p) := fun {u u'} U Q p p1 p2 => by
    have h := hψ p p1 p2
    have e := mt_ren U Q h.1.1 h.1.2
    rw [h.2] at e
    have i := (mt_ok U).inn _ h.1.1 h.1.2
    rw [e, (hφ _ i.1 i.2).2]
  refine Nat.le_antisymm (rgs_le F' G' F G ψ (fun p a b => (hψ p a b).1) (fun p q p1 p2 q1 q2 e => ?_) (fun p a b => .inl (back D W p a b)) (fun p a b => .inr (back E V p a b))) (rgs_le F G F' G' φ (fun p a b => (hφ p a b).1) (fun p q p1 p2 q1 q2 e => ?_) (fun p a b => .inl (mt_ren D W a b)) (fun p a b => .inr (mt_ren E V a b)))
  · have := congrArg φ e
    rwa [(hψ p p1 p2).2, (hψ q q1 q2).2] at this
  · have := congrArg ψ e
    rwa [(hφ p p1 p2).2, (hφ q q1 q2).2] at this
theorem rgs_mir {n : Nat} {w v w' v' : List Bool} (D : Dyck n w) (E : Dyck n v) (W : WD n w' ((cds w).map (ren (mirp (2 * (n : Int)))))) (V : WD n v' ((cds v).map (ren (mirp (2 * (n : Int)))))) : (rgs (mtI w') (mtI v') (2 * n)).length = (rgs (mtI w) (mtI v) (2 * n)).length :=
  rgs_ren (ψ := mirp (2 * (n : Int))) D E W V (fun p a b => by unfold mirp; omega) (fun p a b => by unfold mirp; omega)
theorem rgs_rot {n : Nat} {w v w' v' : List Bool} {t : Int} (D : Dyck n w) (E : Dyck n v) (W : WD n w' ((cds w).map (ren (rotp (2 * (n : Int)) t)))) (V : WD n v' ((cds v).map (ren (rotp (2 * (n : Int)) t)))) : (rgs (mtI w') (mtI v') (2 * n)).length = (rgs (mtI w) (mtI v) (2 * n)).length :=
  rgs_ren (ψ := rotp (2 * (n : Int)) (0 - t)) D E W V (fun p a b => by
    have i := rotp_in (N := 2 * (n : Int)) (t := t) (p := p) (by omega)
    refine ⟨⟨i.1, by omega⟩, ?_⟩
    rw [rotp_rotp (by omega), show t + (0 - t) = 0 by omega, rotp_zero a (by omega)]) (fun p a b => by
    have i := rotp_in (N := 2 * (n : Int)) (t := 0 - t) (p := p) (by omega)
    refine ⟨⟨i.1, by omega⟩, ?_⟩
    rw [rotp_rotp (by omega), show 0 - t + t = 0 by omega, rotp_zero a (by omega)])
/-- as many loops as chords: one diagram -/
theorem rgs_one {n : Nat} {w v : List Bool} (D : Dyck n w) (E : Dyck n v) : (rgs (mtI w) (mtI v) (2 * n)).length = n ↔ cds w = cds v := by
  have q := rgs_count (mt_ok D) (mt_ok E)
  constructor
  · intro e
    exact mt_same D E (q.mp (by omega))
  · intro e
    have : 2 * (rgs (mtI w) (mtI v) (2 * n)).length = 2 * n := q.mpr fun p p1 p2 => by
      have m := mt_mem E p1 p2
      rw [← e] at m
      exact mt_uniq D m
    omega
end DL
/-! lists of ints that a def changes by place: kept as owned objects that are no data -/
namespace DL
open PySem PySem.Spec PyProof.Rows L2
/-- xs[i] by values: a list -/
theorem get_listV {X : Cx} : PGet X (rIxL X.K) := by
  intro pins s σ H o i ov iv Q I ro ri h
  obtain ⟨p, xs, k, z, rfl, rfl, hq, he, q⟩ := h
  cases ro
  obtain ⟨t, rfl⟩ := ri
  obtain ⟨its, r, pl, hz⟩ := I.list hq
  obtain ⟨j, h1, h2, h3, h4, h5⟩ := atI_get he
  obtain ⟨w, ew, rw'⟩ := r.get h2
  have hl := r.length
  have hn := line63
  have fin : EP X pins σ Q w s := ⟨z, H, I, rw', q⟩
  by_cases h0 : 0 ≤ k
  · have hj : k.toNat = j := by
      rw [seqIndex_of h0 h5] at h1
      exact Option.some.inj h1
    exact wpAny_getItem_list (Q := EP X pins σ Q) pl.isList h0 (by omega) (by rw [hj]; simpa using ew) fin
  · have hj : (k + (its.toArray.size : Int)).toNat = j := by
      rw [seqIndex_neg (by omega) h4] at h1
      rw [List.size_toArray, ← hl]
      exact Option.some.inj h1
    exact wpAny_getItem_list_neg (Q := EP X pins σ Q) pl.isList (by omega) (by rw [List.size_toArray] <;> omega) (by omega) (by rw [hj]; simpa using ew) fin
def intsR (ns : List Int) : ResP where
  P := fun H a fp => fp = [a] ∧ H a = some (.lst (ns.map V.int))
  keep := by
    rintro H H' a fp ⟨rfl, h⟩ k
    exact ⟨rfl, (k a (by simp)).trans h⟩
  dom := by
    rintro H a fp ⟨rfl, h⟩ b hb
    have e : b = a := by simpa using hb
    rw [e, h]; exact fun z => nomatch z
section
variable {X : Cx} {io : Bool} {e a b c o : Expr} {es : List Expr} {st : Stmt} {rest : List Stmt} {pos : Pos} {ta tb tc : DTE} {tt tu : DTT} {t u : DTS}
/-- name = a new list of ints that is handed to defs which change it -/
def dSetR (i : Nat) (t : DTE) : DTS := fun D ρ => t ρ fun r ρ1 => match r with
  | .n (.lst ds) => ∃ ns : List Int, ds = ns.map .int ∧ D.nx (put ρ1 i (.own (.res (intsR ns))))
  | _ => False
theorem ds_setR (i : Nat) {x : Str} {pos' : Pos} (hN : X.N.Nodup) (he : DE X e ta) (hi : X.N[i]? = some x := by rfl) (hx : Loc X.env.scope x := by first | exact Or.inl rfl | exact Or.inr rfl) (hio : io = true → i ≠ 0 := by first | exact (fun z => nomatch z) | exact (fun _ => by decide))
    (hs : swapsWith e (some (.Name x pos')) pos.line X.env = pure false := by rfl) (hf : X.fn x = true ∨ X.env.scope.names.lookup x = some .local := by first | exact .inl rfl | exact .inr rfl | assumption) : DS X io (.Assign [.Name x pos'] e pos) (dSetR i ta) := by
  obtain ⟨te, p, s⟩ := he
  refine ⟨_, ps_set hN hi hx p hs hf, fun F ρ O σ H A P Dd D hr G E q => s F ρ O σ H A P _ _ G q fun r ρ1 v fp O1 H1 A1 P1 S1 G1 R1 N1 q1 => ?_⟩
  cases r with
  | d d => exact (show False from q1).elim
  | o j => exact (show False from q1).elim
  | n w =>
    cases w with
    | lst ds =>
      obtain ⟨ns, rfl, q1⟩ := q1
      obtain ⟨p, rfl, hf, e1, xs, z1, z2⟩ := R1
      have ex := DvL.ints z2
      subst ex
      exact E.nx _ O1 _ H1 _ _ (G1.putN (w := .res (intsR ns)) (fun z => by
        cases io with
        | true => exact hio rfl
        | false => exact absurd (hr rfl).1 z) hf ⟨e1, z1⟩) q1
    | _ => exact (show False from q1).elim
/-- name[e], the name such a list -/
def dIxR (i : Nat) (t : DTE) : DTE := fun ρ Q => (∃ ns0, slot ρ i = .own (.res (intsR ns0))) ∧ t ρ fun r ρ1 => ∃ ns k v, slot ρ1 i = .own (.res (intsR ns)) ∧ view ρ1 r = some (.int k) ∧ atI ns k = some v ∧ Q (.d (.int v)) ρ1
theorem atI_intsV {ns : List Int} {k : Int} {v : Int} (h : atI ns k = some v) : atI (ns.map V.int) k = some (V.int v) := by
  unfold atI at h ⊢
  rw [List.length_map]
  cases e : ixN ns.length k with
  | none => rw [e] at h; cases h
  | some j =>
    rw [e] at h
    have h' : ns[j]? = some v := h
    show (ns.map V.int)[j]? = _
    rw [List.getElem?_map, h']; rfl
theorem de_ixR (i : Nat) {x : Str} {p1 : Pos} (he : DE X e ta) (hs : PlainIx e) (hN : X.N[i]? = some x := by rfl) (hv : Vis X.env.scope x := by first | exact Or.inl rfl | exact Or.inr (Or.inl rfl)) (hd : (x == ("__debug__" : Str)) = false := by decide) (hcd : (x == ("__classdict__" : Str)) = false := by decide) : DE X (.Subscript (.Name x p1) e pos) (dIxR i ta) := by
  obtain ⟨te, p, s⟩ := he
  refine ⟨_, pe_ix ix_list (pe_var hN hv hd hcd) p hs, fun F ρ O σ H A P Qd Q G q k => ?_⟩
  obtain ⟨⟨ns0, s0⟩, q⟩ := q
  obtain ⟨g1, _⟩ := G.own i _ s0
  refine ⟨_, g1, s F ρ O σ H A P _ _ G q fun r ρ1 v fp O1 H1 A1 P1 S1 G1 R1 N1 q1 => ?_⟩
  obtain ⟨ns, kk, vv, s1, e1, e2, q2⟩ := q1
  obtain ⟨f1, ⟨_, f3⟩, _, _⟩ := G1.own i _ s1
  rw [g1] at f1
  have ea : A i = A1 i := V.ref.inj (Option.some.inj (Option.some.inj f1))
  cases (show v = .int kk from view_ok G1 R1 e1)
  exact ⟨A i, ns.map V.int, kk, .int vv, rfl, rfl, by rw [ea]; exact SqL.of f3, atI_intsV e2, k (.d (.int vv)) ρ1 _ [] O1 H1 A1 P1 S1 G1 rfl nw_d q2⟩
/-- name[e] += e2, the name such a list -/
def dAugR (i : Nat) (f : Int → Int → Int) (ti te : DTE) : DTS := fun D ρ => (∃ ns0, slot ρ i = .own (.res (intsR ns0))) ∧ ti ρ fun r ρ1 => ∃ ns k v, slot ρ1 i = .own (.res (intsR ns)) ∧ view ρ1 r = some (.int k) ∧ atI ns k = some v ∧ te ρ1 fun r2 ρ2 => ∃ ns2 w j, slot ρ2 i = .own (.res (intsR ns2)) ∧ view ρ2 r2 = some (.int w) ∧ ixN ns2.length k = some j ∧ D.nx (put ρ2 i (.own (.res (intsR (ns2.set j (f v w))))))
theorem ds_augR (i : Nat) {x : Str} {p1 tpos : Pos} {op : Operator} {f : Int → Int → Int} (ho : PIp X op (ipI f)) (hi : DE X e ta) (he : DE X a tb) (hN : X.N[i]? = some x := by rfl) (hv : Vis X.env.scope x := by first | exact Or.inl rfl | exact Or.inr (Or.inl rfl)) (hd : (x == ("__debug__" : Str)) = false := by decide) (hcd : (x == ("__classdict__" : Str)) = false := by decide)
    (ha : ∀ ov iv new, augStore e ov iv new = (do holding [new, ov, iv] (setItem ov iv new); release [new, ov, iv] []; pure .next) := by intros; rfl) : DS X io (.AugAssign (.Subscript (.Name x p1) e tpos) op a pos) (dAugR i f ta tb) := by
  obtain ⟨ti, pi, si⟩ := hi
  obtain ⟨te, pe, se⟩ := he
  refine ⟨_, ps_augS (pe_var hN hv hd hcd) pi get_listV pe ho set_list ha, fun F ρ O σ H A P Dd D hr G E q => ?_⟩
  obtain ⟨⟨ns0, s0⟩, q⟩ := q
  obtain ⟨g1, _⟩ := G.own i _ s0
  refine ⟨_, g1, si F ρ O σ H A P _ _ G q fun r ρ1 v fp O1 H1 A1 P1 S1 G1 R1 N1 q1 => ?_⟩
  obtain ⟨ns, kk, vv, s1, e1, e2, q1⟩ := q1
  obtain ⟨f1, ⟨f2, f3⟩, _, _⟩ := G1.own i _ s1
  rw [g1] at f1
  have ea : A i = A1 i := V.ref.inj (Option.some.inj (Option.some.inj f1))
  cases (show v = .int kk from view_ok G1 R1 e1)
  refine ⟨A i, ns.map V.int, kk, .int vv, rfl, rfl, by rw [ea]; exact SqL.of f3, atI_intsV e2, se F ρ1 O1 σ H1 A1 P1 _ _ G1 q1 fun r2 ρ2 v2 fp2 O2 H2 A2 P2 S2 G2 R2 N2 q2 => ?_⟩
  obtain ⟨ns2, w, j, s2, e3, e4, q2⟩ := q2
  cases (show v2 = .int w from view_ok G2 R2 e3)
  obtain ⟨h1, ⟨h2, h3⟩, _, _⟩ := G2.own i _ s2
  rw [g1] at h1
  have eb : A i = A2 i := V.ref.inj (Option.some.inj (Option.some.inj h1))
  refine ⟨vv, w, rfl, rfl, A i, ns2.map V.int, kk, j, rfl, rfl, by rw [eb]; exact h3, by rw [List.length_map]; exact e4, ?_⟩
  rw [eb]
  exact E.nx _ O2 σ _ A2 P2 (G2.chgW (w' := .res (intsR _)) s2 h2 rfl rfl fun _ _ => ⟨rfl, by rw [upd_same, List.map_set]⟩) q2
/-- from here on such a list stays -/
def dRelS (i : Nat) (t : DTS) : DTS := fun D ρ => ∃ ns : List Int, slot ρ i = .own (.res (intsR ns)) ∧ t D (put ρ i (.val (.list (ns.map .int))))
theorem ds_rel (i : Nat) (h : DS X false st t) : DS X false st (dRelS i t) := by
  obtain ⟨ts, p, s⟩ := h
  refine ⟨ts, p, fun F ρ O σ H A P Dd D hr G E q => ?_⟩
  obtain ⟨ns, s0, q⟩ := q
  obtain ⟨g1, ⟨g2, g3⟩, g4, g5⟩ := G.own i _ s0
  have hil : i < ρ.length := slot_lt (by rw [s0]; exact fun z => nomatch z)
  have h0 : F.H0 (A i) = none := (g5 (A i) (by rw [g2]; simp)).resolve_right fun z => (hr rfl).2 _ z.2
  have sm : Same (Hs H O) (Hs H fun b => O b ∧ ¬ b = A i) := Hs_mono fun b o h n => ⟨h, fun z => n z.1⟩
  have dv : Dv X.K (Hs H fun b => O b ∧ ¬ b = A i) (.list (ns.map .int)) (.ref (A i)) := ⟨A i, ns.map V.int, rfl, SqL.of (Hs_in g3 fun z => z.2 rfl), DvL.of_ints ns⟩
  have back : ∀ (j : Nat) (w2 : Ow), slot (put ρ i (.val (.list (ns.map .int)))) j = .own w2 → slot ρ j = .own w2 ∧ i ≠ j := fun j w2 qj => by
    by_cases hj : i = j
    · subst hj
      rw [slot_put hil] at qj
      cases qj
    · rw [slot_put_ne hj] at qj
      exact ⟨qj, hj⟩
  refine s F _ _ σ H A P Dd D hr (G.drop (D := fun b => b = A i) (ρ' := put ρ i (.val (.list (ns.map .int)))) (fun b z => z ▸ h0) (put_length _ _ _) (fun j d qj => ?_) fun j w2 qj => ?_) E q
  · by_cases hj : i = j
    · subst hj
      rw [slot_put hil] at qj
      cases qj
      exact .inr ⟨_, g1, dv⟩
    · rw [slot_put_ne hj] at qj
      exact .inl qj
  · obtain ⟨q1, q2⟩ := back j w2 qj
    exact ⟨q1, fun b hb z => G.sep j i w2 _ q1 s0 (fun z => q2 z.symm) b hb (by rw [g2, z]; simp)⟩
/-- tuple(reversed(e)): a list -/
def dTupRev (t : DTE) : DTE := fun ρ Q => t ρ fun r ρ1 => match view ρ1 r with
  | some (.list ds) => Q (.d (.tuple ds.reverse)) ρ1
  | _ => False
theorem de_tupRev {p p2 pos pos2 : Pos} (hc : X.calm = true) (hg : Gl X "tuple") (hm : X.mg "tuple" = none) (hg2 : Gl X "reversed") (hm2 : X.mg "reversed" = none) (he : DE X e ta)
    (hs : starEach [e] X.env = (false, eval e X.env) :: starEach [] X.env := by rfl)
    (hs2 : starEach [.Call (.Name "reversed" p2) [e] [] pos2] X.env = (false, eval (.Call (.Name "reversed" p2) [e] [] pos2) X.env) :: starEach [] X.env := by rfl) : DE X (.Call (.Name "tuple" p) [.Call (.Name "reversed" p2) [e] [] pos2] [] pos) (dTupRev ta) := by
  obtain ⟨te, p, s⟩ := he
  refine ⟨_, RT.pe_tupRev hc hg hm hg2 hm2 p hs hs2, fun F ρ O σ H A P Qd Q G q k => s F ρ O σ H A P _ _ G q fun r ρ1 v fp O1 H1 A1 P1 S1 G1 R1 N1 q1 => ?_⟩
  cases e1 : view ρ1 r with
  | none => simp only [e1] at q1
  | some d =>
    cases d with
    | list ds =>
      simp only [e1] at q1
      obtain ⟨a, xs, rfl, h1, h2⟩ := view_ok G1 R1 e1
      refine ⟨a, xs, rfl, h1, fun p' hp => ?_⟩
      obtain ⟨O2, fo, S2, G2, R2, N2⟩ := (Out.tup G1.dom hp h2.rev).fin G1
      exact k (.d (.tuple ds.reverse)) ρ1 _ fo O2 _ A1 P1 (S1.trans S2) G2 R2 (S1.back N2) q1
    | _ => simp only [e1] at q1
end
end DL
/-! gcd; tuple * int for any int; enumerate(tuple, start=e) -/
namespace DL
open PySem PySem.Spec PyProof.Rows L2
def gGcd : GL := fun ds Q => match ds with
  | [.int a, .int b] => Q (.d (.int ((Nat.gcd a.natAbs b.natAbs : Nat) : Int)))
  | _ => False
theorem cll_gcd {K : Fg} : ClL K rGcd gGcd := fun O H ds xs Qd Q hd hx q k => by
  unfold gGcd at q
  split at q
  · obtain ⟨v, ws, e1, h1, v2, ws2, e2, h2, h3⟩ := hx
    have e3 : v = V.int _ := h1
    have e4 : v2 = V.int _ := h2
    have e5 : ws2 = [] := h3
    exact ⟨_, _, by rw [e1, e2, e3, e4, e5], k _ _ H (Out.sc (d := .int _) rfl) q⟩
  · exact q.elim
def gAbs : GL := fun ds Q => match ds with
  | [.int a] => Q (.d (.int (if a < 0 then -a else a)))
  | _ => False
theorem cll_abs {K : Fg} : ClL K (fun xs H Q => ∃ i, xs = [V.int i] ∧ Q (V.int (if i < 0 then -i else i)) H) gAbs := fun O H ds xs Qd Q hd hx q k => by
  unfold gAbs at q
  split at q
  · obtain ⟨v, ws, e1, h1, h3⟩ := hx
    have e3 : v = V.int _ := h1
    have e5 : ws = [] := h3
    exact ⟨_, by rw [e1, e3, e5], k _ _ H (Out.sc (d := .int _) rfl) q⟩
  · exact q.elim
/-- a tuple times one is itself -/
theorem tuple_mul1 (l : Addr) (items : Array Value) (n : Nat) (dd : Option Addr) (sl : Array (Option Value)) (u : Tok) :
    Meets (Builtin.«tuple.__mul__» ⟨[.ref l, .int 1 u], []⟩) (fun _ R s => s.heap.get? l = some { cls := .type "tuple", dict := dd, data := .seq items n, slots := sl } ∧ R (.ok (.ret (Value.ref l))) s) :=
  .of_wp fun prog w A R s h => by
    obtain ⟨hp, g, d, tk, os⟩ := s
    obtain ⟨hl, h⟩ := h
    have f1 := AutoSeq1.idx_int
    have c0 : (decide ((1 : Int) < -(2 ^ 63)) || decide ((1 : Int) ≥ 2 ^ 63)) = false := by decide
    have c1 : (items.isEmpty || (1 : Int) == 1) = true := by simp
    wp_walk using wpAny_loadPart' hl
    repeat (first
      | (refine wpAny_ite_false (decide_eq_false (by rw [c0]; exact Bool.false_ne_true)) ?_; wp_walk using wpAny_loadPart' hl)
      | (refine wpAny_ite_true (decide_eq_true c1) ?_; wp_walk using wpAny_loadPart' hl))
    exact ⟨_, rfl, h⟩
/-- a tuple with items times no count is a new empty one -/
theorem tuple_mul0 (l : Addr) (items : Array Value) (n : Nat) (dd : Option Addr) (sl : Array (Option Value)) (x : Int) (u : Tok) (c0 : (decide (x < -(2 ^ 63)) || decide (x ≥ 2 ^ 63)) = false) (c1 : (items.isEmpty || x == 1) = false) (c2 : (decide (x ≤ 0) || items.isEmpty) = true) :
    Meets (Builtin.«tuple.__mul__» ⟨[.ref l, .int x u], []⟩) (fun _ R s => s.heap.get? l = some { cls := .type "tuple", dict := dd, data := .seq items n, slots := sl } ∧
      R (.ok (.ret (Value.ref s.heap.objs.size))) { s with heap := s.heap.push { cls := Value.type "tuple", data := Data.seq #[] }, toks := s.toks }) :=
  .of_wp fun prog w A R s h => by
    obtain ⟨hp, g, d, tk, os⟩ := s
    obtain ⟨hl, h⟩ := h
    have f1 := AutoSeq1.idx_int
    wp_walk using wpAny_loadPart' hl
    repeat (first
      | (refine wpAny_ite_false (decide_eq_false (by rw [c0]; exact Bool.false_ne_true)) ?_; wp_walk using wpAny_loadPart' hl)
      | (refine wpAny_ite_false (decide_eq_false (by rw [c1]; exact Bool.false_ne_true)) ?_; wp_walk using wpAny_loadPart' hl)
      | (refine wpAny_ite_true (decide_eq_true c2) ?_; wp_walk using wpAny_loadPart' hl))
    exact ⟨_, rfl, h⟩
/-- tuple * int, the tuple has items -/
def rRepTA (K : Fg) : R2 := fun x y H Q => ∃ l k xs, x = .ref l ∧ y = .int k ∧ SqT K H l xs ∧ xs ≠ [] ∧ -(2 ^ 63) ≤ k ∧ k ≤ 1000 ∧ xs.length ≤ 1000 ∧
  (k = 1 → Q (.ref l) H) ∧ (k ≠ 1 → ∀ p, H p = none → Q (.ref p) (upd H p (.tup (List.replicate k.toNat xs).flatten)))
theorem op_repTA {X : Cx} : OpR X (binaryOp .Mult) (rRepTA X.K) := by
  intro pins s σ H x y v u Q I rx ry h
  obtain ⟨l, k, xs, rfl, rfl, hT, hne, h1, h2, hz, q1, q2⟩ := h
  by_cases hk2 : 2 ≤ k
  · exact op_repT pins s σ H _ _ v u Q I rx ry ⟨l, k, xs, rfl, rfl, hT, hne, hk2, h2, hz, q2 (by omega)⟩
  cases rx
  obtain ⟨t, rfl⟩ := ry
  obtain ⟨its, r, ⟨⟨cls, dd, data, sl⟩, ho, hc, n, hd⟩, hs⟩ := I.tuple hT
  simp only at hc hd
  subst hc hd
  have hle : its.length = xs.length := r.length.symm
  have hn : its ≠ [] := fun e => hne (by
    rw [e] at hle
    exact List.eq_nil_of_length_eq_zero hle.symm)
  have hi : its.toArray.isEmpty = false := by
    cases its with
    | nil => exact absurd rfl hn
    | cons a b => rfl
  by_cases e1 : k = 1
  · subst e1
    exact wpAny_binaryOp_repeat_ref (T := "tuple") (U := "int") (by decide) ⟨_, ho, rfl⟩ (fun s' => typeIs_int s' 1 t) noFill_tuple_mul F.fills_int_mul F.slot_int_rmul repeat_tuple F.slot_int_index.lookup
      (call_meets F.slot_int_rmul (typeIs_int s 1 t) F.entry_int_rmul (F.args_int_rmul_2 _ _) (int_rmul_tuple 1 t l its.toArray n dd sl)
        ⟨ho, rfl, ⟨_, ho, rfl⟩, call_meets F.slot_tuple_mul ⟨_, ho, rfl⟩ F.entry_tuple_mul (F.args_tuple_mul_2 _ _) (tuple_mul1 l its.toArray n dd sl t) ⟨ho, .ref l, H, I, rfl, q1 rfl⟩⟩)
  · have c0 : (decide (k < -(2 ^ 63)) || decide (k ≥ 2 ^ 63)) = false := by
      rw [decide_eq_false (by omega), decide_eq_false (by omega)] <;> rfl
    have c1 : (its.toArray.isEmpty || k == 1) = false := by
      rw [hi, Bool.false_or]
      exact beq_eq_false_iff_ne.mpr (by omega)
    have c2 : (decide (k ≤ 0) || its.toArray.isEmpty) = true := by
      rw [decide_eq_true (by omega)] <;> rfl
    have ez : k.toNat = 0 := by omega
    refine wpAny_binaryOp_repeat_ref (T := "tuple") (U := "int") (by decide) ⟨_, ho, rfl⟩ (fun s' => typeIs_int s' k t) noFill_tuple_mul F.fills_int_mul F.slot_int_rmul repeat_tuple F.slot_int_index.lookup
      (call_meets F.slot_int_rmul (typeIs_int s k t) F.entry_int_rmul (F.args_int_rmul_2 _ _) (int_rmul_tuple k t l its.toArray n dd sl)
        ⟨ho, rfl, ⟨_, ho, rfl⟩, call_meets F.slot_tuple_mul ⟨_, ho, rfl⟩ F.entry_tuple_mul (F.args_tuple_mul_2 _ _) (tuple_mul0 l its.toArray n dd sl k t c0 c1 c2) ⟨ho, ?_⟩⟩)
    have q := q2 e1
    rw [ez] at q
    refine ⟨.ref s.heap.objs.size, _, I.laid (t' := s.toks) (o := .tup []) (fun b ob q => Heap.get?_push_of_some _ q) (Nat.le_refl _) ?_, rfl, q _ (I.hok.fresh (Nat.le_refl _))⟩
    exact ⟨Nat.zero_le _, [], .nil, IsTup.new _ _⟩
section
variable {X : Cx} {a b : Expr} {ta tb : DTE} {pos : Pos}
def dRepT (ta tb : DTE) : DTE := fun ρ Q => dSt ta ρ fun d ρ1 => dSt tb ρ1 fun e ρ2 => match d, e with
  | .tuple ds, .int k => ds ≠ [] ∧ -(2 ^ 63) ≤ k ∧ k ≤ 1000 ∧ ds.length ≤ 1000 ∧ Q (.d (.tuple (List.replicate k.toNat ds).flatten)) ρ2
  | _, _ => False
theorem de_repT (ha : DE X a ta) (hb : DE X b tb) : DE X (.BinOp a .Mult b pos) (dRepT ta tb) := by
  obtain ⟨ea, pa, sa⟩ := dd_of ha
  obtain ⟨eb, pb, sb⟩ := dd_of hb
  refine ⟨_, pe_op op_repTA pa pb, fun F ρ O σ H A P Qd Q G q k => sa F ρ O σ H A P _ _ G q fun d ρ1 v O1 H1 A1 P1 S1 G1 D1 q1 => sb F ρ1 O1 σ H1 A1 P1 _ _ G1 q1 fun e ρ2 u O2 H2 A2 P2 S2 G2 D2 q2 => ?_⟩
  split at q2
  · next ds kk =>
    obtain ⟨x, us, rfl, h1, h2⟩ := D1.mono S2.same
    have e2 : u = V.int kk := D2
    have l1 := h2.length
    obtain ⟨g0, g1, g2, g3, g4⟩ := q2
    refine ⟨x, kk, us, rfl, e2, same_sqT Hs_sub h1, fun z => g0 (List.length_eq_zero_iff.mp (by rw [← l1, z]; rfl)), g1, g2, by rw [l1]; exact g3, fun z => ?_, fun z p hp => ?_⟩
    · subst z
      have e3 : (List.replicate (1 : Int).toNat ds).flatten = ds := by simp
      rw [e3] at g4
      exact k (.d (.tuple ds)) ρ2 (.ref x) [] O2 H2 A2 P2 (S1.trans S2) G2 ⟨x, us, rfl, h1, h2⟩ nw_d g4
    · obtain ⟨O3, fo, S3, G3, R3, N3⟩ := (Out.tup G2.dom hp (h2.rep kk.toNat)).fin G2
      exact k _ ρ2 _ fo O3 _ A2 P2 ((S1.trans S2).trans S3) G3 R3 ((S1.trans S2).back N3) g4
  · exact q2.elim
end
end DL
namespace DL
open PySem PySem.Spec PyProof.Rows L2
section
variable {X : Cx} {e b : Expr} {pos p tpos kpos : Pos} {elts : List Expr} {kk : Nat} {ta tb : DTE}
/-- enumerate(tuple, start=e) -/
def iEnumTe (K : Fg) (te : TA) (tk : TE) : TI := fun σ H R => te σ H fun vs H1 => tk σ H1 fun kv H2 => ∃ a xs k, vs = [.ref a] ∧ kv = .int k ∧ SqT K H2 a xs ∧ -(2 ^ 63) ≤ k ∧ k < 2 ^ 63 ∧ R (Iet K k a) H2
theorem pi_enumTe {te : TA} {tk : TE} (hg : Gl X "enumerate") (hm : X.mg "enumerate" = none) (he : PA X [e] te) (hb : PE X b tk) (hs : starEach [e] X.env = [(false, eval e X.env)] := by rfl) :
    PI X (.Tuple elts kk tpos) (.Call (.Name "enumerate" p) [e] [⟨some "start", b, kpos⟩] pos) (iEnumTe X.K te tk) := by
  refine ⟨fun pins s σ H R I h => ?_⟩
  refine wpAny_Call_Name_kw (ld_blt I hg hm boot_enumerate ?_)
  refine callWith_typeK (thn (he.run pos pins s σ H _ I h) fun us s1 ⟨vs, H1, I1, r1, q1⟩ => ?_) (by rw [hs]; rfl) (by rw [hs]; rfl) (by rfl) (by rfl)
  refine PyProof.Rows.kws_cons (thn (hb.run pins s1 σ H1 _ I1 q1) fun u s2 ⟨v, H2, I2, r2, q2⟩ => PyProof.Rows.kws_nil ?_)
  obtain ⟨a, xs, k, ex, ek, hq, h0, h1, q⟩ := q2
  subst ex ek
  obtain ⟨t, rfl⟩ := r2
  cases r1 with
  | cons r rr =>
    cases rr
    cases r
    obtain ⟨its, rv, pt, hz⟩ := I2.tuple hq
    have hlt : a < s2.heap.objs.size := let ⟨_, e, _⟩ := pt; Heap.lt_size e
    show wpAny _ _ (call (.type "enumerate") [.ref a] [(Str.ofString "start", .int k t)]) _ _ _
    refine enum_begins_start (begins_tuple a its.toArray) pt h0 h1 fun h' hen hit hsz hk => wpAny_pyIter_enum hen ?_
    have I3 : Inv X pins σ H2 { s2 with heap := h' } := I2.kept (t' := s2.toks) hk
    exact ⟨s2.heap.objs.size + 1, [s2.heap.objs.size + 1, s2.heap.objs.size], _, _, H2, rfl, I3, turn_enumT k a (s2.heap.objs.size + 1) s2.heap.objs.size, ⟨⟨.none, by simpa using hen⟩, ⟨_, hit, rfl, rfl⟩, Nat.succ_ne_self _, Nat.ne_of_lt hlt, Nat.ne_of_gt (Nat.lt_succ_of_lt hlt)⟩, fp2 I2, q⟩
def dItETe (t tk : DTE) : DTI := fun ρ Q => dSt t ρ fun d ρ1 => dSt tk ρ1 fun f ρ2 => match d, f with
  | .tuple ds, .int k => -(2 ^ 63) ≤ k ∧ k < 2 ^ 63 ∧ Q ds.length (enD k ds) ρ2
  | _, _ => False
theorem di_enumTe (hg : Gl X "enumerate") (hm : X.mg "enumerate" = none) (he : DE X e ta) (hb : DE X b tb) (hs : starEach [e] X.env = [(false, eval e X.env)] := by rfl) :
    DI X (.Tuple elts kk tpos) (.Call (.Name "enumerate" p) [e] [⟨some "start", b, kpos⟩] pos) (dItETe ta tb) := by
  obtain ⟨te, pa, s⟩ := dd_of he
  obtain ⟨tk, pk, s2⟩ := dd_of hb
  refine ⟨_, pi_enumTe hg hm (pa_cons pa pa_nil (by rw [hs]; rfl)) pk hs, fun F ρ O σ H A P Qd R G q k => s F ρ O σ H A P _ _ G q fun d ρ1 v O1 H1 A1 P1 S1 G1 D1 q1 => s2 F ρ1 O1 σ H1 A1 P1 _ _ G1 q1 fun f ρ2 u O2 H2 A2 P2 S2 G2 D2 q2 => ?_⟩
  split at q2
  · obtain ⟨a, xs, rfl, h1, h2⟩ := D1.mono S2.same
    have e2 : u = V.int _ := D2
    obtain ⟨g0, g1, g2⟩ := q2
    exact ⟨a, xs, _, rfl, e2, same_sqT Hs_sub h1, g0, g1, k _ _ ρ2 _ O2 H2 A2 P2 (S1.trans S2) G2 (itD_enumT h1 h2) g2⟩
  · exact q2.elim
end
end DL
namespace DL
open PySem PySem.Spec PyProof.Rows L2
def frzR (d : Addr) (od : Obj) (ws : List (Key × V)) : ResP where
  P := fun H a fp => a = d ∧ fp = [d] ∧ H d = some (.frz od (.dK ws))
  keep := by
    rintro H H' a fp ⟨e, rfl, h⟩ k
    exact ⟨e, rfl, (k d (by simp)).trans h⟩
  dom := by
    rintro H a fp ⟨_, rfl, h⟩ b hb
    have e : b = d := by simpa using hb
    rw [e, h]; exact fun z => nomatch z
def itmD (kvs : List (Key × PyData)) (i : Nat) : PyData := match kvs[i]? with
  | some (k, d) => .tuple [keyE k, d]
  | none => .none
theorem KD.at {K : Fg} {H : Hp} : ∀ {kvs : List (Key × PyData)} {ws : List (Key × V)} {j : Nat} {k : Key} {v : V}, KD K H kvs ws → ws[j]? = some (k, v) → ∃ d, kvs[j]? = some (k, d) ∧ Dv K H d v
  | [], ws, j, k, v, h, e => by
    have hl := h.length
    rw [List.length_eq_zero_iff.mp hl] at e
    simp at e
  | p :: r, ws, j, k, v, h, e => by
    obtain ⟨v0, ws', rfl, h1, h2⟩ := h.cases
    cases j with
    | zero =>
      have e' : some (p.1, v0) = some (k, v) := e
      cases e'
      exact ⟨p.2, rfl, h1⟩
    | succ j =>
      obtain ⟨d, q1, q2⟩ := KD.at (kvs := r) (ws := ws') (j := j) h2 e
      exact ⟨d, q1, q2⟩
section
variable {X : Cx} {io : Bool} {elts : List Expr} {kk : Nat} {tpos apos cpos p1 pos : Pos} {body : List Stmt} {g : DTG} {t : DTS}
/-- for (k, v) in NAME.items(): the name's own dict, which the body leaves alone -/
def dForI (i : Nat) (g : DTG) (tb : DTS) : DTS := fun D ρ => ∃ kvs : List (Key × PyData), slot ρ i = .own (.dk kvs) ∧ ∀ R : ResP, ∃ I : Nat → DEnv → Prop, I 0 (put ρ i (.own (.res R))) ∧ (∀ j ρ', I j ρ' → slot ρ' i = .own (.res R)) ∧
  (∀ j ρ', j < kvs.length → I j ρ' → g (itmD kvs j) ρ' fun ρ2 => tb { nx := I (j + 1), rt := fun _ _ => False, bk := fun _ => False, ct := I (j + 1) } ρ2) ∧ ∀ ρ', I kvs.length ρ' → D.nx (put ρ' i (.own (.dk kvs)))
theorem ds_forI (i : Nat) {x : Str} (hp : PassesOwn (model X.prog X.w) X.A X.env X.xe) (hc : X.calm = true) (hg : DG X (.Tuple elts kk tpos) g) (hb : DSs X io body t)
    (hN : X.N[i]? = some x := by rfl) (hv : Vis X.env.scope x := by first | exact Or.inl rfl | exact Or.inr (Or.inl rfl)) (hd : (x == ("__debug__" : Str)) = false := by decide) (hcd : (x == ("__classdict__" : Str)) = false := by decide)
    (hbase : attributeBase (.Name x p1) "items" X.env (eval (.Name x p1) X.env) = eval (.Name x p1) X.env := by rfl) (hline : (apos.endLine == cpos.line) = true := by rfl)
    (hs : ∀ z, foldedSetIterable (.Call (.Attribute (.Name x p1) "items" apos) [] [] cpos) X.env z = pure z := by intro _; rfl) :
    DS X io (.For (.Tuple elts kk tpos) (.Call (.Attribute (.Name x p1) "items" apos) [] [] cpos) body [] pos) (dForI i g t) := by
  obtain ⟨tg', pg, sg⟩ := hg
  obtain ⟨ts, pb, sb⟩ := hb
  refine ⟨_, ps_lock (ps_for hp hc (pi_items (pe_var hN hv hd hcd) hbase hline) pg pb hs), fun F ρ O σ H A P Dd D hr G E q => ?_⟩
  obtain ⟨kvs, s0, q⟩ := q
  obtain ⟨g1, ⟨g2, ws, g3, g4, g5⟩, g6, g7⟩ := G.own i _ s0
  refine ⟨A i, .dK ws, g3, trivial, fun od => ?_⟩
  obtain ⟨I, i0, isl, step, done⟩ := q (frzR (A i) od ws)
  have G1 := G.chgW (w' := .res (frzR (A i) od ws)) (ho := .frz od (.dK ws)) s0 g2 rfl rfl (fun _ _ => ⟨rfl, rfl, upd_same ..⟩)
  have hO : O (A i) := g6 _ (by rw [g2]; simp)
  have sm0 : Same (Hs H O) (Hs (upd H (A i) (.frz od (.dK ws))) O) := Hs_mono fun b o e n => ⟨by rw [upd_ne (fun z => n (by rw [z]; exact hO))]; exact e, n⟩
  have kd0 : KD X.K (Hs (upd H (A i) (.frz od (.dK ws))) O) kvs ws := KD.mono sm0 ⟨g4, g5⟩
  have hl := kd0.length
  refine ⟨_, g1, A i, od, ws, rfl, upd_same .., ?_⟩
  refine ⟨fun j m σ' H' => m = kvs.length - j ∧ j ≤ kvs.length ∧ ∃ ρ' O' A' P', Good X.K { F with S := Hs (upd H (A i) (.frz od (.dK ws))) O } ρ' O' σ' H' A' P' ∧ I j ρ', ⟨kvs.length, by omega, Nat.zero_le _, _, O, A, P, G1.note, i0⟩, ?_⟩
  rintro j m σ' H' ⟨rfl, hin, ρ', O', A', P', G', i'⟩
  obtain ⟨k1, ⟨k2, k3, k4⟩, k5, k6⟩ := G'.own i _ (isl j ρ' i')
  by_cases hlt : j < kvs.length
  · refine .inr ⟨⟨k4, by omega⟩, fun σ2 H2 => ∃ ρ2 O2 A2 P2, Good X.K { F with S := Hs (upd H (A i) (.frz od (.dK ws))) O } ρ2 O2 σ2 H2 A2 P2 ∧ I (j + 1) ρ2, fun σ2 H2 h => ⟨kvs.length - (j + 1), by omega, rfl, hlt, h⟩, fun x H2 hy => ?_⟩
    obtain ⟨T, k, v, y1, rfl, y3, rfl⟩ := hy
    obtain ⟨d, e1, e2⟩ := (kd0.mono G'.S_sub).at y1
    have ed : itmD kvs j = .tuple [keyE k, d] := by unfold itmD; rw [e1]
    have kd : Dv X.K (Hs H' O') (keyE k) (kV k) := by cases k <;> rfl
    obtain ⟨O2, fo, S2, G2, R2, N2⟩ := (Out.tup G'.dom y3 (ds := [keyE k, d]) ⟨_, _, rfl, kd, _, _, rfl, e2, rfl⟩).fin G'
    refine sg _ ρ' O2 σ' _ A' P' (itmD kvs j) _ _ _ G2 (by rw [ed]; exact R2) (step j ρ' hlt i') fun ρ3 σ3 G3 q3 => ?_
    exact sb { F with S := Hs (upd H (A i) (.frz od (.dK ws))) O } ρ3 O2 σ3 _ A' P' { nx := I (j + 1), rt := fun _ _ => False, bk := fun _ => False, ct := I (j + 1) } _ hr G3 ⟨fun ρ4 O4 σ4 H4 A4 P4 G4 q4 => ⟨ρ4, O4, A4, P4, G4, q4⟩, fun ρ4 O4 σ4 H4 A4 P4 G4 q4 => q4.elim, fun ρ4 O4 σ4 H4 A4 P4 G4 q4 => ⟨ρ4, O4, A4, P4, G4, q4⟩, fun r ρ4 v O4 H4 a4 r4 q4 => q4.elim⟩ q3
  · have e : j = kvs.length := by omega
    subst e
    have G5 := (G'.unnote (fun b o e => sm0 b o (G.S_sub b o e))).chgW (w' := .dk kvs) (ho := .dK ws) (isl _ ρ' i') (by rw [k3, k2]) rfl rfl (fun Hst' sm => ⟨rfl, ws, upd_same .., KD.mono sm (kd0.mono G'.S_sub)⟩)
    rw [k2] at G5
    exact .inl ⟨⟨k4, by omega⟩, k4, E.nx _ _ _ _ _ _ G5 (done ρ' i')⟩
end
end DL
namespace DL
open PySem PySem.Spec PyProof.Rows L2
/-- what is no dict goes on standing -/
def SameN (H H' : Hp) : Prop := ∀ b o, H b = some o → (∀ ws, o ≠ .dK ws) → H' b = some o
theorem sameN_sqL {K : Fg} {H H' : Hp} {a : Addr} {xs : List V} (e : SameN H H') (h : SqL K H a xs) : SqL K H' a xs := by
  rcases h with (h | ⟨o, h⟩) | h
  · exact .inl (.inl (e _ _ h fun _ z => nomatch z))
  · exact .inl (.inr ⟨o, e _ _ h fun _ z => nomatch z⟩)
  · exact .inr h
theorem sameN_sqT {K : Fg} {H H' : Hp} {a : Addr} {xs : List V} (e : SameN H H') (h : SqT K H a xs) : SqT K H' a xs := by
  rcases h with (h | ⟨o, h⟩) | h
  · exact .inl (.inl (e _ _ h fun _ z => nomatch z))
  · exact .inl (.inr ⟨o, e _ _ h fun _ z => nomatch z⟩)
  · exact .inr h
mutual
theorem Dv.nd {K : Fg} {H H' : Hp} (e : SameN H H') : ∀ {d : PyData} {v : V}, Dv K H d v → d.hasDict = false → Dv K H' d v
  | .none, _, h, _ => h
  | .bool _, _, h, _ => h
  | .int _, _, h, _ => h
  | .str _, _, h, _ => h
  | .list ds, _, h, n => by
    obtain ⟨a, xs, e1, h1, h2⟩ := h
    exact ⟨a, xs, e1, sameN_sqL e h1, DvL.nd e h2 (by simpa only [PyData.hasDict] using n)⟩
  | .tuple ds, _, h, n => by
    obtain ⟨a, xs, e1, h1, h2⟩ := h
    exact ⟨a, xs, e1, sameN_sqT e h1, DvL.nd e h2 (by simpa only [PyData.hasDict] using n)⟩
  | .dict _, _, _, n => by simp only [PyData.hasDict] at n; cases n
theorem DvL.nd {K : Fg} {H H' : Hp} (e : SameN H H') : ∀ {ds : List PyData} {xs : List V}, DvL K H ds xs → PyData.hasDictAll ds = false → DvL K H' ds xs
  | [], _, h, _ => h
  | d :: ds, _, h, n => by
    obtain ⟨y, ys, e1, h1, h2⟩ := h
    simp only [PyData.hasDictAll, Bool.or_eq_false_iff] at n
    exact ⟨y, ys, e1, Dv.nd e h1 n.1, DvL.nd e h2 n.2⟩
end
/-- the other names hold data without dicts -/
def Oth (i : Nat) (kvs : List (Key × PyData)) (ρ : DEnv) : Prop := slot ρ i = .val (.dict (encP kvs)) ∧ PyData.hasDictAll (kvs.map (·.2)) = false ∧ ∀ j, j ≠ i → slot ρ j = .free ∨ ∃ d, slot ρ j = .val d ∧ d.hasDict = false
/-- while e runs the name's own dict is data; then it is the name's own again -/
def dBorrow (i : Nat) (t : DTE) : DTE := fun ρ Q => ∃ kvs, slot ρ i = .own (.dk kvs) ∧ t (put ρ i (.val (.dict (encP kvs)))) fun r ρ1 => ∃ d, r = .d d ∧ d.hasDict = false ∧ Oth i kvs ρ1 ∧ Q (.d d) (put ρ1 i (.own (.dk kvs)))
theorem sim_borrow {K : Fg} {te : TE} {t : DTE} {i : Nat} (s : Sim K te t) : Sim K te (dBorrow i t) := fun F ρ O σ H A P Qd Q G q k => by
  obtain ⟨kvs, s0, q⟩ := q
  obtain ⟨g1, ⟨g2, ws, g3, g4, g5⟩, g6, g7⟩ := G.own i _ s0
  have hO : O (A i) := g6 _ (by rw [g2]; simp)
  have hil : i < ρ.length := slot_lt (by rw [s0]; exact fun z => nomatch z)
  have sm : Same (Hs H O) (Hs H fun b => O b ∧ b ≠ A i) := Hs_mono fun b o h n => ⟨h, fun z => n z.1⟩
  have back : ∀ (j : Nat) (w2 : Ow), slot (put ρ i (.val (.dict (encP kvs)))) j = .own w2 → slot ρ j = .own w2 ∧ i ≠ j := fun j w2 qj => by
    by_cases hj : i = j
    · subst hj
      rw [slot_put hil] at qj
      cases qj
    · rw [slot_put_ne hj] at qj
      exact ⟨qj, hj⟩
  have G0 : Good K { F with O0 := fun b => F.O0 b ∧ b ≠ A i } (put ρ i (.val (.dict (encP kvs)))) (fun b => O b ∧ b ≠ A i) σ H A P := by
    refine ⟨by rw [put_length]; exact G.len, G.frame, G.alive, fun b o h => ⟨(G.still b o h).1, fun z => (G.still b o h).2 z.1⟩, fun b h => ⟨G.base b h.1, h.2⟩, fun b h => G.dom0 b h.1, fun b h => G.dom b h.1, fun j d e => ?_, fun j w e => ?_, fun j l w1 w2 e e' => ?_, fun a w e1 e2 => G.pin a w e1 (back 0 w e2).1⟩
    · by_cases hj : i = j
      · subst hj
        rw [slot_put hil] at e
        cases e
        exact ⟨_, g1, A i, ws, rfl, Hs_in g3 (fun z => z.2 rfl), dvp_of g4 (g5.mono sm)⟩
      · rw [slot_put_ne hj] at e
        obtain ⟨v, h1, h2⟩ := G.val j d e
        exact ⟨v, h1, h2.mono sm⟩
    · obtain ⟨q1, q2⟩ := back j w e
      obtain ⟨h1, h2, h3, h4⟩ := G.own j w q1
      exact ⟨h1, h2.keep sm fun _ _ => rfl, fun b hb => ⟨h3 b hb, fun z => G.sep j i w _ q1 s0 (fun z => q2 z.symm) b hb (by rw [g2, z]; simp)⟩, h4⟩
    · exact G.sep j l w1 w2 (back j w1 e).1 (back l w2 e').1
  refine s _ _ _ σ H A P _ _ G0 q fun r ρ1 v fp O1 H1 A1 P1 S1 G1 R1 N1 q1 => ?_
  obtain ⟨d, rfl, nd, ⟨o1, o2, o3⟩, q1⟩ := q1
  obtain ⟨a1, a2⟩ := S1.st (A i) _ g3 fun z => z.2 rfl
  have hl1 : i < ρ1.length := slot_lt (by rw [o1]; exact fun z => nomatch z)
  have smN : SameN (Hs H1 O1) (Hs H1 fun b => O1 b ∨ b = A i) := fun b o h n => by
    obtain ⟨h1, h2⟩ := Hs_out h
    refine Hs_in h1 fun z => z.elim h2 fun z => ?_
    rw [z, a1] at h1
    cases h1
    exact n _ rfl
  have ow : ∀ (j : Nat) (w2 : Ow), slot (put ρ1 i (.own (.dk kvs))) j = .own w2 → j = i ∧ w2 = .dk kvs := fun j w2 e => by
    by_cases hj : i = j
    · subst hj
      rw [slot_put hl1] at e
      cases e
      exact ⟨rfl, rfl⟩
    · rw [slot_put_ne hj] at e
      rcases o3 j (fun z => hj z.symm) with h | ⟨d', h, _⟩ <;> rw [h] at e <;> cases e
  have kd : KD K (Hs H1 fun b => O1 b ∨ b = A i) kvs ws := ⟨g4, DvL.nd smN ((g5.mono sm).mono S1.same) o2⟩
  have S2 : Stp ρ O H P (put ρ1 i (.own (.dk kvs))) (fun b => O1 b ∨ b = A i) H1 (fun j => if j = i then [A i] else P1 j) := by
    refine ⟨fun b o e n => ?_, fun b hb n => ?_, fun j hj => ?_, S1.dm⟩
    · obtain ⟨h1, h2⟩ := S1.st b o e fun z => n z.1
      exact ⟨h1, fun z => z.elim h2 fun z => n (z ▸ hO)⟩
    · have hne : b ≠ A i := fun z => n i _ s0 (by rw [g2, z]; simp)
      obtain ⟨h1, h2, _⟩ := S1.fr b ⟨hb, hne⟩ fun j w e => n j w (back j w e).1
      refine ⟨h1, .inl h2, fun j w e => ?_⟩
      obtain ⟨rfl, _⟩ := ow j w e
      rw [if_pos rfl]
      simpa using hne
    · by_cases hij : i = j
      · subst hij
        rw [slot_put hl1]; exact fun z => nomatch z
      · rw [slot_put_ne hij]
        refine S1.live j ?_
        rw [slot_put_ne hij]; exact hj
  refine k (.d d) _ v [] _ H1 (fun j => if j = i then A i else A1 j) _ S2 ?_ (Dv.nd smN R1 nd) nw_d q1
  refine ⟨by rw [put_length]; exact G1.len, G1.frame, G1.alive, fun b o h => ?_, fun b h => ?_, G.dom0, fun b h => ?_, fun j d' e => ?_, fun j w e => ?_, fun j l w1 w2 e e' hjl => ?_, fun a w e1 e2 => ?_⟩
  · obtain ⟨h1, h2⟩ := G1.still b o h
    exact ⟨h1, fun z => z.elim h2 fun z => (G.still b o h).2 (z ▸ hO)⟩
  · by_cases e : b = A i
    · exact .inr e
    · exact .inl (G1.base b ⟨h, e⟩)
  · rcases h with h | h
    · exact G1.dom b h
    · rw [h, a1]; exact fun z => nomatch z
  · by_cases hj : i = j
    · subst hj
      rw [slot_put hl1] at e
      cases e
    · rw [slot_put_ne hj] at e
      obtain ⟨v', h1, h2⟩ := G1.val j d' e
      rcases o3 j (fun z => hj z.symm) with h | ⟨d2, h, h'⟩
      · rw [h] at e; cases e
      · rw [h] at e
        cases e
        exact ⟨v', h1, Dv.nd smN h2 h'⟩
  · obtain ⟨rfl, rfl⟩ := ow j w e
    rw [if_pos rfl, if_pos rfl]
    refine ⟨g1, ⟨rfl, ws, a1, kd⟩, fun b hb => .inr (by simpa using hb), fun b hb => ?_⟩
    exact (g7 b (by rw [g2]; exact hb)).imp id fun z => ⟨rfl, z.2⟩
  · exact absurd ((ow j w1 e).1.trans (ow l w2 e').1.symm) hjl
  · obtain ⟨e3, _⟩ := ow 0 w e2
    rw [if_pos e3]
    rw [← e3] at s0 ⊢
    exact G.pin a _ e1 s0
theorem de_borrow (i : Nat) {X : Cx} {e : Expr} {t : DTE} (h : DE X e t) : DE X e (dBorrow i t) := let ⟨te, p, s⟩ := h; ⟨te, p, sim_borrow s⟩
end DL
namespace DL
open PySem PySem.Spec PyProof.Rows L2
section
variable {X : Cx} {elts : List Expr} {kk : Nat} {tpos apos cpos p1 pos : Pos} {body : List Stmt} {g : DTG} {t : DTS}
/-- for (k, v) in NAME.items(): the name's dict is data -/
def dForID (i : Nat) (g : DTG) (tb : DTS) : DTS := fun D ρ => ∃ kvs : List (Key × PyData), Oth i kvs ρ ∧ ∀ R : ResP, ∃ I : Nat → DEnv → Prop, I 0 (put ρ i (.own (.res R))) ∧ (∀ j ρ', I j ρ' → slot ρ' i = .own (.res R)) ∧
  (∀ j ρ', j < kvs.length → I j ρ' → g (itmD kvs j) ρ' fun ρ2 => tb { nx := I (j + 1), rt := fun _ _ => False, bk := fun _ => False, ct := I (j + 1) } ρ2) ∧ ∀ ρ', I kvs.length ρ' → D.nx (put ρ' i (.val (.dict (encP kvs))))
theorem ds_forID (i : Nat) {x : Str} (hp : PassesOwn (model X.prog X.w) X.A X.env X.xe) (hc : X.calm = true) (hg : DG X (.Tuple elts kk tpos) g) (hb : DSs X false body t)
    (hN : X.N[i]? = some x := by rfl) (hv : Vis X.env.scope x := by first | exact Or.inl rfl | exact Or.inr (Or.inl rfl)) (hd : (x == ("__debug__" : Str)) = false := by decide) (hcd : (x == ("__classdict__" : Str)) = false := by decide)
    (hbase : attributeBase (.Name x p1) "items" X.env (eval (.Name x p1) X.env) = eval (.Name x p1) X.env := by rfl) (hline : (apos.endLine == cpos.line) = true := by rfl)
    (hs : ∀ z, foldedSetIterable (.Call (.Attribute (.Name x p1) "items" apos) [] [] cpos) X.env z = pure z := by intro _; rfl) :
    DS X false (.For (.Tuple elts kk tpos) (.Call (.Attribute (.Name x p1) "items" apos) [] [] cpos) body [] pos) (dForID i g t) := by
  obtain ⟨tg', pg, sg⟩ := hg
  obtain ⟨ts, pb, sb⟩ := hb
  refine ⟨_, ps_lock (ps_for hp hc (pi_items (pe_var hN hv hd hcd) hbase hline) pg pb hs), fun F ρ O σ H A P Dd D hr G E q => ?_⟩
  obtain ⟨kvs, ⟨o1, o2, o3⟩, q⟩ := q
  obtain ⟨v, g1, a, ws, rfl, g2, g3⟩ := G.val i _ o1
  obtain ⟨g2, na⟩ := Hs_out g2
  have kdH := kd_of_dvp g3
  have hra := (hr rfl).1
  have hil : i < ρ.length := slot_lt (by rw [o1]; exact fun z => nomatch z)
  refine ⟨a, .dK ws, g2, trivial, fun od => ?_⟩
  obtain ⟨I, i0, isl, step, done⟩ := q (frzR a od ws)
  have smN : SameN (Hs H O) (Hs (upd H a (.frz od (.dK ws))) fun b => O b ∨ b = a) := fun b o h n => by
    obtain ⟨h1, h2⟩ := Hs_out h
    have hne : b ≠ a := fun z => by
      rw [z, g2] at h1
      cases h1
      exact n _ rfl
    exact Hs_in (by rw [upd_ne hne]; exact h1) fun z => z.elim h2 hne
  have kd0 : KD X.K (Hs (upd H a (.frz od (.dK ws))) fun b => O b ∨ b = a) kvs ws := ⟨kdH.1, DvL.nd smN kdH.2 o2⟩
  have hl := kd0.length
  have ow : ∀ (j : Nat) (w2 : Ow), slot (put ρ i (.own (.res (frzR a od ws)))) j = .own w2 → j = i ∧ w2 = .res (frzR a od ws) := fun j w2 e => by
    by_cases hj : i = j
    · subst hj
      rw [slot_put hil] at e
      cases e
      exact ⟨rfl, rfl⟩
    · rw [slot_put_ne hj] at e
      rcases o3 j (fun z => hj z.symm) with h | ⟨d', h, _⟩ <;> rw [h] at e <;> cases e
  let F' : Fx := ⟨fun b => if b = a then none else F.H0 b, F.O0, F.fx, F.ra, Hs (upd H a (.frz od (.dK ws))) fun b => O b ∨ b = a⟩
  have G0 : Good X.K F' (put ρ i (.own (.res (frzR a od ws)))) (fun b => O b ∨ b = a) σ (upd H a (.frz od (.dK ws))) (fun j => if j = i then a else A j) (fun j => if j = i then [a] else P j) := by
    refine ⟨by rw [put_length]; exact G.len, fun b o h n => ?_, fun b h => ?_, fun b o h => Hs_out (H := upd H a (.frz od (.dK ws))) (O := fun b => O b ∨ b = a) h, fun b h => .inl (G.base b h), fun b h => ?_, fun b h => ?_, fun j d e => ?_, fun j w e => ?_, fun j l w1 w2 e e' hjl => ?_, fun a' w e1 _ => absurd (hra.symm.trans e1) fun z => nomatch z⟩
    · have h' : (if b = a then none else F.H0 b) = some o := h
      by_cases hb : b = a
      · rw [if_pos hb] at h'; cases h'
      · rw [if_neg hb] at h'
        rw [upd_ne hb]; exact G.frame b o h' n
    · have h' : (if b = a then none else F.H0 b) ≠ none := h
      by_cases hb : b = a
      · rw [if_pos hb] at h'; exact absurd rfl h'
      · rw [if_neg hb] at h'
        rw [upd_ne hb]; exact G.alive b h'
    · show (if b = a then none else F.H0 b) ≠ none
      have hne : ¬ b = a := fun z => na (by rw [← z]; exact G.base b h)
      rw [if_neg hne]
      exact G.dom0 b h
    · by_cases hb : b = a
      · rw [hb, upd_same]; exact fun z => nomatch z
      · rw [upd_ne hb]; exact G.dom b (h.resolve_right hb)
    · by_cases hj : i = j
      · subst hj
        rw [slot_put hil] at e
        cases e
      · rw [slot_put_ne hj] at e
        obtain ⟨v', h1, h2⟩ := G.val j d e
        rcases o3 j (fun z => hj z.symm) with h | ⟨d2, h, h'⟩
        · rw [h] at e; cases e
        · rw [h] at e
          cases e
          exact ⟨v', h1, Dv.nd smN h2 h'⟩
    · obtain ⟨rfl, rfl⟩ := ow j w e
      simp only [if_true]
      exact ⟨g1, ⟨rfl, rfl, upd_same ..⟩, fun b hb => .inr (by simpa using hb), fun b hb => .inl (by
        have e' : b = a := by simpa using hb
        show (if b = a then none else F.H0 b) = none
        rw [if_pos e'])⟩
    · exact absurd ((ow j w1 e).1.trans (ow l w2 e').1.symm) hjl
  refine ⟨_, g1, a, od, ws, rfl, upd_same .., ?_⟩
  refine ⟨fun j m σ' H' => m = kvs.length - j ∧ j ≤ kvs.length ∧ ∃ ρ' O' A' P', Good X.K F' ρ' O' σ' H' A' P' ∧ I j ρ', ⟨kvs.length, by omega, Nat.zero_le _, _, _, _, _, G0, i0⟩, ?_⟩
  rintro j m σ' H' ⟨rfl, hin, ρ', O', A', P', G', i'⟩
  obtain ⟨k1, ⟨k2, k3, k4⟩, k5, k6⟩ := G'.own i _ (isl j ρ' i')
  by_cases hlt : j < kvs.length
  · refine .inr ⟨⟨k4, by omega⟩, fun σ2 H2 => ∃ ρ2 O2 A2 P2, Good X.K F' ρ2 O2 σ2 H2 A2 P2 ∧ I (j + 1) ρ2, fun σ2 H2 h => ⟨kvs.length - (j + 1), by omega, rfl, hlt, h⟩, fun x H2 hy => ?_⟩
    obtain ⟨T, k, v, y1, rfl, y3, rfl⟩ := hy
    obtain ⟨d, e1, e2⟩ := (kd0.mono G'.S_sub).at y1
    have ed : itmD kvs j = .tuple [keyE k, d] := by unfold itmD; rw [e1]
    have kd : Dv X.K (Hs H' O') (keyE k) (kV k) := by cases k <;> rfl
    obtain ⟨O2, fo, S2, G2, R2, N2⟩ := (Out.tup G'.dom y3 (ds := [keyE k, d]) ⟨_, _, rfl, kd, _, _, rfl, e2, rfl⟩).fin G'
    refine sg F' ρ' O2 σ' _ A' P' (itmD kvs j) _ _ _ G2 (by rw [ed]; exact R2) (step j ρ' hlt i') fun ρ3 σ3 G3 q3 => ?_
    exact sb F' ρ3 O2 σ3 _ A' P' { nx := I (j + 1), rt := fun _ _ => False, bk := fun _ => False, ct := I (j + 1) } _ hr G3 ⟨fun ρ4 O4 σ4 H4 A4 P4 G4 q4 => ⟨ρ4, O4, A4, P4, G4, q4⟩, fun ρ4 O4 σ4 H4 A4 P4 G4 q4 => q4.elim, fun ρ4 O4 σ4 H4 A4 P4 G4 q4 => ⟨ρ4, O4, A4, P4, G4, q4⟩, fun r ρ4 v O4 H4 a4 r4 q4 => q4.elim⟩ q3
  · have e : j = kvs.length := by omega
    subst e
    refine .inl ⟨⟨k4, by omega⟩, k4, E.nx _ (fun b => O' b ∧ b ≠ a) _ _ A' P' ?_ (done ρ' i')⟩
    have hl1 : i < ρ'.length := slot_lt (by rw [isl _ ρ' i']; exact fun z => nomatch z)
    have hOa : O' a := k5 a (by rw [k3]; simp)
    have sm : Same (Hs H' O') (Hs (upd H' a (.dK ws)) fun b => O' b ∧ b ≠ a) := Hs_mono fun b o h n => by
      have hne : b ≠ a := fun z => n (by rw [z]; exact hOa)
      exact ⟨by rw [upd_ne hne]; exact h, fun z => n z.1⟩
    have back : ∀ (j : Nat) (w2 : Ow), slot (put ρ' i (.val (.dict (encP kvs)))) j = .own w2 → slot ρ' j = .own w2 ∧ i ≠ j := fun j w2 qj => by
      by_cases hj : i = j
      · subst hj
        rw [slot_put hl1] at qj
        cases qj
      · rw [slot_put_ne hj] at qj
        exact ⟨qj, hj⟩
    have ned : ∀ (j : Nat) (w2 : Ow), slot ρ' j = .own w2 → i ≠ j → ∀ b ∈ P' j, b ≠ a := fun j w2 e hj b hb z => G'.sep j i w2 _ e (isl _ ρ' i') (fun z => hj z.symm) b hb (by rw [k3, z]; simp)
    refine ⟨by rw [put_length]; exact G'.len, fun b o h n => ?_, fun b h => ?_, fun b o h => ?_, fun b h => ⟨G'.base b h, fun z => na (z ▸ G.base b h)⟩, G.dom0, fun b h => ?_, fun j d e => ?_, fun j w e => ?_, fun j l w1 w2 e e' hjl => ?_, fun a' w e1 _ => absurd (hra.symm.trans e1) fun z => nomatch z⟩
    · by_cases hb : b = a
      · have h1 := G.frame b o h n
        rw [hb, upd_same, ← g2, ← hb]; exact h1
      · rw [upd_ne hb]
        exact G'.frame b o (by show (if b = a then none else F.H0 b) = some o; rw [if_neg hb]; exact h) n
    · by_cases hb : b = a
      · rw [hb, upd_same]; exact fun z => nomatch z
      · rw [upd_ne hb]
        exact G'.alive b (by show (if b = a then none else F.H0 b) ≠ none; rw [if_neg hb]; exact h)
    · obtain ⟨h1, h2⟩ := G.still b o h
      by_cases hb : b = a
      · exact ⟨by rw [hb, upd_same, ← g2, ← hb]; exact h1, fun z => z.2 hb⟩
      · have h5 : Hs (upd H a (.frz od (.dK ws))) (fun b => O b ∨ b = a) b = some o := Hs_in (by rw [upd_ne hb]; exact h1) fun z => Or.elim z h2 hb
        obtain ⟨h3, h4⟩ := G'.still b o h5
        exact ⟨by rw [upd_ne hb]; exact h3, fun z => h4 z.1⟩
    · rw [upd_ne h.2]; exact G'.dom b h.1
    · by_cases hj : i = j
      · subst hj
        rw [slot_put hl1] at e
        cases e
        have kd := (kd0.mono G'.S_sub).mono sm
        exact ⟨_, k1, A' i, ws, rfl, Hs_in (by rw [k2, upd_same]) (fun z => z.2 k2), dvp_of kd.1 kd.2⟩
      · rw [slot_put_ne hj] at e
        obtain ⟨v', h1, h2⟩ := G'.val j d e
        exact ⟨v', h1, h2.mono sm⟩
    · obtain ⟨e1, hj⟩ := back j w e
      obtain ⟨h1, h2, h3, h4⟩ := G'.own j w e1
      have nb := ned j w e1 hj
      refine ⟨h1, h2.keep sm fun b hb => upd_ne (nb b hb), fun b hb => ⟨h3 b hb, nb b hb⟩, fun b hb => (h4 b hb).imp (fun z => ?_) id⟩
      have z' : (if b = a then none else F.H0 b) = none := z
      rw [if_neg (nb b hb)] at z'
      exact z'
    · exact G'.sep j l w1 w2 (back j w1 e).1 (back l w2 e').1 hjl
end
end DL
/-! sorted of a list of data of at most one item, or of alike data; lists of diagrams -/
namespace DL
open PySem PySem.Spec PyProof.Rows L2
def rSort1 (K : Fg) : List V → Hp → VK → Prop := fun vs H Q => ∃ (a : Addr) (xs : List V), vs = [V.ref a] ∧ SqL K H a xs ∧ xs.length ≤ 1 ∧ ∀ p : Addr, H p = none → Q (.ref p) (upd H p (.lst xs))
theorem perm_short {α : Type} : ∀ {l out : List α}, l.length ≤ 1 → out.Perm l → out = l
  | [], _, _, hp => hp.eq_nil
  | [_], _, _, hp => List.perm_singleton.mp hp
  | _ :: _ :: _, _, h, _ => absurd h (by rw [List.length_cons, List.length_cons]; omega)
theorem sort_short {α : Type} {r : α → α → Bool} : ∀ {l : List α}, l.length ≤ 1 → l.mergeSort r = l
  | [], _ => List.mergeSort_nil
  | [_], _ => List.mergeSort_singleton ..
  | _ :: _ :: _, h => absurd h (by rw [List.length_cons, List.length_cons]; omega)
theorem cr_sort1 {X : Cx} : CallR X (.builtin "sorted") (rSort1 X.K) := by
  intro pins s σ H vs us Q I r h
  obtain ⟨a, xs, rfl, hs, hl1, q⟩ := h
  obtain ⟨its, rv, hl, hz⟩ := I.list hs
  rw [Vals.ref1 r]
  have hlen : its.length ≤ 1 := by have := rv.length; omega
  refine Srt.sorted_any hl.isList (by have := rv.length; omega) (fun h2 => absurd h2 (by omega)) fun out hp => ?_
  have e : out = its := perm_short hlen hp
  subst e
  obtain ⟨ep, he'⟩ := PyProof.Rows.sortedAll_at s.heap out out.toArray
  exact ⟨.ref _, upd H (s.heap.objs.size + 1) (.lst xs), I.laid (t' := s.toks) (fun _ _ => PyProof.Rows.sortedAll_old) (Nat.le_succ _) ⟨by omega, out, ep, rv, he'⟩, rfl, q _ (I.hok.fresh (Nat.le_succ _))⟩
def rSortDA (K : Fg) : List V → Hp → VK → Prop := fun vs H Q => rSortD K vs H Q ∨ rSort1 K vs H Q
theorem cr_sortDA {X : Cx} (hu : X.A.units + 200 < cLine) : CallR X (.builtin "sorted") (rSortDA X.K) := by
  intro pins s σ H vs us Q I r h
  rcases h with h | h
  · exact cr_sortD hu _ _ _ _ _ _ _ I r h
  · exact cr_sort1 _ _ _ _ _ _ _ I r h
def gSortDA : GL := fun ds Q => match ds with
  | [.list xs] => (xs.length ≤ 1 ∨ PySem.W.AllAlike xs ∧ PySem.W.Sortable xs ∧ PyData.depthAll xs ≤ 60) ∧ Q (.n (.lst (xs.mergeSort (PySem.W.dataLe false id))))
  | _ => False
theorem cll_sortDA {K : Fg} : ClL K (rSortDA K) gSortDA := fun O H ds xs Qd Q hd hx q k => by
  unfold gSortDA at q
  split at q
  · rename_i xs0
    rcases q.1 with z | z
    · right
      obtain ⟨v, ws, e1, h1, h2⟩ := hx
      obtain ⟨a, ys, e2, g1, g2⟩ := h1
      have e3 : ws = [] := h2
      refine ⟨a, ys, by rw [e1, e2, e3], g1, by have := g2.length; omega, fun p hn => ?_⟩
      have e4 : xs0.mergeSort (PySem.W.dataLe false id) = xs0 := sort_short z
      refine k _ _ _ (Out.lst hd hn ?_) q.2
      rw [e4]
      exact g2
    · left
      refine cll_sortD O H _ xs Qd Q hd hx ?_ k
      exact ⟨z.1, z.2.1, z.2.2, q.2⟩
  · exact q.elim
/-! lists of diagrams -/
def dgD (ps : List (Int × Int)) : PyData := .tuple (ps.map prD)
theorem alike_prs : ∀ xs ys : List (Int × Int), PySem.W.alikeAll (xs.map prD) (ys.map prD) = true
  | [], _ => by rw [List.map_nil, PySem.W.alikeAll]
  | _ :: _, [] => by rw [List.map_nil, List.map_cons, PySem.W.alikeAll]
  | x :: xs, y :: ys => by
    rw [List.map_cons, List.map_cons, PySem.W.alikeAll, alike_prs xs ys, Bool.and_true]
    rfl
theorem dg_sortable {L : List (List (Int × Int))} (h : ∀ ps ∈ L, ps ≠ []) : PySem.W.AllAlike (L.map dgD) ∧ PySem.W.Sortable (L.map dgD) ∧ PyData.depthAll (L.map dgD) ≤ 60 := by
  refine ⟨fun a ha b hb => ?_, .inl fun d hd => ?_, ?_⟩
  · obtain ⟨x, _, rfl⟩ := List.mem_map.mp ha
    obtain ⟨y, _, rfl⟩ := List.mem_map.mp hb
    show PySem.W.alikeAll _ _ = true
    exact alike_prs _ _
  · obtain ⟨x, hx, rfl⟩ := List.mem_map.mp hd
    cases x with
    | nil => exact absurd rfl (h _ hx)
    | cons p r => exact ⟨prD p, r.map prD, rfl⟩
  · suffices q : PyData.depthAll (L.map dgD) ≤ 2 by omega
    induction L with
    | nil => exact Nat.zero_le _
    | cons x L ih =>
      have := ih fun ps hp => h ps (List.mem_cons_of_mem _ hp)
      have h2 := pr_dp x
      have h3 : (dgD x).depth ≤ 2 := by
        show PyData.depthAll (x.map prD) + 1 ≤ 2
        omega
      show max _ _ ≤ 2
      omega
def ltP (p q : Int × Int) : Bool := decide (p.1 < q.1 ∨ (p.1 = q.1 ∧ p.2 < q.2))
def ltL : List (Int × Int) → List (Int × Int) → Bool
  | [], [] => false
  | [], _ :: _ => true
  | _ :: _, [] => false
  | x :: xs, y :: ys => if x = y then ltL xs ys else ltP x y
theorem dataLt_dg : ∀ xs ys : List (Int × Int), PySem.W.dataLt (dgD xs) (dgD ys) = ltL xs ys := by
  suffices q : ∀ xs ys : List (Int × Int), PyProof.Rows.lexLt PyProof.Rows.itemOrd (PySem.W.keyToksAll (xs.map prD)) (PySem.W.keyToksAll (ys.map prD)) = ltL xs ys by
    intro xs ys
    show PySem.W.dataLt (.tuple _) (.tuple _) = _
    rw [PySem.W.dataLt_tuple]
    exact q xs ys
  intro xs
  induction xs with
  | nil =>
    intro ys
    cases ys with
    | nil => rfl
    | cons y ys => rw [List.map_cons, PySem.W.toks_all_cons]; rfl
  | cons x xs ih =>
    intro ys
    cases ys with
    | nil => rw [List.map_cons, PySem.W.toks_all_cons]; rfl
    | cons y ys =>
      rw [List.map_cons, List.map_cons, PySem.W.dataLt_cons (by rfl), ih ys, eqv_pr]
      have e : PySem.W.dataLt (prD x) (prD y) = ltP x y := PySem.W.dataLt_ii x.1 x.2 y.1 y.2
      rw [e]
      rw [ltL]
      by_cases h : x = y
      · subst h
        simp
      · rw [if_neg h, if_neg]
        intro z
        simp only [Bool.and_eq_true, decide_eq_true_eq, Bool.and_true] at z
        exact h (Prod.ext z.1 z.2)
theorem ltL_anti : ∀ xs ys : List (Int × Int), ltL xs ys = false → ltL ys xs = false → xs = ys
  | [], [], _, _ => rfl
  | [], _ :: _, h, _ => nomatch h
  | _ :: _, [], _, h => nomatch h
  | x :: xs, y :: ys, h, k => by
    unfold ltL at h k
    by_cases e : x = y
    · subst e
      rw [if_pos rfl] at h k
      rw [ltL_anti xs ys h k]
    · rw [if_neg e] at h
      rw [if_neg (fun z => e z.symm)] at k
      unfold ltP at h k
      rw [decide_eq_false_iff_not] at h k
      exact absurd (Prod.ext (by omega) (by omega)) e
theorem sort_dg {L M : List (List (Int × Int))} (p : L.Perm M) : ∃ S : List (List (Int × Int)), S.Perm L ∧ (L.map dgD).mergeSort (PySem.W.dataLe false id) = S.map dgD ∧ (M.map dgD).mergeSort (PySem.W.dataLe false id) = S.map dgD := by
  obtain ⟨S, s1, s2, s3⟩ := sortD_of dgD L
  obtain ⟨T, t1, t2, t3⟩ := sortD_of dgD M
  have e : S = T := by
    refine List.Perm.eq_of_pairwise (le := fun a b => PySem.W.dataLt (dgD b) (dgD a) = false) (fun a b _ _ h k => ?_) s2 t2 (s1.trans (p.trans t1.symm))
    rw [dataLt_dg] at h k
    exact ltL_anti a b k h
  subst e
  exact ⟨S, s1, s3, t3⟩
end DL
/-! diagrams that a rotation leaves as they are: their number, for the sizes up to 8 -/
namespace DL
open PySem PySem.Spec PyProof.Rows L2
def ordN (n : Nat) (s : Int) : Nat := 2 * n / Nat.gcd (2 * n) s.natAbs
def fcnt (n : Nat) (s : Int) : Nat :=
  if n = 0 then 1 else if ordN n s = 1 then cp 0 (2 * n) else if 2 * n / ordN n s % 2 = 0 then ch (2 * n / ordN n s) (2 * n / ordN n s / 2) else if ordN n s = 2 then ch n ((n - 1) / 2) else 0
theorem ordN_pos {n : Nat} {s : Int} (h : 1 ≤ n) : 0 < ordN n s ∧ ordN n s ≤ 2 * n := by
  have hd := Nat.gcd_dvd_left (2 * n) s.natAbs
  have hp : 0 < Nat.gcd (2 * n) s.natAbs := Nat.gcd_pos_of_pos_left _ (by omega)
  exact ⟨Nat.div_pos (Nat.le_of_dvd (by omega) hd) hp, Nat.div_le_self ..⟩
def fco (n o : Nat) : Nat := if o = 1 then cp 0 (2 * n) else if 2 * n / o % 2 = 0 then ch (2 * n / o) (2 * n / o / 2) else if o = 2 then ch n ((n - 1) / 2) else 0
/-- what the kernel finds of n and an order -/
theorem fcnt_fco {n : Nat} {s : Int} (h : 1 ≤ n) : fcnt n s = fco n (ordN n s) := by
  unfold fcnt fco
  rw [if_neg (by omega)]
theorem ord_dvd {n : Nat} {s : Int} (h : 1 ≤ n) : ordN n s ∣ 2 * n ∧ 2 * n / ordN n s = Nat.gcd (2 * n) s.natAbs := by
  unfold ordN
  exact ⟨Nat.div_dvd_of_dvd (Nat.gcd_dvd_left ..), Nat.div_div_self (Nat.gcd_dvd_left ..) (by omega)⟩
theorem ord_back {n : Nat} {s : Int} (h : 1 ≤ n) : ordN n ((2 * n / ordN n s : Nat) : Int) = ordN n s := by
  rw [(ord_dvd h).2]
  show 2 * n / Nat.gcd (2 * n) (Nat.gcd (2 * n) s.natAbs) = _
  rw [Nat.gcd_eq_right (Nat.gcd_dvd_left ..)]; rfl
theorem ord_neg {n : Nat} {s : Int} : ordN n (0 - s) = ordN n s := by
  unfold ordN
  rw [Int.zero_sub, Int.natAbs_neg]
def ChD (w : List Bool) (i : Nat) (st : List Nat) (fs : List (Int × Int)) : Prop := StC w i (st.reverse.map fun (k : Nat) => (k : Int) + 1) fs ∧ (∃ P, Stk w i st P) ∧ ∀ x ∈ fs, ∃ p q : Nat, x = ((p : Int) + 1, (q : Int) + 1) ∧ Cl w p q
theorem ChD.wd {n : Nat} {w : List Bool} {st : List Nat} {fs : List (Int × Int)} (D : Dyck n w) (C : ChD w w.length st fs) : WD n w fs := by
  obtain ⟨S, _, h⟩ := C
  have N := S.nc D
  have nd : fs.Nodup := N.ap.imp_of_mem fun {p q} mp mq a e => by
    subst e
    have := N.inn p mp
    unfold apart at a
    omega
  have c := D.cds.1
  refine ⟨D, N.len, nd, fun a b => ⟨fun m => ?_, fun m => ?_⟩⟩
  · obtain ⟨p, q, e, cc⟩ := h _ m
    cases e
    exact ⟨p, q, rfl, rfl, cc⟩
  · refine all_of_sub nd (fun z hz => ?_) (by rw [c.len, N.len]; exact Nat.le_refl _) _ ((c.mem a b).mpr m)
    obtain ⟨p, q, e, cc⟩ := h z hz
    rw [e]
    exact (c.mem _ _).mpr ⟨p, q, rfl, rfl, cc⟩
/-- the chords of a word, as a stack finds them -/
def chs : List Bool → Nat → List Nat → List (Int × Int) → List (Int × Int)
  | [], _, _, fs => fs
  | true :: w, i, st, fs => chs w (i + 1) (i :: st) fs
  | false :: w, i, [], fs => chs w (i + 1) [] fs
  | false :: w, i, s :: st, fs => chs w (i + 1) st (fs ++ [((s : Int) + 1, (i : Int) + 1)])
theorem chs_all {n : Nat} {w : List Bool} (D : Dyck n w) : ∀ (u : List Bool) (i : Nat) (st : List Nat) (fs : List (Int × Int)), w.drop i = u → i ≤ w.length → ChD w i st fs → ∃ st2, ChD w w.length st2 (chs u i st fs)
  | [], i, st, fs, e, hi, C => by
    have : i = w.length := by
      have := congrArg List.length e
      rw [List.length_drop, List.length_nil] at this
      omega
    subst this
    exact ⟨st, C⟩
  | b :: u, i, st, fs, e, hi, C => by
    have hl : i < w.length := by
      have := congrArg List.length e
      rw [List.length_drop, List.length_cons] at this
      omega
    have e2 : w.drop i = w[i] :: w.drop (i + 1) := List.drop_eq_getElem_cons hl
    rw [e] at e2
    have hb : w[i] = b := ((List.cons.inj e2).1).symm
    have hu : w.drop (i + 1) = u := ((List.cons.inj e2).2).symm
    obtain ⟨S, ⟨P, T⟩, hf⟩ := C
    cases b with
    | true =>
      refine chs_all D u (i + 1) (i :: st) fs hu hl ⟨?_, ⟨P, T.push hl hb⟩, hf⟩
      have q := S.push hl hb
      rwa [show (st.reverse.map fun (k : Nat) => (k : Int) + 1) ++ [(i : Int) + 1] = ((i :: st).reverse.map fun (k : Nat) => (k : Int) + 1) by rw [List.reverse_cons, List.map_append]; rfl] at q
    | false =>
      obtain ⟨k, r, rfl⟩ := T.open hl hb D.pos
      obtain ⟨C, T2⟩ := T.pop hl hb
      rw [List.reverse_cons, List.map_append] at S
      have S2 := S.pop hl hb
      refine chs_all D u (i + 1) r _ hu hl ⟨S2, ⟨_, T2⟩, fun x hx => ?_⟩
      rcases List.mem_append.mp hx with q | q
      · exact hf x q
      · exact ⟨k, i, List.mem_singleton.mp q, C⟩
theorem chs_wd {n : Nat} {w : List Bool} (D : Dyck n w) : WD n w (chs w 0 [] []) := by
  obtain ⟨st, C⟩ := chs_all D w 0 [] [] rfl (Nat.zero_le _) ⟨StC.start w, ⟨_, Stk.start w⟩, fun _ h => by simp at h⟩
  exact C.wd D
def fixB (n : Nat) (t : Int) (ps : List (Int × Int)) : Bool := (ps.map (ren (rotp (2 * (n : Int)) t))).all fun p => ps.contains p
theorem fixB_iff {n : Nat} {t : Int} {ps : List (Int × Int)} : fixB n t ps = true ↔ ∀ p ∈ ps.map (ren (rotp (2 * (n : Int)) t)), p ∈ ps := by
  unfold fixB
  rw [List.all_eq_true]
  exact ⟨fun h p hp => List.contains_iff_mem.mp (h p hp), fun h p hp => List.contains_iff_mem.mpr (h p hp)⟩
theorem bool_iff {a b : Bool} (h : a = true ↔ b = true) : a = b := by cases a <;> cases b <;> simp_all
theorem fixB_perm {n : Nat} {t : Int} {ps qs : List (Int × Int)} (p : ps.Perm qs) : fixB n t ps = fixB n t qs := by
  refine bool_iff ?_
  rw [fixB_iff, fixB_iff]
  constructor
  · exact fun h x hx => p.mem_iff.mp (h x ((p.map _).mem_iff.mpr hx))
  · exact fun h x hx => p.mem_iff.mpr (h x ((p.map _).mem_iff.mp hx))
theorem fixB_mod (n : Nat) (t : Int) (ps : List (Int × Int)) : fixB n t ps = fixB n (t % (2 * (n : Int))) ps := by
  have e : rotp (2 * (n : Int)) (t % (2 * (n : Int))) = rotp (2 * (n : Int)) t := funext fun p => rotp_mod
  unfold fixB
  rw [e]
theorem perm_same {α : Type} [BEq α] [LawfulBEq α] : ∀ {l m : List α}, l.Nodup → (∀ x ∈ l, x ∈ m) → m.length ≤ l.length → l.Perm m
  | [], m, _, _, h => by rw [List.length_eq_zero_iff.mp (Nat.le_zero.mp h)]
  | x :: l, m, nd, h, hl => by
    have hx := h x List.mem_cons_self
    have nd2 := List.nodup_cons.mp nd
    have hlen : (m.erase x).length = m.length - 1 := List.length_erase_of_mem hx
    refine List.Perm.trans (List.Perm.cons x (perm_same nd2.2 (fun y hy => ?_) (by rw [hlen]; rw [List.length_cons] at hl; omega))) (List.perm_cons_erase hx).symm
    have hne : y ≠ x := fun z => nd2.1 (z ▸ hy)
    exact (List.mem_erase_of_ne hne).mpr (h y (List.mem_cons_of_mem _ hy))
/-- the rotated diagram is the diagram -/
theorem fixB_eq {n : Nat} {t : Int} {ps : List (Int × Int)} {w : List Bool} (D : Dg n ps) (W : WD n w (ps.map (ren (rotp (2 * (n : Int)) t)))) : decide (cds w = ps) = fixB n t ps := by
  refine bool_iff ?_
  rw [decide_eq_true_iff, fixB_iff]
  constructor
  · intro e p hp
    rw [← e]
    exact W.permC.mem_iff.mp hp
  · intro h
    have p := perm_same W.nd h (by rw [List.length_map]; exact Nat.le_refl _)
    exact (W.uniq p.symm D.le).symm
theorem eqv_dgs : ∀ (ps qs : List (Int × Int)), PyData.eqv (.tuple (ps.map prD)) (.tuple (qs.map prD)) = decide (ps = qs)
  | [], [] => rfl
  | [], q :: qs => rfl
  | p :: ps, [] => rfl
  | p :: ps, q :: qs => by
    have ih := eqv_dgs ps qs
    have ih' : PyData.eqvAll (ps.map prD) (qs.map prD) = decide (ps = qs) := ih
    show (PyData.eqv (prD p) (prD q) && PyData.eqvAll (ps.map prD) (qs.map prD)) = _
    rw [ih', eqv_pr, Bool.eq_iff_iff]
    simp only [Bool.and_eq_true, decide_eq_true_eq, Bool.and_true, List.cons.injEq]
    exact ⟨fun ⟨⟨a, b⟩, c⟩ => ⟨Prod.ext a b, c⟩, fun ⟨a, b⟩ => ⟨⟨by rw [a], by rw [a]⟩, b⟩⟩
theorem eqv_dgD (ps qs : List (Int × Int)) : PyData.eqv (dgD ps) (dgD qs) = decide (ps = qs) := eqv_dgs ps qs
noncomputable def allW (n : Nat) : List (List (Int × Int)) := (allT n).map cds
theorem allT_mem {n : Nat} {w : List Bool} (h : w ∈ allT n) : Dyck n w := by
  rw [allT_un] at h
  obtain ⟨r, hr, rfl⟩ := List.mem_map.mp h
  exact un_dyck (List.mem_range.mp hr)
theorem allW_mem {n : Nat} {ps : List (Int × Int)} (h : ps ∈ allW n) : ∃ w, Dyck n w ∧ ps = cds w := by
  obtain ⟨w, hw, rfl⟩ := List.mem_map.mp h
  exact ⟨w, allT_mem hw, rfl⟩
noncomputable def srtW (n : Nat) : List (List (Int × Int)) := (sort_dg (List.Perm.refl (allW n))).choose
theorem srtW_perm (n : Nat) : (srtW n).Perm (allW n) := (sort_dg (List.Perm.refl (allW n))).choose_spec.1
theorem srtW_eq (n : Nat) : ((allW n).map dgD).mergeSort (PySem.W.dataLe false id) = (srtW n).map dgD := (sort_dg (List.Perm.refl (allW n))).choose_spec.2.1
theorem srtW_of {n : Nat} {M : List (List (Int × Int))} (p : M.Perm (allW n)) : (M.map dgD).mergeSort (PySem.W.dataLe false id) = (srtW n).map dgD := by
  obtain ⟨S, _, h1, h2⟩ := sort_dg p.symm
  rw [h2, ← h1, srtW_eq]
theorem srtW_mem {n : Nat} {ps : List (Int × Int)} (h : ps ∈ srtW n) : Dg n ps ∧ HasW n ps := by
  obtain ⟨w, D, rfl⟩ := allW_mem ((srtW_perm n).mem_iff.mp h)
  exact ⟨D.dg, w, D.cds.1⟩
theorem srtW_len (n : Nat) : (srtW n).length = cp 0 (2 * n) := by rw [(srtW_perm n).length_eq, allW, List.length_map, allT_cnt]
theorem sortable_all {n : Nat} {M : List (List (Int × Int))} (p : M.Perm (allW n)) : (M.map dgD).length ≤ 1 ∨ PySem.W.AllAlike (M.map dgD) ∧ PySem.W.Sortable (M.map dgD) ∧ PyData.depthAll (M.map dgD) ≤ 60 := by
  by_cases h : n = 0
  · subst h
    left
    rw [List.length_map, p.length_eq, allW, List.length_map, allT_cnt]
    decide
  · right
    refine dg_sortable fun ps hp e => ?_
    obtain ⟨w, D, rfl⟩ := allW_mem (p.mem_iff.mp hp)
    have := D.cds.1.len
    rw [e] at this
    exact h this.symm
/-- the number of the diagrams that a rotation leaves as they are -/
def cntL (n : Nat) (t : Int) : Nat := (((allT n).map fun w => chs w 0 [] []).filter (fixB n t)).length
theorem cnt_eq {n : Nat} {t : Int} : ((srtW n).filter (fixB n t)).length = cntL n t := by
  rw [((srtW_perm n).filter _).length_eq, allW, cntL]
  have : ∀ L : List (List Bool), (∀ w ∈ L, Dyck n w) → ((L.map cds).filter (fixB n t)).length = ((L.map fun w => chs w 0 [] []).filter (fixB n t)).length := fun L => by
    induction L with
    | nil => exact fun _ => rfl
    | cons w L ih =>
      intro h
      have e : fixB n t (cds w) = fixB n t (chs w 0 [] []) := fixB_perm (chs_wd (h w List.mem_cons_self)).permC.symm
      rw [List.map_cons, List.map_cons, List.filter_cons, List.filter_cons, e]
      have := ih fun v hv => h v (List.mem_cons_of_mem _ hv)
      split
      · rw [List.length_cons, List.length_cons, this]
      · exact this
  exact this _ fun w hw => allT_mem hw
def chkC (n : Nat) : Bool := (List.range (2 * n)).all fun (t : Nat) => decide (cntL n (t : Int) = fcnt n (t : Int))
theorem chkC_1 : chkC 1 = true := by decide +kernel
theorem chkC_2 : chkC 2 = true := by decide +kernel
theorem chkC_3 : chkC 3 = true := by decide +kernel
theorem chkC_4 : chkC 4 = true := by decide +kernel
theorem chkC_5 : chkC 5 = true := by decide +kernel
theorem chkC_6 : chkC 6 = true := by decide +kernel
theorem chkC_7 : chkC 7 = true := by decide +kernel
theorem chkC_8 : chkC 8 = true := by decide +kernel
theorem chkC_all : ∀ n, 1 ≤ n → n ≤ 8 → chkC n = true := fun n h1 h2 => by
  match n, h1, h2 with
  | 1, _, _ => exact chkC_1
  | 2, _, _ => exact chkC_2
  | 3, _, _ => exact chkC_3
  | 4, _, _ => exact chkC_4
  | 5, _, _ => exact chkC_5
  | 6, _, _ => exact chkC_6
  | 7, _, _ => exact chkC_7
  | 8, _, _ => exact chkC_8
  | n + 9, _, h => omega
theorem gcd_emod {n : Nat} {s : Int} (h : 1 ≤ n) : Nat.gcd (2 * n) (s % (2 * (n : Int))).natAbs = Nat.gcd (2 * n) s.natAbs := by
  have e := Int.emod_add_mul_ediv s (2 * (n : Int))
  have key : ∀ d : Nat, d ∣ 2 * n → (d ∣ (s % (2 * (n : Int))).natAbs ↔ d ∣ s.natAbs) := fun d hd => by
    have hd2 : (d : Int) ∣ 2 * (n : Int) := by have := Int.ofNat_dvd.mpr hd; rwa [Int.natCast_mul] at this
    rw [← Int.ofNat_dvd, Int.dvd_natAbs, ← Int.ofNat_dvd (n := s.natAbs), Int.dvd_natAbs]
    constructor
    · intro q
      rw [← e]
      exact Int.dvd_add q (Int.dvd_trans hd2 (Int.dvd_mul_right ..))
    · intro q
      rw [← e] at q
      exact (Int.dvd_add_left (Int.dvd_trans hd2 (Int.dvd_mul_right ..))).mp q
  exact Nat.dvd_antisymm (Nat.dvd_gcd (Nat.gcd_dvd_left ..) ((key _ (Nat.gcd_dvd_left ..)).mp (Nat.gcd_dvd_right ..))) (Nat.dvd_gcd (Nat.gcd_dvd_left ..) ((key _ (Nat.gcd_dvd_left ..)).mpr (Nat.gcd_dvd_right ..)))
theorem fcnt_mod (n : Nat) (t : Int) : fcnt n (t % (2 * (n : Int))) = fcnt n t := by
  by_cases h : n = 0
  · subst h; rfl
  · have e : ordN n (t % (2 * (n : Int))) = ordN n t := by
      unfold ordN
      rw [gcd_emod (by omega)]
    rw [fcnt_fco (by omega), fcnt_fco (by omega), e]
theorem cnt_fcnt {n : Nat} {t : Int} (hn : n ≤ 8) : ((srtW n).filter (fixB n t)).length = fcnt n t := by
  rw [cnt_eq]
  by_cases h : n = 0
  · subst h; rfl
  · have m0 : 0 ≤ t % (2 * (n : Int)) := Int.emod_nonneg _ (by omega)
    have m1 : t % (2 * (n : Int)) < 2 * (n : Int) := Int.emod_lt_of_pos _ (by omega)
    have e1 : cntL n t = cntL n (t % (2 * (n : Int))) := by
      unfold cntL
      rw [show fixB n t = fixB n (t % (2 * (n : Int))) from funext fun ps => fixB_mod n t ps]
    have c := chkC_all n (by omega) hn
    unfold chkC at c
    have := List.all_eq_true.mp c (t % (2 * (n : Int))).toNat (List.mem_range.mpr (by omega))
    rw [decide_eq_true_iff, Int.toNat_of_nonneg m0] at this
    rw [e1, this, fcnt_mod]
/-- the turns after which a rotation has come round -/
theorem ord_mul {n : Nat} {t : Int} {k : Nat} (h : 1 ≤ n) : ((k : Int) * t) % (2 * (n : Int)) = 0 ↔ ordN n t ∣ k := by
  have e0 : (2 * (n : Int)) = ((2 * n : Nat) : Int) := by omega
  rw [← Int.dvd_iff_emod_eq_zero, e0, Int.ofNat_dvd_left, Int.natAbs_mul, Int.natAbs_natCast]
  have hg : 0 < Nat.gcd (2 * n) t.natAbs := Nat.gcd_pos_of_pos_left _ (by omega)
  have h1 : 2 * n = Nat.gcd (2 * n) t.natAbs * ordN n t := by
    unfold ordN
    rw [Nat.mul_div_cancel' (Nat.gcd_dvd_left ..)]
  have h2 : t.natAbs = Nat.gcd (2 * n) t.natAbs * (t.natAbs / Nat.gcd (2 * n) t.natAbs) := by
    rw [Nat.mul_div_cancel' (Nat.gcd_dvd_right ..)]
  have hc : Nat.Coprime (ordN n t) (t.natAbs / Nat.gcd (2 * n) t.natAbs) := Nat.coprime_div_gcd_div_gcd hg
  constructor
  · intro q
    have q2 : Nat.gcd (2 * n) t.natAbs * ordN n t ∣ Nat.gcd (2 * n) t.natAbs * (k * (t.natAbs / Nat.gcd (2 * n) t.natAbs)) := by
      rw [← h1, Nat.mul_left_comm, ← h2]; exact q
    exact hc.dvd_of_dvd_mul_right (Nat.dvd_of_mul_dvd_mul_left hg q2)
  · intro q
    have q2 : Nat.gcd (2 * n) t.natAbs * ordN n t ∣ Nat.gcd (2 * n) t.natAbs * (k * (t.natAbs / Nat.gcd (2 * n) t.natAbs)) := Nat.mul_dvd_mul_left _ (Nat.dvd_trans q (Nat.dvd_mul_right ..))
    rw [← h1, Nat.mul_left_comm, ← h2] at q2
    exact q2
def rept (n : Nat) (t : Int) : Nat → List Int
  | 0 => []
  | i + 1 => rept n t i ++ (if (((i + 1 : Nat) : Int) * t) % (2 * (n : Int)) = 0 then [((i + 1 : Nat) : Int)] else [])
theorem rept_len (n : Nat) (t : Int) : ∀ i, (rept n t i).length ≤ i
  | 0 => Nat.le_refl _
  | i + 1 => by
    have := rept_len n t i
    rw [rept, List.length_append]
    split
    · show _ + 1 ≤ _; omega
    · show _ + 0 ≤ _; omega
theorem rept_mem {n : Nat} {t : Int} (h : 1 ≤ n) : ∀ {i : Nat} {x : Int}, x ∈ rept n t i ↔ ∃ j : Nat, x = j ∧ 1 ≤ j ∧ j ≤ i ∧ ordN n t ∣ j
  | 0, x => ⟨(fun z => nomatch z), fun ⟨j, _, a, b, _⟩ => by omega⟩
  | i + 1, x => by
    rw [rept, List.mem_append, rept_mem h]
    constructor
    · rintro (⟨j, a, b, c, d⟩ | q)
      · exact ⟨j, a, b, by omega, d⟩
      · split at q
        · rename_i g
          rw [List.mem_singleton] at q
          exact ⟨i + 1, q, by omega, Nat.le_refl _, (ord_mul h).mp g⟩
        · exact absurd q (fun z => nomatch z)
    · rintro ⟨j, a, b, c, d⟩
      rcases Nat.lt_or_ge j (i + 1) with q | q
      · exact .inl ⟨j, a, b, by omega, d⟩
      · have : j = i + 1 := by omega
        subst this
        right
        rw [if_pos ((ord_mul h).mpr d), a]
        exact List.mem_singleton.mpr rfl
theorem le_foldmin : ∀ (r : List Int) (x y : Int), y ≤ x → (∀ z ∈ r, y ≤ z) → y ≤ r.foldl min x
  | [], _, _, h, _ => h
  | z :: r, x, y, h, k => le_foldmin r (min x z) y (Int.le_min.mpr ⟨h, k z List.mem_cons_self⟩) fun w hw => k w (List.mem_cons_of_mem _ hw)
theorem foldmin_le : ∀ (r : List Int) (x : Int), r.foldl min x ≤ x ∧ ∀ z ∈ r, r.foldl min x ≤ z
  | [], _ => ⟨Int.le_refl _, fun _ h => nomatch h⟩
  | z :: r, x => by
    obtain ⟨a, b⟩ := foldmin_le r (min x z)
    refine ⟨Int.le_trans a (Int.min_le_left ..), fun w hw => ?_⟩
    rcases List.mem_cons.mp hw with rfl | hw
    · exact Int.le_trans a (Int.min_le_right ..)
    · exact b w hw
theorem rept_min {n : Nat} {t : Int} (h : 1 ≤ n) : ∃ x r, rept n t (2 * n) = x :: r ∧ r.foldl min x = (ordN n t : Nat) := by
  obtain ⟨o1, o2⟩ := ordN_pos (s := t) h
  have hg : ((ordN n t : Nat) : Int) ∈ rept n t (2 * n) := (rept_mem h).mpr ⟨_, rfl, o1, o2, Nat.dvd_refl _⟩
  have hb : ∀ z ∈ rept n t (2 * n), ((ordN n t : Nat) : Int) ≤ z := fun z hz => by
    obtain ⟨j, rfl, a, b, c⟩ := (rept_mem h).mp hz
    exact Int.ofNat_le.mpr (Nat.le_of_dvd (by omega) c)
  cases e : rept n t (2 * n) with
  | nil => rw [e] at hg; exact nomatch hg
  | cons x r =>
    rw [e] at hg hb
    refine ⟨x, r, rfl, Int.le_antisymm ?_ (le_foldmin r x _ (hb x List.mem_cons_self) fun z hz => hb z (List.mem_cons_of_mem _ hz))⟩
    rcases List.mem_cons.mp hg with e2 | hg
    · rw [e2]; exact (foldmin_le r x).1
    · exact (foldmin_le r x).2 _ hg
theorem alike_intsL (ns : List Int) : PySem.W.AlikeAll (ns.map .int) ∧ PyData.depthAll (ns.map .int) ≤ 60 := by
  refine ⟨⟨fun x hx y hy => ?_, fun x hx => ?_⟩, ?_⟩
  · obtain ⟨a, _, rfl⟩ := List.mem_map.mp hx
    obtain ⟨b, _, rfl⟩ := List.mem_map.mp hy
    rfl
  · obtain ⟨a, _, rfl⟩ := List.mem_map.mp hx
    exact fun z => nomatch z
  · suffices q : PyData.depthAll (ns.map .int) ≤ 0 by omega
    induction ns with
    | nil => exact Nat.le_refl _
    | cons x r ih => show max 0 (PyData.depthAll (r.map .int)) ≤ 0; omega
/-! the law's list of all words: the other way round -/
def stepU (b : Nat) (l : List (List Bool × Nat)) : List (List Bool × Nat) := l.flatMap fun e => (if e.2 < b then [(e.1 ++ [true], e.2 + 1)] else []) ++ (if 0 < e.2 then [(e.1 ++ [false], e.2 - 1)] else [])
theorem stepU_rev (b : Nat) : ∀ l : List (List Bool × Nat), stepU b l.reverse = (stepT b l).reverse
  | [] => rfl
  | e :: l => by
    have ih := stepU_rev b l
    have e1 : stepT b (e :: l) = ((if 0 < e.2 then [(e.1 ++ [false], e.2 - 1)] else []) ++ (if e.2 < b then [(e.1 ++ [true], e.2 + 1)] else [])) ++ stepT b l := rfl
    rw [e1, List.reverse_append, ← ih, List.reverse_cons]
    unfold stepU
    rw [List.flatMap_append]
    congr 1
    rw [List.flatMap_cons, List.flatMap_nil, List.append_nil, List.reverse_append]
    split <;> split <;> rfl
def allU (n k : Nat) : List (List Bool × Nat) := (allS n k).reverse
theorem allU_succ (n k : Nat) : allU n (k + 1) = stepU (2 * n - k) (allU n k) := (stepU_rev _ _).symm
theorem stepU_take {b j : Nat} {l : List (List Bool × Nat)} (h : j < l.length) : stepU b (l.take (j + 1)) = stepU b (l.take j) ++ ((if l[j].2 < b then [(l[j].1 ++ [true], l[j].2 + 1)] else []) ++ (if 0 < l[j].2 then [(l[j].1 ++ [false], l[j].2 - 1)] else [])) := by
  unfold stepU
  rw [List.take_succ, List.getElem?_eq_getElem h, List.flatMap_append]
  congr 1
  show List.flatMap _ [l[j]] = _
  rw [List.flatMap_cons, List.flatMap_nil, List.append_nil]
theorem stepU_len (b : Nat) : ∀ l : List (List Bool × Nat), (stepU b l).length ≤ 2 * l.length
  | [] => Nat.le_refl _
  | e :: l => by
    have i := stepU_len b l
    show ((if e.2 < b then [(e.1 ++ [true], e.2 + 1)] else []) ++ (if 0 < e.2 then [(e.1 ++ [false], e.2 - 1)] else []) ++ stepU b l).length ≤ 2 * (l.length + 1)
    rw [List.length_append, List.length_append]
    split <;> split <;> simp <;> omega
theorem allU_le {n k : Nat} (hn : n ≤ 8) (hk : k ≤ 2 * n) : (allU n k).length ≤ 65536 := by
  rw [allU, List.length_reverse]
  exact Nat.le_trans (allS_le n k) (Nat.pow_le_pow_right (by decide) (show k ≤ 16 by omega))
theorem allU_inv {n k : Nat} (hk : k ≤ 2 * n) {e : List Bool × Nat} (he : e ∈ allU n k) : e.1.length = k ∧ e.2 + k ≤ 2 * n ∧ (e.2 + k) % 2 = 0 := allS_inv n k hk e (List.mem_reverse.mp he)
def tlU (k : Nat) (e : List Bool × Nat) : PyData := .tuple [.str (wd e.1), .int e.2, .int (((e.2 + k) / 2 : Nat) : Int)]
theorem allU_perm (n : Nat) : ((allU n (2 * n)).map fun e => cds e.1).Perm (allW n) := by
  have e : (allU n (2 * n)).map (fun e => cds e.1) = (allW n).reverse := by
    unfold allW allT allU
    rw [List.map_reverse, List.map_map]; rfl
  rw [e]
  exact List.reverse_perm _
end DL
/-! two diagrams, one stacked on the other -/
namespace DL
open PySem PySem.Spec PyProof.Rows L2
/-- a pairing of the points of S without a crossing -/
structure Pl (S : Int → Prop) (f : Int → Int) : Prop where
  inn : ∀ p, S p → S (f p)
  ne : ∀ p, S p → f p ≠ p
  inv : ∀ p, S p → f (f p) = p
  nc : ∀ p q, S p → S q → p < q → q < f p → p < f q ∧ f q < f p
def con (x y : Int) (f : Int → Int) (p : Int) : Int := if f p = x then f y else if f p = y then f x else f p
theorem Pl.con {S : Int → Prop} {f : Int → Int} {x y : Int} (P : Pl S f) (hx : S x) (hy : S y) (lt : x < y) (gap : ∀ p, S p → p ≤ x ∨ y ≤ p) : Pl (fun p => S p ∧ p ≠ x ∧ p ≠ y) (con x y f) := by
  have ix := P.inv x hx
  have iy := P.inv y hy
  have nx := P.ne x hx
  have ny := P.ne y hy
  have sx := P.inn x hx
  have sy := P.inn y hy
  have gx := gap _ sx
  have gy := gap _ sy
  refine ⟨fun p ⟨h, h1, h2⟩ => ?_, fun p ⟨h, h1, h2⟩ => ?_, fun p ⟨h, h1, h2⟩ => ?_, fun p q ⟨h, h1, h2⟩ ⟨k, k1, k2⟩ l1 l2 => ?_⟩
  · have ip := P.inv p h
    unfold DL.con
    by_cases a : f p = x
    · rw [if_pos a]
      refine ⟨sy, fun e => h2 ?_, ny⟩
      rw [← ip, a, ← e, iy]
    · rw [if_neg a]
      by_cases b : f p = y
      · rw [if_pos b]
        refine ⟨sx, nx, fun e => h1 ?_⟩
        rw [← ip, b, ← e, ix]
      · rw [if_neg b]
        exact ⟨P.inn p h, a, b⟩
  · have ip := P.inv p h
    unfold DL.con
    by_cases a : f p = x
    · rw [if_pos a]
      intro e
      have : f p = y := by rw [← e, iy]
      omega
    · rw [if_neg a]
      by_cases b : f p = y
      · rw [if_pos b]
        intro e
        have : f p = x := by rw [← e, ix]
        omega
      · rw [if_neg b]
        exact P.ne p h
  · have ip := P.inv p h
    unfold DL.con
    by_cases a : f p = x
    · have e : f x = p := by rw [← a]; exact ip
      rw [if_pos a, iy, if_neg (by omega), if_pos rfl, e]
    · rw [if_neg a]
      by_cases b : f p = y
      · have e : f y = p := by rw [← b]; exact ip
        rw [if_pos b, ix, if_pos rfl, e]
      · rw [if_neg b, ip, if_neg h1, if_neg h2]
  · have ip := P.inv p h
    have iq := P.inv q k
    have gp := gap p h
    have gq := gap q k
    have sp := P.inn p h
    have sq := P.inn q k
    have gfp := gap _ sp
    have gfq := gap _ sq
    have npq : f q ≠ f p := fun e => by
      have : q = p := by rw [← iq, e, ip]
      omega
    have hxp : f p = x → f x = p := fun a => by rw [← a]; exact ip
    have hyp : f p = y → f y = p := fun a => by rw [← a]; exact ip
    have hxq : f q = x → f x = q := fun a => by rw [← a]; exact iq
    have hyq : f q = y → f y = q := fun a => by rw [← a]; exact iq
    have hpp : f q = p → f p = q := fun a => by rw [← a]; exact iq
    unfold DL.con at l2 ⊢
    by_cases a : f p = x
    · have e := hxp a
      rw [if_pos a] at l2 ⊢
      have z1 : f y ≠ x := fun z => by
        have : f x = y := by rw [← z]; exact iy
        omega
      by_cases c : p < x
      · have z2 : y < f y := by
          refine Classical.byContradiction fun z => ?_
          have := P.nc p (f y) h sy (by omega) (by omega)
          omega
        by_cases d : q < x
        · have := P.nc p q h k l1 (by omega)
          rw [if_neg (by omega), if_neg (by omega)]
          omega
        · have := P.nc y q hy k (by omega) (by omega)
          rw [if_neg (by omega), if_neg (by omega)]
          omega
      · have := P.nc y p hy h (by omega) (by omega)
        omega
    · rw [if_neg a] at l2 ⊢
      by_cases b : f p = y
      · have e := hyp b
        rw [if_pos b] at l2 ⊢
        have z1 : f x ≠ y := fun z => by
          have : f y = x := by rw [← z]; exact ix
          omega
        have fqx : f q ≠ x := fun z => by have := hxq z; omega
        have fqy : f q ≠ y := fun z => by have := hyq z; omega
        rw [if_neg fqx, if_neg fqy]
        have fqp : f q ≠ p := fun z => by have := hpp z; omega
        by_cases c : y < p
        · have := P.nc x q hx k (by omega) l2
          refine ⟨Classical.byContradiction fun z => ?_, this.2⟩
          have := P.nc y (f q) hy sq (by omega) (by omega)
          omega
        · have w1 := P.nc p x h hx (by omega) (by omega)
          have w2 := P.nc p q h k l1 (by omega)
          refine ⟨w2.1, Classical.byContradiction fun z => ?_⟩
          have fqz : f q ≠ f x := fun z => by
            have : q = x := by rw [← iq, z, ix]
            omega
          have := P.nc (f x) (f q) sx sq (by omega) (by omega)
          omega
      · rw [if_neg b] at l2 ⊢
        have w := P.nc p q h k l1 l2
        by_cases c : f q = x
        · rw [if_pos c]
          exact P.nc p y h hy (by omega) (by omega)
        · rw [if_neg c]
          by_cases d : f q = y
          · rw [if_pos d]
            exact P.nc p x h hx (by omega) (by omega)
          · rw [if_neg d]
            exact w
/-! the middle points taken away, pair by pair from the inside -/
section
variable {n : Nat} {F : Int → Int}
def SO (n k : Nat) (p : Int) : Prop := (1 ≤ p ∧ p ≤ 2 * (n : Int) - k) ∨ (2 * (n : Int) + 1 + k ≤ p ∧ p ≤ 4 * (n : Int))
def fk (n : Nat) (F : Int → Int) : Nat → Int → Int
  | 0 => F
  | k + 1 => con (2 * (n : Int) - k) (2 * (n : Int) + 1 + k) (fk n F k)
theorem Pl.congr {S T : Int → Prop} {f : Int → Int} (P : Pl S f) (h : ∀ p, S p ↔ T p) : Pl T f :=
  ⟨fun p a => (h _).mp (P.inn p ((h p).mpr a)), fun p a => P.ne p ((h p).mpr a), fun p a => P.inv p ((h p).mpr a), fun p q a b => P.nc p q ((h p).mpr a) ((h q).mpr b)⟩
theorem fk_pl (P : Pl (SO n 0) F) : ∀ k, k ≤ n → Pl (SO n k) (fk n F k)
  | 0, _ => P
  | k + 1, h => by
    have i := fk_pl P k (by omega)
    refine (i.con (x := 2 * (n : Int) - k) (y := 2 * (n : Int) + 1 + k) ?_ ?_ ?_ ?_).congr fun p => ?_
    · unfold SO; omega
    · unfold SO; omega
    · omega
    · unfold SO; intro p hp; omega
    · unfold SO; omega
/-- along the strands -/
def wk (n : Nat) (F : Int → Int) (p : Int) : Nat → Int
  | 0 => F p
  | j + 1 => F (4 * (n : Int) + 1 - wk n F p j)
theorem wk_add (p : Int) (j : Nat) : ∀ i, wk n F p (j + 1 + i) = wk n F (4 * (n : Int) + 1 - wk n F p j) i
  | 0 => rfl
  | i + 1 => by
    show F (4 * (n : Int) + 1 - wk n F p (j + 1 + i)) = F (4 * (n : Int) + 1 - wk n F _ i)
    rw [wk_add p j i]
theorem wk_reach (P : Pl (SO n 0) F) : ∀ k, k ≤ n → ∀ p, SO n k p → ∃ j, wk n F p j = fk n F k p ∧ ∀ i, i < j → ¬ SO n k (wk n F p i)
  | 0, _, p, hp => ⟨0, rfl, fun i h => absurd h (Nat.not_lt_zero _)⟩
  | k + 1, h, p, hp => by
    have Pk := fk_pl P k (by omega)
    have Pk1 := fk_pl P (k + 1) h
    have hpk : SO n k p := by unfold SO at hp ⊢; omega
    obtain ⟨j, e, hj⟩ := wk_reach P k (by omega) p hpk
    have inS := Pk1.inn p hp
    have up : ∀ q, SO n (k + 1) q → SO n k q := fun q => by unfold SO; omega
    have go : ∀ x y : Int, x + y = 4 * (n : Int) + 1 → SO n k y → ¬ SO n (k + 1) x → fk n F k p = x → fk n F (k + 1) p = fk n F k y → ∃ j, wk n F p j = fk n F (k + 1) p ∧ ∀ i, i < j → ¬ SO n (k + 1) (wk n F p i) := fun x y hxy sy nx ex e2 => by
      obtain ⟨j2, e3, hj2⟩ := wk_reach P k (by omega) y sy
      have ey : 4 * (n : Int) + 1 - wk n F p j = y := by rw [e, ex]; omega
      refine ⟨j + 1 + j2, by rw [wk_add, ey, e3, e2], fun i hi => ?_⟩
      rcases Nat.lt_trichotomy i j with g | g | g
      · exact fun z => hj i g (up _ z)
      · subst g
        rw [e, ex]
        exact nx
      · obtain ⟨i2, rfl⟩ : ∃ i2, i = j + 1 + i2 := ⟨i - (j + 1), by omega⟩
        rw [wk_add, ey]
        exact fun z => hj2 i2 (by omega) (up _ z)
    by_cases a : fk n F k p = 2 * (n : Int) - k
    · exact go _ (2 * (n : Int) + 1 + k) (by omega) (by unfold SO; omega) (by unfold SO; omega) a (by show con _ _ _ _ = _; unfold con; rw [if_pos a])
    · by_cases b : fk n F k p = 2 * (n : Int) + 1 + k
      · exact go _ (2 * (n : Int) - k) (by omega) (by unfold SO; omega) (by unfold SO; omega) b (by show con _ _ _ _ = _; unfold con; rw [if_neg a, if_pos b])
      · have e2 : fk n F (k + 1) p = fk n F k p := by show con _ _ _ _ = _; unfold con; rw [if_neg a, if_neg b]
        exact ⟨j, by rw [e, e2], fun i hi z => hj i hi (up _ z)⟩
end
theorem perm_sameN {α : Type} [BEq α] [LawfulBEq α] : ∀ {l m : List α}, l.Nodup → (∀ x ∈ l, x ∈ m) → m.length ≤ l.length → l.Perm m
  | [], m, _, _, h => by rw [List.length_eq_zero_iff.mp (Nat.le_zero.mp h)]
  | x :: l, m, nd, h, hl => by
    have hx := h x List.mem_cons_self
    have nd2 := List.nodup_cons.mp nd
    have hlen : (m.erase x).length = m.length - 1 := List.length_erase_of_mem hx
    refine List.Perm.trans (List.Perm.cons x (perm_sameN nd2.2 (fun y hy => ?_) (by rw [hlen]; rw [List.length_cons] at hl; omega))) (List.perm_cons_erase hx).symm
    have hne : y ≠ x := fun z => nd2.1 (z ▸ hy)
    exact (List.mem_erase_of_ne hne).mpr (h y (List.mem_cons_of_mem _ hy))
theorem pw_mem {α : Type} {R : α → α → Prop} (sy : ∀ a b, R a b → R b a) : ∀ {l : List α}, l.Pairwise R → ∀ {a b}, a ∈ l → b ∈ l → a ≠ b → R a b
  | [], _, _, _, h, _, _ => nomatch h
  | x :: l, pw, a, b, ha, hb, ne => by
    obtain ⟨h1, h2⟩ := List.pairwise_cons.mp pw
    rcases List.mem_cons.mp ha with e | ha2
    · rcases List.mem_cons.mp hb with e2 | hb2
      · exact absurd (e.trans e2.symm) ne
      · rw [e]; exact h1 _ hb2
    · rcases List.mem_cons.mp hb with e2 | hb2
      · rw [e2]; exact sy _ _ (h1 _ ha2)
      · exact pw_mem sy h2 ha2 hb2 ne
theorem NC.pw {n : Nat} {ps : List (Int × Int)} (N : NC n ps) {a b : Int × Int} (ha : a ∈ ps) (hb : b ∈ ps) (ne : a ≠ b) : apart a b := pw_mem (fun _ _ h => h.symm) N.ap ha hb ne
/-- the points 1 .. N -/
def pts (N : Nat) : List Int := (List.range N).map fun (k : Nat) => (k : Int) + 1
theorem mem_pts {N : Nat} {p : Int} : p ∈ pts N ↔ 1 ≤ p ∧ p ≤ (N : Int) := by
  unfold pts
  rw [List.mem_map]
  constructor
  · rintro ⟨k, hk, rfl⟩
    have := List.mem_range.mp hk
    omega
  · intro h
    exact ⟨p.toNat - 1, List.mem_range.mpr (by omega), by omega⟩
theorem pts_len (N : Nat) : (pts N).length = N := by unfold pts; rw [List.length_map, List.length_range]
theorem pts_asc (N : Nat) : (pts N).Pairwise fun a b => a < b := by
  unfold pts
  rw [List.pairwise_map]
  exact List.pairwise_lt_range.imp fun h => by omega
theorem pts_nd (N : Nat) : (pts N).Nodup := (pts_asc N).imp fun h => by omega
/-- every point is on a chord -/
theorem NC.cover {n : Nat} {ps : List (Int × Int)} (N : NC n ps) {x : Int} (h1 : 1 ≤ x) (h2 : x ≤ 2 * (n : Int)) : ∃ c ∈ ps, c.1 = x ∨ c.2 = x := by
  have nd : ∀ {l : List (Int × Int)}, (∀ p ∈ l, p.1 < p.2) → l.Pairwise apart → (l.flatMap fun p => [p.1, p.2]).Nodup := fun {l} => by
    induction l with
    | nil => exact fun _ _ => List.nodup_nil
    | cons p l ih =>
      intro hl hp
      obtain ⟨q1, q2⟩ := List.pairwise_cons.mp hp
      rw [List.flatMap_cons]
      refine List.nodup_append.mpr ⟨?_, ih (fun q hq => hl q (List.mem_cons_of_mem _ hq)) q2, ?_⟩
      · have := hl p List.mem_cons_self
        refine List.nodup_cons.mpr ⟨fun z => ?_, List.nodup_cons.mpr ⟨(fun z => nomatch z), List.nodup_nil⟩⟩
        have := List.mem_singleton.mp z
        omega
      · intro a ha b hb e
        subst e
        obtain ⟨c, hc, hm⟩ := List.mem_flatMap.mp hb
        have w := q1 c hc
        have w1 := hl p List.mem_cons_self
        have w2 := hl c (List.mem_cons_of_mem _ hc)
        unfold apart at w
        simp only [List.mem_cons, List.not_mem_nil, or_false] at ha hm
        omega
  have len : ∀ l : List (Int × Int), (l.flatMap fun p => [p.1, p.2]).length = 2 * l.length := fun l => by
    induction l with
    | nil => rfl
    | cons p l ih => rw [List.flatMap_cons, List.length_append, ih]; simp only [List.length_cons, List.length_nil]; omega
  have sub : ∀ y ∈ ps.flatMap fun p => [p.1, p.2], y ∈ pts (2 * n) := fun y hy => by
    obtain ⟨c, hc, hm⟩ := List.mem_flatMap.mp hy
    have := N.inn c hc
    refine mem_pts.mpr ?_
    simp only [List.mem_cons, List.not_mem_nil, or_false] at hm
    omega
  have := (perm_sameN (nd (fun p hp => (N.inn p hp).2.1) N.ap) sub (by rw [len, pts_len, N.len]; exact Nat.le_refl _)).mem_iff.mpr (mem_pts.mpr ⟨h1, by omega⟩ : x ∈ pts (2 * n))
  obtain ⟨c, hc, hm⟩ := List.mem_flatMap.mp this
  simp only [List.mem_cons, List.not_mem_nil, or_false] at hm
  exact ⟨c, hc, by omega⟩
/-- a chord between neighbours -/
theorem NC.near {n : Nat} {ps : List (Int × Int)} (N : NC n ps) : ∀ (m : Nat) (c : Int × Int), c ∈ ps → (c.2 - c.1).toNat ≤ m → ∃ t : Nat, ((t : Int) + 1, (t : Int) + 2) ∈ ps
  | 0, c, hc, hm => by have := N.inn c hc; omega
  | m + 1, c, hc, hm => by
    have ic := N.inn c hc
    by_cases e : c.2 = c.1 + 1
    · refine ⟨c.1.toNat - 1, ?_⟩
      rw [show (((c.1.toNat - 1 : Nat) : Int) + 1, ((c.1.toNat - 1 : Nat) : Int) + 2) = c from Prod.ext (by simp only; omega) (by simp only; omega)]
      exact hc
    · obtain ⟨d, hd, hx⟩ := N.cover (x := c.1 + 1) (by omega) (by omega)
      have id := N.inn d hd
      have ne : c ≠ d := fun z => by subst z; omega
      have ap := N.pw hc hd ne
      unfold apart at ap
      exact N.near m d hd (by omega)
theorem NC.hasW : ∀ {n : Nat} {ps : List (Int × Int)}, NC n ps → HasW n ps
  | 0, ps, N => by
    rw [List.length_eq_zero_iff.mp N.len]
    exact ⟨[], WD.none⟩
  | n + 1, ps, N => by
    obtain ⟨c0, hc0⟩ : ∃ c, c ∈ ps := by
      have := N.len
      cases ps with
      | nil => exact absurd this (by rw [List.length_nil]; omega)
      | cons c r => exact ⟨c, List.mem_cons_self⟩
    obtain ⟨t, ht⟩ := N.near _ c0 hc0 (Nat.le_refl _)
    have it := N.inn _ ht
    have pc := List.perm_cons_erase ht
    have N2 := N.perm pc.symm
    have ap2 := List.pairwise_cons.mp N2.ap
    have lt2 := N2.len
    have in2 := N2.inn
    generalize ps.erase ((t : Int) + 1, (t : Int) + 2) = qs at pc N2 ap2 lt2 in2
    let g : Int → Int := fun x => if (t : Int) < x then x - 2 else x
    have far : ∀ q ∈ qs, q.1 ≠ t + 1 ∧ q.1 ≠ t + 2 ∧ q.2 ≠ t + 1 ∧ q.2 ≠ t + 2 ∧ 1 ≤ q.1 ∧ q.1 < q.2 ∧ q.2 ≤ 2 * ((n + 1 : Nat) : Int) := fun q hq => by
      have a := ap2.1 q hq
      have b := in2 q (List.mem_cons_of_mem _ hq)
      unfold apart at a
      simp only at a
      omega
    have Ng : NC n (qs.map fun q => (g q.1, g q.2)) := by
      refine ⟨by rw [List.length_map]; rw [List.length_cons] at lt2; omega, fun p hp => ?_, ?_⟩
      · obtain ⟨q, hq, rfl⟩ := List.mem_map.mp hp
        have := far q hq
        show 1 ≤ g q.1 ∧ g q.1 < g q.2 ∧ g q.2 ≤ 2 * (n : Int)
        simp only [g]
        split <;> split <;> omega
      · rw [List.pairwise_map]
        refine ap2.2.imp_of_mem fun {a b} ha hb h => ?_
        have fa := far a ha
        have fb := far b hb
        unfold apart at h ⊢
        simp only [g]
        split <;> split <;> split <;> split <;> omega
    obtain ⟨w, W⟩ := Ng.hasW
    have hl : t ≤ w.length := by
      have := W.dy.len
      simp only at it
      omega
    have W2 := W.ins hl
    have e : (qs.map fun q => (g q.1, g q.2)).map (shp2 (t : Int)) = qs := by
      rw [List.map_map]
      have : ∀ q ∈ qs, (shp2 (t : Int) ∘ fun q => (g q.1, g q.2)) q = q := fun q hq => by
        have := far q hq
        refine Prod.ext ?_ ?_
        · show g q.1 + 2 * (if (t : Int) < g q.1 then 1 else 0) = q.1
          simp only [g]
          split <;> (try split) <;> omega
        · show g q.2 + 2 * (if (t : Int) < g q.2 then 1 else 0) = q.2
          simp only [g]
          split <;> (try split) <;> omega
      rw [List.map_congr_left (g := id) this, List.map_id]
    rw [e] at W2
    refine HasW.perm ⟨_, W2⟩ (pc.trans ?_)
    exact (List.perm_append_singleton _ _).symm
/-- the pairing of a word -/
theorem pl_of {m : Nat} {w : List Bool} (D : Dyck m w) : Pl (fun p => 1 ≤ p ∧ p ≤ ((2 * m : Nat) : Int)) (mtI w) := by
  have M := mt_ok D
  have N := D.dg.nc
  refine ⟨fun p h => M.inn p h.1 h.2, fun p h e => ?_, fun p h => M.inv p h.1 h.2, fun p q h k l1 l2 => ?_⟩
  · have := M.par p h.1 h.2
    omega
  · have c : (p, mtI w p) ∈ cds w := by
      rcases mt_mem D h.1 h.2 with c | c
      · exact c
      · have := (N.inn _ c).2.1
        simp only at this
        omega
    have ip := M.inv p h.1 h.2
    have iq := M.inv q k.1 k.2
    rcases mt_mem D k.1 k.2 with d | d
    · have ap := N.pw c d (fun z => by have := congrArg Prod.fst z; simp only at this; omega)
      have i := (N.inn _ d).2.1
      unfold apart at ap
      simp only at ap i
      omega
    · have ap := N.pw c d (fun z => by have := congrArg Prod.snd z; simp only at this; omega)
      have i := (N.inn _ d).2.1
      unfold apart at ap
      simp only at ap i
      omega
def chL (h : Int → Int) (m : Nat) : List (Int × Int) := ((pts (2 * m)).filter fun p => decide (p < h p)).map fun p => (p, h p)
theorem chL_mem {h : Int → Int} {m : Nat} {a b : Int} : (a, b) ∈ chL h m ↔ 1 ≤ a ∧ a ≤ ((2 * m : Nat) : Int) ∧ a < h a ∧ b = h a := by
  unfold chL
  rw [List.mem_map]
  constructor
  · rintro ⟨p, hp, e⟩
    cases e
    obtain ⟨h1, h2⟩ := List.mem_filter.mp hp
    have := mem_pts.mp h1
    rw [decide_eq_true_iff] at h2
    exact ⟨this.1, this.2, h2, rfl⟩
  · rintro ⟨h1, h2, h3, rfl⟩
    exact ⟨a, List.mem_filter.mpr ⟨mem_pts.mpr ⟨h1, h2⟩, decide_eq_true h3⟩, rfl⟩
theorem chL_dg {h : Int → Int} {m : Nat} (P : Pl (fun p => 1 ≤ p ∧ p ≤ ((2 * m : Nat) : Int)) h) : Dg m (chL h m) := by
  have asc : (chL h m).Pairwise fun p q => p.1 < q.1 := by
    unfold chL
    rw [List.pairwise_map]
    exact ((pts_asc _).filter _)
  refine ⟨⟨?_, fun p hp => ?_, ?_⟩, asc⟩
  · have nd : ((pts (2 * m)).filter fun p => decide (p < h p)).Nodup := (pts_nd _).filter _
    have fm : ∀ p ∈ (pts (2 * m)).filter fun p => decide (p < h p), (1 ≤ p ∧ p ≤ ((2 * m : Nat) : Int)) ∧ p < h p := fun p hp => by
      obtain ⟨h1, h2⟩ := List.mem_filter.mp hp
      rw [decide_eq_true_iff] at h2
      exact ⟨mem_pts.mp h1, h2⟩
    have hlen : (chL h m).length = ((pts (2 * m)).filter fun p => decide (p < h p)).length := List.length_map _
    generalize hL : (pts (2 * m)).filter (fun p => decide (p < h p)) = L at nd fm hlen
    have nd2 : (L ++ L.map h).Nodup := by
      refine List.nodup_append.mpr ⟨nd, ?_, ?_⟩
      · refine List.pairwise_map.mpr (nd.imp_of_mem fun {a b} ha hb ne e => ne ?_)
        rw [← P.inv a (fm a ha).1, e, P.inv b (fm b hb).1]
      · intro a ha b hb e
        subst e
        obtain ⟨c, hc, e⟩ := List.mem_map.mp hb
        have h1 := fm c hc
        have h2 := fm a ha
        rw [← e, P.inv c h1.1] at h2
        omega
    have pm := perm_sameN nd2 (m := pts (2 * m)) (fun x hx => by
      rcases List.mem_append.mp hx with hx | hx
      · exact mem_pts.mpr (fm x hx).1
      · obtain ⟨c, hc, rfl⟩ := List.mem_map.mp hx
        exact mem_pts.mpr (P.inn c (fm c hc).1)) ?_
    · have := pm.length_eq
      rw [List.length_append, List.length_map, pts_len] at this
      omega
    · have pm2 := perm_sameN (pts_nd (2 * m)) (m := L ++ L.map h) (fun x hx => by
        have ix := mem_pts.mp hx
        have ne := P.ne x ix
        by_cases c : x < h x
        · refine List.mem_append.mpr (.inl ?_)
          rw [← hL]
          exact List.mem_filter.mpr ⟨hx, decide_eq_true c⟩
        · refine List.mem_append.mpr (.inr (List.mem_map.mpr ⟨h x, ?_, P.inv x ix⟩))
          rw [← hL]
          refine List.mem_filter.mpr ⟨mem_pts.mpr (P.inn x ix), decide_eq_true ?_⟩
          rw [P.inv x ix]
          omega)
      have : ∀ l : List Int, l.Nodup → (∀ x ∈ l, x ∈ pts (2 * m)) → l.length ≤ (pts (2 * m)).length := fun l hl hs => by
        refine inj_len (fun a b => a = b) l _ hl (fun a ha => ⟨a, hs a ha, rfl⟩) fun a _ a' _ b _ e e' => e.trans e'.symm
      have h3 : (pts (2 * m)).length ≤ (L ++ L.map h).length := by
        refine inj_len (fun a b => a = b) _ _ (pts_nd _) (fun x hx => ⟨x, ?_, rfl⟩) fun a _ a' _ b _ e e' => e.trans e'.symm
        have ix := mem_pts.mp hx
        have ne := P.ne x ix
        by_cases c : x < h x
        · refine List.mem_append.mpr (.inl ?_)
          rw [← hL]
          exact List.mem_filter.mpr ⟨hx, decide_eq_true c⟩
        · refine List.mem_append.mpr (.inr (List.mem_map.mpr ⟨h x, ?_, P.inv x ix⟩))
          rw [← hL]
          refine List.mem_filter.mpr ⟨mem_pts.mpr (P.inn x ix), decide_eq_true ?_⟩
          rw [P.inv x ix]
          omega
      exact h3
  · obtain ⟨a, b⟩ := p
    obtain ⟨h1, h2, h3, rfl⟩ := chL_mem.mp hp
    have := P.inn a ⟨h1, h2⟩
    simp only
    omega
  · refine asc.imp_of_mem fun {p q} hp hq lt => ?_
    obtain ⟨a, b⟩ := p
    obtain ⟨c, d⟩ := q
    obtain ⟨h1, h2, h3, rfl⟩ := chL_mem.mp hp
    obtain ⟨k1, k2, k3, rfl⟩ := chL_mem.mp hq
    simp only at lt
    unfold apart
    simp only
    by_cases e : c < h a
    · have := P.nc a c ⟨h1, h2⟩ ⟨k1, k2⟩ lt e
      omega
    · have : c ≠ h a := fun z => by
        have := P.inv a ⟨h1, h2⟩
        rw [← z] at this
        omega
      omega
/-- its word -/
theorem chL_word {h : Int → Int} {m : Nat} (P : Pl (fun p => 1 ≤ p ∧ p ≤ ((2 * m : Nat) : Int)) h) : ∃ u, Dyck m u ∧ cds u = chL h m ∧ ∀ p, 1 ≤ p → p ≤ ((2 * m : Nat) : Int) → mtI u p = h p := by
  have D := chL_dg P
  obtain ⟨u, W⟩ := D.nc.hasW
  have e := W.eq D.le
  refine ⟨u, W.dy, e.symm, fun p h1 h2 => mt_uniq W.dy ?_⟩
  rw [← e]
  have ne := P.ne p ⟨h1, h2⟩
  have ip := P.inv p ⟨h1, h2⟩
  have inn := P.inn p ⟨h1, h2⟩
  by_cases c : p < h p
  · exact .inl (chL_mem.mpr ⟨h1, h2, c, rfl⟩)
  · exact .inr (chL_mem.mpr ⟨inn.1, inn.2, by rw [ip]; omega, ip.symm⟩)
section
variable {N : Nat} {f g : Int → Int}
theorem Rgs.same {i : Nat} {L : List (List Int)} (R : Rgs N f g i L) {a b : List Int} (ha : a ∈ L) (hb : b ∈ L) {y : Int} (h : y ∈ a) (k : y ∈ b) : a = b :=
  Classical.byContradiction fun ne => pw_mem (R := fun a b : List Int => ∀ y ∈ a, y ∉ b) (fun _ _ h y hb ha => h y ha hb) R.dj ha hb ne y h k
/-- a loop begins at its least point -/
theorem rgs_min (F : Mt N f) (G : Mt N g) : ∀ i, i ≤ N → ∀ r ∈ rgs f g i, ∃ s : Int, 1 ≤ s ∧ s ≤ N ∧ r = ring f g s ∧ ∀ y ∈ r, s ≤ y
  | 0, _, r, h => nomatch h
  | i + 1, hi, r, h => by
    have R := rgs_ok F G i (by omega)
    unfold rgs at h
    split at h
    · exact rgs_min F G i (by omega) r h
    · rename_i nc
      rcases List.mem_append.mp h with h | h
      · exact rgs_min F G i (by omega) r h
      · rw [List.mem_singleton.mp h]
        have s1 : 1 ≤ ((i : Int) + 1) := by omega
        have s2 : ((i : Int) + 1) ≤ (N : Int) := by omega
        refine ⟨(i : Int) + 1, s1, s2, rfl, fun y hy => Classical.byContradiction fun z => nc ?_⟩
        have iy := ring_in F G s1 s2 hy
        obtain ⟨r0, h0, hy0⟩ := List.mem_flatten.mp (R.cov y iy.1 (by omega))
        obtain ⟨t, t1, t2, rfl⟩ := R.ok r0 h0
        refine List.mem_flatten.mpr ⟨_, h0, ?_⟩
        exact ring_back F G s1 s2 (C := fun p => p ∈ ring f g t) (fun p _ _ c => ring_f F G t1 t2 c) (fun p _ _ c => ring_g F G t1 t2 c) hy hy0
theorem ring_head (F : Mt N f) (G : Mt N g) {s : Int} (h1 : 1 ≤ s) (h2 : s ≤ N) : (ring f g s).head? = some s := by
  obtain ⟨p1, _⟩ := per_spec F G h1 h2
  unfold ring
  obtain ⟨k, hk⟩ : ∃ k, per f g s = k + 1 := ⟨per f g s - 1, by omega⟩
  rw [hk]
  have : ∀ k, (rg f g s (k + 1)).head? = some s := fun k => by
    induction k with
    | zero => rfl
    | succ k ih =>
      show (rg f g s (k + 1) ++ _).head? = _
      rw [List.head?_append, ih]; rfl
  exact this k
/-- what is closed under both and meets a loop holds all of it -/
theorem ring_all (F : Mt N f) (G : Mt N g) {L : List (List Int)} {i : Nat} (R : Rgs N f g i L) {r : List Int} (hr : r ∈ L) {C : Int → Prop} (cf : ∀ p : Int, 1 ≤ p → p ≤ N → C p → C (f p)) (cg : ∀ p : Int, 1 ≤ p → p ≤ N → C p → C (g p)) {y z : Int} (hy : y ∈ r) (hc : C y) (hz : z ∈ r) : C z := by
  obtain ⟨s, s1, s2, rfl⟩ := R.ok r hr
  exact ring_fwd F G s1 s2 cf cg (ring_back F G s1 s2 cf cg hy hc) hz
theorem Rgs.f_in (F : Mt N f) (G : Mt N g) {L : List (List Int)} {i : Nat} (R : Rgs N f g i L) {r : List Int} (hr : r ∈ L) {y : Int} (hy : y ∈ r) : f y ∈ r ∧ g y ∈ r ∧ 1 ≤ y ∧ y ≤ N := by
  obtain ⟨s, s1, s2, rfl⟩ := R.ok r hr
  exact ⟨ring_f F G s1 s2 hy, ring_g F G s1 s2 hy, ring_in F G s1 s2 hy⟩
theorem Rgs.has (F : Mt N f) (G : Mt N g) {L : List (List Int)} {i : Nat} (R : Rgs N f g i L) {r : List Int} (hr : r ∈ L) : ∃ y, y ∈ r := by
  obtain ⟨s, s1, s2, rfl⟩ := R.ok r hr
  exact ⟨s, ring_start F G s1 s2⟩
theorem Rgs.at (F : Mt N f) (G : Mt N g) {L : List (List Int)} (R : Rgs N f g N L) {y : Int} (h1 : 1 ≤ y) (h2 : y ≤ N) : ∃ r ∈ L, y ∈ r := by
  obtain ⟨r, hr, hy⟩ := List.mem_flatten.mp (R.cov y h1 h2)
  exact ⟨r, hr, hy⟩
end
/-! two pairings one behind the other, and one half laid over the other -/
section
variable {n : Nat} {F G f g : Int → Int}
theorem fold_count (MF : Mt (4 * n) F) (MG : Mt (4 * n) G) (Mf : Mt (2 * n) f) (Mg : Mt (2 * n) g) (eG : ∀ p, 1 ≤ p → p ≤ 4 * (n : Int) → G p = 4 * (n : Int) + 1 - p)
    (ef : ∀ p, 1 ≤ p → p ≤ 2 * (n : Int) → F p = f p) (eg : ∀ p, 1 ≤ p → p ≤ 2 * (n : Int) → F (4 * (n : Int) + 1 - p) = 4 * (n : Int) + 1 - g p) : (rgs F G (4 * n)).length = (rgs f g (2 * n)).length := by
  have R := rgs_ok MF MG (4 * n) (Nat.le_refl _)
  have S := rgs_ok Mf Mg (2 * n) (Nat.le_refl _)
  refine Nat.le_antisymm ?_ ?_
  · refine inj_len (fun r s => ∃ y, 1 ≤ y ∧ y ≤ 2 * (n : Int) ∧ y ∈ r ∧ y ∈ s) _ _ (R.nd MF MG) (fun r hr => ?_) fun r hr r' hr' s hs h h' => ?_
    · obtain ⟨y, hy⟩ := R.has MF MG hr
      obtain ⟨a1, a2, a3, a4⟩ := R.f_in MF MG hr hy
      have e := eG y a3 (by omega)
      by_cases c : y ≤ 2 * (n : Int)
      · obtain ⟨s, hs, hy2⟩ := S.at Mf Mg a3 (by omega)
        exact ⟨s, hs, y, a3, c, hy, hy2⟩
      · rw [e] at a2
        obtain ⟨s, hs, hy2⟩ := S.at Mf Mg (y := 4 * (n : Int) + 1 - y) (by omega) (by omega)
        exact ⟨s, hs, _, by omega, by omega, a2, hy2⟩
    · obtain ⟨y, y1, y2, hy, ys⟩ := h
      obtain ⟨z, z1, z2, hz, zs⟩ := h'
      have key : z ∈ r := by
        refine ring_all Mf Mg S hs (C := fun p => p ∈ r) (fun p p1 p2 c => ?_) (fun p p1 p2 c => ?_) ys hy zs
        · rw [← ef p p1 (by omega)]
          exact (R.f_in MF MG hr c).1
        · have c1 := (R.f_in MF MG hr c).2.1
          rw [eG p p1 (by omega)] at c1
          have c2 := (R.f_in MF MG hr c1).1
          rw [eg p p1 (by omega)] at c2
          have i := Mg.inn p p1 p2
          have c3 := (R.f_in MF MG hr c2).2.1
          rw [eG _ (by omega) (by omega)] at c3
          rw [show g p = 4 * (n : Int) + 1 - (4 * (n : Int) + 1 - g p) by omega]
          exact c3
      exact R.same hr hr' key hz
  · refine inj_len (fun s r => ∃ y, 1 ≤ y ∧ y ≤ 2 * (n : Int) ∧ y ∈ r ∧ y ∈ s) _ _ (S.nd Mf Mg) (fun s hs => ?_) fun s hs s' hs' r hr h h' => ?_
    · obtain ⟨y, hy⟩ := S.has Mf Mg hs
      obtain ⟨a1, a2, a3, a4⟩ := S.f_in Mf Mg hs hy
      obtain ⟨r, hr, hy2⟩ := R.at MF MG a3 (by omega)
      exact ⟨r, hr, y, a3, by omega, hy2, hy⟩
    · obtain ⟨y, y1, y2, hy, ys⟩ := h
      obtain ⟨z, z1, z2, hz, zs⟩ := h'
      have key : (z ≤ 2 * (n : Int) ∧ z ∈ s) ∨ (2 * (n : Int) < z ∧ 4 * (n : Int) + 1 - z ∈ s) := by
        refine ring_all MF MG R hr (C := fun z => (z ≤ 2 * (n : Int) ∧ z ∈ s) ∨ (2 * (n : Int) < z ∧ 4 * (n : Int) + 1 - z ∈ s)) (fun p p1 p2 c => ?_) (fun p p1 p2 c => ?_) hy (.inl ⟨y2, ys⟩) hz
        · rcases c with ⟨c1, c2⟩ | ⟨c1, c2⟩
          · have i := Mf.inn p p1 (by omega)
            rw [ef p p1 c1]
            exact .inl ⟨by omega, (S.f_in Mf Mg hs c2).1⟩
          · have e := eg (4 * (n : Int) + 1 - p) (by omega) (by omega)
            rw [show 4 * (n : Int) + 1 - (4 * (n : Int) + 1 - p) = p by omega] at e
            have i := Mg.inn (4 * (n : Int) + 1 - p) (by omega) (by omega)
            rw [e]
            refine .inr ⟨by omega, ?_⟩
            rw [show 4 * (n : Int) + 1 - (4 * (n : Int) + 1 - g (4 * (n : Int) + 1 - p)) = g (4 * (n : Int) + 1 - p) by omega]
            exact (S.f_in Mf Mg hs c2).2.1
        · rw [eG p p1 (by omega)]
          rcases c with ⟨c1, c2⟩ | ⟨c1, c2⟩
          · refine .inr ⟨by omega, ?_⟩
            rw [show 4 * (n : Int) + 1 - (4 * (n : Int) + 1 - p) = p by omega]
            exact c2
          · exact .inl ⟨by omega, c2⟩
      rcases key with ⟨_, k⟩ | ⟨k, _⟩
      · exact S.same hs hs' k zs
      · omega
def uc (n : Nat) (p : Int) : Int := if p ≤ (n : Int) then p else p + 2 * (n : Int)
def cu (n : Nat) (p : Int) : Int := if p ≤ (n : Int) then p else p - 2 * (n : Int)
def stk (n : Nat) (F : Int → Int) (p : Int) : Int := cu n (fk n F n (uc n p))
theorem uc_so {p : Int} (h1 : 1 ≤ p) (h2 : p ≤ 2 * (n : Int)) : SO n n (uc n p) ∧ cu n (uc n p) = p := by
  unfold uc cu SO
  split <;> (try split) <;> omega
theorem cu_in {p : Int} (h : SO n n p) : 1 ≤ cu n p ∧ cu n p ≤ 2 * (n : Int) ∧ uc n (cu n p) = p := by
  unfold SO at h
  unfold uc cu
  split <;> (try split) <;> omega
theorem uc_lt {p q : Int} (h : p < q) : uc n p < uc n q := by unfold uc; split <;> split <;> omega
theorem stk_pl (P : Pl (SO n 0) F) : Pl (fun p => 1 ≤ p ∧ p ≤ ((2 * n : Nat) : Int)) (stk n F) := by
  have Pn := fk_pl P n (Nat.le_refl _)
  have e : ∀ p, 1 ≤ p → p ≤ ((2 * n : Nat) : Int) → uc n (stk n F p) = fk n F n (uc n p) ∧ 1 ≤ stk n F p ∧ stk n F p ≤ 2 * (n : Int) := fun p h1 h2 => by
    have := cu_in (Pn.inn _ (uc_so h1 (by omega)).1)
    exact ⟨this.2.2, this.1, this.2.1⟩
  refine ⟨fun p ⟨h1, h2⟩ => ?_, fun p ⟨h1, h2⟩ z => ?_, fun p ⟨h1, h2⟩ => ?_, fun p q ⟨h1, h2⟩ ⟨k1, k2⟩ l1 l2 => ?_⟩
  · have := e p h1 h2
    omega
  · have := (e p h1 h2).1
    rw [z] at this
    exact Pn.ne _ (uc_so h1 (by omega)).1 this.symm
  · have := (e p h1 h2).1
    show cu n (fk n F n (uc n (stk n F p))) = p
    rw [this, Pn.inv _ (uc_so h1 (by omega)).1]
    exact (uc_so h1 (by omega)).2
  · obtain ⟨ep, ep1, ep2⟩ := e p h1 h2
    obtain ⟨eq, eq1, eq2⟩ := e q k1 k2
    have w := Pn.nc _ _ (uc_so h1 (by omega)).1 (uc_so k1 (by omega)).1 (uc_lt (n := n) l1) (by rw [← ep]; exact uc_lt l2)
    rw [← ep, ← eq] at w
    constructor
    · refine Classical.byContradiction fun z => ?_
      rcases Int.lt_or_eq_of_le (Int.not_lt.mp z) with z | z
      · have := uc_lt (n := n) z; omega
      · rw [z] at w; omega
    · refine Classical.byContradiction fun z => ?_
      rcases Int.lt_or_eq_of_le (Int.not_lt.mp z) with z | z
      · have := uc_lt (n := n) z; omega
      · rw [z] at w; omega
/-- the loops that touch the outer points are those of the stacked diagram's closure -/
theorem outer_count (MF : Mt (4 * n) F) (MG : Mt (4 * n) G) (Mf : Mt (2 * n) f) (Mg : Mt (2 * n) g) (P : Pl (SO n 0) F) (eG : ∀ p, 1 ≤ p → p ≤ 4 * (n : Int) → G p = 4 * (n : Int) + 1 - p)
    (ef : ∀ p, 1 ≤ p → p ≤ 2 * (n : Int) → f p = stk n F p) (eg : ∀ p, 1 ≤ p → p ≤ 2 * (n : Int) → g p = 2 * (n : Int) + 1 - p) :
    ((rgs F G (4 * n)).filter fun r => decide (r.headD 0 ≤ (n : Int))).length = (rgs f g (2 * n)).length := by
  have R := rgs_ok MF MG (4 * n) (Nat.le_refl _)
  have S := rgs_ok Mf Mg (2 * n) (Nat.le_refl _)
  have Pn := fk_pl P n (Nat.le_refl _)
  have so0 : ∀ p, SO n 0 p ↔ 1 ≤ p ∧ p ≤ 4 * (n : Int) := fun p => by unfold SO; omega
  have son : ∀ p, SO n n p → SO n 0 p := fun p => by unfold SO; omega
  -- a loop's head is small iff it has an outer point
  have hd : ∀ r ∈ rgs F G (4 * n), r.headD 0 ∈ r ∧ 1 ≤ r.headD 0 ∧ ∀ y ∈ r, r.headD 0 ≤ y := fun r hr => by
    obtain ⟨s, s1, s2, rfl, hm⟩ := rgs_min MF MG (4 * n) (Nat.le_refl _) r hr
    have e : (ring F G s).headD 0 = s := by rw [List.headD_eq_head?_getD, ring_head MF MG s1 s2]; rfl
    rw [e]
    exact ⟨ring_start MF MG s1 s2, s1, hm⟩
  have wkin : ∀ p, SO n 0 p → ∀ j, SO n 0 (wk n F p j) := fun p hp j => by
    induction j with
    | zero => exact P.inn p hp
    | succ j ih => exact P.inn _ ((so0 _).mpr (by have := (so0 _).mp ih; omega))
  have wkr : ∀ r ∈ rgs F G (4 * n), ∀ p, p ∈ r → SO n 0 p → ∀ j, wk n F p j ∈ r := fun r hr p hp sp j => by
    induction j with
    | zero => exact (R.f_in MF MG hr hp).1
    | succ j ih =>
      have c := (R.f_in MF MG hr ih).2.1
      have i := (so0 _).mp (wkin p sp j)
      rw [eG _ i.1 i.2] at c
      exact (R.f_in MF MG hr c).1
  have fkr : ∀ r ∈ rgs F G (4 * n), ∀ p, p ∈ r → SO n n p → fk n F n p ∈ r := fun r hr p hp sp => by
    obtain ⟨j, e, _⟩ := wk_reach P n (Nat.le_refl _) p sp
    rw [← e]
    exact wkr r hr p hp (son p sp) j
  refine Nat.le_antisymm ?_ ?_
  · refine inj_len (fun r s => ∃ y, 1 ≤ y ∧ y ≤ 2 * (n : Int) ∧ uc n y ∈ r ∧ y ∈ s) _ _ ((R.nd MF MG).filter _) (fun r hr => ?_) fun r hr r' hr' s hs h h' => ?_
    · obtain ⟨hr1, hr2⟩ := List.mem_filter.mp hr
      rw [decide_eq_true_iff] at hr2
      obtain ⟨a1, a2, _⟩ := hd r hr1
      generalize r.headD 0 = y at hr2 a1 a2
      obtain ⟨s, hs, hy⟩ := S.at Mf Mg (y := y) a2 (by omega)
      refine ⟨s, hs, y, a2, by omega, ?_, hy⟩
      unfold uc
      rw [if_pos hr2]
      exact a1
    · obtain ⟨hr1, _⟩ := List.mem_filter.mp hr
      obtain ⟨hr1', _⟩ := List.mem_filter.mp hr'
      obtain ⟨y, y1, y2, hy, ys⟩ := h
      obtain ⟨z, z1, z2, hz, zs⟩ := h'
      have key : uc n z ∈ r := by
        refine ring_all Mf Mg S hs (C := fun p => uc n p ∈ r) (fun p p1 p2 c => ?_) (fun p p1 p2 c => ?_) ys hy zs
        · have u := uc_so p1 (show p ≤ 2 * (n : Int) by omega)
          show uc n (f p) ∈ r
          rw [ef p p1 (by omega)]
          have := (cu_in (Pn.inn _ u.1)).2.2
          unfold stk
          rw [this]
          exact fkr r hr1 _ c u.1
        · have c1 := (R.f_in MF MG hr1 c).2.1
          show uc n (g p) ∈ r
          rw [eg p p1 (by omega)]
          have u := uc_so p1 (show p ≤ 2 * (n : Int) by omega)
          have u2 := (so0 _).mp (son _ u.1)
          rw [eG _ u2.1 u2.2] at c1
          have e : uc n (2 * (n : Int) + 1 - p) = 4 * (n : Int) + 1 - uc n p := by unfold uc; split <;> split <;> omega
          rw [e]
          exact c1
      exact R.same hr1 hr1' key hz
  · refine inj_len (fun s r => ∃ y, 1 ≤ y ∧ y ≤ 2 * (n : Int) ∧ uc n y ∈ r ∧ y ∈ s) _ _ (S.nd Mf Mg) (fun s hs => ?_) fun s hs s' hs' r hr h h' => ?_
    · obtain ⟨y, hy⟩ := S.has Mf Mg hs
      obtain ⟨a1, a2, a3, a4⟩ := S.f_in Mf Mg hs hy
      have u := uc_so a3 (show y ≤ 2 * (n : Int) by omega)
      have u2 := (so0 _).mp (son _ u.1)
      obtain ⟨r, hr, hy2⟩ := R.at MF MG u2.1 (by omega)
      refine ⟨r, List.mem_filter.mpr ⟨hr, decide_eq_true ?_⟩, y, a3, by omega, hy2, hy⟩
      obtain ⟨_, _, hm⟩ := hd r hr
      have m1 := hm _ hy2
      have m2 := hm _ (R.f_in MF MG hr hy2).2.1
      rw [eG _ u2.1 u2.2] at m2
      have := u.1
      unfold SO at this
      omega
    · obtain ⟨hr1, _⟩ := List.mem_filter.mp hr
      obtain ⟨y, y1, y2, hy, ys⟩ := h
      obtain ⟨z, z1, z2, hz, zs⟩ := h'
      -- on the strands that the loop s runs along
      have key : ∃ v ∈ s, 1 ≤ v ∧ v ≤ 2 * (n : Int) ∧ ∃ j, wk n F (uc n v) j = fk n F n (uc n v) ∧ (∀ i, i < j → ¬ SO n n (wk n F (uc n v) i)) ∧ (uc n z = uc n v ∨ ∃ i, i ≤ j ∧ (uc n z = wk n F (uc n v) i ∨ (i < j ∧ uc n z = 4 * (n : Int) + 1 - wk n F (uc n v) i))) := by
        refine ring_all MF MG R hr1 (C := fun z => ∃ v ∈ s, 1 ≤ v ∧ v ≤ 2 * (n : Int) ∧ ∃ j, wk n F (uc n v) j = fk n F n (uc n v) ∧ (∀ i, i < j → ¬ SO n n (wk n F (uc n v) i)) ∧ (z = uc n v ∨ ∃ i, i ≤ j ∧ (z = wk n F (uc n v) i ∨ (i < j ∧ z = 4 * (n : Int) + 1 - wk n F (uc n v) i)))) (fun p p1 p2 c => ?_) (fun p p1 p2 c => ?_) hy ?_ hz
        · obtain ⟨v, hv, v1, v2, j, e, hj, c⟩ := c
          have sv := (uc_so v1 v2).1
          have wi := wkin _ (son _ sv)
          refine ⟨v, hv, v1, v2, j, e, hj, ?_⟩
          rcases c with rfl | ⟨i, hi, rfl | ⟨hi2, rfl⟩⟩
          · exact .inr ⟨0, by omega, .inl rfl⟩
          · cases i with
            | zero =>
              left
              exact P.inv _ (son _ sv)
            | succ i =>
              right
              have w := (so0 _).mp (wi i)
              exact ⟨i, by omega, .inr ⟨by omega, P.inv _ ((so0 _).mpr (by omega))⟩⟩
          · exact .inr ⟨i + 1, by omega, .inl rfl⟩
        · have e0 := eG p p1 (by omega)
          rw [e0]
          obtain ⟨v, hv, v1, v2, j, e, hj, c⟩ := c
          have sv := (uc_so v1 v2).1
          have wi := wkin _ (son _ sv)
          have tr : ∀ v' : Int, v' ∈ s → 1 ≤ v' → v' ≤ 2 * (n : Int) → ∃ v ∈ s, 1 ≤ v ∧ v ≤ 2 * (n : Int) ∧ ∃ j, wk n F (uc n v) j = fk n F n (uc n v) ∧ (∀ i, i < j → ¬ SO n n (wk n F (uc n v) i)) ∧ (uc n v' = uc n v ∨ ∃ i, i ≤ j ∧ (uc n v' = wk n F (uc n v) i ∨ (i < j ∧ uc n v' = 4 * (n : Int) + 1 - wk n F (uc n v) i))) := fun v' h1 h2 h3 => by
            obtain ⟨j, e, hj⟩ := wk_reach P n (Nat.le_refl _) _ (uc_so h2 h3).1
            exact ⟨v', h1, h2, h3, j, e, hj, .inl rfl⟩
          have gv : ∀ v' : Int, v' ∈ s → 1 ≤ v' → v' ≤ 2 * (n : Int) → 2 * (n : Int) + 1 - v' ∈ s := fun v' h1 h2 h3 => by
            have := (S.f_in Mf Mg hs h1).2.1
            rw [eg v' h2 h3] at this
            exact this
          have un : ∀ v' : Int, 4 * (n : Int) + 1 - uc n v' = uc n (2 * (n : Int) + 1 - v') := fun v' => by unfold uc; split <;> split <;> omega
          rcases c with rfl | ⟨i, hi, rfl | ⟨hi2, rfl⟩⟩
          · rw [un]
            exact tr _ (gv v hv v1 v2) (by omega) (by omega)
          · rcases Nat.lt_or_ge i j with q | q
            · exact ⟨v, hv, v1, v2, j, e, hj, .inr ⟨i, by omega, .inr ⟨q, rfl⟩⟩⟩
            · have : i = j := by omega
              subst this
              have ci := cu_in (Pn.inn _ sv)
              have fv : cu n (fk n F n (uc n v)) ∈ s := by
                have := (S.f_in Mf Mg hs hv).1
                rw [ef v v1 v2] at this
                exact this
              rw [e, ← ci.2.2, un]
              exact tr _ (gv _ fv ci.1 ci.2.1) (by omega) (by omega)
          · refine ⟨v, hv, v1, v2, j, e, hj, .inr ⟨i, by omega, .inl (by omega)⟩⟩
        · obtain ⟨j, e, hj⟩ := wk_reach P n (Nat.le_refl _) _ (uc_so y1 y2).1
          exact ⟨y, ys, y1, y2, j, e, hj, .inl rfl⟩
      obtain ⟨v, hv, v1, v2, j, e, hj, c⟩ := key
      have sz := uc_so z1 z2
      have sv := uc_so v1 v2
      have hzs : z ∈ s := by
        rcases c with c | ⟨i, hi, c | ⟨hi2, c⟩⟩
        · have : z = v := by rw [← sz.2, c, sv.2]
          rw [this]; exact hv
        · rcases Nat.lt_or_ge i j with q | q
          · exact absurd (c ▸ sz.1) (hj i q)
          · have : i = j := by omega
            subst this
            have fv := (S.f_in Mf Mg hs hv).1
            rw [ef v v1 v2] at fv
            have : stk n F v = z := by
              unfold stk
              rw [← e, ← c, sz.2]
            rw [← this]; exact fv
        · have := hj i hi2
          have h1 := sz.1
          have h2 := (so0 _).mp (wkin _ (son _ sv.1) i)
          exact absurd (show SO n n (wk n F (uc n v) i) by rw [c] at h1; unfold SO at h1 ⊢; omega) this
      exact S.same hs hs' hzs zs
end
/-! len of a dict that stays -/
def gLenD : GL := fun ds Q => match ds with
  | [.dict kvs] => Q (.d (.int kvs.length))
  | _ => False
theorem dvp_len {K : Fg} {H : Hp} : ∀ {kvs : List (PyData × PyData)} {ws : List (Key × V)}, DvP K H kvs ws → ws.length = kvs.length
  | [], ws, h => by have e : ws = [] := h; rw [e]; rfl
  | (k, d) :: r, ws, h => by
    obtain ⟨key, y, ys, rfl, _, _, h2⟩ := h
    rw [List.length_cons, List.length_cons, dvp_len h2]
theorem cll_lenD {K : Fg} : ClL K (fun xs H Q => ∃ a kvs, xs = [V.ref a] ∧ H a = some (.dK kvs) ∧ Q (.int kvs.length) H) gLenD := fun O H ds xs Qd Q hd hx q k => by
  unfold gLenD at q
  split at q
  · obtain ⟨v, ws, e1, h1, h2⟩ := hx
    obtain ⟨a, ys, e2, g1, g2⟩ := h1
    have e3 : ws = [] := h2
    exact ⟨a, ys, by rw [e1, e2, e3], (Hs_out g1).1, by rw [dvp_len g2]; exact k _ _ H (Out.sc (d := .int _) rfl) q⟩
  · exact q.elim
/-! the words of these diagrams -/
/-- nested chords -/
def nst (m : Nat) : List (Int × Int) := (pts m).map fun p => (p, 2 * (m : Int) + 1 - p)
theorem nst_word (m : Nat) : ∃ v, Dyck m v ∧ cds v = nst m ∧ ∀ p, 1 ≤ p → p ≤ 2 * (m : Int) → mtI v p = 2 * (m : Int) + 1 - p := by
  have asc : (nst m).Pairwise fun p q => p.1 < q.1 := by
    unfold nst
    rw [List.pairwise_map]
    exact pts_asc m
  have mem : ∀ c ∈ nst m, 1 ≤ c.1 ∧ c.1 ≤ (m : Int) ∧ c.2 = 2 * (m : Int) + 1 - c.1 := fun c hc => by
    obtain ⟨p, hp, rfl⟩ := List.mem_map.mp hc
    have := mem_pts.mp hp
    exact ⟨this.1, this.2, rfl⟩
  have N : NC m (nst m) := by
    refine ⟨by unfold nst; rw [List.length_map, pts_len], fun c hc => ?_, ?_⟩
    · have := mem c hc; omega
    · refine asc.imp_of_mem fun {p q} hp hq lt => ?_
      have := mem p hp
      have := mem q hq
      unfold apart
      omega
  have D : Dg m (nst m) := ⟨N, asc⟩
  obtain ⟨v, W⟩ := N.hasW
  have e := W.eq D.le
  refine ⟨v, W.dy, e.symm, fun p h1 h2 => mt_uniq W.dy ?_⟩
  rw [← e]
  by_cases c : p ≤ (m : Int)
  · exact .inl (List.mem_map.mpr ⟨p, mem_pts.mpr ⟨h1, c⟩, rfl⟩)
  · refine .inr (List.mem_map.mpr ⟨2 * (m : Int) + 1 - p, mem_pts.mpr ⟨by omega, by omega⟩, ?_⟩)
    exact Prod.ext rfl (by simp only; omega)
/-- one diagram behind the other -/
noncomputable def bth (n : Nat) (a b : List Bool) : List (Int × Int) := cds a ++ (cds b).map fun p => (p.1 + 2 * (n : Int), p.2 + 2 * (n : Int))
theorem bth_word {n : Nat} {a b : List Bool} (A : Dyck n a) (B : Dyck n b) : ∃ W, Dyck (2 * n) W ∧ cds W = bth n a b ∧ (∀ p, 1 ≤ p → p ≤ 2 * (n : Int) → mtI W p = mtI a p) ∧ (∀ p, 1 ≤ p → p ≤ 2 * (n : Int) → mtI W (p + 2 * (n : Int)) = mtI b p + 2 * (n : Int)) := by
  have NA := A.dg
  have NB := B.dg
  have memb : ∀ c ∈ (cds b).map (fun p => (p.1 + 2 * (n : Int), p.2 + 2 * (n : Int))), ∃ q ∈ cds b, c = (q.1 + 2 * (n : Int), q.2 + 2 * (n : Int)) := fun c hc => by
    obtain ⟨q, hq, rfl⟩ := List.mem_map.mp hc
    exact ⟨q, hq, rfl⟩
  have asc : (bth n a b).Pairwise fun p q => p.1 < q.1 := by
    unfold bth
    refine List.pairwise_append.mpr ⟨NA.asc, ?_, fun p hp q hq => ?_⟩
    · rw [List.pairwise_map]
      exact NB.asc.imp fun h => by simp only; omega
    · obtain ⟨r, hr, rfl⟩ := memb q hq
      have := NA.nc.inn p hp
      have := NB.nc.inn r hr
      simp only
      omega
  have N : NC (2 * n) (bth n a b) := by
    refine ⟨?_, fun c hc => ?_, ?_⟩
    · unfold bth
      rw [List.length_append, List.length_map, NA.nc.len, NB.nc.len]
      omega
    · rcases List.mem_append.mp hc with hc | hc
      · have := NA.nc.inn c hc; omega
      · obtain ⟨r, hr, rfl⟩ := memb c hc
        have := NB.nc.inn r hr
        simp only
        omega
    · unfold bth
      refine List.pairwise_append.mpr ⟨NA.nc.ap, ?_, fun p hp q hq => ?_⟩
      · rw [List.pairwise_map]
        exact NB.nc.ap.imp fun h => by unfold apart at h ⊢; simp only; omega
      · obtain ⟨r, hr, rfl⟩ := memb q hq
        have := NA.nc.inn p hp
        have := NB.nc.inn r hr
        unfold apart
        simp only
        omega
  have D : Dg (2 * n) (bth n a b) := ⟨N, asc⟩
  obtain ⟨w, W⟩ := N.hasW
  have e := W.eq D.le
  refine ⟨w, W.dy, e.symm, fun p h1 h2 => mt_uniq W.dy ?_, fun p h1 h2 => mt_uniq W.dy ?_⟩
  · rw [← e]
    rcases mt_mem A h1 (by omega) with h | h
    · exact .inl (List.mem_append.mpr (.inl h))
    · exact .inr (List.mem_append.mpr (.inl h))
  · rw [← e]
    rcases mt_mem B h1 (by omega) with h | h
    · exact .inl (List.mem_append.mpr (.inr (List.mem_map.mpr ⟨_, h, rfl⟩)))
    · exact .inr (List.mem_append.mpr (.inr (List.mem_map.mpr ⟨_, h, rfl⟩)))
theorem so_zero {n : Nat} {p : Int} : (1 ≤ p ∧ p ≤ ((2 * (2 * n) : Nat) : Int)) ↔ SO n 0 p := by unfold SO; omega
theorem pl_so {n : Nat} {W : List Bool} (D : Dyck (2 * n) W) : Pl (SO n 0) (mtI W) := (pl_of D).congr fun _ => so_zero
/-- the outer points -/
theorem outer_pts (n : Nat) : pts n ++ (pts n).map (fun p => p + 3 * (n : Int)) = (pts (2 * n)).map (uc n) := by
  unfold pts
  rw [show 2 * n = n + n by omega, List.range_add, List.map_append, List.map_append, List.map_map, List.map_map, List.map_map, List.map_map]
  congr 1
  · refine List.map_congr_left fun k hk => ?_
    have := List.mem_range.mp hk
    show (k : Int) + 1 = uc n ((k : Int) + 1)
    unfold uc
    rw [if_pos (by omega)]
  · refine List.map_congr_left fun k hk => ?_
    show (k : Int) + 1 + 3 * (n : Int) = uc n (((n + k : Nat) : Int) + 1)
    unfold uc
    rw [if_neg (by omega)]
    omega
theorem fold_all {n : Nat} {W : List Bool} (D : Dyck (2 * n) W) : ∃ u, Dyck n u ∧ cds u = chL (stk n (mtI W)) n ∧ ∀ p, 1 ≤ p → p ≤ 2 * (n : Int) → mtI u p = stk n (mtI W) p := by
  obtain ⟨u, h1, h2, h3⟩ := chL_word (stk_pl (pl_so D))
  exact ⟨u, h1, h2, fun p p1 p2 => h3 p p1 (by omega)⟩
/-- loops removed, and loops of the closure -/
theorem stack_count {n : Nat} {a b rb W u v id : List Bool} (A : Dyck n a) (B : Dyck n b) (RB : WD n rb ((cds b).map (ren (mirp (2 * (n : Int)))))) (DW : Dyck (2 * n) W) (w1 : ∀ p, 1 ≤ p → p ≤ 2 * (n : Int) → mtI W p = mtI a p) (w2 : ∀ p, 1 ≤ p → p ≤ 2 * (n : Int) → mtI W (p + 2 * (n : Int)) = mtI b p + 2 * (n : Int))
    (DV : Dyck (2 * n) v) (hv : ∀ p, 1 ≤ p → p ≤ 2 * ((2 * n : Nat) : Int) → mtI v p = 2 * ((2 * n : Nat) : Int) + 1 - p) (DU : Dyck n u) (hu : ∀ p, 1 ≤ p → p ≤ 2 * (n : Int) → mtI u p = stk n (mtI W) p)
    (DI : Dyck n id) (hi : ∀ p, 1 ≤ p → p ≤ 2 * (n : Int) → mtI id p = 2 * (n : Int) + 1 - p) :
    (rgs (mtI u) (mtI id) (2 * n)).length + ((rgs (mtI W) (mtI v) (2 * (2 * n))).filter fun r => decide ((n : Int) < r.headD 0)).length = (rgs (mtI a) (mtI rb) (2 * n)).length := by
  have e4 : 2 * (2 * n) = 4 * n := by omega
  have MW := mt_ok DW
  have MV := mt_ok DV
  rw [e4] at MW MV ⊢
  have eG : ∀ p, 1 ≤ p → p ≤ 4 * (n : Int) → mtI v p = 4 * (n : Int) + 1 - p := fun p p1 p2 => by rw [hv p p1 (by omega)]; omega
  have o := outer_count MW MV (mt_ok DU) (mt_ok DI) (pl_so DW) eG hu hi
  have f := fold_count MW MV (mt_ok A) (mt_ok RB.dy) eG w1 (fun p p1 p2 => by
    have q := w2 (2 * (n : Int) + 1 - p) (by omega) (by omega)
    have m := mt_ren B RB (p := 2 * (n : Int) + 1 - p) (by omega) (by omega)
    unfold mirp at m
    rw [show 2 * (n : Int) + 1 - (2 * (n : Int) + 1 - p) = p by omega] at m
    rw [show 4 * (n : Int) + 1 - p = 2 * (n : Int) + 1 - p + 2 * (n : Int) by omega, q, m]
    omega)
  rw [← f, ← o]
  have : ∀ L : List (List Int), (L.filter fun r => decide (r.headD 0 ≤ (n : Int))).length + (L.filter fun r => decide ((n : Int) < r.headD 0)).length = L.length := fun L => by
    induction L with
    | nil => rfl
    | cons r L ih =>
      rw [List.filter_cons, List.filter_cons, List.length_cons]
      by_cases c : r.headD 0 ≤ (n : Int)
      · rw [if_pos (decide_eq_true c), if_neg (by rw [decide_eq_true_iff]; omega), List.length_cons]
        omega
      · rw [if_neg (by rw [decide_eq_true_iff]; exact c), if_pos (decide_eq_true (by omega)), List.length_cons]
        omega
  exact this _
end DL
/-! a list taken apart into names -/
namespace DL
open PySem PySem.Spec PyProof.Rows L2
section
variable {prog : Program} {w : World} {A : Around} {E : Value → Shared → Prop} {s : Shared}
theorem draw_lst {it l : Addr} {items : Array Value} (hne : l ≠ it) : ∀ (n i : Nat) (s : Shared) (Q : List Value → Shared → Prop), s.heap.IsListIter it l i → s.heap.IsList l items → i + n ≤ items.size →
    (∀ h', h'.IsListIter it l (i + n) → Heap.SameBut it s.heap h' → Q ((items.toList.drop i).take n) { s with heap := h' }) → wpAny (model prog w) A (draw (.ref it) n) Q E s
  | 0, i, s, Q, hit, _, _, hQ => by
    show wpAny _ _ (pure []) Q E s
    exact wpAny_pure (by simpa using hQ s.heap hit (Heap.SameBut.refl ..))
  | n + 1, i, s, Q, hit, ht, hle, hQ => by
    have hlt : i < items.size := by omega
    show wpAny _ _ (pyNext (.ref it) >>= _) Q E s
    refine wpAny_bind (wpAny_pyNext_list_item hit ht (x := items[i]) (by simp [hlt]) fun h₁ hit₁ hs₁ => ?_)
    refine wpAny_bind (wpAny_holding (draw_lst hne n (i + 1) _ _ hit₁ (ht.extBut hs₁.extBut hne) (by omega) fun h₂ hit₂ hs₂ => wpAny_pure ?_))
    have hd : items.toList.drop i = items[i] :: items.toList.drop (i + 1) := by simp [List.drop_eq_getElem_cons, hlt]
    have := hQ h₂ (by rw [show i + (n + 1) = i + 1 + n by omega]; exact hit₂) (hs₁.trans hs₂)
    rw [hd, List.take_succ_cons] at this
    exact this
theorem unpackItems_lst {l : Addr} {items : Array Value} {Q : List Value → Shared → Prop} (hh : A.handled = none) (hl : s.heap.IsList l items)
    (hQ : ∀ h', Heap.ExtBut s.heap.objs.size s.heap h' → Q items.toList { s with heap := h' }) : wpAny (model prog w) A (unpackItems (.ref l) items.size none) Q E s := by
  have hlt : l ≠ s.heap.objs.size := by obtain ⟨o, ho, _⟩ := hl; exact Nat.ne_of_lt (Heap.lt_size ho)
  unfold unpackItems
  refine wpAny_bind ?_
  unfold notIterableAtAll
  refine wpAny_bind (wpAny_specialOf hl.typeIs slot_list_iter.lookup ?_)
  refine wpAny_pure ?_
  simp only [Bool.false_eq_true, if_false]
  refine wpAny_bind (wpAny_holding (wpAny_pyIter_list hl ?_))
  refine wpAny_bind (wpAny_holding (draw_lst hlt items.size 0 _ _ ⟨_, Heap.get?_push_size _ rfl, rfl, rfl⟩ (hl.push _) (by omega) fun h₁ hit₁ hs₁ => ?_))
  have hall : List.take items.size (List.drop 0 items.toList) = items.toList := by
    rw [List.drop_zero]; exact List.take_of_length_le (by simp)
  rw [hall]
  rw [if_neg (by simp)]
  have hl₁ : h₁.IsList l items := (hl.push _).extBut hs₁.extBut hlt
  refine wpAny_bind (wpAny_holding (wpAny_pyNext_list_end hh hit₁ hl₁ (by simp) fun h₂ he₂ => ?_))
  simp only [Option.isSome_none, Bool.false_eq_true, if_false]
  refine wpAny_pure (hQ h₂ fun b o hb e => he₂ b o hb (hs₁.extBut b o hb (Heap.get?_push_of_some _ e)))
theorem assign_lst {env : Env} {elts : List Expr} {x1} {pos : Pos} {l : Addr} {items : Array Value} {Q : Unit → Shared → Prop} (hh : A.handled = none) (hl : s.heap.IsList l items)
    (hn : (assignEach elts env).length = items.size) (hstar : (assignEach elts env).findIdx? (·.1) = none)
    (h : ∀ h', Heap.ExtBut s.heap.objs.size s.heap h' → wpAny (model prog w) A (assignInOrder ((assignEach elts env).map (·.2)) items.toList) Q E { s with heap := h' }) :
    wpAny (model prog w) A (assign (.Tuple elts x1 pos) env (.ref l)) Q E s := by
  rw [PyProof.Rows.assign_Tuple]
  refine wpAny_bind (wpAny_standAt ?_)
  unfold unpack
  rw [hn, hstar]
  exact wpAny_bind (wpAny_holding (unpackItems_lst hh hl h))
end
section
variable {X : Cx} {pos : Pos}
def gTupL (K : PySem.W.Frag) (n : Nat) (t : TGs) : TG := fun v σ H Q => ∃ a xs, v = .ref a ∧ SqL K H a xs ∧ xs.length = n ∧ t xs σ H Q
theorem pg_lst {es : List Expr} {k : Nat} {t : TGs} {n : Nat} (hc : X.calm = true) (h : PGs X es t)
    (hn : (assignEach es X.env).length = n := by rfl) (hst : (assignEach es X.env).findIdx? (·.1) = none := by rfl) : PG X (.Tuple es k pos) (gTupL X.K n t) := by
  refine ⟨fun pins s σ H v u Q I r hw => ?_⟩
  obtain ⟨a, xs, e1, hq, hl, hw⟩ := hw
  subst e1
  cases r
  obtain ⟨its, rv, ht, hz⟩ := I.list hq
  refine assign_lst (I.ok.hd hc) ht.isList (by simp [hn, ← hl, rv.length]) hst fun h' hx => ?_
  have I1 : Inv X pins σ H { s with heap := h' } := I.kept (t' := s.toks) fun b o e => hx b o (Nat.ne_of_lt (Heap.lt_size e)) e
  exact h.run pins _ σ H xs _ Q I1 (by simpa using rv) hw
end
section
variable {X : Cx} {es : List Expr} {pos : Pos}
def dgLst (n : Nat) (t : DTGs) : DTG := fun d ρ Q => match d with
  | .list ds => ds.length = n ∧ t ds ρ Q
  | _ => False
theorem dgo_lst {k n : Nat} {t : DTGs} (hc : X.calm = true) (h : DGos X es t) (hn : (assignEach es X.env).length = n := by rfl) (hst : (assignEach es X.env).findIdx? (·.1) = none := by rfl) : DGo X (.Tuple es k pos) (dgLst n t) := by
  obtain ⟨g, p, s⟩ := h
  refine ⟨_, pg_lst hc p hn hst, fun F ρ O σ H A P d v Qd Q G D q k => ?_⟩
  cases d with
  | list ds =>
    obtain ⟨a, xs, rfl, h1, h2⟩ := D
    exact ⟨a, xs, rfl, same_sqL Hs_sub h1, by rw [h2.length]; exact q.1, s F ρ O σ H A P ds xs _ _ G h2 q.2 k⟩
  | _ => exact (show False from q).elim
end
end DL
/-! >>, &, dicts with several computed keys, name.update(a new dict) -/
namespace DL
open PySem PySem.Spec PyProof.Rows L2
def gShr : G2 := fun d e Q => match d, e with
  | .int i, .int j => 0 ≤ j ∧ Q (.d (.int (i / 2 ^ j.toNat)))
  | _, _ => False
theorem opl_shr {K : Fg} : OpL K (rI (fun _ j => 0 ≤ j) fun i j => .int (i / 2 ^ j.toNat)) gShr := opl_int fun _ _ _ => rfl
def gAndM : G2 := fun d e Q => match d, e with
  | .int i, .int j => ∃ k : Nat, j = 2 ^ k - 1 ∧ Q (.d (.int (i % 2 ^ k)))
  | _, _ => False
theorem opl_andM {K : Fg} : OpL K (fun x y H Q => ∃ (i : Int) (k : Nat), x = .int i ∧ y = .int (2 ^ k - 1) ∧ Q (.int (i % 2 ^ k)) H) gAndM := fun O H d e x y Qd Q hd hx hy q k => by
  unfold gAndM at q
  split at q
  · obtain ⟨j, rfl, q⟩ := q
    have ex : x = .int _ := hx
    have ey : y = .int _ := hy
    exact ⟨_, j, ex, ey, k _ _ H (Out.sc (d := .int _) rfl) q⟩
  · exact q.elim
section
variable {X : Cx} {pos : Pos}
abbrev DTP := DEnv → (List (Key × PyData) → DEnv → Prop) → Prop
def DPK (X : Cx) (pos : Pos) (keys : List (Option Expr)) (values : List Expr) (t : DTP) : Prop := ∃ trs, PPs X pos keys values trs ∧ ∀ (F : Fx) (ρ : DEnv) (O : Own) (σ : Sg) (H : Hp) (A : Nat → Addr) (P : Nat → List Addr) (Qd : List (Key × PyData) → DEnv → Prop) (Q : List (V × V) → Hp → Prop), Good X.K F ρ O σ H A P → t ρ Qd →
  (∀ (kds : List (Key × PyData)) ρ' (ps : List (Key × V)) O' H' A' P', Stp ρ O H P ρ' O' H' P' → Good X.K F ρ' O' σ H' A' P' → ps.length = keys.length → KD X.K (Hs H' O') kds ps → Qd kds ρ' → Q (ps.map fun kv => (kV kv.1, kv.2)) H') → tPairs trs σ H Q
def dkNil : DTP := fun ρ Q => Q [] ρ
def dkCons (tk tv : DTE) (t : DTP) : DTP := fun ρ Q => dSt tk ρ fun kd ρ1 => match keyD kd with
  | some key => dSt tv ρ1 fun d ρ2 => t ρ2 fun kds ρ3 => Q ((key, d) :: kds) ρ3
  | none => False
theorem dpk_nil : DPK X pos [] [] dkNil := ⟨_, pps_nil, fun F ρ O σ H A P Qd Q G q k => k [] ρ [] O H A P Stp.refl G rfl KD.nil q⟩
theorem dpk_cons {ke e : Expr} {keys : List (Option Expr)} {values : List Expr} {tk tv : DTE} {t : DTP} (hk : DE X ke tk) (he : DE X e tv) (hr : DPK X pos keys values t) : DPK X pos (some ke :: keys) (e :: values) (dkCons tk tv t) := by
  obtain ⟨tk', pk, sk⟩ := dd_of hk
  obtain ⟨te, p, s⟩ := dd_of he
  obtain ⟨trs, pr, sr⟩ := hr
  refine ⟨_, pps_cons pk p pr, fun F ρ O σ H A P Qd Q G q k => sk F ρ O σ H A P _ _ G q fun kd ρ1 kv O1 H1 A1 P1 S1 G1 D1 q1 => ?_⟩
  cases e1 : keyD kd with
  | none => simp only [e1] at q1
  | some key =>
    simp only [e1] at q1
    have ek := keyD_kV D1 e1
    subst ek
    refine s F ρ1 O1 σ H1 A1 P1 _ _ G1 q1 fun d ρ2 v O2 H2 A2 P2 S2 G2 D2 q2 => sr F ρ2 O2 σ H2 A2 P2 _ _ G2 q2 fun kds ρ3 ps O3 H3 A3 P3 S3 G3 hl D3 q3 => ?_
    exact k ((key, d) :: kds) ρ3 ((key, v) :: ps) O3 H3 A3 P3 (S1.trans (S2.trans S3)) G3 (by rw [List.length_cons, List.length_cons, hl]) ⟨by rw [List.map_cons, List.map_cons, D3.1], ⟨v, _, rfl, D2.mono S3.same, D3.2⟩⟩ q3
def dDispK (t : DTP) : DTE := fun ρ Q => t ρ fun kds ρ1 => Q (.n (.dk (mergeP [] kds))) ρ1
theorem de_dispK {keys : List (Option Expr)} {values : List Expr} {t : DTP} (h : DPK X pos keys values t) (hall : keys.all (·.isSome) = true := by rfl) (hl : keys.length = values.length := by rfl) (h0 : keys ≠ [] := by exact fun z => nomatch z) (h16 : keys.length ≤ 15 := by decide) : DE X (.Dict keys values pos) (dDispK t) := by
  obtain ⟨trs, p, s⟩ := h
  refine ⟨_, pe_disp p hall hl h0 h16, fun F ρ O σ H A P Qd Q G q k a hn => ?_⟩
  have o1 : Out X.K O H (.n (.dk [])) (.ref a) (upd H a (.dK [])) := by
    refine ⟨same_new hn, a, [a], rfl, fun b hb => ?_, ⟨rfl, [], upd_same, rfl, rfl⟩⟩
    have e : b = a := by simpa using hb
    rw [e, upd_same]
    exact ⟨hn, fun z => nomatch z⟩
  obtain ⟨O1, fp, S1, G1, R1, N1⟩ := o1.fin G
  refine s F ρ O1 σ _ A P _ _ G1 q fun kds ρ2 ps O2 H2 A2 P2 S2 G2 hl D2 q2 => ?_
  have R2 := S2.rk R1
  obtain ⟨a', ea, hf, rfl, ws, f2, f3⟩ := R2
  cases ea
  have KK : KD X.K (Hs H2 O2) [] ws := f3
  have ew : ws = [] := List.length_eq_zero_iff.mp (by rw [KK.length]; rfl)
  subst ew
  have q5 := KD.merge KK D2
  obtain ⟨h1, h2, h3⟩ := hf a (by simp)
  obtain ⟨G3, sm3⟩ := G2.chgN (ho := .dK (mergeK [] ps)) h1 h2 h3
  refine ⟨f2, ps, rfl, by omega, ?_⟩
  have S3 := S1.trans S2
  have S4 : Stp ρ O H P ρ2 O2 (upd H2 a (.dK (mergeK [] ps))) P2 := by
    refine ⟨fun b o e n => ?_, fun b hb n => ?_, S3.live, fun b hb => ?_⟩
    · obtain ⟨g1, g2⟩ := S3.st b o e n
      exact ⟨by rw [upd_ne (ne_of_none e hn)]; exact g1, g2⟩
    · obtain ⟨g1, g2, g3⟩ := S3.fr b hb n
      have nb : b ≠ a := fun z => G.dom b hb (by rw [z]; exact hn)
      exact ⟨by rw [upd_ne nb]; exact g1, g2, g3⟩
    · have nb : b ≠ a := fun z => hb (by rw [z]; exact hn)
      rw [upd_ne nb]
      exact S3.dm b hb
  refine k (.n (.dk (mergeP [] kds))) ρ2 _ [a] O2 _ A2 P2 S4 G3 ⟨a, rfl, fun b hb => ?_, rfl, _, upd_same, (q5.mono sm3).1, (q5.mono sm3).2⟩ (fun w _ b hb => ?_) q2
  · have e : b = a := by simpa using hb
    rw [e]
    exact ⟨h1, h2, h3⟩
  · have e : b = a := by simpa using hb
    rw [e]
    exact hn
end
section
variable {X : Cx} {pins : List (Addr × Obj)} {σ : L2.St} {H : Hp} {s : Shared} {a b : Addr} {kvs more : List (Key × V)} {A : Around} {E : Value → Shared → Prop}
theorem d_update {Q : Value → Shared → Prop} (I : Inv X pins σ H s) (ne : a ≠ b) (e : H a = some (.dK kvs)) (e2 : H b = some (.dK more)) (hl : kvs.length + more.length ≤ sizeLine) (h : ∀ s', Inv X pins σ (upd H a (.dK (mergeK kvs more))) s' → Q .none s') : wpAny (model X.prog X.w) A (call (.builtin "dict.update") [.ref a, .ref b]) Q E s := by
  obtain ⟨z, hd, vs, rel, dd⟩ := dk_of I.hok e
  obtain ⟨z2, hd2, us, rel2, dd2⟩ := dk_of I.hok e2
  refine call_meetsIn PySem.F.slot_dict_update dd.typeIs PySem.F.entry_dict_update (PySem.F.args_dict_update_2 _ _) (meets_dict_update (mixKind X.prog X.w) a b ne hd2) ⟨vs, us, dd, dd2, by rw [← rel.length, ← rel2.length]; exact hl, fun h' dd' _ hs => h _ ?_⟩
  have he : ∃ q, h'.get? a = some q := let ⟨q, _, _, hq, _⟩ := dd'; ⟨q, hq⟩
  have hz : (mergeK kvs more).length ≤ sizeLine := Nat.le_trans (length_mergeK more kvs) hl
  exact d_write (t' := s.toks) I (by rw [e]; exact True.intro) hs he (dk_new hz hd (rel2.merge rel) dd')
end
def tDUpd (td ty : TE) : TE := fun σ H Q => td σ H fun x H1 => ∃ a, x = .ref a ∧ IsD H1 a ∧ ty σ H1 fun y H2 => ∃ b kvs more, y = .ref b ∧ a ≠ b ∧ H2 a = some (.dK kvs) ∧ H2 b = some (.dK more) ∧ kvs.length + more.length ≤ sizeLine ∧ Q .non (upd H2 a (.dK (mergeK kvs more)))
section
variable {X : Cx} {o e : Expr} {apos cpos : Pos} {td ty : TE}
theorem pe_dupd (ho : PE X o td) (he : PE X e ty) (m : M1 X o "update" apos e cpos) : PE X (.Call (.Attribute o "update" apos) [e] [] cpos) (tDUpd td ty) := by
  refine ⟨fun pins s σ H Q I h => ?_⟩
  refine wpAny_Call_method m.base m.few m.line PySem.F.plainAttrs_dict PySem.F.slot_dict_update PySem.F.type_dict_update (thn (ho.run pins s σ H _ I h) fun u s1 ⟨x, H1, I1, rx, a, ex, d, q1⟩ => ?_)
  subst ex
  obtain rfl : u = Value.ref a := rx
  obtain ⟨t1, t2, _⟩ := isD_at I1 d
  refine ⟨t1, t2, ?_⟩
  rw [m.trees]
  refine Calls.callWith_builtin rfl (Calls.evalArgs_plain (Calls.spliced_cons (thn (he.run pins s1 σ H1 _ I1 q1) fun iv s2 ⟨y, H2, I2, ry, b, kvs, more, ey, ne, ea, eb, hl, q2⟩ => Calls.spliced_nil ?_)))
  subst ey
  obtain rfl : iv = Value.ref b := ry
  exact d_update I2 ne ea eb hl fun s3 I3 => ⟨.non, _, I3, rfl, q2⟩
end
section
variable {X : Cx} {io : Bool} {e : Expr} {ta : DTE}
def dUpd (i : Nat) (t : DTE) : DTS := fun D ρ => match slot ρ i with
  | .own (.dk _) => t ρ fun r ρ1 => match r, slot ρ1 i with
    | .n (.dk more), .own (.dk kvs) => kvs.length + more.length ≤ sizeLine ∧ D.nx (put ρ1 i (.own (.dk (mergeP kvs more))))
    | _, _ => False
  | _ => False
theorem ds_upd (i : Nat) {x : Str} {apos cpos pos p1 : Pos} (he : DE X e ta) (hN : X.N[i]? = some x := by rfl) (hv : Vis X.env.scope x := by first | exact Or.inl rfl | exact Or.inr (Or.inl rfl)) (m : M1 X (.Name x p1) "update" apos e cpos := by exact ⟨rfl, rfl, rfl, rfl⟩)
    (hs : swapsWith (.Call (.Attribute (.Name x p1) "update" apos) [e] [] cpos) none pos.line X.env = pure false := by rfl) (hd : (x == ("__debug__" : Str)) = false := by decide) (hcd : (x == ("__classdict__" : Str)) = false := by decide) :
    DS X io (.Expr (.Call (.Attribute (.Name x p1) "update" apos) [e] [] cpos) pos) (dUpd i ta) := by
  obtain ⟨te, p, s⟩ := he
  refine ⟨_, ps_expr (pe_dupd (pe_var hN hv hd hcd) p m) hs, fun F ρ O σ H A P Dd D hr G E q => ?_⟩
  unfold dUpd at q
  cases s0 : slot ρ i with
  | free => simp only [s0] at q
  | val d => simp only [s0] at q
  | own w =>
    cases w with
    | dk kvs0 =>
      simp only [s0] at q
      obtain ⟨g1, g2, _, _⟩ := G.own i _ s0
      obtain ⟨_, ws0, g3, _⟩ := g2
      refine ⟨_, g1, A i, rfl, .inl ⟨ws0, .inl g3⟩, s F ρ O σ H A P _ _ G q fun r ρ1 v fp O1 H1 A1 P1 S1 G1 R1 N1 q1 => ?_⟩
      cases r with
      | d d => exact (show False from q1).elim
      | o j => exact (show False from q1).elim
      | n w2 =>
        cases w2 with
        | dk more =>
          cases s1 : slot ρ1 i with
          | free => simp only [s1] at q1
          | val d => simp only [s1] at q1
          | own w3 =>
            cases w3 with
            | dk kvs =>
              simp only [s1] at q1
              obtain ⟨f1, ⟨fP, ws, f2, f3⟩, _, _⟩ := G1.own i _ s1
              rw [g1] at f1
              have ea : A i = A1 i := V.ref.inj (Option.some.inj (Option.some.inj f1))
              obtain ⟨b, rfl, hf, ffp, zs, z1, z2⟩ := R1
              have KK : KD X.K (Hs H1 O1) kvs ws := f3
              have KM : KD X.K (Hs H1 O1) more zs := z2
              have nb : A1 i ≠ b := fun z => (hf b (by rw [ffp]; simp)).2.2 i _ s1 (by rw [fP, z]; simp)
              refine ⟨b, ws, zs, rfl, by rw [ea]; exact nb, by rw [ea]; exact f2, z1, by rw [KK.length, KM.length]; exact q1.1, ?_⟩
              rw [ea]
              exact E.nx _ O1 σ _ A1 P1 (G1.chgK s1 (KK.merge KM)) q1.2
            | _ => simp only [s1] at q1
        | _ => exact (show False from q1).elim
    | _ => simp only [s0] at q
end
/-! enumerate(a list that stays) -/
theorem itD_enumL {K : Fg} {a : Addr} {xs : List V} {ds : List PyData} {S : Hp} (h : SqL K S a xs) (D : DvL K S ds xs) : ItD K (Ite K a) S ds.length (enD 0 ds) := fun H O sm dm => by
  have hl := D.length
  have hH : SqL K H a xs := same_sqL Hs_sub (same_sqL sm h)
  refine ⟨fun i hi => ?_, xs, hH, by omega⟩
  have gx : xs[i]? = some (xs[i]'(by omega)) := List.getElem?_eq_getElem (by omega)
  refine ⟨⟨xs, _, hH, gx⟩, fun y H' hy => ?_⟩
  obtain ⟨T, x, e1, hT, e2, fx⟩ := hy
  have ex : x = xs[i]'(by omega) := Option.some.inj ((fx xs hH).symm.trans gx)
  obtain ⟨d, hd, g2⟩ := D.getV gx
  rw [e1, e2]
  have en : enD 0 ds i = .tuple [.int (i : Int), d] := by
    unfold enD
    rw [nth_at hd, Int.zero_add]
  rw [en]
  exact Out.tup dm hT ⟨_, _, rfl, rfl, _, _, rfl, by rw [ex]; exact g2.mono sm, rfl⟩
section
variable {X : Cx} {elts : List Expr} {kk : Nat} {p pos tpos : Pos} {e : Expr} {ta : DTE}
def dItEL (t : DTE) : DTI := fun ρ Q => dSt t ρ fun d ρ1 => match d with
  | .list ds => Q ds.length (enD 0 ds) ρ1
  | _ => False
theorem di_enumL (hg : Gl X "enumerate") (hm : X.mg "enumerate" = none) (he : DE X e ta) (hs : starEach [e] X.env = [(false, eval e X.env)] := by rfl) : DI X (.Tuple elts kk tpos) (.Call (.Name "enumerate" p) [e] [] pos) (dItEL ta) := by
  obtain ⟨te, pa, s⟩ := dd_of he
  refine ⟨_, pi_enum hg hm (pa_cons pa pa_nil (by rw [hs]; rfl)) hs, fun F ρ O σ H A P Qd R G q k => s F ρ O σ H A P _ _ G q fun d ρ1 v O1 H1 A1 P1 S1 G1 D1 q1 => ?_⟩
  cases d with
  | list ds =>
    obtain ⟨a, xs, rfl, h1, h2⟩ := D1
    exact ⟨a, xs, rfl, same_sqL Hs_sub h1, k _ _ ρ1 _ O1 H1 A1 P1 S1 G1 (itD_enumL h1 h2) q1⟩
  | _ => exact (show False from q1).elim
end
end DL
/-! the table of loops: its rows count colourings -/
namespace DL
open PySem PySem.Spec PyProof.Rows L2
open Classical in
noncomputable def mtL (ps : List (Int × Int)) (p : Int) : Int := if h : ∃ q, (p, q) ∈ ps ∨ (q, p) ∈ ps then h.choose else 0
theorem mtL_eq (w : List Bool) : mtL (cds w) = mtI w := rfl
noncomputable def lcL (n : Nat) (x y : List (Int × Int)) : Nat := (rgs (mtL x) (mtL y) (2 * n)).length
def mtC : List (Int × Int) → Int → Int
  | [], _ => 0
  | c :: r, p => if c.1 = p then c.2 else if c.2 = p then c.1 else mtC r p
theorem mtC_mem : ∀ {ps : List (Int × Int)} {p : Int}, (∃ c ∈ ps, c.1 = p ∨ c.2 = p) → (p, mtC ps p) ∈ ps ∨ (mtC ps p, p) ∈ ps
  | [], p, h => by obtain ⟨c, hc, _⟩ := h; exact nomatch hc
  | c :: r, p, h => by
    unfold mtC
    by_cases a : c.1 = p
    · rw [if_pos a]
      exact .inl (List.mem_cons.mpr (.inl (Prod.ext a.symm rfl)))
    · rw [if_neg a]
      by_cases b : c.2 = p
      · rw [if_pos b]
        exact .inr (List.mem_cons.mpr (.inl (Prod.ext rfl b.symm)))
      · rw [if_neg b]
        obtain ⟨d, hd, e⟩ := h
        have : ∃ c ∈ r, c.1 = p ∨ c.2 = p := by
          rcases List.mem_cons.mp hd with z | z
          · subst z
            exact absurd e (fun q => q.elim a b)
          · exact ⟨d, z, e⟩
        rcases mtC_mem this with q | q
        · exact .inl (List.mem_cons_of_mem _ q)
        · exact .inr (List.mem_cons_of_mem _ q)
theorem mtC_eq {n : Nat} {w : List Bool} {ps : List (Int × Int)} (W : WD n w ps) {p : Int} (h1 : 1 ≤ p) (h2 : p ≤ ((2 * n : Nat) : Int)) : mtC ps p = mtI w p := by
  obtain ⟨c, hc, e⟩ := W.nc.cover h1 (show p ≤ 2 * (n : Int) by omega)
  refine (mt_uniq W.dy ?_).symm
  rcases mtC_mem ⟨c, hc, e⟩ with q | q
  · exact .inl (W.permC.mem_iff.mp q)
  · exact .inr (W.permC.mem_iff.mp q)
theorem Mt.congr {N : Nat} {f f' : Int → Int} (F : Mt N f) (h : ∀ p : Int, 1 ≤ p → p ≤ N → f' p = f p) : Mt N f' :=
  ⟨fun p a b => by rw [h p a b]; exact F.inn p a b, fun p a b => by
    have i := F.inn p a b
    rw [h p a b, h _ i.1 i.2]; exact F.inv p a b, fun p a b => by rw [h p a b]; exact F.par p a b⟩
def perG (f g : Int → Int) (s : Int) : Nat → Nat → Int → Nat
  | 0, k, _ => k
  | u + 1, k, x => if g (f x) = s then k + 1 else perG f g s u (k + 1) (g (f x))
theorem perG_eq {N : Nat} {f g : Int → Int} {s : Int} (F : Mt N f) (G : Mt N g) (h1 : 1 ≤ s) (h2 : s ≤ N) : ∀ (u k : Nat), k < per f g s → per f g s ≤ k + u → perG f g s u k (lp f g s k) = per f g s
  | 0, k, a, b => by omega
  | u + 1, k, a, b => by
    obtain ⟨p1, p2, p3⟩ := per_spec F G h1 h2
    unfold perG
    by_cases c : g (f (lp f g s k)) = s
    · rw [if_pos c]
      refine Classical.byContradiction fun z => p3 (k + 1) (by omega) (by omega) c
    · rw [if_neg c]
      have : k + 1 ≠ per f g s := fun z => c (by rw [← z] at p2; exact p2)
      exact perG_eq F G h1 h2 u (k + 1) (by omega) (by omega)
def rgsC (f g : Int → Int) (N : Nat) : Nat → List (List Int)
  | 0 => []
  | i + 1 => if ((i : Int) + 1) ∈ (rgsC f g N i).flatten then rgsC f g N i else rgsC f g N i ++ [rg f g ((i : Int) + 1) (perG f g ((i : Int) + 1) N 0 ((i : Int) + 1))]
theorem rgsC_eq {N : Nat} {f g : Int → Int} (F : Mt N f) (G : Mt N g) : ∀ i, i ≤ N → rgsC f g N i = rgs f g i
  | 0, _ => rfl
  | i + 1, h => by
    have ih := rgsC_eq F G i (by omega)
    unfold rgsC rgs
    rw [ih]
    have s1 : 1 ≤ ((i : Int) + 1) := by omega
    have s2 : ((i : Int) + 1) ≤ (N : Int) := by omega
    have p := (per_spec F G s1 s2).1
    have q := per_le F G s1 s2
    have e : perG f g ((i : Int) + 1) N 0 ((i : Int) + 1) = per f g ((i : Int) + 1) := perG_eq F G s1 s2 N 0 (by omega) (by omega)
    rw [e]
    rfl
def lcC (n : Nat) (x y : List (Int × Int)) : Nat := (rgsC (mtC x) (mtC y) (2 * n) (2 * n)).length
theorem lcC_eq {n : Nat} {w v : List Bool} {x y : List (Int × Int)} (W : WD n w x) (V : WD n v y) : lcC n x y = (rgs (mtI w) (mtI v) (2 * n)).length := by
  have F := mt_ok W.dy
  have G := mt_ok V.dy
  have ef : ∀ p : Int, 1 ≤ p → p ≤ ((2 * n : Nat) : Int) → mtC x p = mtI w p := fun p a b => mtC_eq W a b
  have eg : ∀ p : Int, 1 ≤ p → p ≤ ((2 * n : Nat) : Int) → mtC y p = mtI v p := fun p a b => mtC_eq V a b
  have F' := F.congr ef
  have G' := G.congr eg
  unfold lcC
  rw [rgsC_eq F' G' _ (Nat.le_refl _)]
  refine Nat.le_antisymm (rgs_le F' G' F G (fun p => p) (fun p a b => ⟨a, b⟩) (fun p q _ _ _ _ e => e) (fun p a b => .inl (ef p a b).symm) (fun p a b => .inr (eg p a b).symm)) (rgs_le F G F' G' (fun p => p) (fun p a b => ⟨a, b⟩) (fun p q _ _ _ _ e => e) (fun p a b => .inl (ef p a b)) (fun p a b => .inr (eg p a b)))
def cdsC (w : List Bool) : List (Int × Int) := ((List.range w.length).filter fun k => w.getD k false).map fun (k : Nat) => ((k : Int) + 1, mtC (chs w 0 [] []) ((k : Int) + 1))
theorem cdsC_eq {n : Nat} {w : List Bool} (D : Dyck n w) : cdsC w = cds w := by
  unfold cdsC cds cdsT
  refine List.map_congr_left fun k hk => ?_
  have hl := List.mem_range.mp (List.mem_filter.mp hk).1
  have dl := D.len
  have e1 := mtC_eq (chs_wd D) (p := (k : Int) + 1) (by omega) (by omega)
  have e2 : mtI w ((k : Int) + 1) = ((clo w k : Nat) : Int) + 1 := mt_uniq D (.inl (List.mem_map.mpr ⟨k, hk, rfl⟩))
  rw [e1, e2]
def idxF : List (Int × Int) → Int → Nat
  | [], _ => 0
  | p :: r, i => if p.1 = i ∨ p.2 = i then 0 else idxF r i + 1
def bitF (c k : Nat) : Int := ((c / 2 ^ k % 2 : Nat) : Int)
def colF (x : List (Int × Int)) (c : Nat) (i : Int) : Int := bitF c (idxF x i)
def mono (x : List (Int × Int)) (c : Nat) (y : List (Int × Int)) : Bool := (y.filter fun p => !decide (colF x c p.1 = colF x c p.2)).isEmpty
def chkT (n : Nat) : Bool := ((allT n).map cdsC).all fun x => decide ((((allT n).map cdsC).map fun y => 2 ^ lcC n x y).sum = ((List.range (2 ^ n)).map fun c => (((allT n).map cdsC).filter (mono x c)).length).sum)
theorem chkT_all : ∀ n, n ≤ 4 → chkT n = true := by decide +kernel
theorem sum_perm {l m : List Nat} (p : l.Perm m) : l.sum = m.sum := by
  induction p with
  | nil => rfl
  | cons x _ ih => rw [List.sum_cons, List.sum_cons, ih]
  | swap x y l => rw [List.sum_cons, List.sum_cons, List.sum_cons, List.sum_cons]; omega
  | trans _ _ a b => exact a.trans b
theorem row_sum {n : Nat} (hn : n ≤ 4) {x : List (Int × Int)} (hx : x ∈ srtW n) : ((srtW n).map fun y => 2 ^ lcL n x y).sum = ((List.range (2 ^ n)).map fun c => ((srtW n).filter (mono x c)).length).sum := by
  obtain ⟨w, hw, rfl⟩ := List.mem_map.mp ((srtW_perm n).mem_iff.mp hx)
  have D := allT_mem hw
  have p := srtW_perm n
  rw [sum_perm (p.map _), List.map_congr_left (l := List.range (2 ^ n)) (fun c _ => (p.filter (mono (cds w) c)).length_eq)]
  have eL : allW n = (allT n).map cdsC := List.map_congr_left fun v hv => (cdsC_eq (allT_mem hv)).symm
  have c := chkT_all n hn
  unfold chkT at c
  have := List.all_eq_true.mp c (cdsC w) (List.mem_map.mpr ⟨w, hw, rfl⟩)
  rw [decide_eq_true_iff, cdsC_eq D] at this
  rw [eL, ← this]
  congr 1
  refine List.map_congr_left fun y hy => ?_
  obtain ⟨v, hv, rfl⟩ := List.mem_map.mp hy
  have E := allT_mem hv
  rw [cdsC_eq E, lcC_eq D.cds.1 E.cds.1]; rfl
/-! the dict of colours -/
structure CoI (x : List (Int × Int)) (c k : Nat) (kvs : List (Key × PyData)) : Prop where
  len : kvs.length ≤ 2 * k
  val : ∀ i, idxF x i < k → (∃ p ∈ x, p.1 = i ∨ p.2 = i) → valD kvs (.inl i) = some (.int (colF x c i))
theorem idxF_at : ∀ {x : List (Int × Int)} {i : Int}, (∃ p ∈ x, p.1 = i ∨ p.2 = i) → ∃ h : idxF x i < x.length, (x[idxF x i]).1 = i ∨ (x[idxF x i]).2 = i
  | [], i, h => by obtain ⟨c, hc, _⟩ := h; exact nomatch hc
  | p :: r, i, h => by
    by_cases a : p.1 = i ∨ p.2 = i
    · have e : idxF (p :: r) i = 0 := by unfold idxF; rw [if_pos a]
      refine ⟨by rw [e, List.length_cons]; omega, ?_⟩
      simp only [e]
      exact a
    · have e : idxF (p :: r) i = idxF r i + 1 := by conv => lhs; unfold idxF; rw [if_neg a]
      have : ∃ p ∈ r, p.1 = i ∨ p.2 = i := by
        obtain ⟨d, hd, q⟩ := h
        rcases List.mem_cons.mp hd with z | z
        · subst z; exact absurd q a
        · exact ⟨d, z, q⟩
      obtain ⟨h1, h2⟩ := idxF_at this
      refine ⟨by rw [e, List.length_cons]; omega, ?_⟩
      simp only [e]
      exact h2
theorem CoI.step {n : Nat} {x : List (Int × Int)} {c k : Nat} {kvs : List (Key × PyData)} (N : NC n x) (S : CoI x c k kvs) (hk : k < x.length) :
    CoI x c (k + 1) (putD (putD kvs (.inl x[k].1) (.int (bitF c k))) (.inl x[k].2) (.int (bitF c k))) := by
  refine ⟨?_, fun i hi hc => ?_⟩
  · have h1 := putD_le (putD kvs (.inl x[k].1) (.int (bitF c k))) (.inl x[k].2) (.int (bitF c k))
    have h2 := putD_le kvs (.inl x[k].1) (.int (bitF c k))
    have := S.len
    omega
  · obtain ⟨h1, h2⟩ := idxF_at hc
    rw [valD_put, valD_put]
    by_cases e : idxF x i = k
    · have e2 : colF x c i = bitF c k := by unfold colF; rw [e]
      rw [e2]
      simp only [e] at h2
      rcases h2 with z | z
      · by_cases q : i = x[k].2
        · rw [if_pos (by rw [q])]
        · rw [if_neg (fun y => q (Sum.inl.inj y)), if_pos (by rw [z])]
      · rw [if_pos (by rw [z])]
    · have ap : apart x[idxF x i] x[k] := by
        rcases Nat.lt_trichotomy (idxF x i) k with g | g | g
        · exact List.pairwise_iff_getElem.mp N.ap _ _ h1 hk g
        · exact absurd g e
        · omega
      have i1 := N.inn _ (List.getElem_mem h1)
      have i2 := N.inn _ (List.getElem_mem hk)
      unfold apart at ap
      rw [if_neg (fun y => by have := Sum.inl.inj y; omega), if_neg (fun y => by have := Sum.inl.inj y; omega)]
      exact S.val i (by omega) hc
theorem shr_bit (c k : Nat) : (c : Int) / 2 ^ ((k : Int)).toNat % 2 ^ 1 = bitF c k := by
  unfold bitF
  rw [Int.toNat_natCast, Int.natCast_emod, Int.natCast_ediv, Int.natCast_pow]; rfl
/-! what the law's numbers are -/
theorem lcL_le {n : Nat} {x y : List (Int × Int)} (hx : x ∈ srtW n) (hy : y ∈ srtW n) : 0 < n + 1 ∧ lcL n x y ≤ n := by
  obtain ⟨w, D, rfl⟩ := allW_mem ((srtW_perm n).mem_iff.mp hx)
  obtain ⟨v, E, rfl⟩ := allW_mem ((srtW_perm n).mem_iff.mp hy)
  refine ⟨by omega, ?_⟩
  unfold lcL
  rw [mtL_eq, mtL_eq]
  have F := mt_ok D
  have G := mt_ok E
  have R := rgs_ok F G (2 * n) (Nat.le_refl _)
  have fl := (rgs_perm F G).length_eq
  rw [List.length_map, List.length_range] at fl
  have : ∀ L : List (List Int), (∀ r ∈ L, 2 ≤ r.length) → 2 * L.length ≤ L.flatten.length := fun L => by
    induction L with
    | nil => exact fun _ => Nat.le_refl _
    | cons r L ih =>
      intro h
      have := ih fun s hs => h s (List.mem_cons_of_mem _ hs)
      have := h r List.mem_cons_self
      rw [List.length_cons, List.flatten_cons, List.length_append]
      omega
  have := this _ fun r hr => by
    obtain ⟨s, s1, s2, rfl⟩ := R.ok r hr
    have p := (per_spec F G s1 s2).1
    unfold ring
    rw [rg_len]
    omega
  omega
theorem srtW_word {n : Nat} {x : List (Int × Int)} (hx : x ∈ srtW n) : ∃ w, Dyck n w ∧ x = cds w := allW_mem ((srtW_perm n).mem_iff.mp hx)
end DL
namespace K60
open PySem PySem.Spec PyProof.Rows L2 DL

def topS (i : Nat) : Stmt := PySem.Challenge.pw_chordturn_k60_whole_loop_tables.main.body.getD i (.Pass ⟨0, 0, 0, 0⟩)
abbrev s_w_begun : Stmt := topS 42
theorem sc_w_begun : FnScope ["script"] ["script"] (defScope s_w_begun) := ⟨rfl, rfl, rfl, by decide +kernel, rfl, by decide +kernel, by decide +kernel⟩
abbrev s_w_next : Stmt := topS 43
theorem sc_w_next : FnScope ["m", "total", "found", "k", "cell", "number"] ["m", "total"] (defScope s_w_next) := ⟨rfl, rfl, rfl, by decide +kernel, rfl, by decide +kernel, by decide +kernel⟩
abbrev s_is_true_integer : Stmt := topS 11
theorem sc_is_true_integer : FnScope ["value"] ["value"] (defScope s_is_true_integer) := ⟨rfl, rfl, rfl, by decide +kernel, rfl, by decide +kernel, by decide +kernel⟩
abbrev s_is_integer_within : Stmt := topS 12
theorem sc_is_integer_within : FnScope ["value", "low", "high"] ["value", "low", "high"] (defScope s_is_integer_within) := ⟨rfl, rfl, rfl, by decide +kernel, rfl, by decide +kernel, by decide +kernel⟩
abbrev s_validate_size : Stmt := topS 16
theorem sc_validate_size : FnScope ["size", "low", "high"] ["size", "low", "high"] (defScope s_validate_size) := ⟨rfl, rfl, rfl, by decide +kernel, rfl, by decide +kernel, by decide +kernel⟩
abbrev s_completions : Stmt := topS 25
theorem sc_completions : FnScope ["height", "length", "falls"] ["height", "length"] (defScope s_completions) := ⟨rfl, rfl, rfl, by decide +kernel, rfl, by decide +kernel, by decide +kernel⟩
abbrev s_word_count : Stmt := topS 24
theorem sc_word_count : FnScope ["size"] ["size"] (defScope s_word_count) := ⟨rfl, rfl, rfl, by decide +kernel, rfl, by decide +kernel, by decide +kernel⟩
abbrev s_validate_word : Stmt := topS 20
theorem sc_validate_word : FnScope ["word", "height", "index", "letter"] ["word"] (defScope s_validate_word) := ⟨rfl, rfl, rfl, by decide +kernel, rfl, by decide +kernel, by decide +kernel⟩
abbrev s_partners : Stmt := topS 21
theorem sc_partners : FnScope ["word", "joined", "waiting", "point", "letter", "opener"] ["word"] (defScope s_partners) := ⟨rfl, rfl, rfl, by decide +kernel, rfl, by decide +kernel, by decide +kernel⟩
abbrev s_diagram_of : Stmt := topS 31
theorem sc_diagram_of : FnScope ["word", "joined", "point", "other"] ["word"] (defScope s_diagram_of) := ⟨rfl, rfl, rfl, by decide +kernel, rfl, by decide +kernel, by decide +kernel⟩
abbrev s_smaller_count : Stmt := topS 27
theorem sc_smaller_count : FnScope ["height", "left"] ["height", "left"] (defScope s_smaller_count) := ⟨rfl, rfl, rfl, by decide +kernel, rfl, by decide +kernel, by decide +kernel⟩
abbrev s_word_at : Stmt := topS 26
theorem sc_word_at : FnScope ["size", "number", "letters", "height", "rest", "left", "smaller"] ["size", "number"] (defScope s_word_at) := ⟨rfl, rfl, rfl, by decide +kernel, rfl, by decide +kernel, by decide +kernel⟩
abbrev s_all_diagrams : Stmt := topS 33
theorem sc_all_diagrams : FnScope ["size", "number"] ["size"] (defScope s_all_diagrams) := ⟨rfl, rfl, rfl, by decide +kernel, rfl, by decide +kernel, by decide +kernel⟩
abbrev s_joined_points : Stmt := topS 32
theorem sc_joined_points : FnScope ["chords", "joined", "low", "high"] ["chords"] (defScope s_joined_points) := ⟨rfl, rfl, rfl, by decide +kernel, rfl, by decide +kernel, by decide +kernel⟩
abbrev s_loop_from : Stmt := topS 38
theorem sc_loop_from : FnScope ["inside", "outside", "start", "loop", "point"] ["inside", "outside", "start"] (defScope s_loop_from) := ⟨rfl, rfl, rfl, by decide +kernel, rfl, by decide +kernel, by decide +kernel⟩
abbrev s_traced_loops : Stmt := topS 37
theorem sc_traced_loops : FnScope ["inner", "outer", "inside", "outside", "seen", "found", "start", "loop", "point"] ["inner", "outer"] (defScope s_traced_loops) := ⟨rfl, rfl, rfl, by decide +kernel, rfl, by decide +kernel, by decide +kernel⟩
abbrev s_loop_table : Stmt := topS 40
theorem sc_loop_table : FnScope ["size", "diagrams", "inner", "outer"] ["size"] (defScope s_loop_table) := ⟨rfl, rfl, rfl, by decide +kernel, rfl, by decide +kernel, by decide +kernel⟩
abbrev s_w_chords : Stmt := topS 45
theorem sc_w_chords : FnScope ["letters", "found", "waiting", "k", "letter"] ["letters"] (defScope s_w_chords) := ⟨rfl, rfl, rfl, by decide +kernel, rfl, by decide +kernel, by decide +kernel⟩
abbrev s_w_all : Stmt := topS 48
theorem sc_w_all : FnScope ["many", "left", "k", "longer", "letters", "height", "ups"] ["many"] (defScope s_w_all) := ⟨rfl, rfl, rfl, by decide +kernel, rfl, by decide +kernel, by decide +kernel⟩
abbrev s_w_partners : Stmt := topS 46
theorem sc_w_partners : FnScope ["chords", "i", "j"] ["chords"] (defScope s_w_partners) := ⟨rfl, rfl, rfl, by decide +kernel, rfl, by decide +kernel, by decide +kernel⟩
abbrev s_w_rings : Stmt := topS 47
theorem sc_w_rings : FnScope ["one", "other", "first", "second", "used", "found", "start", "ring", "here"] ["one", "other"] (defScope s_w_rings) := ⟨rfl, rfl, rfl, by decide +kernel, rfl, by decide +kernel, by decide +kernel⟩
abbrev s_w_colours : Stmt := topS 49
theorem sc_w_colours : FnScope ["one", "every", "many", "found", "code", "colours", "k", "i", "j", "other"] ["one", "every"] (defScope s_w_colours) := ⟨rfl, rfl, rfl, by decide +kernel, rfl, by decide +kernel, by decide +kernel⟩
abbrev s_is_pair : Stmt := topS 14
theorem sc_is_pair : FnScope ["value"] ["value"] (defScope s_is_pair) := ⟨rfl, rfl, rfl, by decide +kernel, rfl, by decide +kernel, by decide +kernel⟩
abbrev s_is_point : Stmt := topS 13
theorem sc_is_point : FnScope ["value", "size"] ["value", "size"] (defScope s_is_point) := ⟨rfl, rfl, rfl, by decide +kernel, rfl, by decide +kernel, by decide +kernel⟩
abbrev s_is_chord : Stmt := topS 15
theorem sc_is_chord : FnScope ["value", "size", "low", "high"] ["value", "size"] (defScope s_is_chord) := ⟨rfl, rfl, rfl, by decide +kernel, rfl, by decide +kernel, by decide +kernel⟩
abbrev s_fits_behind : Stmt := topS 30
theorem sc_fits_behind : FnScope ["chord", "earlier", "low", "high", "_", "end"] ["chord", "earlier"] (defScope s_fits_behind) := ⟨rfl, rfl, rfl, by decide +kernel, rfl, by decide +kernel, by decide +kernel⟩
abbrev s_validate_diagram : Stmt := topS 29
theorem sc_validate_diagram : FnScope ["diagram", "index", "chord"] ["diagram"] (defScope s_validate_diagram) := ⟨rfl, rfl, rfl, by decide +kernel, rfl, by decide +kernel, by decide +kernel⟩
abbrev s_validate_same_size : Stmt := topS 17
theorem sc_validate_same_size : FnScope ["size", "other_size"] ["size", "other_size"] (defScope s_validate_same_size) := ⟨rfl, rfl, rfl, by decide +kernel, rfl, by decide +kernel, by decide +kernel⟩
abbrev s_loops : Stmt := topS 36
theorem sc_loops : FnScope ["inner", "outer"] ["inner", "outer"] (defScope s_loops) := ⟨rfl, rfl, rfl, by decide +kernel, rfl, by decide +kernel, by decide +kernel⟩
abbrev s_loop_count : Stmt := topS 39
theorem sc_loop_count : FnScope ["inner", "outer"] ["inner", "outer"] (defScope s_loop_count) := ⟨rfl, rfl, rfl, by decide +kernel, rfl, by decide +kernel, by decide +kernel⟩
abbrev s_law : Stmt := topS 50
theorem sc_law : FnScope ["script", "m", "many", "every", "table", "due", "a", "one", "total", "b", "wide", "all_five", "other"] ["script"] (defScope s_law) := ⟨rfl, rfl, rfl, by decide +kernel, rfl, by decide +kernel, by decide +kernel⟩
/-- what the top has written -/
structure Tx (K : Fg) (mg : Str → Option Value) where
  f_w_begun : Addr
  d_w_begun : FuncData
  F_w_begun : Fun K "_law_begun" "_law_begun" s_w_begun f_w_begun d_w_begun
  g_w_begun : mg "_law_begun" = some (.ref f_w_begun)
  f_w_next : Addr
  d_w_next : FuncData
  F_w_next : Fun K "_law_next" "_law_next" s_w_next f_w_next d_w_next
  g_w_next : mg "_law_next" = some (.ref f_w_next)
  f_is_true_integer : Addr
  d_is_true_integer : FuncData
  F_is_true_integer : Fun K "is_true_integer" "is_true_integer" s_is_true_integer f_is_true_integer d_is_true_integer
  g_is_true_integer : mg "is_true_integer" = some (.ref f_is_true_integer)
  f_is_integer_within : Addr
  d_is_integer_within : FuncData
  F_is_integer_within : Fun K "is_integer_within" "is_integer_within" s_is_integer_within f_is_integer_within d_is_integer_within
  g_is_integer_within : mg "is_integer_within" = some (.ref f_is_integer_within)
  f_validate_size : Addr
  d_validate_size : FuncData
  F_validate_size : Fun K "validate_size" "validate_size" s_validate_size f_validate_size d_validate_size
  g_validate_size : mg "validate_size" = some (.ref f_validate_size)
  f_completions : Addr
  d_completions : FuncData
  F_completions : Fun K "_completions" "_completions" s_completions f_completions d_completions
  g_completions : mg "_completions" = some (.ref f_completions)
  f_word_count : Addr
  d_word_count : FuncData
  F_word_count : Fun K "word_count" "word_count" s_word_count f_word_count d_word_count
  g_word_count : mg "word_count" = some (.ref f_word_count)
  f_validate_word : Addr
  d_validate_word : FuncData
  F_validate_word : Fun K "validate_word" "validate_word" s_validate_word f_validate_word d_validate_word
  g_validate_word : mg "validate_word" = some (.ref f_validate_word)
  f_partners : Addr
  d_partners : FuncData
  F_partners : Fun K "partners" "partners" s_partners f_partners d_partners
  g_partners : mg "partners" = some (.ref f_partners)
  f_diagram_of : Addr
  d_diagram_of : FuncData
  F_diagram_of : Fun K "diagram_of" "diagram_of" s_diagram_of f_diagram_of d_diagram_of
  g_diagram_of : mg "diagram_of" = some (.ref f_diagram_of)
  f_smaller_count : Addr
  d_smaller_count : FuncData
  F_smaller_count : Fun K "_smaller_count" "_smaller_count" s_smaller_count f_smaller_count d_smaller_count
  g_smaller_count : mg "_smaller_count" = some (.ref f_smaller_count)
  f_word_at : Addr
  d_word_at : FuncData
  F_word_at : Fun K "word_at" "word_at" s_word_at f_word_at d_word_at
  g_word_at : mg "word_at" = some (.ref f_word_at)
  f_all_diagrams : Addr
  d_all_diagrams : FuncData
  F_all_diagrams : Fun K "all_diagrams" "all_diagrams" s_all_diagrams f_all_diagrams d_all_diagrams
  g_all_diagrams : mg "all_diagrams" = some (.ref f_all_diagrams)
  f_joined_points : Addr
  d_joined_points : FuncData
  F_joined_points : Fun K "joined_points" "joined_points" s_joined_points f_joined_points d_joined_points
  g_joined_points : mg "joined_points" = some (.ref f_joined_points)
  f_loop_from : Addr
  d_loop_from : FuncData
  F_loop_from : Fun K "_loop_from" "_loop_from" s_loop_from f_loop_from d_loop_from
  g_loop_from : mg "_loop_from" = some (.ref f_loop_from)
  f_traced_loops : Addr
  d_traced_loops : FuncData
  F_traced_loops : Fun K "traced_loops" "traced_loops" s_traced_loops f_traced_loops d_traced_loops
  g_traced_loops : mg "traced_loops" = some (.ref f_traced_loops)
  f_loop_table : Addr
  d_loop_table : FuncData
  F_loop_table : Fun K "loop_table" "loop_table" s_loop_table f_loop_table d_loop_table
  g_loop_table : mg "loop_table" = some (.ref f_loop_table)
  f_w_chords : Addr
  d_w_chords : FuncData
  F_w_chords : Fun K "_law_chords" "_law_chords" s_w_chords f_w_chords d_w_chords
  g_w_chords : mg "_law_chords" = some (.ref f_w_chords)
  f_w_all : Addr
  d_w_all : FuncData
  F_w_all : Fun K "_law_all" "_law_all" s_w_all f_w_all d_w_all
  g_w_all : mg "_law_all" = some (.ref f_w_all)
  f_w_partners : Addr
  d_w_partners : FuncData
  F_w_partners : Fun K "_law_partners" "_law_partners" s_w_partners f_w_partners d_w_partners
  g_w_partners : mg "_law_partners" = some (.ref f_w_partners)
  f_w_rings : Addr
  d_w_rings : FuncData
  F_w_rings : Fun K "_law_rings" "_law_rings" s_w_rings f_w_rings d_w_rings
  g_w_rings : mg "_law_rings" = some (.ref f_w_rings)
  f_w_colours : Addr
  d_w_colours : FuncData
  F_w_colours : Fun K "_law_colours" "_law_colours" s_w_colours f_w_colours d_w_colours
  g_w_colours : mg "_law_colours" = some (.ref f_w_colours)
  f_is_pair : Addr
  d_is_pair : FuncData
  F_is_pair : Fun K "is_pair" "is_pair" s_is_pair f_is_pair d_is_pair
  g_is_pair : mg "is_pair" = some (.ref f_is_pair)
  f_is_point : Addr
  d_is_point : FuncData
  F_is_point : Fun K "is_point" "is_point" s_is_point f_is_point d_is_point
  g_is_point : mg "is_point" = some (.ref f_is_point)
  f_is_chord : Addr
  d_is_chord : FuncData
  F_is_chord : Fun K "is_chord" "is_chord" s_is_chord f_is_chord d_is_chord
  g_is_chord : mg "is_chord" = some (.ref f_is_chord)
  f_fits_behind : Addr
  d_fits_behind : FuncData
  F_fits_behind : Fun K "_fits_behind" "_fits_behind" s_fits_behind f_fits_behind d_fits_behind
  g_fits_behind : mg "_fits_behind" = some (.ref f_fits_behind)
  f_validate_diagram : Addr
  d_validate_diagram : FuncData
  F_validate_diagram : Fun K "validate_diagram" "validate_diagram" s_validate_diagram f_validate_diagram d_validate_diagram
  g_validate_diagram : mg "validate_diagram" = some (.ref f_validate_diagram)
  f_validate_same_size : Addr
  d_validate_same_size : FuncData
  F_validate_same_size : Fun K "validate_same_size" "validate_same_size" s_validate_same_size f_validate_same_size d_validate_same_size
  g_validate_same_size : mg "validate_same_size" = some (.ref f_validate_same_size)
  f_loops : Addr
  d_loops : FuncData
  F_loops : Fun K "loops" "loops" s_loops f_loops d_loops
  g_loops : mg "loops" = some (.ref f_loops)
  f_loop_count : Addr
  d_loop_count : FuncData
  F_loop_count : Fun K "loop_count" "loop_count" s_loop_count f_loop_count d_loop_count
  g_loop_count : mg "loop_count" = some (.ref f_loop_count)
  f_law : Addr
  d_law : FuncData
  F_law : Fun K "law" "law" s_law f_law d_law
  g_law : mg "law" = some (.ref f_law)
  z_all : mg "all" = none
  z_bool : mg "bool" = none
  z_dict : mg "dict" = none
  z_enumerate : mg "enumerate" = none
  z_int : mg "int" = none
  z_isinstance : mg "isinstance" = none
  z_len : mg "len" = none
  z_list : mg "list" = none
  z_range : mg "range" = none
  z_repr : mg "repr" = none
  z_set : mg "set" = none
  z_sorted : mg "sorted" = none
  z_str : mg "str" = none
  z_tuple : mg "tuple" = none
  m_comb : mg "comb" = some (.builtin "math.comb")
  t_MOST_COUNTED : Tok
  c_MOST_COUNTED : mg "MOST_COUNTED" = some (.int 500 t_MOST_COUNTED)
  t_MOST_SIZE : Tok
  c_MOST_SIZE : mg "MOST_SIZE" = some (.int 30 t_MOST_SIZE)
  t_MOST_TABLED : Tok
  c_MOST_TABLED : mg "MOST_TABLED" = some (.int 5 t_MOST_TABLED)
section
variable {P : Program} {w : World} {K : Fg} {mg : Str → Option Value}
theorem Tx.b_w_begun (T : Tx K mg) : Binds K T.d_w_begun ["script"] [] := T.F_w_begun.binds fun _ _ _ _ _ _ us hl => match us, hl with | [_], _ => rfl
theorem Tx.b_w_next (T : Tx K mg) : Binds K T.d_w_next ["m", "total"] [] := T.F_w_next.binds fun _ _ _ _ _ _ us hl => match us, hl with | [_, _], _ => rfl
theorem Tx.b_is_true_integer (T : Tx K mg) : Binds K T.d_is_true_integer ["value"] [] := T.F_is_true_integer.binds fun _ _ _ _ _ _ us hl => match us, hl with | [_], _ => rfl
theorem Tx.b_is_integer_within (T : Tx K mg) : Binds K T.d_is_integer_within ["value", "low", "high"] [] := T.F_is_integer_within.binds fun _ _ _ _ _ _ us hl => match us, hl with | [_, _, _], _ => rfl
theorem Tx.b_validate_size (T : Tx K mg) : Binds K T.d_validate_size ["size", "low", "high"] [] := T.F_validate_size.binds fun _ _ _ _ _ _ us hl => match us, hl with | [_, _, _], _ => rfl
theorem Tx.b_completions (T : Tx K mg) : Binds K T.d_completions ["height", "length"] [] := T.F_completions.binds fun _ _ _ _ _ _ us hl => match us, hl with | [_, _], _ => rfl
theorem Tx.b_word_count (T : Tx K mg) : Binds K T.d_word_count ["size"] [] := T.F_word_count.binds fun _ _ _ _ _ _ us hl => match us, hl with | [_], _ => rfl
theorem Tx.b_validate_word (T : Tx K mg) : Binds K T.d_validate_word ["word"] [] := T.F_validate_word.binds fun _ _ _ _ _ _ us hl => match us, hl with | [_], _ => rfl
theorem Tx.b_partners (T : Tx K mg) : Binds K T.d_partners ["word"] [] := T.F_partners.binds fun _ _ _ _ _ _ us hl => match us, hl with | [_], _ => rfl
theorem Tx.b_diagram_of (T : Tx K mg) : Binds K T.d_diagram_of ["word"] [] := T.F_diagram_of.binds fun _ _ _ _ _ _ us hl => match us, hl with | [_], _ => rfl
theorem Tx.b_smaller_count (T : Tx K mg) : Binds K T.d_smaller_count ["height", "left"] [] := T.F_smaller_count.binds fun _ _ _ _ _ _ us hl => match us, hl with | [_, _], _ => rfl
theorem Tx.b_word_at (T : Tx K mg) : Binds K T.d_word_at ["size", "number"] [] := T.F_word_at.binds fun _ _ _ _ _ _ us hl => match us, hl with | [_, _], _ => rfl
theorem Tx.b_all_diagrams (T : Tx K mg) : Binds K T.d_all_diagrams ["size"] [] := T.F_all_diagrams.binds fun _ _ _ _ _ _ us hl => match us, hl with | [_], _ => rfl
theorem Tx.b_joined_points (T : Tx K mg) : Binds K T.d_joined_points ["chords"] [] := T.F_joined_points.binds fun _ _ _ _ _ _ us hl => match us, hl with | [_], _ => rfl
theorem Tx.b_loop_from (T : Tx K mg) : Binds K T.d_loop_from ["inside", "outside", "start"] [] := T.F_loop_from.binds fun _ _ _ _ _ _ us hl => match us, hl with | [_, _, _], _ => rfl
theorem Tx.b_traced_loops (T : Tx K mg) : Binds K T.d_traced_loops ["inner", "outer"] [] := T.F_traced_loops.binds fun _ _ _ _ _ _ us hl => match us, hl with | [_, _], _ => rfl
theorem Tx.b_loop_table (T : Tx K mg) : Binds K T.d_loop_table ["size"] [] := T.F_loop_table.binds fun _ _ _ _ _ _ us hl => match us, hl with | [_], _ => rfl
theorem Tx.b_w_chords (T : Tx K mg) : Binds K T.d_w_chords ["letters"] [] := T.F_w_chords.binds fun _ _ _ _ _ _ us hl => match us, hl with | [_], _ => rfl
theorem Tx.b_w_all (T : Tx K mg) : Binds K T.d_w_all ["many"] [] := T.F_w_all.binds fun _ _ _ _ _ _ us hl => match us, hl with | [_], _ => rfl
theorem Tx.b_w_partners (T : Tx K mg) : Binds K T.d_w_partners ["chords"] [] := T.F_w_partners.binds fun _ _ _ _ _ _ us hl => match us, hl with | [_], _ => rfl
theorem Tx.b_w_rings (T : Tx K mg) : Binds K T.d_w_rings ["one", "other"] [] := T.F_w_rings.binds fun _ _ _ _ _ _ us hl => match us, hl with | [_, _], _ => rfl
theorem Tx.b_w_colours (T : Tx K mg) : Binds K T.d_w_colours ["one", "every"] [] := T.F_w_colours.binds fun _ _ _ _ _ _ us hl => match us, hl with | [_, _], _ => rfl
theorem Tx.b_is_pair (T : Tx K mg) : Binds K T.d_is_pair ["value"] [] := T.F_is_pair.binds fun _ _ _ _ _ _ us hl => match us, hl with | [_], _ => rfl
theorem Tx.b_is_point (T : Tx K mg) : Binds K T.d_is_point ["value", "size"] [] := T.F_is_point.binds fun _ _ _ _ _ _ us hl => match us, hl with | [_, _], _ => rfl
theorem Tx.b_is_chord (T : Tx K mg) : Binds K T.d_is_chord ["value", "size"] [] := T.F_is_chord.binds fun _ _ _ _ _ _ us hl => match us, hl with | [_, _], _ => rfl
theorem Tx.b_fits_behind (T : Tx K mg) : Binds K T.d_fits_behind ["chord", "earlier"] [] := T.F_fits_behind.binds fun _ _ _ _ _ _ us hl => match us, hl with | [_, _], _ => rfl
theorem Tx.b_validate_diagram (T : Tx K mg) : Binds K T.d_validate_diagram ["diagram"] [] := T.F_validate_diagram.binds fun _ _ _ _ _ _ us hl => match us, hl with | [_], _ => rfl
theorem Tx.b_validate_same_size (T : Tx K mg) : Binds K T.d_validate_same_size ["size", "other_size"] [] := T.F_validate_same_size.binds fun _ _ _ _ _ _ us hl => match us, hl with | [_, _], _ => rfl
theorem Tx.b_loops (T : Tx K mg) : Binds K T.d_loops ["inner", "outer"] [] := T.F_loops.binds fun _ _ _ _ _ _ us hl => match us, hl with | [_, _], _ => rfl
theorem Tx.b_loop_count (T : Tx K mg) : Binds K T.d_loop_count ["inner", "outer"] [] := T.F_loop_count.binds fun _ _ _ _ _ _ us hl => match us, hl with | [_, _], _ => rfl
theorem Tx.b_law (T : Tx K mg) : Binds K T.d_law ["script"] [] := T.F_law.binds fun _ _ _ _ _ _ us hl => match us, hl with | [_], _ => rfl
theorem b_nt : (!true) = false := rfl
theorem b_nf : (!false) = true := rfl
local macro_rules | `(tactic| walk_at "rd") => `(tactic| dsimp only [dSeq, dSet, dSetF, dIxD, dIxO, dInS, dSAdd, dExt, dParM, dnCons, dnNil, fixR, puts, dRet, dRetN, retV, dName, dC, d2, dB, dTr, dNot, dAnd, dOr, dIf, dIfE, dAndV, dOrV, dNotV, dTru, truD, dCh, dTup, dLst, dCl, dSt, dlNil, dlCons, daNil, daCons, dCall, dCallI, dCallK, dDrop, dNext, dApp, dPop, dSetI, dPar2, dPar3, dParR2, dAsg, dgTup, dgCons, dgNil, dgName, dgSubL, dDget, dDset, dDisp, dRep, dAug, dIsi, dSl, dPart, dNo, dNeg, dItL, dItT, dItS, dItR1, dItR2, dItE, dLc, dYes, dFor, dWhile, gSl, wipeD, mergeD, slot, put, view, views, stab, store, List.map_cons, List.map_nil, List.length_cons, List.length_nil, List.cons_append, List.nil_append, Ow.data, DL.gAdd, DL.gSub, DL.gMulI, DL.gMod, DL.gDiv, DL.gPow, gLt, gLe, gGt, gGe, gEq, gNe, gEqA, gNeA, gIx, gLen, gInt, gTuple, gList, g2I, gRep, itI, dGetN, dIxN, keyD, dRevT, dRevL, dItV, dItET, dIsN, gRng, gIn, dItRS, dRevS, dBM, gCount, gJoin, tyD, gComb, gSum, gDivW, gLtA, gGtA, gMulS, dItR3, itN, dItZ, gSortI, gSortS, gSortP, gAll, gAny, prD, dLstR, dAddT, dDisp0, dgSubK, dGetO, gSortSet, dLstR1, dCallD, dCallN, gSortD, gMMD, dLstRN, gIsB, dItZA, zpD, gLenD, dgLst, gSortDA, gShr, gAndM, dkNil, dkCons, dDispK, dUpd, dItEL, gAbs, gGcd, dRepT, dItETe, dIxR, dAugR, dSetR, dRelS, dTupRev, dForID, dBorrow, dIxO, id, b_nt, b_nf])
theorem sd2 (n : Nat) (a b : PyData) : startD (n + 2) [a, b] = .val a :: .val b :: List.replicate n .free := rfl
theorem sd3 (n : Nat) (a b c : PyData) : startD (n + 3) [a, b, c] = .val a :: .val b :: .val c :: List.replicate n .free := rfl
theorem sd1 (n : Nat) (a : PyData) : startD (n + 1) [a] = .val a :: List.replicate n .free := rfl
theorem sd0 (n : Nat) : startD n [] = List.replicate n .free := rfl
local macro_rules | `(tactic| walk_at "rd0") => `(tactic| (simp only [sd0, sd1, sd2, sd3, List.replicate]; walk_at "rd"))
theorem cmul_l {i j : Int} (h1 : -(2 ^ 64) < i) (h2 : i < 2 ^ 64) : CMul i j := .inl ⟨h1, h2⟩
theorem cmul_r {i j : Int} (h1 : -(2 ^ 64) < j) (h2 : j < 2 ^ 64) : CMul i j := .inr ⟨h1, h2⟩
theorem le_line {n k : Nat} (h : n ≤ k) (hk : k ≤ sizeLine := by decide) : n ≤ sizeLine := Nat.le_trans h hk
theorem mulS_eq (a : Str) (w : List Bool) (e : a = wd w) (h : w ≠ []) (k : Int) (k0 : 0 ≤ k) : PySem.Txt.mul a k = wd (List.replicate k.toNat w).flatten := by
  subst e
  have := mul_wd (n := k.toNat) h
  rw [show ((k.toNat : Nat) : Int) = k by omega] at this
  exact this
theorem lay_prs : ∀ ps : List (Int × Int), PyData.canLayAll0 (ps.map prD) = true
  | [] => rfl
  | p :: ps => by show ((true && (true && true)) && PyData.canLayAll0 (ps.map prD)) = true; rw [lay_prs ps]; rfl
theorem shp_dg (ps : List (Int × Int)) : SeqAt.shaped (.tuple (ps.map prD)) = true := by
  show (PyData.canLayAll0 (ps.map prD) && decide (PyData.depthAll (ps.map prD) + 1 ≤ 64)) = true
  have := pr_dp ps
  rw [lay_prs, decide_eq_true (by omega)]; rfl
theorem lay_dgs : ∀ L : List (List (Int × Int)), PyData.canLayAll0 (L.map dgD) = true ∧ PyData.depthAll (L.map dgD) ≤ 2
  | [] => ⟨rfl, Nat.zero_le _⟩
  | ps :: L => by
    obtain ⟨h1, h2⟩ := lay_dgs L
    have h3 := pr_dp ps
    refine ⟨?_, ?_⟩
    · show (PyData.canLayAll0 (ps.map prD) && PyData.canLayAll0 (L.map dgD)) = true
      rw [lay_prs, h1]; rfl
    · show max (PyData.depthAll (ps.map prD) + 1) (PyData.depthAll (L.map dgD)) ≤ 2
      omega
theorem shp_dgs (L : List (List (Int × Int))) : SeqAt.shaped (.tuple (L.map dgD)) = true := by
  show (PyData.canLayAll0 (L.map dgD) && decide (PyData.depthAll (L.map dgD) + 1 ≤ 64)) = true
  obtain ⟨h1, h2⟩ := lay_dgs L
  rw [h1, decide_eq_true (by omega)]; rfl
theorem eqv_dgsr (L : List (List (Int × Int))) : PyData.eqv (.tuple (L.map dgD)) (.tuple (L.map dgD)) = true := by
  show PyData.eqvAll _ _ = true
  refine eqvAll_refl fun x hx => ?_
  obtain ⟨ps, _, rfl⟩ := List.mem_map.mp hx
  rw [eqv_dgD]; exact decide_eq_true rfl
theorem prs_eqv : ∀ (ps qs : List (Int × Int)), PyData.eqv (.tuple (ps.map prD)) (.tuple (qs.map prD)) = decide (ps = qs)
  | [], [] => rfl
  | [], q :: qs => rfl
  | p :: ps, [] => rfl
  | p :: ps, q :: qs => by
    have ih := prs_eqv ps qs
    have ih' : PyData.eqvAll (ps.map prD) (qs.map prD) = decide (ps = qs) := ih
    show (PyData.eqv (prD p) (prD q) && PyData.eqvAll (ps.map prD) (qs.map prD)) = _
    rw [ih', eqv_pr, Bool.eq_iff_iff]
    simp only [Bool.and_eq_true, decide_eq_true_eq, Bool.and_true, List.cons.injEq]
    exact ⟨fun ⟨⟨a, b⟩, c⟩ => ⟨Prod.ext a b, c⟩, fun ⟨a, b⟩ => ⟨⟨by rw [a], by rw [a]⟩, b⟩⟩
theorem ints_any (l : List Int) (k : Int) : ((l.map PyData.int).any fun e => PyData.eqv e (.int k)) = decide (k ∈ l) := by
  rw [List.any_map, Bool.eq_iff_iff]
  simp only [List.any_eq_true, Function.comp, decide_eq_true_eq]
  constructor
  · rintro ⟨x, hx, e⟩
    rw [eqv_int] at e
    rw [← of_decide_eq_true e]
    exact hx
  · intro h
    exact ⟨k, h, by rw [eqv_int]; exact decide_eq_true rfl⟩
theorem ints_flat (l : List Int) : (l.map PyData.int).all flatD = true := by
  rw [List.all_map]
  exact List.all_eq_true.mpr fun _ _ => rfl
theorem cds_shp {n : Nat} {w : List Bool} (D : Dyck n w) (hn : n ≤ 30) : SeqAt.shaped (.tuple ((cds w).map prD)) = true := by
  have pd := pr_dp (cds w)
  exact shp (d := .tuple _) (D.dg.ok hn) (by show PyData.depthAll _ + 1 ≤ 64; omega)
/-- a dict tells a joining of 1 .. N -/
def Tells (N : Nat) (kvs : List (Key × PyData)) (f : Int → Int) : Prop := ∀ p : Int, 1 ≤ p → p ≤ N → valD kvs (.inl p) = some (.int (f p))
/-- loops as data -/
def rtD (r : List Int) : PyData := .tuple (r.map .int)
theorem flat_le {n : Nat} {f g : Int → Int} {i : Nat} (F : Mt (2 * n) f) (G : Mt (2 * n) g) (hi : i ≤ 2 * n) : (rgs f g i).flatten.length ≤ 2 * n := by
  have R := rgs_ok F G i hi
  have nd := R.nodup F G
  have := nat_nodup_len ((rgs f g i).flatten.map Int.toNat) ((List.range (2 * n)).map (· + 1)) (by
    rw [List.nodup_iff_pairwise_ne, List.pairwise_map]
    refine (List.nodup_iff_pairwise_ne.mp nd).imp_of_mem fun {a b} ma mb h e => ?_
    have := R.inn F G ma
    have := R.inn F G mb
    exact h (by omega)) fun x hx => by
    obtain ⟨y, hy, rfl⟩ := List.mem_map.mp hx
    have := R.inn F G hy
    exact List.mem_map.mpr ⟨y.toNat - 1, List.mem_range.mpr (by omega), by omega⟩
  rwa [List.length_map, List.length_map, List.length_range] at this
theorem rgs_hit {f g : Int → Int} {i : Nat} (c : ((i : Int) + 1) ∈ (rgs f g i).flatten) : rgs f g (i + 1) = rgs f g i := by
  show (if ((i : Int) + 1) ∈ (rgs f g i).flatten then rgs f g i else rgs f g i ++ [ring f g ((i : Int) + 1)]) = _
  rw [if_pos c]
theorem rgs_new {f g : Int → Int} {i : Nat} (c : ((i : Int) + 1) ∉ (rgs f g i).flatten) : rgs f g (i + 1) = rgs f g i ++ [ring f g ((i : Int) + 1)] := by
  show (if ((i : Int) + 1) ∈ (rgs f g i).flatten then rgs f g i else rgs f g i ++ [ring f g ((i : Int) + 1)]) = _
  rw [if_neg c]
theorem rgs_flat {f g : Int → Int} {i : Nat} (c : ((i : Int) + 1) ∉ (rgs f g i).flatten) : (rgs f g (i + 1)).flatten = (rgs f g i).flatten ++ ring f g ((i : Int) + 1) := by
  rw [rgs_new c, List.flatten_append]; simp
theorem rgs_len_le {f g : Int → Int} {i : Nat} : (rgs f g i).length ≤ i := by
  induction i with
  | zero => exact Nat.le_refl _
  | succ i ih =>
    unfold rgs
    split
    · omega
    · rw [List.length_append]; simp; omega
/-- the state of the drawing functions -/
def begD (ns : List Int) (a l : Int) : List (Key × PyData) := [(.inr "script", .list (ns.map .int)), (.inr "at", .int a), (.inr "left", .int l)]
theorem beg_s {a l : Int} {ns : List Int} : valD (begD ns a l) (.inr "script") = some (.list (ns.map .int)) := rfl
theorem beg_a {a l : Int} {ns : List Int} : valD (begD ns a l) (.inr "at") = some (.int a) := rfl
theorem beg_l {a l : Int} {ns : List Int} : valD (begD ns a l) (.inr "left") = some (.int l) := rfl
theorem beg_pa {a l x : Int} {ns : List Int} : putD (begD ns a l) (.inr "at") (.int x) = begD ns x l := rfl
theorem beg_pl {a l x : Int} {ns : List Int} : putD (begD ns a l) (.inr "left") (.int x) = begD ns a x := rfl
def BegOk (a : Int) (kvs : List (Key × PyData)) : Prop := ∃ (ns : List Int) (l : Int), kvs = begD ns a l ∧ 0 ≤ l ∧ ns.length ≤ 63
theorem three_line : 3 < sizeLine := by decide
theorem small1000' {n : Nat} (h : n < 10000) : n < sizeLine := Nat.lt_of_lt_of_le h (by decide)
theorem sIx_in {n d k : Nat} (h : k ≤ n) : HT.sIx n d (some (k : Int)) = k := by
  rw [HT.sIx_nat, Nat.min_eq_left h]
def shrt (n : Nat) (p : Int × Int) : Bool := decide (p.2 = p.1 + 1) || (decide (p.1 = 1) && (decide (p.2 = 2 * (n : Int)) && true))
theorem lmp (ps : List (Int × Int)) : (ps.map prD).length = ps.length := List.length_map ..
theorem all_true (n : Nat) : (List.replicate n true).all id = true := by simp
/-- a text that is a word of size at most 30 -/
def IsW (n : Nat) (w : List Bool) (s : Str) : Prop := s = wd w ∧ Dyck n w ∧ n ≤ 30
theorem IsW.le {n : Nat} {w : List Bool} {s : Str} (h : IsW n w s) : w.length ≤ 60 := by
  have := h.2.1.len
  have := h.2.2
  omega
theorem cp_bound {h l : Nat} (hl : l ≤ 60) : cp h l < 2 ^ 62 := by
  have h1 := cp_le h l
  have h2 : 2 ^ l ≤ 2 ^ 60 := Nat.pow_le_pow_right (by decide) hl
  omega

/-! ### _law_begun -/
def sp_w_begun : DSp := fun ds Q => match ds with
  | [.list es] => ∃ ns : List Int, es = ns.map .int ∧ ns.length ≤ 63 ∧ ∀ kvs, BegOk 0 kvs → Q (.n (.dk kvs))
  | _ => False

def t_w_begun : DTS := (dRet false (dDisp [.inr "script", .inr "at", .inr "left"] (dlCons (dName 0) (dlCons (dC (.int 0)) (dlCons (dC (.int 0)) dlNil)))))
theorem rd_w_begun : ∀ ds Qd, sp_w_begun ds Qd → t_w_begun { nx := fun _ => Qd (.d .none), rt := fun r _ => Qd r } (startD 1 ds) := by
  intro ds Qd h
  unfold sp_w_begun at h
  split at h
  · obtain ⟨ns, rfl, h1, h⟩ := h
    unfold t_w_begun
    walk_at "rd0"
    exact h _ ⟨ns, 0, rfl, by decide, h1⟩
  · exact h.elim

theorem len_w_begun : ∀ ds Q, sp_w_begun ds Q → ds.length = 1 := by
  intro ds Q h
  unfold sp_w_begun at h
  split at h
  · rfl
  · exact h.elim
theorem ok_w_begun (T : Tx K mg) (base : Heap) : FnOk P w K mg base CX0 1 T.f_w_begun T.d_w_begun ["script"] (spD K sp_w_begun) :=
  fnD_ok T.F_w_begun sc_w_begun len_w_begun fun cdv A outer s H E hr => ⟨t_w_begun,
    (dss_one (ds_ret (de_disp (ks := [.inr "script", .inr "at", .inr "left"]) (dpr_cons (de_name 0) (dpr_cons de_int (dpr_cons de_int dpr_nil)))))), rd_w_begun⟩
/-! ### _law_next -/
def sp_w_next : DSpI := fun wo ds Q => match wo, ds with
  | .dk kvs, [.int total] => ∃ a, BegOk a kvs ∧ 0 ≤ a ∧ a < 2 ^ 30 ∧ 0 < total ∧ total < 2 ^ 63 ∧ ∀ r a' kvs', BegOk a' kvs' → a ≤ a' → a' ≤ a + 1 → 0 ≤ r → r < total → Q (.int r) (.dk kvs')
  | _, _ => False

def t_w_next_1_2 : DTS := (dRet true (dName 2))
def t_w_next_1_1 : DTS := (dSeq (dDset 0 (.inr "left") (d2 DL.gDivW (dDget 0 (.inr "left")) (dName 1))) t_w_next_1_2)
def t_w_next_1_0 : DTS := (dSeq (dSet 2 (d2 DL.gMod (dDget 0 (.inr "left")) (dName 1))) t_w_next_1_1)
def t_w_next_2_1 : DTS := (dRet true (d2 DL.gMod (dName 4) (dName 1)))
def t_w_next_2_0 : DTS := (dSeq (dDset 0 (.inr "left") (d2 DL.gDivW (dName 4) (dName 1))) t_w_next_2_1)
def t_w_next_3_7 : DTS := (dRet true (d2 DL.gMod (d2 DL.gDivW (d2 DL.gMod (d2 DL.gMulI (d2 DL.gMod (d2 DL.gMulI (dName 5) (dName 5)) (dC (.int 2147483629))) (dC (.int 69621))) (dC (.int 2147483587))) (dC (.int 7))) (dName 1)))
def t_w_next_3_6 : DTS := (dSeq (dSet 5 (d2 DL.gMod (d2 DL.gAdd (d2 DL.gAdd (d2 DL.gAdd (dName 5) (d2 DL.gMulI (d2 DL.gMulI (dC (.int 7919)) (dName 3)) (dName 3))) (d2 DL.gMulI (dC (.int 104729)) (dName 3))) (dC (.int 47))) (dC (.int 2147483647)))) t_w_next_3_7)
def t_w_next_3_5 : DTS := (dSeq (dSet 5 (d2 DL.gAdd (d2 DL.gMulI (d2 DL.gMod (dName 4) (dC (.int 1000003))) (dC (.int 48271))) (d2 DL.gMod (d2 DL.gDivW (dName 4) (dC (.int 1000003))) (dC (.int 1000003))))) t_w_next_3_6)
def t_w_next_3_4 : DTS := (dSeq (dIf (dAnd (dB (d2 gGe (dName 4) (d2 DL.gPow (dC (.int 10)) (dC (.int 18))))) (dB (d2 gLtA (dName 3) (dCl gLen (daCons (dDget 0 (.inr "script")) daNil))))) t_w_next_2_0 dNext) t_w_next_3_5)
def t_w_next_3_3 : DTS := (dSeq (dSet 4 (dIfE (dB (d2 gNeA (dDget 0 (.inr "script")) (dLst dlNil))) (d2 gIx (dDget 0 (.inr "script")) (d2 DL.gMod (dName 3) (dCl gLen (daCons (dDget 0 (.inr "script")) daNil)))) (dC (.int 0)))) t_w_next_3_4)
def t_w_next_3_2 : DTS := (dSeq (dDset 0 (.inr "at") (d2 DL.gAdd (dName 3) (dC (.int 1)))) t_w_next_3_3)
def t_w_next_3_1 : DTS := (dSeq (dSet 3 (dDget 0 (.inr "at"))) t_w_next_3_2)
def t_w_next : DTS := (dSeq (dIf (dB (d2 gGtA (dDget 0 (.inr "left")) (dC (.int 0)))) t_w_next_1_0 dNext) t_w_next_3_1)
theorem rd_w_next : ∀ wo ds Qd, sp_w_next wo ds Qd → t_w_next { nx := fun ρ => ∃ wo2, slot ρ 0 = .own wo2 ∧ Qd .none wo2, rt := fun r ρ => ∃ d wo2, r = .d d ∧ slot ρ 0 = .own wo2 ∧ Qd d wo2 } (.own wo :: startD 5 ds) := by
  intro wo ds Qd h
  unfold sp_w_next at h
  split at h
  · obtain ⟨a, ⟨ns, l, rfl, l0, n1⟩, a0, a1, s0, s1, h⟩ := h
    rename_i total
    have p18 : ((10 : Int) ^ (18 : Int).toNat) = 1000000000000000000 := by decide
    have H4 : ∀ c : Int, t_w_next_3_4 { nx := fun ρ => ∃ wo2, slot ρ 0 = .own wo2 ∧ Qd .none wo2, rt := fun r ρ => ∃ d wo2, r = .d d ∧ slot ρ 0 = .own wo2 ∧ Qd d wo2 } [.own (.dk (begD ns (a + 1) l)), .val (.int total), .free, .val (.int a), .val (.int c), .free] := by
      intro c
      have H5 : t_w_next_3_5 { nx := fun ρ => ∃ wo2, slot ρ 0 = .own wo2 ∧ Qd .none wo2, rt := fun r ρ => ∃ d wo2, r = .d d ∧ slot ρ 0 = .own wo2 ∧ Qd d wo2 } [.own (.dk (begD ns (a + 1) l)), .val (.int total), .free, .val (.int a), .val (.int c), .free] := by
        unfold t_w_next_3_5
        walk_at "rd"
        refine ⟨by decide, cmul_r (by decide) (by decide), cdw (by decide) (by decide), by decide, ?_⟩
        generalize c % 1000003 * 48271 + c / 1000003 % 1000003 = mx
        unfold t_w_next_3_6
        walk_at "rd"
        have k1 : -(2 ^ 64) < a := by omega
        have k2 : a < 2 ^ 64 := by omega
        refine ⟨cmul_l (by decide) (by decide), cmul_r k1 k2, cmul_l (by decide) (by decide), by decide, ?_⟩
        have q0 := Int.emod_nonneg (mx + 7919 * a * a + 104729 * a + 43) (show (2147483647 : Int) ≠ 0 by decide)
        generalize hmx : (mx + 7919 * a * a + 104729 * a + _) % 2147483647 = my
        have q1 : 0 ≤ my := by rw [← hmx]; exact Int.emod_nonneg _ (by decide)
        have q2 : my < 2147483647 := by rw [← hmx]; exact Int.emod_lt_of_pos _ (by decide)
        unfold t_w_next_3_7
        walk_at "rd"
        refine ⟨cmul_r (by omega) (by omega), by decide, cmul_r (by decide) (by decide), by decide, cdw (by decide) (by decide), s0, ?_⟩
        exact ⟨_, _, rfl, rfl, h _ (a + 1) _ ⟨ns, l, rfl, l0, n1⟩ (by omega) (by omega) (Int.emod_nonneg _ (by omega)) (Int.emod_lt_of_pos _ s0)⟩
      unfold t_w_next_3_4
      walk_at "rd"
      refine ⟨⟨by decide, by decide, by decide⟩, ?_⟩
      rw [p18]
      by_cases hc : (1000000000000000000 : Int) ≤ c
      · rw [decide_eq_true hc]
        walk_at "rd"
        rw [beg_s]
        walk_at "rd"
        by_cases ha : a < ((ns.map PyData.int).length : Int)
        · rw [decide_eq_true ha]
          walk_at "rd"
          unfold t_w_next_2_0
          walk_at "rd"
          refine ⟨cdw s0 (by omega), three_line, ?_⟩
          rw [beg_pl]
          unfold t_w_next_2_1
          walk_at "rd"
          refine ⟨s0, ?_⟩
          exact ⟨_, _, rfl, rfl, h _ (a + 1) _ ⟨ns, _, rfl, Int.ediv_nonneg (by omega) (by omega), n1⟩ (by omega) (by omega) (Int.emod_nonneg _ (by omega)) (Int.emod_lt_of_pos _ s0)⟩
        · rw [decide_eq_false ha]
          walk_at "rd"
          exact H5
      · rw [decide_eq_false hc]
        walk_at "rd"
        exact H5
    have back : t_w_next_3_1 { nx := fun ρ => ∃ wo2, slot ρ 0 = .own wo2 ∧ Qd .none wo2, rt := fun r ρ => ∃ d wo2, r = .d d ∧ slot ρ 0 = .own wo2 ∧ Qd d wo2 } [.own (.dk (begD ns a l)), .val (.int total), .free, .free, .free, .free] := by
      unfold t_w_next_3_1
      walk_at "rd"
      rw [beg_a]
      walk_at "rd"
      unfold t_w_next_3_2
      walk_at "rd"
      rw [beg_pa]
      refine ⟨three_line, ?_⟩
      unfold t_w_next_3_3
      walk_at "rd"
      rw [beg_s]
      walk_at "rd"
      refine ⟨by decide, shp_ints ns, by decide, ?_⟩
      cases ns with
      | nil =>
        rw [show (!PyData.eqv (.list (([] : List Int).map PyData.int)) (.list [])) = false from rfl]
        walk_at "rd"
        exact H4 0
      | cons n0 nr =>
        rw [show (!PyData.eqv (.list ((n0 :: nr).map PyData.int)) (.list [])) = true from rfl]
        walk_at "rd"
        have nl : 0 < ((n0 :: nr).map PyData.int).length := by simp
        have m1 : 0 ≤ a % (((n0 :: nr).map PyData.int).length : Int) := Int.emod_nonneg _ (by omega)
        have m2 : a % (((n0 :: nr).map PyData.int).length : Int) < ((n0 :: nr).map PyData.int).length := Int.emod_lt_of_pos _ (by omega)
        refine ⟨by omega, ?_⟩
        have m3 : (a % (((n0 :: nr).map PyData.int).length : Int)).toNat < (n0 :: nr).length := by rw [List.length_map] at m1 m2 ⊢; omega
        have ee := atI_map (f := PyData.int) m1 m3
        rw [ee]
        walk_at "rd"
        exact H4 _
    unfold t_w_next
    walk_at "rd0"
    rw [beg_l]
    walk_at "rd"
    by_cases hl : 0 < l
    · rw [decide_eq_true hl]
      walk_at "rd"
      unfold t_w_next_1_0
      walk_at "rd"
      rw [beg_l]
      walk_at "rd"
      refine ⟨s0, ?_⟩
      unfold t_w_next_1_1
      walk_at "rd"
      rw [beg_l]
      walk_at "rd"
      rw [beg_pl]
      refine ⟨cdw s0 (by omega), three_line, ?_⟩
      unfold t_w_next_1_2
      walk_at "rd"
      exact ⟨_, _, rfl, rfl, h _ a _ ⟨ns, _, rfl, Int.ediv_nonneg l0 (by omega), n1⟩ (by omega) (by omega) (Int.emod_nonneg _ (by omega)) (Int.emod_lt_of_pos _ s0)⟩
    · rw [decide_eq_false hl]
      walk_at "rd"
      exact back
  · exact h.elim

theorem len_w_next : ∀ wo ds Q, sp_w_next wo ds Q → ds.length + 1 = 2 := by
  intro wo ds Q h
  unfold sp_w_next at h
  split at h
  · rfl
  · exact h.elim
theorem ok_w_next (T : Tx K mg) (base : Heap) : FnOk P w K mg base CX0 1 T.f_w_next T.d_w_next ["m", "total"] (spI K sp_w_next) :=
  fnI_ok T.F_w_next sc_w_next (List.cons_ne_nil _ _) len_w_next fun cdv A outer s H E hr => ⟨t_w_next,
    (dss_cons (ds_if (dt_cmp op_gtA opl_gtA (de_dget 0 (hu_of hr)) de_int (nomark _)) (dss_cons (ds_set 2 sc_w_next.nd (de_bin op_mod opl_mod (de_dget 0 (hu_of hr)) (de_name 1)) (hio := fun _ => by decide))
    (dss_cons (ds_dset 0 (hu_of hr) (de_bin op_fdivW opl_divW (de_dget 0 (hu_of hr)) (de_name 1)))
    (dss_one (ds_ret (de_name 2))))) dss_nil)
    (dss_cons (ds_set 3 sc_w_next.nd (de_dget 0 (hu_of hr)) (hio := fun _ => by decide))
    (dss_cons (ds_dset 0 (hu_of hr) (de_bin op_addA opl_add (de_name 3) de_int))
    (dss_cons (ds_set 4 sc_w_next.nd (de_ifE (dt_cmp (op_neA hr.units) opl_neA (de_dget 0 (hu_of hr)) (de_lst dl_nil) (nomark _)) (de_ix (de_dget 0 (hu_of hr)) (de_bin op_mod opl_mod (de_name 3) (de_callB call_lenA cll_len rfl T.z_len (by decide +kernel) (da_cons (de_dget 0 (hu_of hr)) da_nil))) (fun _ _ => rfl)) de_int) (hio := fun _ => by decide))
    (dss_cons (ds_if (dt_w (dw_and (dt_cmp L2.op_ge opl_ge (de_name 4) (de_bin op_pow opl_pow de_int de_int) (nomark _)) (dw_and1 (dt_cmp op_ltA opl_ltA (de_name 3) (de_callB call_lenA cll_len rfl T.z_len (by decide +kernel) (da_cons (de_dget 0 (hu_of hr)) da_nil)) (nomark _))))) (dss_cons (ds_dset 0 (hu_of hr) (de_bin op_fdivW opl_divW (de_name 4) (de_name 1)))
    (dss_one (ds_ret (de_bin op_mod opl_mod (de_name 4) (de_name 1))))) dss_nil)
    (dss_cons (ds_set 5 sc_w_next.nd (de_bin op_addA opl_add (de_bin op_mul opl_mulI (de_bin op_mod opl_mod (de_name 4) de_int) de_int) (de_bin op_mod opl_mod (de_bin op_fdivW opl_divW (de_name 4) de_int) de_int)) (hio := fun _ => by decide))
    (dss_cons (ds_set 5 sc_w_next.nd (de_bin op_mod opl_mod (de_bin op_addA opl_add (de_bin op_addA opl_add (de_bin op_addA opl_add (de_name 5) (de_bin op_mul opl_mulI (de_bin op_mul opl_mulI de_int (de_name 3)) (de_name 3))) (de_bin op_mul opl_mulI de_int (de_name 3))) de_int) de_int) (hio := fun _ => by decide))
    (dss_one (ds_ret (de_bin op_mod opl_mod (de_bin op_fdivW opl_divW (de_bin op_mod opl_mod (de_bin op_mul opl_mulI (de_bin op_mod opl_mod (de_bin op_mul opl_mulI (de_name 5) (de_name 5)) de_int) de_int) de_int) de_int) (de_name 1))))))))))), rd_w_next⟩
/-! ### is_true_integer -/
def sp_is_true_integer : DSp := fun ds Q => match ds with
  | [.int _] => Q (.d (.bool true))
  | _ => False

def t_is_true_integer : DTS := (dRet false (dAndV (dIsi "int" (dName 0)) (dNotV (dIsi "bool" (dName 0)))))
theorem rd_is_true_integer : ∀ ds Qd, sp_is_true_integer ds Qd → t_is_true_integer { nx := fun _ => Qd (.d .none), rt := fun r _ => Qd r } (startD 1 ds) := by
  intro ds Qd h
  unfold sp_is_true_integer at h
  split at h
  · rename_i v
    unfold t_is_true_integer
    walk_at "rd0"
    rw [show isB (kindD (PyData.int v)) "int" = true from rfl, show isB (kindD (PyData.int v)) "bool" = false from rfl]
    walk_at "rd"
    exact h
  · exact h.elim

theorem len_is_true_integer : ∀ ds Q, sp_is_true_integer ds Q → ds.length = 1 := by
  intro ds Q h
  unfold sp_is_true_integer at h
  split at h
  · rfl
  · exact h.elim
theorem ok_is_true_integer (T : Tx K mg) (base : Heap) : FnOk P w K mg base CX0 1 T.f_is_true_integer T.d_is_true_integer ["value"] (spD K sp_is_true_integer) :=
  fnD_ok T.F_is_true_integer sc_is_true_integer len_is_true_integer fun cdv A outer s H E hr => ⟨t_is_true_integer,
    (dss_one (ds_ret (de_and (de_isi kit_int T.z_isinstance T.z_int (by decide +kernel) (de_name 0)) (de_one (de_not (de_isi kit_bool T.z_isinstance T.z_bool (by decide +kernel) (de_name 0))))))), rd_is_true_integer⟩
/-! ### is_integer_within -/
def sp_is_integer_within : DSp := fun ds Q => match ds with
  | [.int v, .int a, .int b] => Q (.d (.bool (decide (a ≤ v) && decide (v ≤ b))))
  | _ => False

def t_is_integer_within : DTS := (dRet false (dAndV (dCall sp_is_true_integer (dlCons (dName 0) dlNil)) (dCh gLe gLe (dName 1) (dName 0) (dName 2))))
theorem rd_is_integer_within : ∀ ds Qd, sp_is_integer_within ds Qd → t_is_integer_within { nx := fun _ => Qd (.d .none), rt := fun r _ => Qd r } (startD 3 ds) := by
  intro ds Qd h
  unfold sp_is_integer_within at h
  split at h
  · rename_i v a b
    unfold t_is_integer_within
    walk_at "rd0"
    unfold sp_is_true_integer
    walk_at "rd"
    by_cases h1 : a ≤ v
    · rw [decide_eq_true h1] at h ⊢
      walk_at "rd"
      exact h
    · rw [decide_eq_false h1] at h ⊢
      walk_at "rd"
      exact h
  · exact h.elim

theorem len_is_integer_within : ∀ ds Q, sp_is_integer_within ds Q → ds.length = 3 := by
  intro ds Q h
  unfold sp_is_integer_within at h
  split at h
  · rfl
  · exact h.elim
theorem ok_is_integer_within (T : Tx K mg) (base : Heap) : FnOk P w K mg base CX0 2 T.f_is_integer_within T.d_is_integer_within ["value", "low", "high"] (spD K sp_is_integer_within) :=
  fnD_ok T.F_is_integer_within sc_is_integer_within len_is_integer_within fun cdv A outer s H E hr => ⟨t_is_integer_within,
    (dss_one (ds_ret (de_and (de_call (ok_is_true_integer T base) (hr.mono (by decide)) rfl T.g_is_true_integer T.F_is_true_integer.kp T.b_is_true_integer pass0 (dl_cons (de_name 0) dl_nil)) (de_one (de_chain L2.op_le opl_le L2.op_le opl_le (de_name 1) (de_name 0) (de_name 2)))))), rd_is_integer_within⟩
/-! ### validate_size -/
def sp_validate_size : DSp := fun ds Q => match ds with
  | [.int v, .int a, .int b] => a ≤ v ∧ v ≤ b ∧ Q (.d .none)
  | _ => False

def t_validate_size : DTS := (dIf (dNot (dTr (dCall sp_is_integer_within (dlCons (dName 0) (dlCons (dName 1) (dlCons (dName 2) dlNil)))))) (fun _ _ => False) dNext)
theorem rd_validate_size : ∀ ds Qd, sp_validate_size ds Qd → t_validate_size { nx := fun _ => Qd (.d .none), rt := fun r _ => Qd r } (startD 3 ds) := by
  intro ds Qd h
  unfold sp_validate_size at h
  split at h
  · obtain ⟨h1, h2, h⟩ := h
    unfold t_validate_size
    walk_at "rd0"
    unfold sp_is_integer_within
    walk_at "rd"
    rw [decide_eq_true h1, decide_eq_true h2, Bool.and_true]
    walk_at "rd"
    exact h
  · exact h.elim

theorem len_validate_size : ∀ ds Q, sp_validate_size ds Q → ds.length = 3 := by
  intro ds Q h
  unfold sp_validate_size at h
  split at h
  · rfl
  · exact h.elim
theorem ok_validate_size (T : Tx K mg) (base : Heap) : FnOk P w K mg base CX0 3 T.f_validate_size T.d_validate_size ["size", "low", "high"] (spD K sp_validate_size) :=
  fnD_ok T.F_validate_size sc_validate_size len_validate_size fun cdv A outer s H E hr => ⟨t_validate_size,
    (dss_one (ds_if (dt_not (dt_truth (de_call (ok_is_integer_within T base) (hr.mono (by decide)) rfl T.g_is_integer_within T.F_is_integer_within.kp T.b_is_integer_within pass0 (dl_cons (de_name 0) (dl_cons (de_name 1) (dl_cons (de_name 2) dl_nil)))))) dss_never dss_nil)), rd_validate_size⟩
/-! ### _completions -/
def sp_completions : DSp := fun ds Q => match ds with
  | [.int a, .int b] => ∃ h l : Nat, a = h ∧ b = l ∧ h ≤ 2000 ∧ l ≤ 2000 ∧ Q (.d (.int (cp h l : Nat)))
  | _ => False

def t_completions_1_0 : DTS := (dRet false (dC (.int 0)))
def t_completions_2_2 : DTS := (dRet false (d2 DL.gSub (dCl gComb (daCons (dName 1) (daCons (dName 2) daNil))) (dCl gComb (daCons (dName 1) (daCons (d2 DL.gAdd (dName 2) (dC (.int 1))) daNil)))))
def t_completions_2_1 : DTS := (dSeq (dSet 2 (d2 DL.gDivW (d2 DL.gAdd (dName 0) (dName 1)) (dC (.int 2)))) t_completions_2_2)
def t_completions : DTS := (dSeq (dIf (dB (d2 gEqA (d2 DL.gMod (d2 DL.gAdd (dName 0) (dName 1)) (dC (.int 2))) (dC (.int 1)))) t_completions_1_0 dNext) t_completions_2_1)
theorem rd_completions : ∀ ds Qd, sp_completions ds Qd → t_completions { nx := fun _ => Qd (.d .none), rt := fun r _ => Qd r } (startD 3 ds) := by
  intro ds Qd h
  unfold sp_completions at h
  split at h
  · obtain ⟨hh, l, rfl, rfl, h1, h2, h⟩ := h
    unfold t_completions
    walk_at "rd0"
    refine ⟨by decide, ?_⟩
    by_cases hc : ((hh : Int) + (l : Int)) % 2 = 1
    · rw [decide_eq_true hc]
      walk_at "rd"
      unfold t_completions_1_0
      walk_at "rd"
      rw [cp_odd (show (hh + l) % 2 = 1 by omega)] at h
      exact h
    · rw [decide_eq_false hc]
      walk_at "rd"
      unfold t_completions_2_1
      walk_at "rd"
      refine ⟨cdw (by decide) (by decide), ?_⟩
      unfold t_completions_2_2
      walk_at "rd"
      have e : ((hh : Int) + (l : Int)) / 2 = (((hh + l) / 2 : Nat) : Int) := by omega
      rw [e]
      have hi := cp_int hh l (by omega)
      rw [hi] at h
      refine ⟨by omega, by omega, by omega, by omega, by omega, by omega, by omega, by omega, ?_⟩
      rw [show ((((hh + l) / 2 : Nat) : Int) + 1).toNat = (hh + l) / 2 + 1 by omega, Int.toNat_natCast, Int.toNat_natCast]
      exact h
  · exact h.elim

theorem len_completions : ∀ ds Q, sp_completions ds Q → ds.length = 2 := by
  intro ds Q h
  unfold sp_completions at h
  split at h
  · rfl
  · exact h.elim
theorem ok_completions (T : Tx K mg) (base : Heap) : FnOk P w K mg base CX0 1 T.f_completions T.d_completions ["height", "length"] (spD K sp_completions) :=
  fnD_ok T.F_completions sc_completions len_completions fun cdv A outer s H E hr => ⟨t_completions,
    (dss_cons (ds_if (dt_cmp (op_eqA hr.units) opl_eqA (de_bin op_mod opl_mod (de_bin op_addA opl_add (de_name 0) (de_name 1)) de_int) de_int (nomark _)) (dss_one (ds_ret de_int)) dss_nil)
    (dss_cons (ds_set 2 sc_completions.nd (de_bin op_fdivW opl_divW (de_bin op_addA opl_add (de_name 0) (de_name 1)) de_int) (hio := fun z => nomatch z))
    (dss_one (ds_ret (de_bin op_sub opl_sub (de_callM cr_comb cll_comb rfl T.m_comb (da_cons (de_name 1) (da_cons (de_name 2) da_nil))) (de_callM cr_comb cll_comb rfl T.m_comb (da_cons (de_name 1) (da_cons (de_bin op_addA opl_add (de_name 2) de_int) da_nil)))))))), rd_completions⟩
/-! ### word_count -/
def sp_word_count : DSp := fun ds Q => match ds with
  | [.int a] => ∃ n : Nat, a = n ∧ n ≤ 500 ∧ Q (.d (.int (cp 0 (2 * n) : Nat)))
  | _ => False

def t_word_count_1_1 : DTS := (dRet false (dCall sp_completions (dlCons (dC (.int 0)) (dlCons (d2 DL.gMulI (dC (.int 2)) (dName 0)) dlNil))))
def t_word_count : DTS := (dSeq (dDrop (dCall sp_validate_size (dlCons (dName 0) (dlCons (dC (.int 0)) (dlCons (dC (.int 500)) dlNil))))) t_word_count_1_1)
theorem rd_word_count : ∀ ds Qd, sp_word_count ds Qd → t_word_count { nx := fun _ => Qd (.d .none), rt := fun r _ => Qd r } (startD 1 ds) := by
  intro ds Qd h
  unfold sp_word_count at h
  split at h
  · obtain ⟨n, rfl, h1, h⟩ := h
    unfold t_word_count
    walk_at "rd0"
    refine ⟨by omega, by omega, ?_⟩
    unfold t_word_count_1_1
    walk_at "rd"
    refine ⟨cmul_l (by decide) (by decide), 0, 2 * n, rfl, by omega, by omega, by omega, h⟩
  · exact h.elim

theorem len_word_count : ∀ ds Q, sp_word_count ds Q → ds.length = 1 := by
  intro ds Q h
  unfold sp_word_count at h
  split at h
  · rfl
  · exact h.elim
theorem ok_word_count (T : Tx K mg) (base : Heap) : FnOk P w K mg base CX0 4 T.f_word_count T.d_word_count ["size"] (spD K sp_word_count) :=
  fnD_ok T.F_word_count sc_word_count len_word_count fun cdv A outer s H E hr => ⟨t_word_count,
    (dss_cons (ds_expr (de_call (ok_validate_size T base) (hr.mono (by decide)) rfl T.g_validate_size T.F_validate_size.kp T.b_validate_size pass0 (dl_cons (de_name 0) (dl_cons de_int (dl_cons (de_globI T.c_MOST_COUNTED) dl_nil)))))
    (dss_one (ds_ret (de_call (ok_completions T base) (hr.mono (by decide)) rfl T.g_completions T.F_completions.kp T.b_completions pass0 (dl_cons de_int (dl_cons (de_bin op_mul opl_mulI de_int (de_name 0)) dl_nil)))))), rd_word_count⟩
/-! ### validate_word -/
def sp_validate_word : DSp := fun ds Q => match ds with
  | [.str s] => ∃ n w, IsW n w s ∧ Q (.d .none)
  | _ => False

def t_validate_word_2_0 : DTS := (dAug 1 (fun i j => i + j) (dC (.int 1)))
def t_validate_word_3_0 : DTS := (dAug 1 (fun i j => i - j) (dC (.int 1)))
def t_validate_word_5_0 : DTS := (dIf (dAnd (dB (d2 gEqA (dName 3) (dC (.str "D")))) (dB (d2 gGtA (dName 1) (dC (.int 0))))) t_validate_word_3_0 (fun _ _ => False))
def t_validate_word_6_0 : DTS := (dIf (dB (d2 gEqA (dName 3) (dC (.str "U")))) t_validate_word_2_0 t_validate_word_5_0)
def t_validate_word_8_3 : DTS := (dIf (dB (d2 gGtA (dName 1) (dC (.int 0)))) (fun _ _ => False) dNext)
def t_validate_word_8_2 : DTS := (dSeq (dFor (dItE 0 (daCons (dName 0) daNil)) (dgTup 2 (dgCons (dgName 2) (dgCons (dgName 3) dgNil))) t_validate_word_6_0) t_validate_word_8_3)
def t_validate_word_8_1 : DTS := (dSeq (dSet 1 (dC (.int 0))) t_validate_word_8_2)
def t_validate_word : DTS := (dSeq (dIf (dOr (dNot (dTr (dIsi "str" (dName 0)))) (dB (d2 gGtA (dCl gLen (daCons (dName 0) daNil)) (d2 DL.gMulI (dC (.int 2)) (dC (.int 30)))))) (fun _ _ => False) dNext) t_validate_word_8_1)
theorem rd_validate_word : ∀ ds Qd, sp_validate_word ds Qd → t_validate_word { nx := fun _ => Qd (.d .none), rt := fun r _ => Qd r } (startD 4 ds) := by
  intro ds Qd h
  unfold sp_validate_word at h
  split at h
  · obtain ⟨n, w, iw, h⟩ := h
    have lw := iw.le
    obtain ⟨rfl, D, hn⟩ := iw
    unfold t_validate_word
    walk_at "rd0"
    rw [show (!isB (kindD (PyData.str (wd w))) "str") = false from rfl]
    walk_at "rd"
    refine ⟨by rw [wd_len]; exact le_line lw, cmul_l (by decide) (by decide), ?_⟩
    rw [decide_eq_false (by rw [wd_len]; omega)]
    walk_at "rd"
    unfold t_validate_word_8_1
    walk_at "rd"
    unfold t_validate_word_8_2
    walk_at "rd"
    refine ⟨fun i ρ => ∃ x y, ρ = [.val (.str (wd w)), .val (.int (hp w i)), x, y], ⟨.free, .free, rfl⟩, ?_, ?_⟩
    · rintro i ρ hi ⟨x, y, rfl⟩
      rw [wd_size] at hi
      rw [sgE_wd hi]
      walk_at "rd"
      refine ⟨rfl, ?_⟩
      unfold t_validate_word_6_0
      walk_at "rd"
      rw [dec_U]
      cases hb : w[i] with
      | true =>
        walk_at "rd"
        unfold t_validate_word_2_0
        walk_at "rd"
        exact ⟨_, _, by rw [hp_succ hi, hb]; rfl⟩
      | false =>
        walk_at "rd"
        unfold t_validate_word_5_0
        walk_at "rd"
        rw [dec_D]
        (try walk_at "rd")
        have := D.pos (i + 1)
        rw [hp_succ hi, hb] at this
        rw [decide_eq_true (show 0 < hp w i by simp at this; omega)]
        walk_at "rd"
        unfold t_validate_word_3_0
        (try walk_at "rd")
        exact ⟨_, _, by rw [hp_succ hi, hb]; rfl⟩
    · rintro ρ ⟨x, y, rfl⟩
      unfold t_validate_word_8_3
      rw [wd_size, hp_len, D.end0]
      walk_at "rd"
      exact h
  · exact h.elim

theorem len_validate_word : ∀ ds Q, sp_validate_word ds Q → ds.length = 1 := by
  intro ds Q h
  unfold sp_validate_word at h
  split at h
  · rfl
  · exact h.elim
theorem ok_validate_word (T : Tx K mg) (base : Heap) : FnOk P w K mg base CX0 1 T.f_validate_word T.d_validate_word ["word"] (spD K sp_validate_word) :=
  fnD_ok T.F_validate_word sc_validate_word len_validate_word fun cdv A outer s H E hr => ⟨t_validate_word,
    (dss_cons (ds_if (dt_w (dw_or (dt_not (dt_truth (de_isi kit_str T.z_isinstance T.z_str (by decide +kernel) (de_name 0)))) (dw_or1 (dt_cmp op_gtA opl_gtA (de_callB call_lenA cll_len rfl T.z_len (by decide +kernel) (da_cons (de_name 0) da_nil)) (de_bin op_mul opl_mulI de_int (de_globI T.c_MOST_SIZE)) (nomark _))))) dss_never dss_nil)
    (dss_cons (ds_set 1 sc_validate_word.nd de_int (hio := fun z => nomatch z))
    (dss_cons (ds_for PassesOwn.never rfl (di_enumS rfl T.z_enumerate (da_cons (de_name 0) da_nil)) (dg_tup rfl (dgs_cons (dg_name 2 sc_validate_word.nd) (dgs_cons (dg_name 3 sc_validate_word.nd) dgs_nil))) (dss_one (ds_if (dt_cmp (op_eqA hr.units) opl_eqA (de_name 3) de_str (nomark _)) (dss_one (ds_aug 1 sc_validate_word.nd ip_add de_int)) (dss_one (ds_if (dt_w (dw_and (dt_cmp (op_eqA hr.units) opl_eqA (de_name 3) de_str (nomark _)) (dw_and1 (dt_cmp op_gtA opl_gtA (de_name 1) de_int (nomark _))))) (dss_one (ds_aug 1 sc_validate_word.nd ip_sub de_int)) dss_never)))))
    (dss_one (ds_if (dt_cmp op_gtA opl_gtA (de_name 1) de_int (nomark _)) dss_never dss_nil))))), rd_validate_word⟩
/-! ### partners -/
def sp_partners : DSp := fun ds Q => match ds with
  | [.str s] => ∃ n w, IsW n w s ∧ ∀ P, Joins w P → Q (.d (.tuple (P.map .int)))
  | _ => False

def t_partners_2_2 : DTS := (dSetI 1 (d2 DL.gSub (dName 3) (dC (.int 1))) (dName 5))
def t_partners_2_1 : DTS := (dSeq (dSetI 1 (d2 DL.gSub (dName 5) (dC (.int 1))) (dName 3)) t_partners_2_2)
def t_partners_2_0 : DTS := (dSeq (dSet 5 (dPop 2)) t_partners_2_1)
def t_partners_3_0 : DTS := (dIf (dB (d2 gEqA (dName 4) (dC (.str "U")))) (dApp 2 (dName 3)) t_partners_2_0)
def t_partners_4_4 : DTS := (dRet false (dCl gTuple (daCons (dName 1) daNil)))
def t_partners_4_3 : DTS := (dSeq (dFor (dItE 1 (daCons (dName 0) daNil)) (dgTup 2 (dgCons (dgName 3) (dgCons (dgName 4) dgNil))) t_partners_3_0) t_partners_4_4)
def t_partners_4_2 : DTS := (dSeq (dSet 2 (dLst dlNil)) t_partners_4_3)
def t_partners_4_1 : DTS := (dSeq (dSet 1 (dRep (dLst (dlCons (dC (.int 0)) dlNil)) (dCl gLen (daCons (dName 0) daNil)))) t_partners_4_2)
def t_partners : DTS := (dSeq (dDrop (dCall sp_validate_word (dlCons (dName 0) dlNil))) t_partners_4_1)
theorem rd_partners : ∀ ds Qd, sp_partners ds Qd → t_partners { nx := fun _ => Qd (.d .none), rt := fun r _ => Qd r } (startD 6 ds) := by
  intro ds Qd h
  unfold sp_partners at h
  split at h
  · obtain ⟨n, w, iw, h⟩ := h
    have lw := iw.le
    unfold t_partners
    walk_at "rd0"
    refine ⟨n, w, iw, ?_⟩
    obtain ⟨rfl, D, hn⟩ := iw
    unfold t_partners_4_1
    walk_at "rd"
    have e0 : ((wd w).length : Int).toNat = w.length := by rw [wd_len]; omega
    refine ⟨by decide, by rw [wd_len]; exact le_line lw, by rw [wd_len]; omega, by rw [wd_len]; omega, by rw [e0]; exact le_line (show 1 * w.length ≤ 60 by omega), ?_⟩
    rw [e0, rep_one]
    unfold t_partners_4_2
    walk_at "rd"
    refine ⟨by decide, ?_⟩
    unfold t_partners_4_3
    walk_at "rd"
    refine ⟨fun i ρ => ∃ (st : List Nat) (P : List Int) (x y z : DL.Slot), ρ = [.val (.str (wd w)), .own (.lst (P.map .int)), .own (.lst (st.reverse.map fun (k : Nat) => .int ((k : Int) + 1))), x, y, z] ∧ Stk w i st P,
      ⟨[], List.replicate w.length 0, .free, .free, .free, by rw [List.map_replicate]; rfl, Stk.start w⟩, ?_, ?_⟩
    · rintro i ρ hi ⟨st, P, x, y, z, rfl, S⟩
      rw [wd_size] at hi
      rw [sgE_wd hi]
      walk_at "rd"
      refine ⟨rfl, ?_⟩
      unfold t_partners_3_0
      walk_at "rd"
      rw [dec_U]
      cases hb : w[i] with
      | true =>
        walk_at "rd"
        have hl : st.length ≤ i := by
          have := S.hgt
          have h2 : ∀ j, j ≤ w.length → hp w j ≤ j := fun j hj => by
            induction j with
            | zero => simp [hp_zero]
            | succ j ih =>
              rw [hp_succ (by omega)]
              have := ih (by omega)
              split <;> omega
          have := h2 i (by omega)
          omega
        refine ⟨by rw [List.length_map, List.length_reverse]; exact small1000 (by omega), i :: st, P, .val (.int (1 + (i : Int))), .val (.str (bs true)), z, ?_, S.push hi hb⟩
        rw [List.reverse_cons, List.map_append, show (1 + (i : Int)) = (i : Int) + 1 by omega]
        rfl
      | false =>
        walk_at "rd"
        obtain ⟨k, r, rfl⟩ := S.open hi hb D.pos
        obtain ⟨C, S2⟩ := S.pop hi hb
        unfold t_partners_2_0
        walk_at "rd"
        have hk : k < w.length := by have := C.1; omega
        have hPl := S.len
        rw [List.reverse_cons, List.map_append, List.map_cons, List.map_nil]
        simp only [last_get, List.dropLast_concat]
        unfold t_partners_2_1
        walk_at "rd"
        rw [Int.add_sub_cancel, List.length_map, ixN_k (by omega)]
        walk_at "rd"
        unfold t_partners_2_2
        walk_at "rd"
        rw [show (1 + (i : Int)) - 1 = i by omega, List.length_set, List.length_map, ixN_k (by omega)]
        walk_at "rd"
        refine ⟨r, _, .val (.int (1 + (i : Int))), .val (.str (bs false)), .val (.int ((k : Int) + 1)), ?_, S2⟩
        rw [List.map_set, List.map_set, show (1 + (i : Int)) = (i : Int) + 1 by omega]
    · rintro ρ ⟨st, P, x, y, z, rfl, S⟩
      rw [wd_size] at S
      unfold t_partners_4_4
      walk_at "rd"
      exact h P (S.fin D.end0)
  · exact h.elim

theorem len_partners : ∀ ds Q, sp_partners ds Q → ds.length = 1 := by
  intro ds Q h
  unfold sp_partners at h
  split at h
  · rfl
  · exact h.elim
theorem ok_partners (T : Tx K mg) (base : Heap) : FnOk P w K mg base CX0 2 T.f_partners T.d_partners ["word"] (spD K sp_partners) :=
  fnD_ok T.F_partners sc_partners len_partners fun cdv A outer s H E hr => ⟨t_partners,
    (dss_cons (ds_expr (de_call (ok_validate_word T base) (hr.mono (by decide)) rfl T.g_validate_word T.F_validate_word.kp T.b_validate_word pass0 (dl_cons (de_name 0) dl_nil)))
    (dss_cons (ds_set 1 sc_partners.nd (de_rep (de_lst (dl_cons de_int dl_nil)) (de_callB call_lenA cll_len rfl T.z_len (by decide +kernel) (da_cons (de_name 0) da_nil))) (hio := fun z => nomatch z))
    (dss_cons (ds_set 2 sc_partners.nd (de_lst dl_nil) (hio := fun z => nomatch z))
    (dss_cons (ds_for PassesOwn.never rfl (di_enumSk rfl T.z_enumerate (da_cons (de_name 0) da_nil)) (dg_tup rfl (dgs_cons (dg_name 3 sc_partners.nd) (dgs_cons (dg_name 4 sc_partners.nd) dgs_nil))) (dss_one (ds_if (dt_cmp (op_eqA hr.units) opl_eqA (de_name 4) de_str (nomark _)) (dss_one (ds_app 2 (he := (de_name 3)) (hp := fun _ _ u v => pe_bm PySem.F.plainAttrs_list PySem.F.slot_list_append PySem.F.type_list_append mt_append u v))) (dss_cons (ds_set 5 sc_partners.nd (de_pop 2 (hp := fun _ u => pe_bm0 PySem.F.plainAttrs_list PySem.F.slot_list_pop PySem.F.type_list_pop mt_pop u)) (hio := fun z => nomatch z))
    (dss_cons (ds_setI 1 (hi := (de_bin op_sub opl_sub (de_name 5) de_int)) (he := (de_name 3)) (hp := fun _ _ _ u v w => ps_asg w (pg_sub u v set_list)))
    (dss_one (ds_setI 1 (hi := (de_bin op_sub opl_sub (de_name 3) de_int)) (he := (de_name 5)) (hp := fun _ _ _ u v w => ps_asg w (pg_sub u v set_list)))))))))
    (dss_one (ds_ret (de_callTy call_tuple_of cll_tuple rfl T.z_tuple (by decide +kernel) (da_cons (de_name 1) da_nil)))))))), rd_partners⟩
/-! ### diagram_of -/
def sp_diagram_of : DSp := fun ds Q => match ds with
  | [.str s] => ∃ n w, IsW n w s ∧ Q (.d (.tuple ((cds w).map prD)))
  | _ => False

def t_diagram_of_1_1 : DTS := (dRet false (dCl gTuple (daCons (dLc (dItET 1 (dName 1)) (dgTup 2 (dgCons (dgName 2) (dgCons (dgName 3) dgNil))) (dB (d2 gLtA (dName 2) (dName 3))) (dTup (dlCons (dName 2) (dlCons (dName 3) dlNil))) [2, 3]) daNil)))
def t_diagram_of : DTS := (dSeq (dSet 1 (dCall sp_partners (dlCons (dName 0) dlNil))) t_diagram_of_1_1)
theorem rd_diagram_of : ∀ ds Qd, sp_diagram_of ds Qd → t_diagram_of { nx := fun _ => Qd (.d .none), rt := fun r _ => Qd r } (startD 4 ds) := by
  intro ds Qd h
  unfold sp_diagram_of at h
  split at h
  · obtain ⟨n, w, iw, h⟩ := h
    have lw := iw.le
    unfold t_diagram_of
    walk_at "rd0"
    refine ⟨n, w, iw, fun P hP => ?_⟩
    walk_at "rd"
    obtain ⟨rfl, D, hn⟩ := iw
    unfold t_diagram_of_1_1
    walk_at "rd"
    refine ⟨fun j acc ρ => ρ = [.val (.str (wd w)), .val (.tuple (P.map .int)), .free, .free] ∧ acc = (cdsT w j).map prD, ⟨rfl, rfl⟩, ?_, ?_⟩
    · rintro j acc ρ hj ⟨rfl, rfl⟩
      have hj1 : j < P.length := by simpa using hj
      have hj2 : j < w.length := by rw [← hP.1]; exact hj1
      obtain ⟨q, eq, c⟩ := hP.2 j hj2
      have en : enD 1 (P.map PyData.int) j = .tuple [.int (1 + (j : Int)), .int ((q : Int) + 1)] := by
        unfold enD
        rw [nth_map hj1]
        rw [List.getElem?_eq_getElem hj1] at eq
        rw [Option.some.inj eq]
      rw [en]
      walk_at "rd"
      refine ⟨rfl, ?_⟩
      have al := cdsT_len w j
      have cs := cdsT_succ hj2
      rcases c with c | c
      · have hb := c.up hj2
        have := c.1
        rw [decide_eq_true (show 1 + (j : Int) < (q : Int) + 1 by omega)]
        walk_at "rd"
        refine ⟨by decide, by rw [List.length_map]; exact small1000 (by omega), rfl, ?_⟩
        rw [cs, hb, if_pos rfl, clo_cl c, List.map_append, show 1 + (j : Int) = (j : Int) + 1 by omega]; rfl
      · have hb := c.down hj2
        have := c.1
        rw [decide_eq_false (show ¬ 1 + (j : Int) < (q : Int) + 1 by omega)]
        walk_at "rd"
        refine ⟨rfl, ?_⟩
        rw [cs, hb, if_neg (by decide), List.append_nil]
    · rintro acc ρ ⟨rfl, rfl⟩
      rw [List.length_map, hP.1]
      (try walk_at "rd")
      exact h
  · exact h.elim

theorem len_diagram_of : ∀ ds Q, sp_diagram_of ds Q → ds.length = 1 := by
  intro ds Q h
  unfold sp_diagram_of at h
  split at h
  · rfl
  · exact h.elim
theorem ok_diagram_of (T : Tx K mg) (base : Heap) : FnOk P w K mg base CX0 3 T.f_diagram_of T.d_diagram_of ["word"] (spD K sp_diagram_of) :=
  fnD_ok T.F_diagram_of sc_diagram_of len_diagram_of fun cdv A outer s H E hr => ⟨t_diagram_of,
    (dss_cons (ds_set 1 sc_diagram_of.nd (de_call (ok_partners T base) (hr.mono (by decide)) rfl T.g_partners T.F_partners.kp T.b_partners pass0 (dl_cons (de_name 0) dl_nil)) (hio := fun z => nomatch z))
    (dss_one (ds_ret (de_callTy call_tuple_of cll_tuple rfl T.z_tuple (by decide +kernel) (da_cons (de_lc rfl sc_diagram_of.nd (di_enumTk rfl T.z_enumerate (de_name 1)) (own := [("point", 2), ("other", 3)]) (show BlkOk ["word", "joined", "point", "other"] (defScope s_diagram_of) _ _ from ⟨rfl, by decide +kernel, by decide +kernel, by decide +kernel, by decide +kernel⟩) (fun _ _ _ _ _ => pg_tup rfl (pgs_cons (pg_name (i := 2) sc_diagram_of.nd rfl (by first | exact Or.inl rfl | exact Or.inr rfl)) (pgs_cons (pg_name (i := 3) sc_diagram_of.nd rfl (by first | exact Or.inl rfl | exact Or.inr rfl)) (pgs_nil)))) (simGv_tup (simGsv_cons (simGv_name (by decide)) (simGsv_cons (simGv_name (by decide)) simGsv_nil))) (fun _ _ _ _ _ => dps_one (dt_cmp op_ltA opl_ltA (de_name 2) (de_name 3) (nomark _))) (fun _ _ _ _ _ => (de_tup (dl_cons (de_name 2) (dl_cons (de_name 3) dl_nil))))) da_nil))))), rd_diagram_of⟩
/-! ### _smaller_count -/
def sp_smaller_count : DSp := fun ds Q => match ds with
  | [.int a, .int b] => ∃ h l : Nat, a = h ∧ b = l ∧ h ≤ 1000 ∧ l ≤ 1000 ∧ Q (.d (.int (sc h l : Nat)))
  | _ => False

def t_smaller_count_1_0 : DTS := (dRet false (dC (.int 0)))
def t_smaller_count_2_1 : DTS := (dRet false (dCall sp_completions (dlCons (d2 DL.gSub (dName 0) (dC (.int 1))) (dlCons (dName 1) dlNil))))
def t_smaller_count : DTS := (dSeq (dIf (dB (d2 gEqA (dName 0) (dC (.int 0)))) t_smaller_count_1_0 dNext) t_smaller_count_2_1)
theorem rd_smaller_count : ∀ ds Qd, sp_smaller_count ds Qd → t_smaller_count { nx := fun _ => Qd (.d .none), rt := fun r _ => Qd r } (startD 2 ds) := by
  intro ds Qd h
  unfold sp_smaller_count at h
  split at h
  · obtain ⟨g, l, rfl, rfl, h1, h2, h⟩ := h
    unfold t_smaller_count
    walk_at "rd0"
    unfold sc at h
    by_cases c : (g : Int) = 0
    · rw [decide_eq_true c]
      walk_at "rd"
      unfold t_smaller_count_1_0
      walk_at "rd"
      rw [if_pos (by omega)] at h
      exact h
    · rw [decide_eq_false c]
      walk_at "rd"
      unfold t_smaller_count_2_1
      walk_at "rd"
      rw [if_neg (by omega)] at h
      exact ⟨g - 1, l, by omega, rfl, by omega, by omega, h⟩
  · exact h.elim

theorem len_smaller_count : ∀ ds Q, sp_smaller_count ds Q → ds.length = 2 := by
  intro ds Q h
  unfold sp_smaller_count at h
  split at h
  · rfl
  · exact h.elim
theorem ok_smaller_count (T : Tx K mg) (base : Heap) : FnOk P w K mg base CX0 2 T.f_smaller_count T.d_smaller_count ["height", "left"] (spD K sp_smaller_count) :=
  fnD_ok T.F_smaller_count sc_smaller_count len_smaller_count fun cdv A outer s H E hr => ⟨t_smaller_count,
    (dss_cons (ds_if (dt_cmp (op_eqA hr.units) opl_eqA (de_name 0) de_int (nomark _)) (dss_one (ds_ret de_int)) dss_nil)
    (dss_one (ds_ret (de_call (ok_completions T base) (hr.mono (by decide)) rfl T.g_completions T.F_completions.kp T.b_completions pass0 (dl_cons (de_bin op_sub opl_sub (de_name 0) de_int) (dl_cons (de_name 1) dl_nil)))))), rd_smaller_count⟩
/-! ### word_at -/
def sp_word_at : DSp := fun ds Q => match ds with
  | [.int a, .int b] => ∃ n r : Nat, a = n ∧ n ≤ 30 ∧ b = r ∧ r < cp 0 (2 * n) ∧ Q (.d (.str (wd (un 0 (2 * n) r))))
  | _ => False
theorem un_low {h l r : Nat} (c : r < sc h l) : 0 < h ∧ r < cp (h - 1) l ∧ un h (l + 1) r = false :: un (h - 1) l r := by
  have h0 : 0 < h := Nat.pos_of_ne_zero fun z => by subst z; exact absurd c (by show ¬ r < 0; omega)
  refine ⟨h0, ?_, ?_⟩
  · rw [show sc h l = cp (h - 1) l from if_neg (by omega)] at c
    exact c
  · show (if r < sc h l then _ else _) = _
    rw [if_pos c]
theorem un_high {h l r : Nat} (c : ¬ r < sc h l) (g : r < cp h (l + 1)) : r - sc h l < cp (h + 1) l ∧ un h (l + 1) r = true :: un (h + 1) l (r - sc h l) := by
  refine ⟨?_, ?_⟩
  · rw [cp_split] at g
    omega
  · show (if r < sc h l then _ else _) = _
    rw [if_neg c]

def t_word_at_2_1 : DTS := (dAug 3 (fun i j => i - j) (dC (.int 1)))
def t_word_at_2_0 : DTS := (dSeq (dApp 2 (dC (.str "D"))) t_word_at_2_1)
def t_word_at_3_2 : DTS := (dAug 4 (fun i j => i - j) (dName 6))
def t_word_at_3_1 : DTS := (dSeq (dAug 3 (fun i j => i + j) (dC (.int 1))) t_word_at_3_2)
def t_word_at_3_0 : DTS := (dSeq (dApp 2 (dC (.str "U"))) t_word_at_3_1)
def t_word_at_4_1 : DTS := (dIf (dB (d2 gLtA (dName 4) (dName 6))) t_word_at_2_0 t_word_at_3_0)
def t_word_at_4_0 : DTS := (dSeq (dSet 6 (dCall sp_smaller_count (dlCons (dName 3) (dlCons (dName 5) dlNil)))) t_word_at_4_1)
def t_word_at_5_6 : DTS := (dRet false (dBM "str" gJoin (dC (.str "")) (daCons (dName 2) daNil)))
def t_word_at_5_5 : DTS := (dSeq (dFor (dItR3 (daCons (d2 DL.gSub (d2 DL.gMulI (dC (.int 2)) (dName 0)) (dC (.int 1))) (daCons (dNeg (dC (.int 1))) (daCons (dNeg (dC (.int 1))) daNil)))) (dgName 5) t_word_at_4_0) t_word_at_5_6)
def t_word_at_5_4 : DTS := (dSeq (dSet 4 (dName 1)) t_word_at_5_5)
def t_word_at_5_3 : DTS := (dSeq (dSet 3 (dC (.int 0))) t_word_at_5_4)
def t_word_at_5_2 : DTS := (dSeq (dSet 2 (dLst dlNil)) t_word_at_5_3)
def t_word_at_5_1 : DTS := (dSeq (dIf (dNot (dTr (dCall sp_is_integer_within (dlCons (dName 1) (dlCons (dC (.int 0)) (dlCons (d2 DL.gSub (dCall sp_word_count (dlCons (dName 0) dlNil)) (dC (.int 1))) dlNil)))))) (fun _ _ => False) dNext) t_word_at_5_2)
def t_word_at : DTS := (dSeq (dDrop (dCall sp_validate_size (dlCons (dName 0) (dlCons (dC (.int 0)) (dlCons (dC (.int 30)) dlNil))))) t_word_at_5_1)
theorem rd_word_at : ∀ ds Qd, sp_word_at ds Qd → t_word_at { nx := fun _ => Qd (.d .none), rt := fun r _ => Qd r } (startD 7 ds) := by
  intro ds Qd h
  unfold sp_word_at at h
  split at h
  · obtain ⟨n, r, rfl, hn, rfl, hr, h⟩ := h
    unfold t_word_at
    walk_at "rd0"
    refine ⟨by omega, by omega, ?_⟩
    unfold t_word_at_5_1
    walk_at "rd"
    refine ⟨n, rfl, by omega, ?_⟩
    unfold sp_is_integer_within
    walk_at "rd"
    rw [decide_eq_true (show (0 : Int) ≤ (r : Int) by omega), decide_eq_true (show (r : Int) ≤ ((cp 0 (2 * n) : Nat) : Int) - 1 by omega), Bool.and_true]
    walk_at "rd"
    unfold t_word_at_5_2
    walk_at "rd"
    refine ⟨by decide, ?_⟩
    unfold t_word_at_5_3
    walk_at "rd"
    unfold t_word_at_5_4
    walk_at "rd"
    unfold t_word_at_5_5
    walk_at "rd"
    refine ⟨cmul_l (by decide) (by decide), by omega, ?_⟩
    rw [show (2 * (n : Int) - 1 - -1).toNat = 2 * n by omega]
    refine ⟨fun i ρ => ∃ (v : List Bool) (g q : Nat) (x y : DL.Slot), ρ = [.val (.int n), .val (.int r), .own (.lst (v.map fun b => .str (bs b))), .val (.int g), .val (.int q), x, y] ∧ v.length = i ∧ g ≤ i ∧ q < cp g (2 * n - i) ∧ un 0 (2 * n) r = v ++ un g (2 * n - i) q, ⟨[], 0, r, .free, .free, rfl, rfl, by omega, hr, rfl⟩, ?_, ?_⟩
    · rintro i ρ hi ⟨v, g, q, x, y, rfl, hv, hg, hq, hu⟩
      obtain ⟨l, hl⟩ : ∃ l, 2 * n - i = l + 1 := ⟨2 * n - i - 1, by omega⟩
      rw [hl] at hq hu
      unfold t_word_at_4_0
      walk_at "rd"
      refine ⟨g, l, rfl, by omega, by omega, by omega, ?_⟩
      walk_at "rd"
      unfold t_word_at_4_1
      walk_at "rd"
      by_cases c : q < sc g l
      · obtain ⟨g0, c2, c3⟩ := un_low c
        rw [decide_eq_true (show (q : Int) < ((sc g l : Nat) : Int) by omega)]
        walk_at "rd"
        unfold t_word_at_2_0
        walk_at "rd"
        refine ⟨by rw [List.length_map]; exact small1000 (by omega), ?_⟩
        unfold t_word_at_2_1
        walk_at "rd"
        refine ⟨v ++ [false], g - 1, q, .val (.int (2 * (n : Int) - 1 - i)), .val (.int (sc g l : Nat)), ?_, by simp [hv], by omega, by rw [show 2 * n - (i + 1) = l by omega]; exact c2, by rw [show 2 * n - (i + 1) = l by omega, hu, c3]; simp⟩
        rw [List.map_append, show (g : Int) - 1 = ((g - 1 : Nat) : Int) by omega]; rfl
      · obtain ⟨c2, c3⟩ := un_high c hq
        rw [decide_eq_false (show ¬ (q : Int) < ((sc g l : Nat) : Int) by omega)]
        walk_at "rd"
        unfold t_word_at_3_0
        walk_at "rd"
        refine ⟨by rw [List.length_map]; exact small1000 (by omega), ?_⟩
        unfold t_word_at_3_1
        walk_at "rd"
        unfold t_word_at_3_2
        walk_at "rd"
        refine ⟨v ++ [true], g + 1, q - sc g l, .val (.int (2 * (n : Int) - 1 - i)), .val (.int (sc g l : Nat)), ?_, by simp [hv], by omega, by rw [show 2 * n - (i + 1) = l by omega]; exact c2, by rw [show 2 * n - (i + 1) = l by omega, hu, c3]; simp⟩
        rw [List.map_append, show (q : Int) - ((sc g l : Nat) : Int) = ((q - sc g l : Nat) : Int) by omega, show (g : Int) + 1 = ((g + 1 : Nat) : Int) by omega]; rfl
    · rintro ρ ⟨v, g, q, x, y, rfl, hv, hg, hq, hu⟩
      rw [Nat.sub_self] at hu
      have e : un g 0 q = [] := rfl
      rw [e, List.append_nil] at hu
      unfold t_word_at_5_6
      walk_at "rd"
      refine ⟨rfl, _, strs_bs v, ?_, ?_⟩
      · rw [bs_sum]
        show v.length + _ * 0 ≤ _
        omega
      · rw [join_bs, ← hu]
        exact h
  · exact h.elim

theorem len_word_at : ∀ ds Q, sp_word_at ds Q → ds.length = 2 := by
  intro ds Q h
  unfold sp_word_at at h
  split at h
  · rfl
  · exact h.elim
theorem ok_word_at (T : Tx K mg) (base : Heap) : FnOk P w K mg base CX0 5 T.f_word_at T.d_word_at ["size", "number"] (spD K sp_word_at) :=
  fnD_ok T.F_word_at sc_word_at len_word_at fun cdv A outer s H E hr => ⟨t_word_at,
    (dss_cons (ds_expr (de_call (ok_validate_size T base) (hr.mono (by decide)) rfl T.g_validate_size T.F_validate_size.kp T.b_validate_size pass0 (dl_cons (de_name 0) (dl_cons de_int (dl_cons (de_globI T.c_MOST_SIZE) dl_nil)))))
    (dss_cons (ds_if (dt_not (dt_truth (de_call (ok_is_integer_within T base) (hr.mono (by decide)) rfl T.g_is_integer_within T.F_is_integer_within.kp T.b_is_integer_within pass0 (dl_cons (de_name 1) (dl_cons de_int (dl_cons (de_bin op_sub opl_sub (de_call (ok_word_count T base) (hr.mono (by decide)) rfl T.g_word_count T.F_word_count.kp T.b_word_count pass0 (dl_cons (de_name 0) dl_nil)) de_int) dl_nil)))))) dss_never dss_nil)
    (dss_cons (ds_set 2 sc_word_at.nd (de_lst dl_nil) (hio := fun z => nomatch z))
    (dss_cons (ds_set 3 sc_word_at.nd de_int (hio := fun z => nomatch z))
    (dss_cons (ds_set 4 sc_word_at.nd (de_name 1) (hio := fun z => nomatch z))
    (dss_cons (ds_for PassesOwn.never rfl (di_range3 rfl T.z_range (da_cons (de_bin op_sub opl_sub (de_bin op_mul opl_mulI de_int (de_name 0)) de_int) (da_cons (de_neg de_int) (da_cons (de_neg de_int) da_nil)))) (dg_name 5 sc_word_at.nd) (dss_cons (ds_set 6 sc_word_at.nd (de_call (ok_smaller_count T base) (hr.mono (by decide)) rfl T.g_smaller_count T.F_smaller_count.kp T.b_smaller_count pass0 (dl_cons (de_name 3) (dl_cons (de_name 5) dl_nil))) (hio := fun z => nomatch z))
    (dss_one (ds_if (dt_cmp op_ltA opl_ltA (de_name 4) (de_name 6) (nomark _)) (dss_cons (ds_app 2 (he := de_str) (hp := fun _ _ u v => pe_bm PySem.F.plainAttrs_list PySem.F.slot_list_append PySem.F.type_list_append mt_append u v))
    (dss_one (ds_aug 3 sc_word_at.nd ip_sub de_int))) (dss_cons (ds_app 2 (he := de_str) (hp := fun _ _ u v => pe_bm PySem.F.plainAttrs_list PySem.F.slot_list_append PySem.F.type_list_append mt_append u v))
    (dss_cons (ds_aug 3 sc_word_at.nd ip_add de_int)
    (dss_one (ds_aug 4 sc_word_at.nd ip_sub (de_name 6)))))))))
    (dss_one (ds_ret (de_bm (fun _ _ u v => pe_bm PySem.F.plainAttrs_str PySem.F.slot_str_join PySem.F.type_str_join mt_join u v) mtl_join de_str (da_cons (de_name 2) da_nil)))))))))), rd_word_at⟩
/-! ### all_diagrams -/
def sp_all_diagrams : DSp := fun ds Q => match ds with
  | [.int a] => ∃ n : Nat, a = n ∧ n ≤ 8 ∧ Q (.n (.lst ((srtW n).map dgD)))
  | _ => False

def t_all_diagrams : DTS := (dRet false (dCl gSortDA (daCons (dLc (dItR1 (daCons (dCall sp_word_count (dlCons (dName 0) dlNil)) daNil)) (dgName 1) dYes (dCall sp_diagram_of (dlCons (dCall sp_word_at (dlCons (dName 0) (dlCons (dName 1) dlNil))) dlNil)) [1]) daNil)))
theorem rd_all_diagrams : ∀ ds Qd, sp_all_diagrams ds Qd → t_all_diagrams { nx := fun _ => Qd (.d .none), rt := fun r _ => Qd r } (startD 2 ds) := by
  intro ds Qd h
  unfold sp_all_diagrams at h
  split at h
  · obtain ⟨n, rfl, hn, h⟩ := h
    unfold t_all_diagrams
    walk_at "rd0"
    have z : sizeLine = 16777216 := sizeLine_eq
    refine ⟨n, rfl, by omega, ?_⟩
    have hc := cp_le 0 (2 * n)
    have hc2 : 2 ^ (2 * n) ≤ 2 ^ 16 := Nat.pow_le_pow_right (by decide) (by omega)
    have hc3 : cp 0 (2 * n) ≤ 65536 := Nat.le_trans hc hc2
    walk_at "rd"
    rw [Int.toNat_natCast]
    refine ⟨by omega, fun i acc ρ => ρ = [.val (.int n), .free] ∧ acc = (((List.range i).map (un 0 (2 * n))).map cds).map dgD, ⟨rfl, rfl⟩, ?_, ?_⟩
    · rintro i acc ρ hi ⟨rfl, rfl⟩
      walk_at "rd"
      refine ⟨n, i, rfl, by omega, by omega, hi, ?_⟩
      refine ⟨n, un 0 (2 * n) i, ⟨rfl, un_dyck hi, by omega⟩, ?_⟩
      walk_at "rd"
      refine ⟨by rw [List.length_map, List.length_map, List.length_map, List.length_range]; omega, rfl, ?_⟩
      rw [List.range_succ, List.map_append, List.map_append, List.map_append]; rfl
    · rintro acc ρ ⟨rfl, rfl⟩
      have e1 : ((List.range (cp 0 (2 * n))).map (un 0 (2 * n))).map cds = allW n := by rw [allW, allT_un]
      rw [e1]
      (try walk_at "rd")
      rw [srtW_eq]
      exact ⟨sortable_all (List.Perm.refl _), h⟩
  · exact h.elim

theorem len_all_diagrams : ∀ ds Q, sp_all_diagrams ds Q → ds.length = 1 := by
  intro ds Q h
  unfold sp_all_diagrams at h
  split at h
  · rfl
  · exact h.elim
theorem ok_all_diagrams (T : Tx K mg) (base : Heap) : FnOk P w K mg base CX0 6 T.f_all_diagrams T.d_all_diagrams ["size"] (spD K sp_all_diagrams) :=
  fnD_ok T.F_all_diagrams sc_all_diagrams len_all_diagrams fun cdv A outer s H E hr => ⟨t_all_diagrams,
    (dss_one (ds_ret (de_callB (cr_sortDA (fp_room hr)) cll_sortDA rfl T.z_sorted (by decide +kernel) (da_cons (de_lc rfl sc_all_diagrams.nd (di_range1 rfl T.z_range (da_cons (de_call (ok_word_count T base) (hr.mono (by decide)) rfl T.g_word_count T.F_word_count.kp T.b_word_count pass0 (dl_cons (de_name 0) dl_nil)) da_nil)) (own := [("number", 1)]) (show BlkOk ["size", "number"] (defScope s_all_diagrams) _ _ from ⟨rfl, by decide +kernel, by decide +kernel, by decide +kernel, by decide +kernel⟩) (fun _ _ _ _ _ => pg_name (i := 1) sc_all_diagrams.nd rfl (by first | exact Or.inl rfl | exact Or.inr rfl)) (simGv_name (by decide)) (fun _ _ _ _ _ => dps_nil) (fun _ _ _ _ _ => (de_call (ok_diagram_of T base) (hr.mono (by decide)) rfl T.g_diagram_of T.F_diagram_of.kp T.b_diagram_of pass0 (dl_cons (de_call (ok_word_at T base) (hr.mono (by decide)) rfl T.g_word_at T.F_word_at.kp T.b_word_at pass0 (dl_cons (de_name 0) (dl_cons (de_name 1) dl_nil))) dl_nil)))) da_nil)))), rd_all_diagrams⟩
/-! ### joined_points -/
/-- the dict of joined points -/
def jkv (acc : List (Key × PyData)) (ps : List (Int × Int)) : List (Key × PyData) := ps.foldl (fun kv p => putD (putD kv (.inl p.1) (.int p.2)) (.inl p.2) (.int p.1)) acc
theorem jkv_len : ∀ (ps : List (Int × Int)) (acc : List (Key × PyData)), (jkv acc ps).length ≤ acc.length + 2 * ps.length
  | [], acc => by simp [jkv]
  | p :: ps, acc => by
    have h1 := jkv_len ps (putD (putD acc (.inl p.1) (.int p.2)) (.inl p.2) (.int p.1))
    have h2 := putD_le (putD acc (.inl p.1) (.int p.2)) (.inl p.2) (.int p.1)
    have h3 := putD_le acc (.inl p.1) (.int p.2)
    show (jkv (putD (putD acc (.inl p.1) (.int p.2)) (.inl p.2) (.int p.1)) ps).length ≤ _
    rw [List.length_cons]
    omega
theorem jkv_snoc (acc : List (Key × PyData)) (ps : List (Int × Int)) (p : Int × Int) : jkv acc (ps ++ [p]) = putD (putD (jkv acc ps) (.inl p.1) (.int p.2)) (.inl p.2) (.int p.1) := by
  unfold jkv
  rw [List.foldl_append]; rfl
theorem jkv_out : ∀ (ps : List (Int × Int)) (acc : List (Key × PyData)) (k : Int), (∀ p ∈ ps, k ≠ p.1 ∧ k ≠ p.2) → valD (jkv acc ps) (.inl k) = valD acc (.inl k)
  | [], acc, k, _ => rfl
  | p :: ps, acc, k, h => by
    have hp := h p (by simp)
    show valD (jkv (putD (putD acc (.inl p.1) (.int p.2)) (.inl p.2) (.int p.1)) ps) _ = _
    rw [jkv_out ps _ k fun q hq => h q (by simp [hq]), valD_put, if_neg (fun z => hp.2 (Sum.inl.inj z)), valD_put, if_neg (fun z => hp.1 (Sum.inl.inj z))]
theorem jkv_at : ∀ (ps : List (Int × Int)) (acc : List (Key × PyData)), (∀ p ∈ ps, p.1 < p.2) → ps.Pairwise apart → ∀ p ∈ ps, valD (jkv acc ps) (.inl p.1) = some (.int p.2) ∧ valD (jkv acc ps) (.inl p.2) = some (.int p.1)
  | [], acc, _, _, p, h => by simp at h
  | c :: ps, acc, hlt, ha, p, h => by
    obtain ⟨a1, a2⟩ := List.pairwise_cons.mp ha
    show valD (jkv (putD (putD acc (.inl c.1) (.int c.2)) (.inl c.2) (.int c.1)) ps) _ = _ ∧ _
    rcases List.mem_cons.mp h with rfl | h
    · have l1 := hlt p (by simp)
      have out : ∀ k, (k = p.1 ∨ k = p.2) → ∀ q ∈ ps, k ≠ q.1 ∧ k ≠ q.2 := fun k hk q hq => by
        have := a1 q hq
        have l2 := hlt q (by simp [hq])
        unfold apart at this
        rcases hk with rfl | rfl <;> constructor <;> omega
      refine ⟨?_, ?_⟩
      · rw [jkv_out ps _ _ (out _ (.inl rfl)), valD_put, if_neg (fun z => by have := Sum.inl.inj z; omega), valD_put, if_pos rfl]
      · show valD (jkv (putD (putD acc (.inl p.1) (.int p.2)) (.inl p.2) (.int p.1)) ps) _ = _
        rw [jkv_out ps _ _ (out _ (.inr rfl)), valD_put, if_pos rfl]
    · exact jkv_at ps _ (fun q hq => hlt q (by simp [hq])) a2 p h
def sp_joined_points : DSp := fun ds Q => match ds with
  | [.tuple es] => ∃ ps : List (Int × Int), es = ps.map prD ∧ ps.length ≤ 1000 ∧ Q (.n (.dk (jkv [] ps)))
  | _ => False

def t_joined_points_1_1 : DTS := (dAsg (dName 2) (dgSubK 1 (dName 3)))
def t_joined_points_1_0 : DTS := (dSeq (dAsg (dName 3) (dgSubK 1 (dName 2))) t_joined_points_1_1)
def t_joined_points_2_2 : DTS := (dRet false (dName 1))
def t_joined_points_2_1 : DTS := (dSeq (dFor (dItT (dName 0)) (dgTup 2 (dgCons (dgName 2) (dgCons (dgName 3) dgNil))) t_joined_points_1_0) t_joined_points_2_2)
def t_joined_points : DTS := (dSeq (dSet 1 dDisp0) t_joined_points_2_1)
theorem rd_joined_points : ∀ ds Qd, sp_joined_points ds Qd → t_joined_points { nx := fun _ => Qd (.d .none), rt := fun r _ => Qd r } (startD 4 ds) := by
  intro ds Qd h
  unfold sp_joined_points at h
  split at h
  · obtain ⟨ps, rfl, hl, h⟩ := h
    unfold t_joined_points
    walk_at "rd0"
    unfold t_joined_points_2_1
    walk_at "rd"
    refine ⟨fun i ρ => ∃ x y, ρ = [.val (.tuple (ps.map prD)), .own (.dk (jkv [] (ps.take i))), x, y], ⟨.free, .free, rfl⟩, ?_, ?_⟩
    · rintro i ρ hi ⟨x, y, rfl⟩
      have hi2 : i < ps.length := by simpa using hi
      rw [nth_pr hi2]
      walk_at "rd"
      have l1 := jkv_len (ps.take i) []
      rw [List.length_take, List.length_nil] at l1
      have l2 := putD_le (jkv [] (ps.take i)) (.inl ps[i].1) (.int ps[i].2)
      refine ⟨rfl, small1000' (by omega), ?_⟩
      try unfold t_joined_points_1_1
      walk_at "rd"
      refine ⟨small1000' (by omega), ?_⟩
      have e : jkv [] (ps.take (i + 1)) = putD (putD (jkv [] (ps.take i)) (.inl ps[i].1) (.int ps[i].2)) (.inl ps[i].2) (.int ps[i].1) := by
        rw [List.take_succ, List.getElem?_eq_getElem hi2]
        exact jkv_snoc _ _ _
      rw [e]
      exact ⟨_, _, rfl⟩
    · rintro ρ ⟨x, y, rfl⟩
      rw [List.length_map, List.take_length]
      try unfold t_joined_points_2_2
      walk_at "rd"
      exact h
  · exact h.elim

theorem len_joined_points : ∀ ds Q, sp_joined_points ds Q → ds.length = 1 := by
  intro ds Q h
  unfold sp_joined_points at h
  split at h
  · rfl
  · exact h.elim
theorem ok_joined_points (T : Tx K mg) (base : Heap) : FnOk P w K mg base CX0 1 T.f_joined_points T.d_joined_points ["chords"] (spD K sp_joined_points) :=
  fnD_ok T.F_joined_points sc_joined_points len_joined_points fun cdv A outer s H E hr => ⟨t_joined_points,
    (dss_cons (ds_set 1 sc_joined_points.nd de_disp0 (hio := fun z => nomatch z))
    (dss_cons (ds_for PassesOwn.never rfl (di_tup (de_name 0)) (dg_tup rfl (dgs_cons (dg_name 2 sc_joined_points.nd) (dgs_cons (dg_name 3 sc_joined_points.nd) dgs_nil))) (dss_cons (ds_asg (de_name 3) (dgo_subK 1 (hu_of hr) (de_name 2) (hp := fun _ _ u v => pg_sub u v (set_dict (hu_of hr)))))
    (dss_one (ds_asg (de_name 2) (dgo_subK 1 (hu_of hr) (de_name 3) (hp := fun _ _ u v => pg_sub u v (set_dict (hu_of hr))))))))
    (dss_one (ds_ret (de_name 1))))), rd_joined_points⟩
/-! ### _loop_from -/
def sp_loop_from : DSp := fun ds Q => match ds with
  | [.dict d1, .dict d2, .int s] => ∃ (N : Nat) (f g : Int → Int) (kv1 kv2 : List (Key × PyData)), d1 = encP kv1 ∧ d2 = encP kv2 ∧ Mt N f ∧ Mt N g ∧ N ≤ 60 ∧ 1 ≤ s ∧ s ≤ N ∧ Tells N kv1 f ∧ Tells N kv2 g ∧ Q (.d (rtD (ring f g s)))
  | _ => False

def t_loop_from_1_1 : DTS := (dSet 4 (dIxD (dName 1) (dIxD (dName 0) (dName 4))))
def t_loop_from_1_0 : DTS := (dSeq (dExt 3 (dLst (dlCons (dName 4) (dlCons (dIxD (dName 0) (dName 4)) dlNil)))) t_loop_from_1_1)
def t_loop_from_2_3 : DTS := (dRet false (dCl gTuple (daCons (dName 3) daNil)))
def t_loop_from_2_2 : DTS := (dSeq (dWhile (dOr (dNot (dTr (dName 3))) (dB (d2 gNeA (dName 4) (dName 2)))) t_loop_from_1_0) t_loop_from_2_3)
def t_loop_from_2_1 : DTS := (dSeq (dSet 4 (dName 2)) t_loop_from_2_2)
def t_loop_from : DTS := (dSeq (dSet 3 (dLst dlNil)) t_loop_from_2_1)
theorem rd_loop_from : ∀ ds Qd, sp_loop_from ds Qd → t_loop_from { nx := fun _ => Qd (.d .none), rt := fun r _ => Qd r } (startD 5 ds) := by
  intro ds Qd h
  unfold sp_loop_from at h
  split at h
  · rename_i s
    obtain ⟨N, f, g, kv1, kv2, rfl, rfl, F, G, hN, s1, s2, T1, T2, h⟩ := h
    obtain ⟨p1, p2, p3⟩ := per_spec F G s1 s2
    have pl := per_le F G s1 s2
    unfold t_loop_from
    walk_at "rd0"
    unfold t_loop_from_2_1
    walk_at "rd"
    unfold t_loop_from_2_2
    walk_at "rd"
    refine ⟨by decide, fun m ρ => ∃ k, k ≤ per f g s ∧ m = per f g s - k ∧ ρ = [.val (.dict (encP kv1)), .val (.dict (encP kv2)), .val (.int s), .own (.lst ((rg f g s k).map .int)), .val (.int (lp f g s k))], ⟨_, 0, Nat.zero_le _, rfl, rfl⟩, ?_⟩
    rintro m ρ ⟨k, hk, rfl, rfl⟩
    have body : k < per f g s → t_loop_from_1_0 { nx := fun ρ2 => ∃ m', m' < per f g s - k ∧ ∃ k, k ≤ per f g s ∧ m' = per f g s - k ∧ ρ2 = [.val (.dict (encP kv1)), .val (.dict (encP kv2)), .val (.int s), .own (.lst ((rg f g s k).map .int)), .val (.int (lp f g s k))], rt := fun r _ => Qd r, ct := fun ρ2 => ∃ m', m' < per f g s - k ∧ ∃ k, k ≤ per f g s ∧ m' = per f g s - k ∧ ρ2 = [.val (.dict (encP kv1)), .val (.dict (encP kv2)), .val (.int s), .own (.lst ((rg f g s k).map .int)), .val (.int (lp f g s k))], bk := t_loop_from_2_3 { nx := fun _ => Qd (.d .none), rt := fun r _ => Qd r } } [.val (.dict (encP kv1)), .val (.dict (encP kv2)), .val (.int s), .own (.lst ((rg f g s k).map .int)), .val (.int (lp f g s k))] := by
      intro lt
      have i := lp_in F G s1 s2 k
      have j := F.inn _ i.1 i.2
      unfold t_loop_from_1_0
      walk_at "rd"
      refine ⟨kv1, rfl, ?_⟩
      rw [T1 _ i.1 i.2]
      walk_at "rd"
      refine ⟨by decide, by rw [List.length_map, rg_len]; exact le_line (show 2 * k + (0 + 1 + 1) ≤ 200 by omega), ?_⟩
      unfold t_loop_from_1_1
      walk_at "rd"
      refine ⟨kv2, rfl, kv1, rfl, ?_⟩
      rw [T1 _ i.1 i.2]
      walk_at "rd"
      rw [T2 _ j.1 j.2]
      walk_at "rd"
      refine ⟨_, ?_, k + 1, by omega, rfl, ?_⟩
      · omega
      · show _ = [_, _, _, DL.Slot.own (.lst ((rg f g s k ++ [lp f g s k, f (lp f g s k)]).map .int)), DL.Slot.val (.int (g (f (lp f g s k))))]
        rw [List.map_append]; rfl
    walk_at "rd"
    by_cases k0 : k = 0
    · subst k0
      exact body (by omega)
    · have ne : ((rg f g s k).map PyData.int).isEmpty = false := by
        rw [List.isEmpty_eq_false_iff_exists_mem]
        exact ⟨.int s, List.mem_map.mpr ⟨s, mem_rg.mpr ⟨0, by omega, .inl rfl⟩, rfl⟩⟩
      rw [ne]
      walk_at "rd"
      by_cases e : lp f g s k = s
      · rw [decide_eq_true e]
        have ek : k = per f g s := Classical.byContradiction fun z => p3 k (by omega) (by omega) e
        walk_at "rd"
        unfold t_loop_from_2_3
        walk_at "rd"
        rw [ek]
        exact h
      · rw [decide_eq_false e]
        exact body (by
          refine Classical.byContradiction fun z => e ?_
          have : k = per f g s := by omega
          rw [this]; exact p2)
  · exact h.elim

theorem len_loop_from : ∀ ds Q, sp_loop_from ds Q → ds.length = 3 := by
  intro ds Q h
  unfold sp_loop_from at h
  split at h
  · rfl
  · exact h.elim
theorem ok_loop_from (T : Tx K mg) (base : Heap) : FnOk P w K mg base CX0 1 T.f_loop_from T.d_loop_from ["inside", "outside", "start"] (spD K sp_loop_from) :=
  fnD_ok T.F_loop_from sc_loop_from len_loop_from fun cdv A outer s H E hr => ⟨t_loop_from,
    (dss_cons (ds_set 3 sc_loop_from.nd (de_lst dl_nil) (hio := fun z => nomatch z))
    (dss_cons (ds_set 4 sc_loop_from.nd (de_name 2) (hio := fun z => nomatch z))
    (dss_cons (ds_while PassesOwn.never (dt_w (dw_or (dt_not (dt_truth (de_name 3))) (dw_or1 (dt_cmp (op_neA hr.units) opl_neA (de_name 4) (de_name 2) (nomark _))))) (dss_cons (ds_ext 3 (he := (de_lst (dl_cons (de_name 4) (dl_cons (de_ixD (hu_of hr) (de_name 0) (de_name 4)) dl_nil)))) (hp := fun _ _ u v => pe_bm PySem.F.plainAttrs_list PySem.F.slot_list_extend PySem.F.type_list_extend mt_extend u v))
    (dss_one (ds_set 4 sc_loop_from.nd (de_ixD (hu_of hr) (de_name 1) (de_ixD (hu_of hr) (de_name 0) (de_name 4))) (hio := fun z => nomatch z)))))
    (dss_one (ds_ret (de_callTy call_tuple_of cll_tuple rfl T.z_tuple (by decide +kernel) (da_cons (de_name 3) da_nil))))))), rd_loop_from⟩
/-! ### traced_loops -/
theorem tells_jkv {n : Nat} {w : List Bool} (D : Dyck n w) : Tells (2 * n) (jkv [] (cds w)) (mtI w) := fun p h1 h2 => by
  have hlt : ∀ p ∈ cds w, p.1 < p.2 := fun p hp => (D.dg.nc.inn p hp).2.1
  rcases mt_mem D h1 h2 with m | m
  · exact (jkv_at (cds w) [] hlt D.dg.nc.ap _ m).1
  · exact (jkv_at (cds w) [] hlt D.dg.nc.ap _ m).2
def sp_traced_loops : DSp := fun ds Q => match ds with
  | [.tuple es, .tuple fs] => ∃ (n : Nat) (w v : List Bool), es = (cds w).map prD ∧ fs = (cds v).map prD ∧ Dyck n w ∧ Dyck n v ∧ n ≤ 30 ∧ Q (.n (.lst ((rgs (mtI w) (mtI v) (2 * n)).map rtD)))
  | _ => False

def t_traced_loops_2_2 : DTS := (dFor (dItT (dName 7)) (dgName 8) (dSAdd 4 (dName 8)))
def t_traced_loops_2_1 : DTS := (dSeq (dApp 5 (dName 7)) t_traced_loops_2_2)
def t_traced_loops_2_0 : DTS := (dSeq (dSet 7 (dCall sp_loop_from (dlCons (dName 2) (dlCons (dName 3) (dlCons (dName 6) dlNil))))) t_traced_loops_2_1)
def t_traced_loops_3_0 : DTS := (dIf (dB (dInS true 4 (dName 6))) t_traced_loops_2_0 dNext)
def t_traced_loops_4_5 : DTS := (dRet false (dName 5))
def t_traced_loops_4_4 : DTS := (dSeq (dFor (dItR2 (daCons (dC (.int 1)) (daCons (d2 DL.gAdd (d2 DL.gMulI (dC (.int 2)) (dCl gLen (daCons (dName 0) daNil))) (dC (.int 1))) daNil))) (dgName 6) t_traced_loops_3_0) t_traced_loops_4_5)
def t_traced_loops_4_3 : DTS := (dSeq (dSet 5 (dLst dlNil)) t_traced_loops_4_4)
def t_traced_loops_4_2 : DTS := (dSeq (dSet 4 (dCl gSet0 daNil)) t_traced_loops_4_3)
def t_traced_loops_4_1 : DTS := (dSeq (dSetF 3 (dCall sp_joined_points (dlCons (dName 1) dlNil))) t_traced_loops_4_2)
def t_traced_loops : DTS := (dSeq (dSetF 2 (dCall sp_joined_points (dlCons (dName 0) dlNil))) t_traced_loops_4_1)
theorem rd_traced_loops : ∀ ds Qd, sp_traced_loops ds Qd → t_traced_loops { nx := fun _ => Qd (.d .none), rt := fun r _ => Qd r } (startD 9 ds) := by
  intro ds Qd h
  unfold sp_traced_loops at h
  split at h
  · obtain ⟨n, w, v, rfl, rfl, D, E, hn, h⟩ := h
    have cl := D.dg.nc.len
    have cl2 := E.dg.nc.len
    have F := mt_ok D
    have G := mt_ok E
    unfold t_traced_loops
    walk_at "rd0"
    refine ⟨cds w, rfl, by omega, ?_⟩
    walk_at "rd"
    unfold t_traced_loops_4_1
    walk_at "rd"
    refine ⟨cds v, rfl, by omega, ?_⟩
    walk_at "rd"
    unfold t_traced_loops_4_2
    walk_at "rd"
    unfold t_traced_loops_4_3
    walk_at "rd"
    refine ⟨by decide, ?_⟩
    unfold t_traced_loops_4_4
    walk_at "rd"
    rw [lmp, cl]
    refine ⟨cmul_l (by decide) (by decide), by omega, ?_⟩
    rw [show (2 * (n : Int) + 1 - 1).toNat = 2 * n by omega]
    refine ⟨fun i ρ => ∃ (S : Int → Bool) (k : Nat) (x6 x7 x8 : DL.Slot), (∀ j, S j = decide (j ∈ (rgs (mtI w) (mtI v) i).flatten)) ∧ k ≤ (rgs (mtI w) (mtI v) i).flatten.length ∧ ρ = [.val (.tuple ((cds w).map prD)), .val (.tuple ((cds v).map prD)), .val (.dict (encP (jkv [] (cds w)))), .val (.dict (encP (jkv [] (cds v)))), .own (.res (setR S k)), .own (.lst ((rgs (mtI w) (mtI v) i).map rtD)), x6, x7, x8], ⟨_, 0, _, _, _, fun j => rfl, Nat.zero_le _, rfl⟩, ?_, ?_⟩
    · rintro i ρ hi ⟨S, k, x6, x7, x8, hS, hk, rfl⟩
      unfold t_traced_loops_3_0
      walk_at "rd"
      refine ⟨S, k, 1 + (i : Int), rfl, rfl, ?_⟩
      rw [if_pos rfl, hS, show 1 + (i : Int) = (i : Int) + 1 by omega]
      by_cases c : ((i : Int) + 1) ∈ (rgs (mtI w) (mtI v) i).flatten
      · rw [decide_eq_true c]
        walk_at "rd"
        exact ⟨S, k, _, _, _, by rw [rgs_hit c]; exact hS, by rw [rgs_hit c]; exact hk, by rw [rgs_hit c]⟩
      · rw [decide_eq_false c]
        walk_at "rd"
        have fl := flat_le F G (show i + 1 ≤ 2 * n by omega)
        have rf := rgs_flat c
        rw [rf, List.length_append] at fl
        unfold t_traced_loops_2_0
        walk_at "rd"
        refine ⟨2 * n, mtI w, mtI v, jkv [] (cds w), jkv [] (cds v), rfl, rfl, F, G, by omega, by omega, by omega, tells_jkv D, tells_jkv E, ?_⟩
        walk_at "rd"
        unfold t_traced_loops_2_1
        walk_at "rd"
        have rl := rgs_len_le (f := mtI w) (g := mtI v) (i := i)
        refine ⟨by rw [List.length_map]; exact small1000 (by omega), ?_⟩
        unfold t_traced_loops_2_2
        unfold rtD
        walk_at "rd"
        rw [List.length_map]
        refine ⟨fun j ρ => ∃ (S2 : Int → Bool) (k2 : Nat) (x8 : DL.Slot), (∀ y, S2 y = decide (y ∈ (rgs (mtI w) (mtI v) i).flatten ++ (ring (mtI w) (mtI v) ((i : Int) + 1)).take j)) ∧ k2 ≤ (rgs (mtI w) (mtI v) i).flatten.length + j ∧ ρ = [.val (.tuple ((cds w).map prD)), .val (.tuple ((cds v).map prD)), .val (.dict (encP (jkv [] (cds w)))), .val (.dict (encP (jkv [] (cds v)))), .own (.res (setR S2 k2)), .own (.lst ((rgs (mtI w) (mtI v) i).map rtD ++ [rtD (ring (mtI w) (mtI v) ((i : Int) + 1))])), .val (.int ((i : Int) + 1)), .val (rtD (ring (mtI w) (mtI v) ((i : Int) + 1))), x8], ⟨S, k, _, fun y => by rw [List.take_zero, List.append_nil]; exact hS y, hk, rfl⟩, ?_, ?_⟩
        · rintro j ρ hj ⟨S2, k2, x8, hS2, hk2, rfl⟩
          rw [nth_map hj]
          walk_at "rd"
          refine ⟨⟨S2, k2, rfl⟩, S2, k2, _, rfl, rfl, by show k2 + 1 < 4096; omega, _, _, _, fun y => ?_, ?_, rfl⟩
          · rw [hS2 y, List.take_succ, List.getElem?_eq_getElem hj, Bool.eq_iff_iff]
            simp only [Bool.or_eq_true, decide_eq_true_eq, List.mem_append, Option.toList_some, List.mem_singleton, or_assoc]
          · split <;> omega
        · rintro ρ ⟨S2, k2, x8, hS2, hk2, rfl⟩
          rw [List.take_length] at hS2
          have e2 : (rgs (mtI w) (mtI v) i).map rtD ++ [rtD (ring (mtI w) (mtI v) ((i : Int) + 1))] = (rgs (mtI w) (mtI v) (i + 1)).map rtD := by
            rw [rgs_new c, List.map_append]; rfl
          rw [e2]
          exact ⟨S2, k2, _, _, _, fun y => by rw [rf]; exact hS2 y, by rw [rf, List.length_append]; omega, rfl⟩
    · rintro ρ ⟨S, k, x6, x7, x8, hS, hk, rfl⟩
      unfold t_traced_loops_4_5
      walk_at "rd"
      exact h
  · exact h.elim

theorem len_traced_loops : ∀ ds Q, sp_traced_loops ds Q → ds.length = 2 := by
  intro ds Q h
  unfold sp_traced_loops at h
  split at h
  · rfl
  · exact h.elim
theorem ok_traced_loops (T : Tx K mg) (base : Heap) : FnOk P w K mg base CX0 2 T.f_traced_loops T.d_traced_loops ["inner", "outer"] (spD K sp_traced_loops) :=
  fnD_ok T.F_traced_loops sc_traced_loops len_traced_loops fun cdv A outer s H E hr => ⟨t_traced_loops,
    (dss_cons (ds_setF 2 sc_traced_loops.nd (de_call (ok_joined_points T base) (hr.mono (by decide)) rfl T.g_joined_points T.F_joined_points.kp T.b_joined_points pass0 (dl_cons (de_name 0) dl_nil)))
    (dss_cons (ds_setF 3 sc_traced_loops.nd (de_call (ok_joined_points T base) (hr.mono (by decide)) rfl T.g_joined_points T.F_joined_points.kp T.b_joined_points pass0 (dl_cons (de_name 1) dl_nil)))
    (dss_cons (ds_set 4 sc_traced_loops.nd (de_callTy0 cr_set0I cll_set0 rfl T.z_set (by decide +kernel)) (hio := fun z => nomatch z))
    (dss_cons (ds_set 5 sc_traced_loops.nd (de_lst dl_nil) (hio := fun z => nomatch z))
    (dss_cons (ds_for PassesOwn.never rfl (di_range2 rfl T.z_range (da_cons de_int (da_cons (de_bin op_addA opl_add (de_bin op_mul opl_mulI de_int (de_callB call_lenA cll_len rfl T.z_len (by decide +kernel) (da_cons (de_name 0) da_nil))) de_int) da_nil))) (dg_name 6 sc_traced_loops.nd) (dss_one (ds_if (dt_inS 4 or_snotinI (de_name 6)) (dss_cons (ds_set 7 sc_traced_loops.nd (de_call (ok_loop_from T base) (hr.mono (by decide)) rfl T.g_loop_from T.F_loop_from.kp T.b_loop_from pass0 (dl_cons (de_name 2) (dl_cons (de_name 3) (dl_cons (de_name 6) dl_nil)))) (hio := fun z => nomatch z))
    (dss_cons (ds_app 5 (he := (de_name 7)) (hp := fun _ _ u v => pe_bm PySem.F.plainAttrs_list PySem.F.slot_list_append PySem.F.type_list_append mt_append u v))
    (dss_one (ds_for PassesOwn.never rfl (di_tup (de_name 7)) (dg_name 8 sc_traced_loops.nd) (dss_one (ds_sadd 4 (de_name 8))))))) dss_nil)))
    (dss_one (ds_ret (de_name 5)))))))), rd_traced_loops⟩
/-! ### loop_table -/
noncomputable def rowD (n : Nat) (x : List (Int × Int)) (L : List (List (Int × Int))) : PyData := .tuple (L.map fun y => .int (lcL n x y : Nat))
noncomputable def tabD (n : Nat) : List PyData := (srtW n).map fun x => rowD n x (srtW n)
def sp_loop_table : DSp := fun ds Q => match ds with
  | [.int a] => ∃ n : Nat, a = n ∧ n ≤ 5 ∧ Q (.d (.tuple (tabD n)))
  | _ => False
theorem srtW_small {n : Nat} (hn : n ≤ 5) : (srtW n).length ≤ 1024 := by
  rw [srtW_len]
  exact Nat.le_trans (cp_le 0 (2 * n)) (Nat.pow_le_pow_right (by decide) (show 2 * n ≤ 10 by omega))

def t_loop_table_2_3 : DTS := (dRet false (dCl gTuple (daCons (dLc (dItL (dName 1)) (dgName 2) dYes (dCl gTuple (daCons (dLc (dItL (dName 1)) (dgName 3) dYes (dCl gLen (daCons (dCall sp_traced_loops (dlCons (dName 2) (dlCons (dName 3) dlNil))) daNil)) [3]) daNil)) [2]) daNil)))
def t_loop_table_2_2 : DTS := (dSeq (dSet 1 (dCall sp_all_diagrams (dlCons (dName 0) dlNil))) t_loop_table_2_3)
def t_loop_table_2_1 : DTS := (dSeq (dIf (dB (d2 gGtA (dName 0) (dC (.int 5)))) (fun _ _ => False) dNext) t_loop_table_2_2)
def t_loop_table : DTS := (dSeq (dDrop (dCall sp_validate_size (dlCons (dName 0) (dlCons (dC (.int 0)) (dlCons (dC (.int 30)) dlNil))))) t_loop_table_2_1)
theorem rd_loop_table : ∀ ds Qd, sp_loop_table ds Qd → t_loop_table { nx := fun _ => Qd (.d .none), rt := fun r _ => Qd r } (startD 4 ds) := by
  intro ds Qd h
  unfold sp_loop_table at h
  split at h
  · obtain ⟨n, rfl, hn, h⟩ := h
    have z : sizeLine = 16777216 := sizeLine_eq
    have hL := srtW_small hn
    unfold t_loop_table
    walk_at "rd0"
    refine ⟨by omega, by omega, ?_⟩
    unfold t_loop_table_2_1
    walk_at "rd"
    rw [decide_eq_false (by omega)]
    walk_at "rd"
    unfold t_loop_table_2_2
    walk_at "rd"
    refine ⟨n, rfl, by omega, ?_⟩
    unfold t_loop_table_2_3
    walk_at "rd"
    rw [List.length_map]
    refine ⟨fun i acc ρ => ρ = [.val (.int n), .val (.list ((srtW n).map dgD)), .free, .free] ∧ acc = ((srtW n).take i).map fun x => rowD n x (srtW n), ⟨rfl, rfl⟩, ?_, ?_⟩
    · rintro i acc ρ hi ⟨rfl, rfl⟩
      have hm := List.getElem_mem hi
      have ht : (srtW n).take (i + 1) = (srtW n).take i ++ [(srtW n)[i]] := by rw [List.take_succ, List.getElem?_eq_getElem hi]; rfl
      rw [nth_map hi]
      generalize (srtW n)[i] = x at hm ht ⊢
      walk_at "rd"
      rw [List.length_map]
      refine ⟨fun j acc2 ρ => ρ = [.val (.int n), .val (.list ((srtW n).map dgD)), .val (dgD x), .free] ∧ acc2 = ((srtW n).take j).map fun y => .int (lcL n x y : Nat), ⟨rfl, rfl⟩, ?_, ?_⟩
      · rintro j acc2 ρ hj ⟨rfl, rfl⟩
        have hm2 := List.getElem_mem hj
        have ht2 : (srtW n).take (j + 1) = (srtW n).take j ++ [(srtW n)[j]] := by rw [List.take_succ, List.getElem?_eq_getElem hj]; rfl
        rw [nth_map hj]
        generalize (srtW n)[j] = y at hm2 ht2 ⊢
        obtain ⟨w, D, ex⟩ := srtW_word hm
        obtain ⟨v, E, ey⟩ := srtW_word hm2
        walk_at "rd"
        refine ⟨n, w, v, by rw [ex], by rw [ey], D, E, by omega, ?_⟩
        walk_at "rd"
        refine ⟨by rw [List.length_map, List.length_take]; omega, rfl, ?_⟩
        rw [ht2, List.map_append, List.length_map, ex, ey]; rfl
      · rintro acc2 ρ ⟨rfl, rfl⟩
        rw [List.take_length]
        (try walk_at "rd")
        refine ⟨by rw [List.length_map, List.length_take]; omega, rfl, ?_⟩
        rw [ht, List.map_append]; rfl
    · rintro acc ρ ⟨rfl, rfl⟩
      rw [List.take_length]
      (try walk_at "rd")
      exact h
  · exact h.elim

theorem len_loop_table : ∀ ds Q, sp_loop_table ds Q → ds.length = 1 := by
  intro ds Q h
  unfold sp_loop_table at h
  split at h
  · rfl
  · exact h.elim
theorem ok_loop_table (T : Tx K mg) (base : Heap) : FnOk P w K mg base CX0 7 T.f_loop_table T.d_loop_table ["size"] (spD K sp_loop_table) :=
  fnD_ok T.F_loop_table sc_loop_table len_loop_table fun cdv A outer s H E hr => ⟨t_loop_table,
    (dss_cons (ds_expr (de_call (ok_validate_size T base) (hr.mono (by decide)) rfl T.g_validate_size T.F_validate_size.kp T.b_validate_size pass0 (dl_cons (de_name 0) (dl_cons de_int (dl_cons (de_globI T.c_MOST_SIZE) dl_nil)))))
    (dss_cons (ds_if (dt_cmp op_gtA opl_gtA (de_name 0) (de_globI T.c_MOST_TABLED) (nomark _)) dss_never dss_nil)
    (dss_cons (ds_set 1 sc_loop_table.nd (de_call (ok_all_diagrams T base) (hr.mono (by decide)) rfl T.g_all_diagrams T.F_all_diagrams.kp T.b_all_diagrams pass0 (dl_cons (de_name 0) dl_nil)) (hio := fun z => nomatch z))
    (dss_one (ds_ret (de_callTy call_tuple_of cll_tuple rfl T.z_tuple (by decide +kernel) (da_cons (de_lc rfl sc_loop_table.nd (di_list (de_name 1)) (own := [("inner", 2)]) (show BlkOk ["size", "diagrams", "inner", "outer"] (defScope s_loop_table) _ _ from ⟨rfl, by decide +kernel, by decide +kernel, by decide +kernel, by decide +kernel⟩) (fun _ _ _ _ _ => pg_name (i := 2) sc_loop_table.nd rfl (by first | exact Or.inl rfl | exact Or.inr rfl)) (simGv_name (by decide)) (fun _ _ _ _ _ => dps_nil) (fun _ _ _ _ _ => (de_callTy call_tuple_of cll_tuple rfl T.z_tuple (by decide +kernel) (da_cons (de_lc rfl sc_loop_table.nd (di_list (de_name 1)) (own := [("outer", 3)]) (show BlkOk ["size", "diagrams", "inner", "outer"] { kind := PySem.ScopeKind.function, names := [ (PySem.Str.ofString ".0", PySem.NameKind.local), (PySem.Str.ofString "inner", PySem.NameKind.cell), (PySem.Str.ofString "tuple", PySem.NameKind.globalImplicit), (PySem.Str.ofString "diagrams", PySem.NameKind.cell)], isGenerator := false, isCoroutine := false, more := [] : PySem.Scope } _ _ from ⟨rfl, by decide +kernel, by decide +kernel, by decide +kernel, by decide +kernel⟩) (fun _ _ _ _ _ => pg_name (i := 3) sc_loop_table.nd rfl (by first | exact Or.inl rfl | exact Or.inr rfl)) (simGv_name (by decide)) (fun _ _ _ _ _ => dps_nil) (fun _ _ _ _ _ => (de_callB call_lenA cll_len rfl T.z_len (by decide +kernel) (da_cons (de_call (ok_traced_loops T base) (hr.mono (by decide)) rfl T.g_traced_loops T.F_traced_loops.kp T.b_traced_loops pass0 (dl_cons (de_name 2) (dl_cons (de_name 3) dl_nil))) da_nil)))) da_nil)))) da_nil))))))), rd_loop_table⟩
/-! ### _law_chords -/
def sp_w_chords : DSp := fun ds Q => match ds with
  | [.str s] => ∃ n w, s = wd w ∧ Dyck n w ∧ n ≤ 30 ∧ Q (.d (.tuple ((cds w).map prD)))
  | _ => False
def ChC (w : List Bool) (i : Nat) (st : List Nat) (fs : List (Int × Int)) : Prop := StC w i (st.reverse.map fun (k : Nat) => (k : Int) + 1) fs ∧ (∃ P, Stk w i st P) ∧ ∀ x ∈ fs, ∃ p q : Nat, x = ((p : Int) + 1, (q : Int) + 1) ∧ Cl w p q
theorem ChC.wd {n : Nat} {w : List Bool} {st : List Nat} {fs : List (Int × Int)} (D : Dyck n w) (C : ChC w w.length st fs) : WD n w fs := by
  obtain ⟨S, _, h⟩ := C
  have N := S.nc D
  have nd : fs.Nodup := N.ap.imp_of_mem fun {p q} mp mq a e => by
    subst e
    have := N.inn p mp
    unfold apart at a
    omega
  have c := D.cds.1
  refine ⟨D, N.len, nd, fun a b => ⟨fun m => ?_, fun m => ?_⟩⟩
  · obtain ⟨p, q, e, cc⟩ := h _ m
    cases e
    exact ⟨p, q, rfl, rfl, cc⟩
  · refine all_of_sub nd (fun z hz => ?_) (by rw [c.len, N.len]; exact Nat.le_refl _) _ ((c.mem a b).mpr m)
    obtain ⟨p, q, e, cc⟩ := h z hz
    rw [e]
    exact (c.mem _ _).mpr ⟨p, q, rfl, rfl, cc⟩

def t_w_chords_1_0 : DTS := (dApp 2 (d2 DL.gAdd (dName 3) (dC (.int 1))))
def t_w_chords_2_0 : DTS := (dApp 1 (dTup (dlCons (dPop 2) (dlCons (d2 DL.gAdd (dName 3) (dC (.int 1))) dlNil))))
def t_w_chords_3_0 : DTS := (dIf (dB (d2 gEqA (dName 4) (dC (.str "U")))) t_w_chords_1_0 t_w_chords_2_0)
def t_w_chords_4_2 : DTS := (dRet false (dCl gTuple (daCons (dCl gSortP (daCons (dName 1) daNil)) daNil)))
def t_w_chords_4_1 : DTS := (dSeq (dFor (dItE 0 (daCons (dName 0) daNil)) (dgTup 2 (dgCons (dgName 3) (dgCons (dgName 4) dgNil))) t_w_chords_3_0) t_w_chords_4_2)
def t_w_chords : DTS := (dSeq (dParR2 1 2 (dLst dlNil) (dLst dlNil)) t_w_chords_4_1)
theorem rd_w_chords : ∀ ds Qd, sp_w_chords ds Qd → t_w_chords { nx := fun _ => Qd (.d .none), rt := fun r _ => Qd r } (startD 5 ds) := by
  intro ds Qd h
  unfold sp_w_chords at h
  split at h
  · obtain ⟨n, w, rfl, D, hn, h⟩ := h
    have dl := D.len
    unfold t_w_chords
    walk_at "rd0"
    refine ⟨by decide, by decide, ?_⟩
    unfold t_w_chords_4_1
    walk_at "rd"
    rw [wd_size]
    refine ⟨fun i ρ => ∃ (st : List Nat) (fs : List (Int × Int)) (x y : DL.Slot), ρ = [.val (.str (wd w)), .own (.lst (fs.map prD)), .own (.lst ((st.reverse.map fun (k : Nat) => (k : Int) + 1).map .int)), x, y] ∧ ChC w i st fs, ⟨[], [], .free, .free, rfl, StC.start w, ⟨_, Stk.start w⟩, fun _ h => by simp at h⟩, ?_, ?_⟩
    · rintro i ρ hi ⟨st, fs, x, y, rfl, S, ⟨P, T⟩, hf⟩
      have nm := S.num
      rw [sgE_wd hi]
      walk_at "rd"
      refine ⟨rfl, ?_⟩
      unfold t_w_chords_3_0
      walk_at "rd"
      rw [dec_U]
      cases hb : w[i] with
      | true =>
        walk_at "rd"
        unfold t_w_chords_1_0
        walk_at "rd"
        have em : (st.reverse.map fun (k : Nat) => (k : Int) + 1).map PyData.int ++ [PyData.int (0 + (i : Int) + 1)] = ((i :: st).reverse.map fun (k : Nat) => (k : Int) + 1).map PyData.int := by
          rw [List.reverse_cons, List.map_append, List.map_append, show (0 : Int) + (i : Int) = (i : Int) by omega]; rfl
        rw [em]
        refine ⟨by rw [List.length_map]; exact small1000 (by omega), i :: st, fs, _, _, rfl, ?_, ⟨P, T.push hi hb⟩, hf⟩
        have q := S.push hi hb
        rwa [show (st.reverse.map fun (k : Nat) => (k : Int) + 1) ++ [(i : Int) + 1] = ((i :: st).reverse.map fun (k : Nat) => (k : Int) + 1) by rw [List.reverse_cons, List.map_append]; rfl] at q
      | false =>
        walk_at "rd"
        obtain ⟨k, r, rfl⟩ := T.open hi hb D.pos
        obtain ⟨C, T2⟩ := T.pop hi hb
        rw [List.reverse_cons, List.map_append] at S
        have S2 := S.pop hi hb
        unfold t_w_chords_2_0
        walk_at "rd"
        have er : ((k :: r).reverse.map fun (k : Nat) => (k : Int) + 1).map PyData.int = (r.reverse.map fun (k : Nat) => (k : Int) + 1).map PyData.int ++ [.int ((k : Int) + 1)] := by
          rw [List.reverse_cons, List.map_append, List.map_append]; rfl
        rw [er]
        have em : fs.map prD ++ [PyData.tuple [.int ((k : Int) + 1), .int (0 + (i : Int) + 1)]] = (fs ++ [((k : Int) + 1, (i : Int) + 1)]).map prD := by
          rw [List.map_append, show (0 : Int) + (i : Int) = (i : Int) by omega]; rfl
        simp only [last_get, List.dropLast_concat]
        rw [em]
        refine ⟨by decide, by rw [List.length_map]; exact small1000 (by simp at nm; omega), r, _, _, _, rfl, S2, ⟨_, T2⟩, fun x hx => ?_⟩
        rcases List.mem_append.mp hx with q | q
        · exact hf x q
        · exact ⟨k, i, List.mem_singleton.mp q, C⟩
    · rintro ρ ⟨st, fs, x, y, rfl, S⟩
      have N := S.wd D
      unfold t_w_chords_4_2
      walk_at "rd"
      refine ⟨fs, rfl, fun qs hp hs => ?_⟩
      (try walk_at "rd")
      rw [N.uniq hp hs]
      exact h
  · exact h.elim

theorem len_w_chords : ∀ ds Q, sp_w_chords ds Q → ds.length = 1 := by
  intro ds Q h
  unfold sp_w_chords at h
  split at h
  · rfl
  · exact h.elim
theorem ok_w_chords (T : Tx K mg) (base : Heap) : FnOk P w K mg base CX0 1 T.f_w_chords T.d_w_chords ["letters"] (spD K sp_w_chords) :=
  fnD_ok T.F_w_chords sc_w_chords len_w_chords fun cdv A outer s H E hr => ⟨t_w_chords,
    (dss_cons (ds_parR2 1 2 rfl sc_w_chords.nd (de_lst dl_nil) (de_lst dl_nil) (hio := fun z => nomatch z))
    (dss_cons (ds_for PassesOwn.never rfl (di_enumS rfl T.z_enumerate (da_cons (de_name 0) da_nil)) (dg_tup rfl (dgs_cons (dg_name 3 sc_w_chords.nd) (dgs_cons (dg_name 4 sc_w_chords.nd) dgs_nil))) (dss_one (ds_if (dt_cmp (op_eqA hr.units) opl_eqA (de_name 4) de_str (nomark _)) (dss_one (ds_app 2 (he := (de_bin op_addA opl_add (de_name 3) de_int)) (hp := fun _ _ u v => pe_bm PySem.F.plainAttrs_list PySem.F.slot_list_append PySem.F.type_list_append mt_append u v))) (dss_one (ds_app 1 (he := (de_tup (dl_cons (de_pop 2 (hp := fun _ u => pe_bm0 PySem.F.plainAttrs_list PySem.F.slot_list_pop PySem.F.type_list_pop mt_pop u)) (dl_cons (de_bin op_addA opl_add (de_name 3) de_int) dl_nil)))) (hp := fun _ _ u v => pe_bm PySem.F.plainAttrs_list PySem.F.slot_list_append PySem.F.type_list_append mt_append u v))))))
    (dss_one (ds_ret (de_callTy call_tuple_of cll_tuple rfl T.z_tuple (by decide +kernel) (da_cons (de_callB cr_sortedPT cll_sortP rfl T.z_sorted (by decide +kernel) (da_cons (de_name 1) da_nil)) da_nil)))))), rd_w_chords⟩
/-! ### _law_all -/
def sp_w_all : DSp := fun ds Q => match ds with
  | [.int a] => ∃ n : Nat, a = n ∧ n ≤ 8 ∧ Q (.n (.lst ((srtW n).map dgD)))
  | _ => False

def t_w_all_1_0 : DTS := (dApp 3 (dTup (dlCons (d2 DL.gAdd (dName 4) (dC (.str "U"))) (dlCons (d2 DL.gAdd (dName 5) (dC (.int 1))) (dlCons (d2 DL.gAdd (dName 6) (dC (.int 1))) dlNil)))))
def t_w_all_2_0 : DTS := (dApp 3 (dTup (dlCons (d2 DL.gAdd (dName 4) (dC (.str "D"))) (dlCons (d2 DL.gSub (dName 5) (dC (.int 1))) (dlCons (dName 6) dlNil)))))
def t_w_all_3_1 : DTS := (dIf (dB (d2 gGtA (dName 5) (dC (.int 0)))) t_w_all_2_0 dNext)
def t_w_all_3_0 : DTS := (dSeq (dIf (dB (d2 gLtA (dName 6) (dName 0))) t_w_all_1_0 dNext) t_w_all_3_1)
def t_w_all_4_2 : DTS := (dSet 1 (dName 3))
def t_w_all_4_1 : DTS := (dSeq (dFor (dItL (dName 1)) (dgTup 3 (dgCons (dgName 4) (dgCons (dgName 5) (dgCons (dgName 6) dgNil)))) t_w_all_3_0) t_w_all_4_2)
def t_w_all_4_0 : DTS := (dSeq (dSet 3 (dLst dlNil)) t_w_all_4_1)
def t_w_all_5_2 : DTS := (dRet false (dCl gSortDA (daCons (dLc (dItL (dName 1)) (dgTup 3 (dgCons (dgName 4) (dgCons (dgName 5) (dgCons (dgName 6) dgNil)))) dYes (dCall sp_w_chords (dlCons (dName 4) dlNil)) [4, 5, 6]) daNil)))
def t_w_all_5_1 : DTS := (dSeq (dFor (dItR1 (daCons (d2 DL.gMulI (dC (.int 2)) (dName 0)) daNil)) (dgName 2) t_w_all_4_0) t_w_all_5_2)
def t_w_all : DTS := (dSeq (dSet 1 (dLst (dlCons (dTup (dlCons (dC (.str "")) (dlCons (dC (.int 0)) (dlCons (dC (.int 0)) dlNil)))) dlNil))) t_w_all_5_1)
theorem rd_w_all : ∀ ds Qd, sp_w_all ds Qd → t_w_all { nx := fun _ => Qd (.d .none), rt := fun r _ => Qd r } (startD 7 ds) := by
  intro ds Qd h
  unfold sp_w_all at h
  split at h
  · obtain ⟨n, rfl, hn, h⟩ := h
    have z : sizeLine = 16777216 := sizeLine_eq
    unfold t_w_all
    walk_at "rd0"
    refine ⟨by omega, by omega, ?_⟩
    unfold t_w_all_5_1
    walk_at "rd"
    rw [show (2 * (n : Int)).toNat = 2 * n by omega]
    refine ⟨cmul_l (by decide) (by decide), by omega, ?_⟩
    refine ⟨fun k ρ => ∃ s1 x y u v t, k ≤ 2 * n ∧ (s1 = .own (.lst ((allU n k).map (tlU k))) ∨ s1 = .val (.list ((allU n k).map (tlU k)))) ∧ ρ = [.val (.int n), s1, x, y, u, v, t], ⟨_, .free, .free, .free, .free, .free, by omega, .inl rfl, rfl⟩, ?_, ?_⟩
    · rintro k ρ hk ⟨s1, x, y, u, v, t, hk2, hs1, rfl⟩
      have al := allU_le hn hk2
      unfold t_w_all_4_0
      walk_at "rd"
      refine ⟨by omega, ?_⟩
      unfold t_w_all_4_1
      rcases hs1 with rfl | rfl
      all_goals
        walk_at "rd"
        refine ⟨fun j ρ => ∃ u v t, ρ = [.val (.int n), .val (.list ((allU n k).map (tlU k))), .val (.int (0 + (k : Int))), .own (.lst ((stepU (2 * n - k) ((allU n k).take j)).map (tlU (k + 1)))), u, v, t], ⟨u, v, t, rfl⟩, ?_, ?_⟩
        · rintro j ρ hj ⟨u, v, t, rfl⟩
          have hj2 : j < (allU n k).length := by rw [List.length_map] at hj; exact hj
          obtain ⟨i1, i2, i3⟩ := allU_inv hk2 (List.getElem_mem hj2)
          have sl := stepU_len (2 * n - k) ((allU n k).take j)
          rw [List.length_take] at sl
          have sk := stepU_take (b := 2 * n - k) hj2
          rw [nth_map hj2, show tlU k (allU n k)[j] = .tuple [.str (wd (allU n k)[j].1), .int (allU n k)[j].2, .int ((((allU n k)[j].2 + k) / 2 : Nat) : Int)] from rfl]
          generalize (allU n k)[j] = e at i1 i2 i3 sk
          walk_at "rd"
          refine ⟨rfl, ?_⟩
          have lw : (wd e.1).length + 1 ≤ sizeLine := by rw [wd_len]; omega
          have eD : wd e.1 ++ "D" = wd (e.1 ++ [false]) := wd_app e.1 [false]
          have eU : wd e.1 ++ "U" = wd (e.1 ++ [true]) := wd_app e.1 [true]
          have H1 : ∀ (D : DEnds) (Y : List (List Bool × Nat)), (∀ ρ, (∃ u v t, ρ = [.val (.int n), .val (.list ((allU n k).map (tlU k))), .val (.int (0 + (k : Int))), .own (.lst ((stepU (2 * n - k) ((allU n k).take (j + 1))).map (tlU (k + 1)))), u, v, t]) → D.nx ρ) → Y.length ≤ 200000 → stepU (2 * n - k) ((allU n k).take (j + 1)) = Y ++ (if 0 < e.2 then [(e.1 ++ [false], e.2 - 1)] else []) →
              t_w_all_3_1 D [.val (.int n), .val (.list ((allU n k).map (tlU k))), .val (.int (0 + (k : Int))), .own (.lst (Y.map (tlU (k + 1)))), .val (.str (wd e.1)), .val (.int e.2), .val (.int (((e.2 + k) / 2 : Nat) : Int))] := by
            intro D Y hD hY hs
            unfold t_w_all_3_1
            walk_at "rd"
            by_cases c : 0 < e.2
            · rw [if_pos c] at hs
              rw [decide_eq_true (show (0 : Int) < (e.2 : Int) by omega)]
              walk_at "rd"
              unfold t_w_all_2_0
              walk_at "rd"
              have em2 : Y.map (tlU (k + 1)) ++ [PyData.tuple [.str (wd e.1 ++ "D"), .int ((e.2 : Int) - 1), .int (((e.2 + k) / 2 : Nat) : Int)]] = (Y ++ [(e.1 ++ [false], e.2 - 1)]).map (tlU (k + 1)) := by
                rw [List.map_append, eD, show (e.2 : Int) - 1 = ((e.2 - 1 : Nat) : Int) by omega, show (e.2 + k) / 2 = (e.2 - 1 + (k + 1)) / 2 by omega]; rfl
              rw [em2, ← hs]
              exact ⟨lw, by omega, by rw [List.length_map]; omega, hD _ ⟨_, _, _, rfl⟩⟩
            · rw [if_neg c, List.append_nil] at hs
              rw [decide_eq_false (show ¬ (0 : Int) < (e.2 : Int) by omega)]
              walk_at "rd"
              rw [← hs]
              exact hD _ ⟨_, _, _, rfl⟩
          unfold t_w_all_3_0
          walk_at "rd"
          by_cases c : e.2 < 2 * n - k
          · rw [if_pos c, ← List.append_assoc] at sk
            rw [decide_eq_true (show (((e.2 + k) / 2 : Nat) : Int) < (n : Int) by omega)]
            walk_at "rd"
            unfold t_w_all_1_0
            walk_at "rd"
            refine ⟨lw, by omega, by rw [List.length_map]; omega, ?_⟩
            have em : (stepU (2 * n - k) ((allU n k).take j)).map (tlU (k + 1)) ++ [PyData.tuple [.str (wd e.1 ++ "U"), .int ((e.2 : Int) + 1), .int ((((e.2 + k) / 2 : Nat) : Int) + 1)]] = (stepU (2 * n - k) ((allU n k).take j) ++ [(e.1 ++ [true], e.2 + 1)]).map (tlU (k + 1)) := by
              rw [List.map_append, eU, show (e.2 : Int) + 1 = ((e.2 + 1 : Nat) : Int) by omega, show ((((e.2 + k) / 2 : Nat) : Int) + 1) = (((e.2 + 1 + (k + 1)) / 2 : Nat) : Int) by omega]; rfl
            rw [em]
            exact H1 _ _ (fun _ z => z) (by rw [List.length_append]; show _ + 1 ≤ _; omega) sk
          · rw [if_neg c, List.nil_append] at sk
            rw [decide_eq_false (show ¬ (((e.2 + k) / 2 : Nat) : Int) < (n : Int) by omega)]
            walk_at "rd"
            exact H1 _ _ (fun _ z => z) (by omega) sk
        · rintro ρ ⟨u, v, t, rfl⟩
          rw [List.length_map, List.take_length, ← allU_succ]
          unfold t_w_all_4_2
          walk_at "rd"
          exact ⟨_, _, _, _, _, _, by omega, .inr rfl, rfl⟩
    · rintro ρ ⟨s1, x, y, u, v, t, _, hs1, rfl⟩
      have al := allU_le hn (Nat.le_refl (2 * n))
      unfold t_w_all_5_2
      rcases hs1 with rfl | rfl
      all_goals
        walk_at "rd"
        refine ⟨fun j acc ρ => ρ = [.val (.int n), .val (.list ((allU n (2 * n)).map (tlU (2 * n)))), x, y, .free, .free, .free] ∧ acc = (((allU n (2 * n)).take j).map fun e => cds e.1).map dgD, ⟨rfl, rfl⟩, ?_, ?_⟩
        · rintro j acc ρ hj ⟨rfl, rfl⟩
          have hj2 : j < (allU n (2 * n)).length := by rw [List.length_map] at hj; exact hj
          have hd : Dyck n (allU n (2 * n))[j].1 := allT_mem (by
            unfold allT
            exact List.mem_map.mpr ⟨_, List.mem_reverse.mp (List.getElem_mem hj2), rfl⟩)
          have ht : (allU n (2 * n)).take (j + 1) = (allU n (2 * n)).take j ++ [(allU n (2 * n))[j]] := by rw [List.take_succ, List.getElem?_eq_getElem hj2]; rfl
          rw [nth_map hj2, show tlU (2 * n) (allU n (2 * n))[j] = .tuple [.str (wd (allU n (2 * n))[j].1), .int (allU n (2 * n))[j].2, .int ((((allU n (2 * n))[j].2 + 2 * n) / 2 : Nat) : Int)] from rfl]
          generalize (allU n (2 * n))[j] = e at hd ht ⊢
          walk_at "rd"
          refine ⟨rfl, n, e.1, rfl, hd, by omega, ?_⟩
          walk_at "rd"
          refine ⟨by rw [List.length_map, List.length_map, List.length_take]; omega, rfl, ?_⟩
          rw [ht, List.map_append, List.map_append]; rfl
        · rintro acc ρ ⟨rfl, rfl⟩
          have e9 : ((allU n (2 * n)).map (tlU (2 * n))).length = (allU n (2 * n)).length := List.length_map _
          rw [e9, List.take_length]
          (try walk_at "rd")
          rw [srtW_of (allU_perm n)]
          exact ⟨sortable_all (allU_perm n), h⟩
  · exact h.elim

theorem len_w_all : ∀ ds Q, sp_w_all ds Q → ds.length = 1 := by
  intro ds Q h
  unfold sp_w_all at h
  split at h
  · rfl
  · exact h.elim
theorem ok_w_all (T : Tx K mg) (base : Heap) : FnOk P w K mg base CX0 2 T.f_w_all T.d_w_all ["many"] (spD K sp_w_all) :=
  fnD_ok T.F_w_all sc_w_all len_w_all fun cdv A outer s H E hr => ⟨t_w_all,
    (dss_cons (ds_set 1 sc_w_all.nd (de_lst (dl_cons (de_tup (dl_cons de_str (dl_cons de_int (dl_cons de_int dl_nil)))) dl_nil)) (hio := fun z => nomatch z))
    (dss_cons (ds_for PassesOwn.never rfl (di_range1 rfl T.z_range (da_cons (de_bin op_mul opl_mulI de_int (de_name 0)) da_nil)) (dg_name 2 sc_w_all.nd) (dss_cons (ds_set 3 sc_w_all.nd (de_lst dl_nil) (hio := fun z => nomatch z))
    (dss_cons (ds_for PassesOwn.never rfl (di_list (de_name 1)) (dg_tup rfl (dgs_cons (dg_name 4 sc_w_all.nd) (dgs_cons (dg_name 5 sc_w_all.nd) (dgs_cons (dg_name 6 sc_w_all.nd) dgs_nil)))) (dss_cons (ds_if (dt_cmp op_ltA opl_ltA (de_name 6) (de_name 0) (nomark _)) (dss_one (ds_app 3 (he := (de_tup (dl_cons (de_bin op_addA opl_add (de_name 4) de_str) (dl_cons (de_bin op_addA opl_add (de_name 5) de_int) (dl_cons (de_bin op_addA opl_add (de_name 6) de_int) dl_nil))))) (hp := fun _ _ u v => pe_bm PySem.F.plainAttrs_list PySem.F.slot_list_append PySem.F.type_list_append mt_append u v))) dss_nil)
    (dss_one (ds_if (dt_cmp op_gtA opl_gtA (de_name 5) de_int (nomark _)) (dss_one (ds_app 3 (he := (de_tup (dl_cons (de_bin op_addA opl_add (de_name 4) de_str) (dl_cons (de_bin op_sub opl_sub (de_name 5) de_int) (dl_cons (de_name 6) dl_nil))))) (hp := fun _ _ u v => pe_bm PySem.F.plainAttrs_list PySem.F.slot_list_append PySem.F.type_list_append mt_append u v))) dss_nil))))
    (dss_one (ds_set 1 sc_w_all.nd (de_name 3) (hio := fun z => nomatch z))))))
    (dss_one (ds_ret (de_callB (cr_sortDA (fp_room hr)) cll_sortDA rfl T.z_sorted (by decide +kernel) (da_cons (de_lc rfl sc_w_all.nd (di_list (de_name 1)) (own := [("letters", 4), ("height", 5), ("ups", 6)]) (show BlkOk ["many", "left", "k", "longer", "letters", "height", "ups"] (defScope s_w_all) _ _ from ⟨rfl, by decide +kernel, by decide +kernel, by decide +kernel, by decide +kernel⟩) (fun _ _ _ _ _ => pg_tup rfl (pgs_cons (pg_name (i := 4) sc_w_all.nd rfl (by first | exact Or.inl rfl | exact Or.inr rfl)) (pgs_cons (pg_name (i := 5) sc_w_all.nd rfl (by first | exact Or.inl rfl | exact Or.inr rfl)) (pgs_cons (pg_name (i := 6) sc_w_all.nd rfl (by first | exact Or.inl rfl | exact Or.inr rfl)) (pgs_nil))))) (simGv_tup (simGsv_cons (simGv_name (by decide)) (simGsv_cons (simGv_name (by decide)) (simGsv_cons (simGv_name (by decide)) simGsv_nil)))) (fun _ _ _ _ _ => dps_nil) (fun _ _ _ _ _ => (de_call (ok_w_chords T base) (hr.mono (by decide)) rfl T.g_w_chords T.F_w_chords.kp T.b_w_chords pass0 (dl_cons (de_name 4) dl_nil)))) da_nil)))))), rd_w_all⟩
/-! ### _law_partners -/
def sp_w_partners : DSp := fun ds Q => match ds with
  | [.tuple es] => ∃ (n : Nat) (w : List Bool), es = (cds w).map prD ∧ Dyck n w ∧ n ≤ 30 ∧ ∀ kvs, Tells (2 * n) kvs (mtI w) → Q (.n (.dk kvs))
  | _ => False

def t_w_partners : DTS := (dRet false (dCl gDictP (daCons (d2 DL.gAdd (dCl gList (daCons (dName 0) daNil)) (dLc (dItT (dName 0)) (dgTup 2 (dgCons (dgName 1) (dgCons (dgName 2) dgNil))) dYes (dTup (dlCons (dName 2) (dlCons (dName 1) dlNil))) [1, 2])) daNil)))
theorem rd_w_partners : ∀ ds Qd, sp_w_partners ds Qd → t_w_partners { nx := fun _ => Qd (.d .none), rt := fun r _ => Qd r } (startD 3 ds) := by
  intro ds Qd h
  unfold sp_w_partners at h
  split at h
  · obtain ⟨n, w, rfl, D, hn, h⟩ := h
    have cl := D.dg.nc.len
    unfold t_w_partners
    walk_at "rd0"
    refine ⟨fun j acc ρ => ρ = [.val (.tuple ((cds w).map prD)), .free, .free] ∧ acc = ((cds w).take j).map fun p => prD (p.2, p.1), ⟨rfl, rfl⟩, ?_, ?_⟩
    · rintro j acc ρ hj ⟨rfl, rfl⟩
      have hj2 : j < (cds w).length := by simpa using hj
      rw [nth_pr hj2]
      walk_at "rd"
      refine ⟨rfl, by decide, by rw [List.length_map, List.length_take]; exact small1000 (by omega), rfl, ?_⟩
      rw [List.take_succ, List.getElem?_eq_getElem hj2, List.map_append]; rfl
    · rintro acc ρ ⟨rfl, rfl⟩
      rw [lmp, List.take_length]
      refine ⟨by rw [List.length_map]; exact le_line (show (cds w).length + (cds w).length ≤ 200 by omega), ((cds w).map fun p => (Sum.inl p.1, PyData.int p.2)) ++ ((cds w).map fun p => (Sum.inl p.2, PyData.int p.1)), by rw [List.map_append, List.map_map, List.map_map]; rfl, ?_⟩
      walk_at "rd"
      refine h _ fun p p1 p2 => merge_val (fun x hx e => ?_) (.inl ?_)
      · rcases List.mem_append.mp hx with m | m
        · obtain ⟨q, hq, rfl⟩ := List.mem_map.mp m
          have e' : q.1 = p := Sum.inl.inj e
          show PyData.int q.2 = _
          rw [mt_uniq D (p := p) (q := q.2) (.inl (e' ▸ hq))]
        · obtain ⟨q, hq, rfl⟩ := List.mem_map.mp m
          have e' : q.2 = p := Sum.inl.inj e
          show PyData.int q.1 = _
          rw [mt_uniq D (p := p) (q := q.1) (.inr (e' ▸ hq))]
      · rcases mt_mem D p1 p2 with m | m
        · exact ⟨_, List.mem_append_left _ (List.mem_map.mpr ⟨_, m, rfl⟩), rfl⟩
        · exact ⟨_, List.mem_append_right _ (List.mem_map.mpr ⟨_, m, rfl⟩), rfl⟩
  · exact h.elim

theorem len_w_partners : ∀ ds Q, sp_w_partners ds Q → ds.length = 1 := by
  intro ds Q h
  unfold sp_w_partners at h
  split at h
  · rfl
  · exact h.elim
theorem ok_w_partners (T : Tx K mg) (base : Heap) : FnOk P w K mg base CX0 1 T.f_w_partners T.d_w_partners ["chords"] (spD K sp_w_partners) :=
  fnD_ok T.F_w_partners sc_w_partners len_w_partners fun cdv A outer s H E hr => ⟨t_w_partners,
    (dss_one (ds_ret (de_callTy (cr_dictP rfl) cll_dictP rfl T.z_dict (by decide +kernel) (da_cons (de_bin op_addA opl_add (de_callTy call_list_of cll_list rfl T.z_list (by decide +kernel) (da_cons (de_name 0) da_nil)) (de_lc rfl sc_w_partners.nd (di_tup (de_name 0)) (own := [("i", 1), ("j", 2)]) (show BlkOk ["chords", "i", "j"] (defScope s_w_partners) _ _ from ⟨rfl, by decide +kernel, by decide +kernel, by decide +kernel, by decide +kernel⟩) (fun _ _ _ _ _ => pg_tup rfl (pgs_cons (pg_name (i := 1) sc_w_partners.nd rfl (by first | exact Or.inl rfl | exact Or.inr rfl)) (pgs_cons (pg_name (i := 2) sc_w_partners.nd rfl (by first | exact Or.inl rfl | exact Or.inr rfl)) (pgs_nil)))) (simGv_tup (simGsv_cons (simGv_name (by decide)) (simGsv_cons (simGv_name (by decide)) simGsv_nil))) (fun _ _ _ _ _ => dps_nil) (fun _ _ _ _ _ => (de_tup (dl_cons (de_name 2) (dl_cons (de_name 1) dl_nil)))))) da_nil)))), rd_w_partners⟩
/-! ### _law_rings -/
def sp_w_rings : DSp := fun ds Q => match ds with
  | [.tuple es, .tuple fs] => ∃ (n : Nat) (w v : List Bool), es = (cds w).map prD ∧ fs = (cds v).map prD ∧ Dyck n w ∧ Dyck n v ∧ n ≤ 30 ∧ Q (.d (.tuple ((rgs (mtI w) (mtI v) (2 * n)).map rtD)))
  | _ => False

def t_w_rings_1_1 : DTS := (dSet 8 (dIxO 3 (dIxO 2 (dName 8))))
def t_w_rings_1_0 : DTS := (dSeq (dSet 7 (d2 DL.gAdd (dName 7) (dLst (dlCons (dName 8) (dlCons (dIxO 2 (dName 8)) dlNil))))) t_w_rings_1_1)
def t_w_rings_2_3 : DTS := (dApp 5 (dCl gTuple (daCons (dName 7) daNil)))
def t_w_rings_2_2 : DTS := (dSeq (dSet 4 (d2 DL.gAdd (dName 4) (dName 7))) t_w_rings_2_3)
def t_w_rings_2_1 : DTS := (dSeq (dWhile (dB (d2 (gIn true) (dName 8) (dName 7))) t_w_rings_1_0) t_w_rings_2_2)
def t_w_rings_2_0 : DTS := (dSeq (dParM [7, 8] (dnCons (dLst dlNil) (dnCons (dName 6) dnNil))) t_w_rings_2_1)
def t_w_rings_3_0 : DTS := (dIf (dB (d2 (gIn true) (dName 6) (dName 4))) t_w_rings_2_0 dNext)
def t_w_rings_4_2 : DTS := (dRet false (dCl gTuple (daCons (dName 5) daNil)))
def t_w_rings_4_1 : DTS := (dSeq (dFor (dItR2 (daCons (dC (.int 1)) (daCons (d2 DL.gAdd (d2 DL.gMulI (dC (.int 2)) (dCl gLen (daCons (dName 0) daNil))) (dC (.int 1))) daNil))) (dgName 6) t_w_rings_3_0) t_w_rings_4_2)
def t_w_rings : DTS := (dSeq (dParM [2, 3, 4, 5] (dnCons (dCall sp_w_partners (dlCons (dName 0) dlNil)) (dnCons (dCall sp_w_partners (dlCons (dName 1) dlNil)) (dnCons (dLst dlNil) (dnCons (dLst dlNil) dnNil))))) t_w_rings_4_1)
theorem rd_w_rings : ∀ ds Qd, sp_w_rings ds Qd → t_w_rings { nx := fun _ => Qd (.d .none), rt := fun r _ => Qd r } (startD 9 ds) := by
  intro ds Qd h
  unfold sp_w_rings at h
  split at h
  · obtain ⟨n, w, v, rfl, rfl, D, E, hn, h⟩ := h
    have cl := D.dg.nc.len
    have cl2 := E.dg.nc.len
    have F := mt_ok D
    have G := mt_ok E
    unfold t_w_rings
    walk_at "rd0"
    refine ⟨n, w, rfl, D, hn, fun kv1 T1 => ?_⟩
    walk_at "rd"
    refine ⟨n, v, rfl, E, hn, fun kv2 T2 => ?_⟩
    walk_at "rd"
    refine ⟨by decide, by decide, rfl, ?_⟩
    unfold t_w_rings_4_1
    walk_at "rd"
    rw [lmp, cl]
    refine ⟨cmul_l (by decide) (by decide), by omega, ?_⟩
    rw [show (2 * (n : Int) + 1 - 1).toNat = 2 * n by omega]
    refine ⟨fun i ρ => ∃ (x6 x7 x8 : DL.Slot), ρ = [.val (.tuple ((cds w).map prD)), .val (.tuple ((cds v).map prD)), .own (.dk kv1), .own (.dk kv2), .own (.lst ((rgs (mtI w) (mtI v) i).flatten.map .int)), .own (.lst ((rgs (mtI w) (mtI v) i).map rtD)), x6, x7, x8], ⟨_, _, _, rfl⟩, ?_, ?_⟩
    · rintro i ρ hi ⟨x6, x7, x8, rfl⟩
      unfold t_w_rings_3_0
      walk_at "rd"
      refine ⟨rfl, ints_flat _, ?_⟩
      rw [ints_any, show 1 + (i : Int) = (i : Int) + 1 by omega]
      by_cases c : ((i : Int) + 1) ∈ (rgs (mtI w) (mtI v) i).flatten
      · rw [decide_eq_true c]
        walk_at "rd"
        exact ⟨_, _, _, by rw [rgs_hit c]⟩
      · rw [decide_eq_false c]
        walk_at "rd"
        have fl := flat_le F G (show i + 1 ≤ 2 * n by omega)
        have rf := rgs_flat c
        rw [rf, List.length_append] at fl
        have rl := rgs_len_le (f := mtI w) (g := mtI v) (i := i)
        have s1 : (1 : Int) ≤ (i : Int) + 1 := by omega
        have s2 : (i : Int) + 1 ≤ ((2 * n : Nat) : Int) := by omega
        obtain ⟨p1, p2, p3⟩ := per_spec F G s1 s2
        have pl := per_le F G s1 s2
        unfold t_w_rings_2_0
        walk_at "rd"
        refine ⟨by decide, rfl, ?_⟩
        unfold t_w_rings_2_1
        walk_at "rd"
        refine ⟨fun m ρ => ∃ k, k ≤ per (mtI w) (mtI v) ((i : Int) + 1) ∧ m = per (mtI w) (mtI v) ((i : Int) + 1) - k ∧ ρ = [.val (.tuple ((cds w).map prD)), .val (.tuple ((cds v).map prD)), .own (.dk kv1), .own (.dk kv2), .own (.lst ((rgs (mtI w) (mtI v) i).flatten.map .int)), .own (.lst ((rgs (mtI w) (mtI v) i).map rtD)), .val (.int ((i : Int) + 1)), .own (.lst ((rg (mtI w) (mtI v) ((i : Int) + 1) k).map .int)), .val (.int (lp (mtI w) (mtI v) ((i : Int) + 1) k))], ⟨_, 0, Nat.zero_le _, rfl, rfl⟩, ?_⟩
        rintro m ρ ⟨k, hk, rfl, rfl⟩
        walk_at "rd"
        refine ⟨rfl, ints_flat _, ?_⟩
        rw [ints_any]
        by_cases lt : k < per (mtI w) (mtI v) ((i : Int) + 1)
        · rw [decide_eq_false (lp_not_rg F G s1 s2 lt)]
          walk_at "rd"
          have i1 := lp_in F G s1 s2 k
          have j1 := F.inn _ i1.1 i1.2
          unfold t_w_rings_1_0
          walk_at "rd"
          rw [if_pos rfl]
          refine ⟨kv1, rfl, ?_⟩
          rw [T1 _ i1.1 i1.2]
          walk_at "rd"
          refine ⟨by decide, by rw [List.length_map, rg_len]; exact le_line (show 2 * k + (0 + 1 + 1) ≤ 200 by omega), ?_⟩
          unfold t_w_rings_1_1
          walk_at "rd"
          refine ⟨kv1, rfl, ?_⟩
          rw [T1 _ i1.1 i1.2]
          walk_at "rd"
          refine ⟨kv2, rfl, ?_⟩
          rw [T2 _ j1.1 j1.2]
          walk_at "rd"
          refine ⟨_, ?_, k + 1, by omega, rfl, ?_⟩
          · omega
          · show _ = [_, _, _, _, _, _, _, DL.Slot.own (.lst ((rg (mtI w) (mtI v) ((i : Int) + 1) k ++ [lp (mtI w) (mtI v) ((i : Int) + 1) k, mtI w (lp (mtI w) (mtI v) ((i : Int) + 1) k)]).map .int)), DL.Slot.val (.int (mtI v (mtI w (lp (mtI w) (mtI v) ((i : Int) + 1) k))))]
            rw [List.map_append]; rfl
        · have ek : k = per (mtI w) (mtI v) ((i : Int) + 1) := by omega
          have inr : lp (mtI w) (mtI v) ((i : Int) + 1) k ∈ rg (mtI w) (mtI v) ((i : Int) + 1) k := by
            rw [ek, p2]
            exact ring_start F G s1 s2
          rw [decide_eq_true inr]
          walk_at "rd"
          rw [if_pos rfl]
          unfold t_w_rings_2_2
          walk_at "rd"
          refine ⟨by rw [List.length_map, List.length_map, rg_len]; exact le_line (show (rgs (mtI w) (mtI v) i).flatten.length + 2 * k ≤ 400 by omega), ?_⟩
          unfold t_w_rings_2_3
          walk_at "rd"
          have e1 : (rgs (mtI w) (mtI v) i).flatten.map PyData.int ++ (rg (mtI w) (mtI v) ((i : Int) + 1) k).map PyData.int = (rgs (mtI w) (mtI v) (i + 1)).flatten.map PyData.int := by
            rw [rf, List.map_append, ek]; rfl
          have e2 : (rgs (mtI w) (mtI v) i).map rtD ++ [PyData.tuple ((rg (mtI w) (mtI v) ((i : Int) + 1) k).map PyData.int)] = (rgs (mtI w) (mtI v) (i + 1)).map rtD := by
            rw [rgs_new c, List.map_append, ek]; rfl
          rw [e1, e2]
          exact ⟨by rw [List.length_map]; exact small1000 (by omega), _, _, _, rfl⟩
    · rintro ρ ⟨x6, x7, x8, rfl⟩
      unfold t_w_rings_4_2
      walk_at "rd"
      exact h
  · exact h.elim

theorem len_w_rings : ∀ ds Q, sp_w_rings ds Q → ds.length = 2 := by
  intro ds Q h
  unfold sp_w_rings at h
  split at h
  · rfl
  · exact h.elim
theorem ok_w_rings (T : Tx K mg) (base : Heap) : FnOk P w K mg base CX0 2 T.f_w_rings T.d_w_rings ["one", "other"] (spD K sp_w_rings) :=
  fnD_ok T.F_w_rings sc_w_rings len_w_rings fun cdv A outer s H E hr => ⟨t_w_rings,
    (dss_cons (ds_parM (n := 4) rfl (dn_cons (de_call (ok_w_partners T base) (hr.mono (by decide)) rfl T.g_w_partners T.F_w_partners.kp T.b_w_partners pass0 (dl_cons (de_name 0) dl_nil)) (dn_cons (de_call (ok_w_partners T base) (hr.mono (by decide)) rfl T.g_w_partners T.F_w_partners.kp T.b_w_partners pass0 (dl_cons (de_name 1) dl_nil)) (dn_cons (de_lst dl_nil) (dn_cons (de_lst dl_nil) dn_nil)))) (pn_cons 2 sc_w_rings.nd (pn_cons 3 sc_w_rings.nd (pn_cons 4 sc_w_rings.nd (pn_cons 5 sc_w_rings.nd pn_nil)))) (hio := fun z => nomatch z))
    (dss_cons (ds_for PassesOwn.never rfl (di_range2 rfl T.z_range (da_cons de_int (da_cons (de_bin op_addA opl_add (de_bin op_mul opl_mulI de_int (de_callB call_lenA cll_len rfl T.z_len (by decide +kernel) (da_cons (de_name 0) da_nil))) de_int) da_nil))) (dg_name 6 sc_w_rings.nd) (dss_one (ds_if (dt_cmp op_notIn_seq opl_in (de_name 6) (de_name 4) (by rfl)) (dss_cons (ds_par2N 7 8 rfl sc_w_rings.nd (dn_cons (de_lst dl_nil) (dn_cons (de_name 6) dn_nil)) (hio := fun z => nomatch z))
    (dss_cons (ds_while PassesOwn.never (dt_cmp op_notIn_seq opl_in (de_name 8) (de_name 7) (by rfl)) (dss_cons (ds_set 7 sc_w_rings.nd (de_bin op_addA opl_add (de_name 7) (de_lst (dl_cons (de_name 8) (dl_cons (de_ixO 2 (hu_of hr) (de_name 8)) dl_nil)))) (hio := fun z => nomatch z))
    (dss_one (ds_set 8 sc_w_rings.nd (de_ixO 3 (hu_of hr) (de_ixO 2 (hu_of hr) (de_name 8))) (hio := fun z => nomatch z)))))
    (dss_cons (ds_set 4 sc_w_rings.nd (de_bin op_addA opl_add (de_name 4) (de_name 7)) (hio := fun z => nomatch z))
    (dss_one (ds_app 5 (he := (de_callTy call_tuple_of cll_tuple rfl T.z_tuple (by decide +kernel) (da_cons (de_name 7) da_nil))) (hp := fun _ _ u v => pe_bm PySem.F.plainAttrs_list PySem.F.slot_list_append PySem.F.type_list_append mt_append u v)))))) dss_nil)))
    (dss_one (ds_ret (de_callTy call_tuple_of cll_tuple rfl T.z_tuple (by decide +kernel) (da_cons (de_name 5) da_nil)))))), rd_w_rings⟩
/-! ### _law_colours -/
def colS (x : List (Int × Int)) (L : List (List (Int × Int))) : Nat → Nat
  | 0 => 0
  | c + 1 => colS x L c + (L.filter (mono x c)).length
def sp_w_colours : DSp := fun ds Q => match ds with
  | [.tuple es, .list fs] => ∃ (n : Nat) (x : List (Int × Int)), es = x.map prD ∧ fs = (srtW n).map dgD ∧ x ∈ srtW n ∧ n ≤ 4 ∧ Q (.d (.int (colS x (srtW n) (2 ^ n) : Nat)))
  | _ => False

def t_w_colours_1_0 : DTS := (dUpd 5 (dDispK (dkCons (dName 7) (d2 DL.gAndM (d2 DL.gShr (dName 4) (dName 6)) (dC (.int 1))) (dkCons (dName 8) (d2 DL.gAndM (d2 DL.gShr (dName 4) (dName 6)) (dC (.int 1))) dkNil))))
def t_w_colours_2_2 : DTS := (dSet 3 (d2 DL.gAdd (dName 3) (dCl gLen (daCons (dLc (dItL (dName 1)) (dgName 9) (dB (d2 gEqA (dLc (dItT (dName 9)) (dgTup 2 (dgCons (dgName 7) (dgCons (dgName 8) dgNil))) (dB (d2 gNeA (dIxO 5 (dName 7)) (dIxO 5 (dName 8)))) (dC (.int 1)) [7, 8]) (dLst dlNil))) (dC (.int 1)) [9]) daNil))))
def t_w_colours_2_1 : DTS := (dSeq (dFor (dItET 0 (dName 0)) (dgTup 2 (dgCons (dgName 6) (dgCons (dgTup 2 (dgCons (dgName 7) (dgCons (dgName 8) dgNil))) dgNil))) t_w_colours_1_0) t_w_colours_2_2)
def t_w_colours_2_0 : DTS := (dSeq (dSet 5 dDisp0) t_w_colours_2_1)
def t_w_colours_3_2 : DTS := (dRet false (dName 3))
def t_w_colours_3_1 : DTS := (dSeq (dFor (dItR1 (daCons (d2 gIx (dLst (dlCons (dC (.int 1)) (dlCons (dC (.int 2)) (dlCons (dC (.int 4)) (dlCons (dC (.int 8)) (dlCons (dC (.int 16)) dlNil)))))) (dName 2)) daNil)) (dgName 4) t_w_colours_2_0) t_w_colours_3_2)
def t_w_colours : DTS := (dSeq (dPar2 2 3 (dlCons (dCl gLen (daCons (dName 0) daNil)) (dlCons (dC (.int 0)) dlNil))) t_w_colours_3_1)
theorem rd_w_colours : ∀ ds Qd, sp_w_colours ds Qd → t_w_colours { nx := fun _ => Qd (.d .none), rt := fun r _ => Qd r } (startD 10 ds) := by
  intro ds Qd h
  unfold sp_w_colours at h
  split at h
  · obtain ⟨n, x, rfl, rfl, hx, hn, h⟩ := h
    have z : sizeLine = 16777216 := sizeLine_eq
    have hL := srtW_small (n := n) (by omega)
    obtain ⟨w, D, ex⟩ := srtW_word hx
    have NX : NC n x := by rw [ex]; exact D.dg.nc
    have lx := NX.len
    unfold t_w_colours
    walk_at "rd0"
    rw [List.length_map, lx]
    unfold t_w_colours_3_1
    walk_at "rd"
    have e0 : atI [PyData.int 1, PyData.int 2, PyData.int 4, PyData.int 8, PyData.int 16] (n : Int) = some (.int ((2 ^ n : Nat) : Int)) := by
      match n, hn with
      | 0, _ => rfl
      | 1, _ => rfl
      | 2, _ => rfl
      | 3, _ => rfl
      | 4, _ => rfl
    have hp : 2 ^ n ≤ 16 := (Nat.pow_le_pow_right (show 0 < 2 by decide) hn : 2 ^ n ≤ 2 ^ 4)
    rw [e0]
    walk_at "rd"
    generalize 2 ^ n = M at h hp ⊢
    rw [Int.toNat_natCast]
    refine ⟨by omega, ⟨by omega, by omega⟩, fun c ρ => ∃ s4 s5 s6 s7 s8 s9, ρ = [.val (.tuple (x.map prD)), .val (.list ((srtW n).map dgD)), .val (.int n), .val (.int (colS x (srtW n) c : Nat)), s4, s5, s6, s7, s8, s9], ⟨_, _, _, _, _, _, rfl⟩, ?_, ?_⟩
    · rintro c ρ hc ⟨s4, s5, s6, s7, s8, s9, rfl⟩
      unfold t_w_colours_2_0
      walk_at "rd"
      unfold t_w_colours_2_1
      walk_at "rd"
      rw [List.length_map]
      refine ⟨fun k ρ => ∃ kvs s6 s7 s8, CoI x c k kvs ∧ ρ = [.val (.tuple (x.map prD)), .val (.list ((srtW n).map dgD)), .val (.int n), .val (.int (colS x (srtW n) c : Nat)), .val (.int (0 + (c : Int))), .own (.dk kvs), s6, s7, s8, s9], ⟨[], s6, s7, s8, ⟨Nat.le_refl _, fun i hi => absurd hi (Nat.not_lt_zero _)⟩, rfl⟩, ?_, ?_⟩
      · rintro k ρ hk ⟨kvs, s6, s7, s8, S, rfl⟩
        have st := S.step NX hk
        have sl := S.len
        have pl := (NX.inn _ (List.getElem_mem hk)).2.1
        unfold enD
        rw [nth_pr hk]
        generalize x[k] = p at st pl ⊢
        have ep : prD p = .tuple [.int p.1, .int p.2] := rfl
        rw [ep]
        walk_at "rd"
        refine ⟨rfl, rfl, ?_⟩
        unfold t_w_colours_1_0
        walk_at "rd"
        refine ⟨by omega, 1, by decide, by omega, 1, by decide, ?_⟩
        have em : mergeP [] [(.inl p.1, PyData.int ((0 + (c : Int)) / 2 ^ (0 + (k : Int)).toNat % 2 ^ 1)), (.inl p.2, PyData.int ((0 + (c : Int)) / 2 ^ (0 + (k : Int)).toNat % 2 ^ 1))] = [(.inl p.1, PyData.int (bitF c k)), (.inl p.2, PyData.int (bitF c k))] := by
          rw [Int.zero_add, Int.zero_add, shr_bit]
          show putD (putD [] (.inl p.1) _) (.inl p.2) _ = _
          have e1 : putD [] (Sum.inl p.1) (PyData.int (bitF c k)) = [(.inl p.1, PyData.int (bitF c k))] := rfl
          rw [e1]
          unfold putD
          rw [if_neg]
          · rfl
          · intro q
            obtain ⟨r, hr, hq⟩ := List.any_eq_true.mp q
            rw [List.mem_singleton.mp hr, decide_eq_true_iff] at hq
            have := Sum.inl.inj hq
            omega
        rw [em]
        exact ⟨by show kvs.length + 2 ≤ _; omega, _, _, _, _, st, rfl⟩
      · rintro ρ ⟨kvs, s6, s7, s8, S, rfl⟩
        unfold t_w_colours_2_2
        walk_at "rd"
        rw [List.length_map]
        have cov : ∀ i : Int, 1 ≤ i → i ≤ 2 * (n : Int) → valD kvs (.inl i) = some (.int (colF x c i)) := fun i i1 i2 => by
          have hc := NX.cover i1 i2
          exact S.val i (idxF_at hc).1 hc
        refine ⟨fun i acc ρ => ρ = [.val (.tuple (x.map prD)), .val (.list ((srtW n).map dgD)), .val (.int n), .val (.int (colS x (srtW n) c : Nat)), .val (.int (0 + (c : Int))), .own (.dk kvs), s6, s7, s8, .free] ∧ acc = (((srtW n).take i).filter (mono x c)).map fun _ => .int 1, ⟨rfl, rfl⟩, ?_, ?_⟩
        · rintro i acc ρ hi ⟨rfl, rfl⟩
          have hm := List.getElem_mem hi
          have ht := take_filter_map (mono x c) (fun _ => PyData.int 1) hi
          have hlen : (((srtW n).take i).filter (mono x c)).length ≤ i := Nat.le_trans (List.length_filter_le ..) (by rw [List.length_take]; omega)
          rw [nth_map hi]
          generalize (srtW n)[i] = y at hm ht ⊢
          obtain ⟨v, E, ey⟩ := srtW_word hm
          have NY : NC n y := by rw [ey]; exact E.dg.nc
          have ly := NY.len
          have edg : dgD y = .tuple (y.map prD) := rfl
          rw [edg]
          walk_at "rd"
          rw [List.length_map]
          refine ⟨fun j acc2 ρ => ρ = [.val (.tuple (x.map prD)), .val (.list ((srtW n).map dgD)), .val (.int n), .val (.int (colS x (srtW n) c : Nat)), .val (.int (0 + (c : Int))), .own (.dk kvs), s6, .free, .free, .val (.tuple (y.map prD))] ∧ acc2 = ((y.take j).filter fun p => !decide (colF x c p.1 = colF x c p.2)).map fun _ => .int 1, ⟨rfl, rfl⟩, ?_, ?_⟩
          · rintro j acc2 ρ hj ⟨rfl, rfl⟩
            have hin := NY.inn _ (List.getElem_mem hj)
            have ht2 := take_filter_map (fun p : Int × Int => !decide (colF x c p.1 = colF x c p.2)) (fun _ => PyData.int 1) hj
            have hlen2 : ((y.take j).filter fun p => !decide (colF x c p.1 = colF x c p.2)).length ≤ j := Nat.le_trans (List.length_filter_le ..) (by rw [List.length_take]; omega)
            rw [nth_pr hj]
            generalize y[j] = p at hin ht2 ⊢
            have ep : prD p = .tuple [.int p.1, .int p.2] := rfl
            rw [ep]
            walk_at "rd"
            refine ⟨rfl, kvs, rfl, ?_⟩
            rw [cov p.1 (by omega) (by omega)]
            walk_at "rd"
            refine ⟨kvs, rfl, ?_⟩
            rw [cov p.2 (by omega) (by omega)]
            walk_at "rd"
            cases hb : (!decide (colF x c p.1 = colF x c p.2)) with
            | true =>
              rw [hb, if_pos rfl] at ht2
              exact ⟨by rw [List.length_map]; omega, rfl, ht2.symm⟩
            | false =>
              rw [hb, if_neg (fun q => nomatch q), List.append_nil] at ht2
              exact ⟨rfl, ht2.symm⟩
          · rintro acc2 ρ ⟨rfl, rfl⟩
            rw [List.take_length]
            (try walk_at "rd")
            have es : SeqAt.shaped (.list ((y.filter fun p => !decide (colF x c p.1 = colF x c p.2)).map fun _ => PyData.int 1)) = true := by
              have := shp_ints ((y.filter fun p => !decide (colF x c p.1 = colF x c p.2)).map fun _ => 1)
              rw [List.map_map] at this
              exact this
            have ee : PyData.eqv (.list ((y.filter fun p => !decide (colF x c p.1 = colF x c p.2)).map fun _ => PyData.int 1)) (.list []) = mono x c y := by
              unfold mono
              cases y.filter fun p => !decide (colF x c p.1 = colF x c p.2) with
              | nil => rfl
              | cons a r => rfl
            refine ⟨by omega, es, rfl, ?_⟩
            rw [ee]
            cases hb : mono x c y with
            | true =>
              rw [hb, if_pos rfl] at ht
              exact ⟨by rw [List.length_map]; omega, rfl, ht.symm⟩
            | false =>
              rw [hb, if_neg (fun q => nomatch q), List.append_nil] at ht
              exact ⟨rfl, ht.symm⟩
        · rintro acc ρ ⟨rfl, rfl⟩
          rw [List.take_length]
          (try walk_at "rd")
          rw [List.length_map]
          show ∃ a4 a5 a6 a7 a8 a9, [Slot.val (.tuple (x.map prD)), Slot.val (.list ((srtW n).map dgD)), Slot.val (.int n), Slot.val (.int (((colS x (srtW n) c : Nat) : Int) + (((srtW n).filter (mono x c)).length : Int))), Slot.val (.int (0 + (c : Int))), Slot.own (.dk kvs), s6, s7, s8, s9] = [Slot.val (.tuple (x.map prD)), Slot.val (.list ((srtW n).map dgD)), Slot.val (.int n), Slot.val (.int (colS x (srtW n) (c + 1) : Nat)), a4, a5, a6, a7, a8, a9]
          rw [show ((colS x (srtW n) c : Nat) : Int) + (((srtW n).filter (mono x c)).length : Int) = ((colS x (srtW n) (c + 1) : Nat) : Int) by rw [colS, Int.natCast_add]]
          exact ⟨_, _, _, _, _, _, rfl⟩
    · rintro ρ ⟨s4, s5, s6, s7, s8, s9, rfl⟩
      unfold t_w_colours_3_2
      walk_at "rd"
      exact h
  · exact h.elim

theorem len_w_colours : ∀ ds Q, sp_w_colours ds Q → ds.length = 2 := by
  intro ds Q h
  unfold sp_w_colours at h
  split at h
  · rfl
  · exact h.elim
theorem ok_w_colours (T : Tx K mg) (base : Heap) : FnOk P w K mg base CX0 1 T.f_w_colours T.d_w_colours ["one", "every"] (spD K sp_w_colours) :=
  fnD_ok T.F_w_colours sc_w_colours len_w_colours fun cdv A outer s H E hr => ⟨t_w_colours,
    (dss_cons (ds_par2 2 3 rfl sc_w_colours.nd (dl_cons (de_callB call_lenA cll_len rfl T.z_len (by decide +kernel) (da_cons (de_name 0) da_nil)) (dl_cons de_int dl_nil)))
    (dss_cons (ds_for PassesOwn.never rfl (di_range1 rfl T.z_range (da_cons (de_ix (de_lst (dl_cons de_int (dl_cons de_int (dl_cons de_int (dl_cons de_int (dl_cons de_int dl_nil)))))) (de_name 2) (fun _ _ => rfl)) da_nil)) (dg_name 4 sc_w_colours.nd) (dss_cons (ds_set 5 sc_w_colours.nd de_disp0 (hio := fun z => nomatch z))
    (dss_cons (ds_for PassesOwn.never rfl (di_enumT rfl T.z_enumerate (de_name 0)) (dg_tup rfl (dgs_cons (dg_name 6 sc_w_colours.nd) (dgs_cons (dg_tup rfl (dgs_cons (dg_name 7 sc_w_colours.nd) (dgs_cons (dg_name 8 sc_w_colours.nd) dgs_nil))) dgs_nil))) (dss_one (ds_upd 5 (de_dispK (dpk_cons (de_name 7) (de_bin op_andM opl_andM (de_bin op_shr opl_shr (de_name 4) (de_name 6)) de_int) (dpk_cons (de_name 8) (de_bin op_andM opl_andM (de_bin op_shr opl_shr (de_name 4) (de_name 6)) de_int) dpk_nil))))))
    (dss_one (ds_set 3 sc_w_colours.nd (de_bin op_addA opl_add (de_name 3) (de_callB call_lenA cll_len rfl T.z_len (by decide +kernel) (da_cons (de_lc rfl sc_w_colours.nd (di_list (de_name 1)) (own := [("other", 9)]) (show BlkOk ["one", "every", "many", "found", "code", "colours", "k", "i", "j", "other"] (defScope s_w_colours) _ _ from ⟨rfl, by decide +kernel, by decide +kernel, by decide +kernel, by decide +kernel⟩) (fun _ _ _ _ _ => pg_name (i := 9) sc_w_colours.nd rfl (by first | exact Or.inl rfl | exact Or.inr rfl)) (simGv_name (by decide)) (fun _ _ _ _ _ => dps_one (dt_cmp (op_eqA hr.units) opl_eqA (de_lc rfl sc_w_colours.nd (di_tup (de_name 9)) (own := [("i", 7), ("j", 8)]) (show BlkOk ["one", "every", "many", "found", "code", "colours", "k", "i", "j", "other"] { kind := PySem.ScopeKind.function, names := [ (PySem.Str.ofString ".0", PySem.NameKind.local), (PySem.Str.ofString "other", PySem.NameKind.local), (PySem.Str.ofString "colours", PySem.NameKind.cell)], isGenerator := false, isCoroutine := false, more := [] : PySem.Scope } _ _ from ⟨rfl, by decide +kernel, by decide +kernel, by decide +kernel, by decide +kernel⟩) (fun _ _ _ _ _ => pg_tup rfl (pgs_cons (pg_name (i := 7) sc_w_colours.nd rfl (by first | exact Or.inl rfl | exact Or.inr rfl)) (pgs_cons (pg_name (i := 8) sc_w_colours.nd rfl (by first | exact Or.inl rfl | exact Or.inr rfl)) (pgs_nil)))) (simGv_tup (simGsv_cons (simGv_name (by decide)) (simGsv_cons (simGv_name (by decide)) simGsv_nil))) (fun _ _ _ _ _ => dps_one (dt_cmp (op_neA hr.units) opl_neA (de_ixO 5 (hu_of hr) (de_name 7)) (de_ixO 5 (hu_of hr) (de_name 8)) (nomark _))) (fun _ _ _ _ _ => de_int)) (de_lst dl_nil) (nomark _))) (fun _ _ _ _ _ => de_int)) da_nil))) (hio := fun z => nomatch z))))))
    (dss_one (ds_ret (de_name 3))))), rd_w_colours⟩
/-! ### is_pair -/
def sp_is_pair : DSp := fun ds Q => match ds with
  | [.tuple [_, _]] => Q (.d (.bool true))
  | _ => False

def t_is_pair : DTS := (dRet false (dAndV (dIsi "tuple" (dName 0)) (d2 gEqA (dCl gLen (daCons (dName 0) daNil)) (dC (.int 2)))))
theorem rd_is_pair : ∀ ds Qd, sp_is_pair ds Qd → t_is_pair { nx := fun _ => Qd (.d .none), rt := fun r _ => Qd r } (startD 1 ds) := by
  intro ds Qd h
  unfold sp_is_pair at h
  split at h
  · rename_i a b
    unfold t_is_pair
    walk_at "rd0"
    rw [show isB (kindD (PyData.tuple [a, b])) "tuple" = true from rfl]
    walk_at "rd"
    exact h
  · exact h.elim

theorem len_is_pair : ∀ ds Q, sp_is_pair ds Q → ds.length = 1 := by
  intro ds Q h
  unfold sp_is_pair at h
  split at h
  · rfl
  · exact h.elim
theorem ok_is_pair (T : Tx K mg) (base : Heap) : FnOk P w K mg base CX0 1 T.f_is_pair T.d_is_pair ["value"] (spD K sp_is_pair) :=
  fnD_ok T.F_is_pair sc_is_pair len_is_pair fun cdv A outer s H E hr => ⟨t_is_pair,
    (dss_one (ds_ret (de_and (de_isi kit_tuple T.z_isinstance T.z_tuple (by decide +kernel) (de_name 0)) (de_one (de_cmp (op_eqA hr.units) opl_eqA (de_callB call_lenA cll_len rfl T.z_len (by decide +kernel) (da_cons (de_name 0) da_nil)) de_int (nomark _)))))), rd_is_pair⟩
/-! ### is_point -/
def sp_is_point : DSp := fun ds Q => match ds with
  | [.int v, .int n] => Q (.d (.bool (decide (1 ≤ v) && decide (v ≤ 2 * n))))
  | _ => False

def t_is_point : DTS := (dRet false (dCall sp_is_integer_within (dlCons (dName 0) (dlCons (dC (.int 1)) (dlCons (d2 DL.gMulI (dC (.int 2)) (dName 1)) dlNil)))))
theorem rd_is_point : ∀ ds Qd, sp_is_point ds Qd → t_is_point { nx := fun _ => Qd (.d .none), rt := fun r _ => Qd r } (startD 2 ds) := by
  intro ds Qd h
  unfold sp_is_point at h
  split at h
  · unfold t_is_point
    walk_at "rd0"
    exact ⟨cmul_l (by decide) (by decide), h⟩
  · exact h.elim

theorem len_is_point : ∀ ds Q, sp_is_point ds Q → ds.length = 2 := by
  intro ds Q h
  unfold sp_is_point at h
  split at h
  · rfl
  · exact h.elim
theorem ok_is_point (T : Tx K mg) (base : Heap) : FnOk P w K mg base CX0 3 T.f_is_point T.d_is_point ["value", "size"] (spD K sp_is_point) :=
  fnD_ok T.F_is_point sc_is_point len_is_point fun cdv A outer s H E hr => ⟨t_is_point,
    (dss_one (ds_ret (de_call (ok_is_integer_within T base) (hr.mono (by decide)) rfl T.g_is_integer_within T.F_is_integer_within.kp T.b_is_integer_within pass0 (dl_cons (de_name 0) (dl_cons de_int (dl_cons (de_bin op_mul opl_mulI de_int (de_name 1)) dl_nil)))))), rd_is_point⟩
/-! ### is_chord -/
def sp_is_chord : DSp := fun ds Q => match ds with
  | [.tuple [.int a, .int b], .int m] => 1 ≤ a ∧ a < b ∧ b ≤ 2 * m ∧ Q (.d (.bool true))
  | _ => False

def t_is_chord_1_0 : DTS := (dRet false (dC (.bool false)))
def t_is_chord_2_2 : DTS := (dRet false (dAndV (dCall sp_is_point (dlCons (dName 2) (dlCons (dName 1) dlNil))) (dAndV (dCall sp_is_point (dlCons (dName 3) (dlCons (dName 1) dlNil))) (d2 gLtA (dName 2) (dName 3)))))
def t_is_chord_2_1 : DTS := (dSeq (dAsg (dName 0) (dgTup 2 (dgCons (dgName 2) (dgCons (dgName 3) dgNil)))) t_is_chord_2_2)
def t_is_chord : DTS := (dSeq (dIf (dNot (dTr (dCall sp_is_pair (dlCons (dName 0) dlNil)))) t_is_chord_1_0 dNext) t_is_chord_2_1)
theorem rd_is_chord : ∀ ds Qd, sp_is_chord ds Qd → t_is_chord { nx := fun _ => Qd (.d .none), rt := fun r _ => Qd r } (startD 4 ds) := by
  intro ds Qd h
  unfold sp_is_chord at h
  split at h
  · rename_i a b m
    obtain ⟨h1, h2, h3, h⟩ := h
    unfold t_is_chord
    walk_at "rd0"
    unfold sp_is_pair
    walk_at "rd"
    unfold t_is_chord_2_1
    walk_at "rd"
    refine ⟨rfl, ?_⟩
    unfold t_is_chord_2_2
    walk_at "rd"
    unfold sp_is_point
    walk_at "rd"
    rw [decide_eq_true h1, decide_eq_true (show a ≤ 2 * m by omega), Bool.and_true]
    walk_at "rd"
    rw [decide_eq_true (show 1 ≤ b by omega), decide_eq_true h3, Bool.and_true]
    walk_at "rd"
    rw [decide_eq_true h2]
    exact h
  · exact h.elim

theorem len_is_chord : ∀ ds Q, sp_is_chord ds Q → ds.length = 2 := by
  intro ds Q h
  unfold sp_is_chord at h
  split at h
  · rfl
  · exact h.elim
theorem ok_is_chord (T : Tx K mg) (base : Heap) : FnOk P w K mg base CX0 4 T.f_is_chord T.d_is_chord ["value", "size"] (spD K sp_is_chord) :=
  fnD_ok T.F_is_chord sc_is_chord len_is_chord fun cdv A outer s H E hr => ⟨t_is_chord,
    (dss_cons (ds_if (dt_not (dt_truth (de_call (ok_is_pair T base) (hr.mono (by decide)) rfl T.g_is_pair T.F_is_pair.kp T.b_is_pair pass0 (dl_cons (de_name 0) dl_nil)))) (dss_one (ds_ret de_bl)) dss_nil)
    (dss_cons (ds_asg (de_name 0) (dgo_tup rfl (dgos_cons (DG.go (dg_name 2 sc_is_chord.nd)) (dgos_cons (DG.go (dg_name 3 sc_is_chord.nd)) dgos_nil))))
    (dss_one (ds_ret (de_and (de_call (ok_is_point T base) (hr.mono (by decide)) rfl T.g_is_point T.F_is_point.kp T.b_is_point pass0 (dl_cons (de_name 2) (dl_cons (de_name 1) dl_nil))) (de_and (de_call (ok_is_point T base) (hr.mono (by decide)) rfl T.g_is_point T.F_is_point.kp T.b_is_point pass0 (dl_cons (de_name 3) (dl_cons (de_name 1) dl_nil))) (de_one (de_cmp op_ltA opl_ltA (de_name 2) (de_name 3) (nomark _))))))))), rd_is_chord⟩
/-! ### _fits_behind -/
def sp_fits_behind : DSp := fun ds Q => match ds with
  | [.tuple [.int a, .int b], .tuple es] => ∃ qs : List (Int × Int), es = qs.map prD ∧ (∀ q ∈ qs, q.1 < a ∧ (q.2 < a ∨ b < q.2)) ∧ qs.length ≤ 30 ∧ Q (.d (.bool true))
  | _ => False

def t_fits_behind_1_0 : DTS := (dRet false (dC (.bool false)))
def t_fits_behind_2_2 : DTS := (dRet false (dCl gAll (daCons (dLc (dItT (dName 1)) (dgTup 2 (dgCons (dgName 4) (dgCons (dgName 5) dgNil))) dYes (dOrV (d2 gLtA (dName 5) (dName 2)) (d2 gLtA (dName 3) (dName 5))) [4, 5]) daNil)))
def t_fits_behind_2_1 : DTS := (dSeq (dIf (dAnd (dTr (dName 1)) (dB (d2 gLe (dName 2) (d2 gIx (d2 gIx (dName 1) (dNeg (dC (.int 1)))) (dC (.int 0)))))) t_fits_behind_1_0 dNext) t_fits_behind_2_2)
def t_fits_behind : DTS := (dSeq (dAsg (dName 0) (dgTup 2 (dgCons (dgName 2) (dgCons (dgName 3) dgNil)))) t_fits_behind_2_1)
theorem rd_fits_behind : ∀ ds Qd, sp_fits_behind ds Qd → t_fits_behind { nx := fun _ => Qd (.d .none), rt := fun r _ => Qd r } (startD 6 ds) := by
  intro ds Qd h
  unfold sp_fits_behind at h
  split at h
  · rename_i a b es
    obtain ⟨qs, rfl, hq, hl, h⟩ := h
    unfold t_fits_behind
    walk_at "rd0"
    refine ⟨rfl, ?_⟩
    have H2 : t_fits_behind_2_2 { nx := fun _ => Qd (.d .none), rt := fun r _ => Qd r } [.val (.tuple [.int a, .int b]), .val (.tuple (qs.map prD)), .val (.int a), .val (.int b), .free, .free] := by
      unfold t_fits_behind_2_2
      walk_at "rd"
      refine ⟨fun j acc ρ => ρ = [.val (.tuple [.int a, .int b]), .val (.tuple (qs.map prD)), .val (.int a), .val (.int b), .free, .free] ∧ acc = (List.replicate j true).map .bool, ⟨rfl, rfl⟩, ?_, ?_⟩
      · rintro j acc ρ hj ⟨rfl, rfl⟩
        have hj2 : j < qs.length := by simpa using hj
        rw [nth_pr hj2]
        walk_at "rd"
        have hh := hq _ (List.getElem_mem hj2)
        refine ⟨rfl, ?_⟩
        by_cases c : qs[j].2 < a
        · rw [decide_eq_true c]
          walk_at "rd"
          refine ⟨by rw [List.length_map, List.length_replicate]; exact small1000 (by omega), rfl, ?_⟩
          rw [List.replicate_succ', List.map_append]; rfl
        · rw [decide_eq_false c]
          walk_at "rd"
          rw [decide_eq_true (show b < qs[j].2 by omega)]
          refine ⟨by rw [List.length_map, List.length_replicate]; exact small1000 (by omega), rfl, ?_⟩
          rw [List.replicate_succ', List.map_append]; rfl
      · rintro acc ρ ⟨rfl, rfl⟩
        (try walk_at "rd")
        refine ⟨_, rfl, ?_⟩
        rw [all_true]
        exact h
    unfold t_fits_behind_2_1
    walk_at "rd"
    cases hqs : qs with
    | nil =>
      rw [hqs] at H2
      (try walk_at "rd")
      exact H2
    | cons q0 qr =>
      rw [← hqs]
      have lp : 0 < qs.length := by rw [hqs]; simp
      have et : truD (.tuple (qs.map prD)) = some true := by rw [hqs]; rfl
      have e1 : atI (qs.map prD) (-1) = some (prD (qs[qs.length - 1]'(by omega))) := by
        refine atI_neg1 (by simpa using lp) ?_
        rw [List.length_map, List.getElem?_map, List.getElem?_eq_getElem (by omega)]; rfl
      have hh := hq _ (List.getElem_mem (show qs.length - 1 < qs.length by omega))
      have eb : (!(qs.map prD).isEmpty) = true := by rw [hqs]; rfl
      rw [eb]
      walk_at "rd"
      rw [e1]
      walk_at "rd"
      rw [show atI [PyData.int (qs[qs.length - 1]'(by omega)).1, PyData.int (qs[qs.length - 1]'(by omega)).2] 0 = some (.int (qs[qs.length - 1]'(by omega)).1) from rfl]
      walk_at "rd"
      rw [decide_eq_false (by omega)]
      walk_at "rd"
      exact H2
  · exact h.elim

theorem len_fits_behind : ∀ ds Q, sp_fits_behind ds Q → ds.length = 2 := by
  intro ds Q h
  unfold sp_fits_behind at h
  split at h
  · rfl
  · exact h.elim
theorem ok_fits_behind (T : Tx K mg) (base : Heap) : FnOk P w K mg base CX0 1 T.f_fits_behind T.d_fits_behind ["chord", "earlier"] (spD K sp_fits_behind) :=
  fnD_ok T.F_fits_behind sc_fits_behind len_fits_behind fun cdv A outer s H E hr => ⟨t_fits_behind,
    (dss_cons (ds_asg (de_name 0) (dgo_tup rfl (dgos_cons (DG.go (dg_name 2 sc_fits_behind.nd)) (dgos_cons (DG.go (dg_name 3 sc_fits_behind.nd)) dgos_nil))))
    (dss_cons (ds_if (dt_w (dw_and (dt_truth (de_name 1)) (dw_and1 (dt_cmp L2.op_le opl_le (de_name 2) (de_ix (de_ix (de_name 1) (de_neg de_int) (fun _ _ => rfl)) de_int (fun _ _ => rfl)) (nomark _))))) (dss_one (ds_ret de_bl)) dss_nil)
    (dss_one (ds_ret (de_callB (cr_all rfl) cll_all rfl T.z_all (by decide +kernel) (da_cons (de_lc rfl sc_fits_behind.nd (di_tup (de_name 1)) (own := [("_", 4), ("end", 5)]) (show BlkOk ["chord", "earlier", "low", "high", "_", "end"] (defScope s_fits_behind) _ _ from ⟨rfl, by decide +kernel, by decide +kernel, by decide +kernel, by decide +kernel⟩) (fun _ _ _ _ _ => pg_tup rfl (pgs_cons (pg_name (i := 4) sc_fits_behind.nd rfl (by first | exact Or.inl rfl | exact Or.inr rfl)) (pgs_cons (pg_name (i := 5) sc_fits_behind.nd rfl (by first | exact Or.inl rfl | exact Or.inr rfl)) (pgs_nil)))) (simGv_tup (simGsv_cons (simGv_name (by decide)) (simGsv_cons (simGv_name (by decide)) simGsv_nil))) (fun _ _ _ _ _ => dps_nil) (fun _ _ _ _ _ => (de_or (de_cmp op_ltA opl_ltA (de_name 5) (de_name 2) (nomark _)) (de_one (de_cmp op_ltA opl_ltA (de_name 3) (de_name 5) (nomark _)))))) da_nil)))))), rd_fits_behind⟩
/-! ### validate_diagram -/
def sp_validate_diagram : DSp := fun ds Q => match ds with
  | [.tuple es] => ∃ n ps, es = ps.map prD ∧ Dg n ps ∧ n ≤ 30 ∧ Q (.d .none)
  | _ => False

def t_validate_diagram_3_0 : DTS := (dIf (dOr (dNot (dTr (dCall sp_is_chord (dlCons (dName 2) (dlCons (dCl gLen (daCons (dName 0) daNil)) dlNil))))) (dNot (dTr (dCall sp_fits_behind (dlCons (dName 2) (dlCons (dSl (dName 0) dNo (dPart (dName 1))) dlNil)))))) (fun _ _ => False) dNext)
def t_validate_diagram_4_1 : DTS := (dFor (dItET 0 (dName 0)) (dgTup 2 (dgCons (dgName 1) (dgCons (dgName 2) dgNil))) t_validate_diagram_3_0)
def t_validate_diagram : DTS := (dSeq (dIf (dOr (dNot (dTr (dIsi "tuple" (dName 0)))) (dB (d2 gGtA (dCl gLen (daCons (dName 0) daNil)) (dC (.int 30))))) (fun _ _ => False) dNext) t_validate_diagram_4_1)
theorem rd_validate_diagram : ∀ ds Qd, sp_validate_diagram ds Qd → t_validate_diagram { nx := fun _ => Qd (.d .none), rt := fun r _ => Qd r } (startD 3 ds) := by
  intro ds Qd h
  unfold sp_validate_diagram at h
  split at h
  · obtain ⟨n, ps, rfl, D, hn, h⟩ := h
    have hl := D.nc.len
    unfold t_validate_diagram
    walk_at "rd0"
    rw [show (!isB (kindD (PyData.tuple (ps.map prD))) "tuple") = false from rfl]
    walk_at "rd"
    rw [decide_eq_false (by rw [List.length_map]; omega)]
    walk_at "rd"
    unfold t_validate_diagram_4_1
    walk_at "rd"
    refine ⟨fun i ρ => ∃ x y, ρ = [.val (.tuple (ps.map prD)), x, y], ⟨.free, .free, rfl⟩, ?_, ?_⟩
    · rintro i ρ hi ⟨x, y, rfl⟩
      have hi2 : i < ps.length := by simpa using hi
      have ee : enD 0 (ps.map prD) i = .tuple [.int (0 + (i : Int)), .tuple [.int ps[i].1, .int ps[i].2]] := by
        unfold enD
        rw [nth_pr hi2]; rfl
      rw [ee]
      walk_at "rd"
      refine ⟨rfl, ?_⟩
      unfold t_validate_diagram_3_0
      walk_at "rd"
      have hc := D.nc.inn _ (List.getElem_mem hi2)
      refine ⟨hc.1, hc.2.1, by rw [List.length_map, hl]; exact hc.2.2, ?_⟩
      walk_at "rd"
      refine ⟨fun z => ?_, ?_⟩
      · have z2 := z.2
        rw [show (0 : Int) + (i : Int) = ((i : Nat) : Int) by omega, sIx_in (by rw [List.length_map]; omega), List.length_map] at z2
        omega
      · rw [show (0 : Int) + (i : Int) = ((i : Nat) : Int) by omega, cut_to]
        refine ⟨ps.take i, rfl, fun q hq => ?_, by rw [List.length_take]; omega, ?_⟩
        · obtain ⟨j, hj, rfl⟩ := List.getElem_of_mem hq
          rw [List.length_take] at hj
          rw [List.getElem_take]
          exact D.behind (by omega) hi2
        · walk_at "rd"
          exact ⟨_, _, rfl⟩
    · rintro ρ ⟨x, y, rfl⟩
      (try walk_at "rd")
      exact h
  · exact h.elim

theorem len_validate_diagram : ∀ ds Q, sp_validate_diagram ds Q → ds.length = 1 := by
  intro ds Q h
  unfold sp_validate_diagram at h
  split at h
  · rfl
  · exact h.elim
theorem ok_validate_diagram (T : Tx K mg) (base : Heap) : FnOk P w K mg base CX0 5 T.f_validate_diagram T.d_validate_diagram ["diagram"] (spD K sp_validate_diagram) :=
  fnD_ok T.F_validate_diagram sc_validate_diagram len_validate_diagram fun cdv A outer s H E hr => ⟨t_validate_diagram,
    (dss_cons (ds_if (dt_w (dw_or (dt_not (dt_truth (de_isi kit_tuple T.z_isinstance T.z_tuple (by decide +kernel) (de_name 0)))) (dw_or1 (dt_cmp op_gtA opl_gtA (de_callB call_lenA cll_len rfl T.z_len (by decide +kernel) (da_cons (de_name 0) da_nil)) (de_globI T.c_MOST_SIZE) (nomark _))))) dss_never dss_nil)
    (dss_one (ds_for PassesOwn.never rfl (di_enumT rfl T.z_enumerate (de_name 0)) (dg_tup rfl (dgs_cons (dg_name 1 sc_validate_diagram.nd) (dgs_cons (dg_name 2 sc_validate_diagram.nd) dgs_nil))) (dss_one (ds_if (dt_w (dw_or (dt_not (dt_truth (de_call (ok_is_chord T base) (hr.mono (by decide)) rfl T.g_is_chord T.F_is_chord.kp T.b_is_chord pass0 (dl_cons (de_name 2) (dl_cons (de_callB call_lenA cll_len rfl T.z_len (by decide +kernel) (da_cons (de_name 0) da_nil)) dl_nil))))) (dw_or1 (dt_not (dt_truth (de_call (ok_fits_behind T base) (hr.mono (by decide)) rfl T.g_fits_behind T.F_fits_behind.kp T.b_fits_behind pass0 (dl_cons (de_name 2) (dl_cons (de_slice (de_name 0) do_none (do_some (de_name 1))) dl_nil)))))))) dss_never dss_nil))))), rd_validate_diagram⟩
/-! ### validate_same_size -/
def sp_validate_same_size : DSp := fun ds Q => match ds with
  | [.int a, .int b] => a = b ∧ Q (.d .none)
  | _ => False

def t_validate_same_size : DTS := (dIf (dB (d2 gNeA (dName 0) (dName 1))) (fun _ _ => False) dNext)
theorem rd_validate_same_size : ∀ ds Qd, sp_validate_same_size ds Qd → t_validate_same_size { nx := fun _ => Qd (.d .none), rt := fun r _ => Qd r } (startD 2 ds) := by
  intro ds Qd h
  unfold sp_validate_same_size at h
  split at h
  · obtain ⟨rfl, h⟩ := h
    unfold t_validate_same_size
    walk_at "rd0"
    rw [decide_eq_true rfl]
    exact h
  · exact h.elim

theorem len_validate_same_size : ∀ ds Q, sp_validate_same_size ds Q → ds.length = 2 := by
  intro ds Q h
  unfold sp_validate_same_size at h
  split at h
  · rfl
  · exact h.elim
theorem ok_validate_same_size (T : Tx K mg) (base : Heap) : FnOk P w K mg base CX0 1 T.f_validate_same_size T.d_validate_same_size ["size", "other_size"] (spD K sp_validate_same_size) :=
  fnD_ok T.F_validate_same_size sc_validate_same_size len_validate_same_size fun cdv A outer s H E hr => ⟨t_validate_same_size,
    (dss_one (ds_if (dt_cmp (op_neA hr.units) opl_neA (de_name 0) (de_name 1) (nomark _)) dss_never dss_nil)), rd_validate_same_size⟩
/-! ### loops -/
def sp_loops : DSp := fun ds Q => match ds with
  | [.tuple es, .tuple fs] => ∃ (n : Nat) (w v : List Bool), es = (cds w).map prD ∧ fs = (cds v).map prD ∧ Dyck n w ∧ Dyck n v ∧ n ≤ 30 ∧ Q (.d (.tuple ((rgs (mtI w) (mtI v) (2 * n)).map rtD)))
  | _ => False

def t_loops_1_3 : DTS := (dRet false (dCl gTuple (daCons (dCall sp_traced_loops (dlCons (dName 0) (dlCons (dName 1) dlNil))) daNil)))
def t_loops_1_2 : DTS := (dSeq (dDrop (dCall sp_validate_same_size (dlCons (dCl gLen (daCons (dName 0) daNil)) (dlCons (dCl gLen (daCons (dName 1) daNil)) dlNil)))) t_loops_1_3)
def t_loops_1_1 : DTS := (dSeq (dDrop (dCall sp_validate_diagram (dlCons (dName 1) dlNil))) t_loops_1_2)
def t_loops : DTS := (dSeq (dDrop (dCall sp_validate_diagram (dlCons (dName 0) dlNil))) t_loops_1_1)
theorem rd_loops : ∀ ds Qd, sp_loops ds Qd → t_loops { nx := fun _ => Qd (.d .none), rt := fun r _ => Qd r } (startD 2 ds) := by
  intro ds Qd h
  unfold sp_loops at h
  split at h
  · obtain ⟨n, w, v, rfl, rfl, D, E, hn, h⟩ := h
    have cl := D.dg.nc.len
    have cl2 := E.dg.nc.len
    unfold t_loops
    walk_at "rd0"
    refine ⟨n, cds w, rfl, D.dg, hn, ?_⟩
    unfold t_loops_1_1
    walk_at "rd"
    refine ⟨n, cds v, rfl, E.dg, hn, ?_⟩
    unfold t_loops_1_2
    walk_at "rd"
    refine ⟨by rw [lmp, lmp, cl, cl2], ?_⟩
    unfold t_loops_1_3
    walk_at "rd"
    refine ⟨n, w, v, rfl, rfl, D, E, hn, ?_⟩
    walk_at "rd"
    exact h
  · exact h.elim

theorem len_loops : ∀ ds Q, sp_loops ds Q → ds.length = 2 := by
  intro ds Q h
  unfold sp_loops at h
  split at h
  · rfl
  · exact h.elim
theorem ok_loops (T : Tx K mg) (base : Heap) : FnOk P w K mg base CX0 6 T.f_loops T.d_loops ["inner", "outer"] (spD K sp_loops) :=
  fnD_ok T.F_loops sc_loops len_loops fun cdv A outer s H E hr => ⟨t_loops,
    (dss_cons (ds_expr (de_call (ok_validate_diagram T base) (hr.mono (by decide)) rfl T.g_validate_diagram T.F_validate_diagram.kp T.b_validate_diagram pass0 (dl_cons (de_name 0) dl_nil)))
    (dss_cons (ds_expr (de_call (ok_validate_diagram T base) (hr.mono (by decide)) rfl T.g_validate_diagram T.F_validate_diagram.kp T.b_validate_diagram pass0 (dl_cons (de_name 1) dl_nil)))
    (dss_cons (ds_expr (de_call (ok_validate_same_size T base) (hr.mono (by decide)) rfl T.g_validate_same_size T.F_validate_same_size.kp T.b_validate_same_size pass0 (dl_cons (de_callB call_lenA cll_len rfl T.z_len (by decide +kernel) (da_cons (de_name 0) da_nil)) (dl_cons (de_callB call_lenA cll_len rfl T.z_len (by decide +kernel) (da_cons (de_name 1) da_nil)) dl_nil))))
    (dss_one (ds_ret (de_callTy call_tuple_of cll_tuple rfl T.z_tuple (by decide +kernel) (da_cons (de_call (ok_traced_loops T base) (hr.mono (by decide)) rfl T.g_traced_loops T.F_traced_loops.kp T.b_traced_loops pass0 (dl_cons (de_name 0) (dl_cons (de_name 1) dl_nil))) da_nil))))))), rd_loops⟩
/-! ### loop_count -/
def sp_loop_count : DSp := fun ds Q => match ds with
  | [.tuple es, .tuple fs] => ∃ (n : Nat) (w v : List Bool), es = (cds w).map prD ∧ fs = (cds v).map prD ∧ Dyck n w ∧ Dyck n v ∧ n ≤ 30 ∧ Q (.d (.int ((rgs (mtI w) (mtI v) (2 * n)).length : Int)))
  | _ => False

def t_loop_count : DTS := (dRet false (dCl gLen (daCons (dCall sp_loops (dlCons (dName 0) (dlCons (dName 1) dlNil))) daNil)))
theorem rd_loop_count : ∀ ds Qd, sp_loop_count ds Qd → t_loop_count { nx := fun _ => Qd (.d .none), rt := fun r _ => Qd r } (startD 2 ds) := by
  intro ds Qd h
  unfold sp_loop_count at h
  split at h
  · obtain ⟨n, w, v, rfl, rfl, D, E, hn, h⟩ := h
    unfold t_loop_count
    walk_at "rd0"
    refine ⟨n, w, v, rfl, rfl, D, E, hn, ?_⟩
    walk_at "rd"
    rw [List.length_map]
    exact h
  · exact h.elim

theorem len_loop_count : ∀ ds Q, sp_loop_count ds Q → ds.length = 2 := by
  intro ds Q h
  unfold sp_loop_count at h
  split at h
  · rfl
  · exact h.elim
theorem ok_loop_count (T : Tx K mg) (base : Heap) : FnOk P w K mg base CX0 7 T.f_loop_count T.d_loop_count ["inner", "outer"] (spD K sp_loop_count) :=
  fnD_ok T.F_loop_count sc_loop_count len_loop_count fun cdv A outer s H E hr => ⟨t_loop_count,
    (dss_one (ds_ret (de_callB call_lenA cll_len rfl T.z_len (by decide +kernel) (da_cons (de_call (ok_loops T base) (hr.mono (by decide)) rfl T.g_loops T.F_loops.kp T.b_loops pass0 (dl_cons (de_name 0) (dl_cons (de_name 1) dl_nil))) da_nil)))), rd_loop_count⟩
/-! ### law -/
theorem lcL_word {n : Nat} {w v : List Bool} : lcL n (cds w) (cds v) = (rgs (mtI w) (mtI v) (2 * n)).length := rfl
theorem cp_14 : ∀ n, n ≤ 4 → cp 0 (2 * n) ≤ 14 := by decide
theorem row_at {n : Nat} {x : List (Int × Int)} {i : Int} {j : Nat} (e : i = (j : Int)) (h : j < (srtW n).length) : atI ((srtW n).map fun y => PyData.int (lcL n x y : Nat)) i = some (.int (lcL n x (srtW n)[j] : Nat)) := by
  subst e
  have q := atI_map (f := fun y => PyData.int (lcL n x y : Nat)) (ms := srtW n) (i := (j : Int)) (by omega) (by rw [Int.toNat_natCast]; exact h)
  exact q
theorem tab_at {n : Nat} {i : Int} {j : Nat} (e : i = (j : Int)) (h : j < (srtW n).length) : atI (tabD n) i = some (rowD n (srtW n)[j] (srtW n)) := by
  subst e
  have q := atI_map (f := fun x => rowD n x (srtW n)) (ms := srtW n) (i := (j : Int)) (by omega) (by rw [Int.toNat_natCast]; exact h)
  exact q
theorem lcL_self {n : Nat} {x : List (Int × Int)} (hx : x ∈ srtW n) : lcL n x x = n := by
  obtain ⟨w, D, rfl⟩ := srtW_word hx
  exact (rgs_one D D).mpr rfl
theorem lcL_swap {n : Nat} {x y : List (Int × Int)} (hx : x ∈ srtW n) (hy : y ∈ srtW n) : lcL n x y = lcL n y x := by
  obtain ⟨w, D, rfl⟩ := srtW_word hx
  obtain ⟨v, E, rfl⟩ := srtW_word hy
  exact rgs_swap (mt_ok E) (mt_ok D)
theorem tab_rep {n : Nat} (hn : n ≤ 4) : (PyData.tuple (tabD n)).showable = true ∧ (PyData.tuple (tabD n)).hasDict = false ∧ (PyData.tuple (tabD n)).depth ≤ 64 ∧ (PyData.tuple (tabD n)).shown.length ≤ sizeLine := by
  have hl : (srtW n).length ≤ 14 := by rw [srtW_len]; exact cp_14 n hn
  have ok : ∀ x ∈ srtW n, okD (rowD n x (srtW n)) = true := fun x hx => okAll_map fun y hy => by
    have := (lcL_le hx hy).2
    show decide _ = true
    rw [decide_eq_true_iff]
    omega
  have dp : ∀ x, (rowD n x (srtW n)).depth ≤ 1 := fun x => by
    show PyData.depthAll _ + 1 ≤ 1
    have : PyData.depthAll ((srtW n).map fun y => PyData.int (lcL n x y : Nat)) ≤ 0 := depth_map fun y _ => Nat.le_refl _
    omega
  refine rep_sm (okAll_map ok) ?_ ?_
  · show PyData.depthAll _ + 1 ≤ 64
    have : PyData.depthAll (tabD n) ≤ 1 := depth_map fun x _ => dp x
    omega
  · have r1 : ∀ x ∈ srtW n, szD (rowD n x (srtW n)) ≤ 15 := fun x _ => by
      show szAll _ + 1 ≤ 15
      have : szAll ((srtW n).map fun y => PyData.int (lcL n x y : Nat)) ≤ 1 * (srtW n).length := szAll_map fun y _ => Nat.le_refl _
      omega
    show szAll _ + 1 ≤ 20000
    have : szAll (tabD n) ≤ 15 * (srtW n).length := szAll_map r1
    omega
theorem colS_sum (x : List (Int × Int)) (L : List (List (Int × Int))) : ∀ M, colS x L M = ((List.range M).map fun c => (L.filter (mono x c)).length).sum
  | 0 => rfl
  | M + 1 => by rw [colS, colS_sum x L M, List.range_succ, List.map_append, List.sum_append, List.map_cons, List.map_nil, List.sum_cons, List.sum_nil, Nat.add_zero]
def sp_law : DSp := fun ds Q => ∃ ns : List Int, ds = [.list (ns.map .int)] ∧ ns.length ≤ 63 ∧ Q (.d (.bool true))

def t_law_1_0 : DTS := (dRet false (dC (.bool false)))
def t_law_2_0 : DTS := (dRet false (dC (.bool false)))
def t_law_3_0 : DTS := (dRet false (dC (.bool false)))
def t_law_4_1 : DTS := (dIf (dB (d2 gNeA (d2 gIx (d2 gIx (dName 4) (dName 6)) (dName 9)) (d2 gIx (d2 gIx (dName 4) (dName 9)) (dName 6)))) t_law_3_0 dNext)
def t_law_4_0 : DTS := (dSeq (dSet 8 (d2 DL.gAdd (dName 8) (d2 gIx (dLst (dlCons (dC (.int 1)) (dlCons (dC (.int 2)) (dlCons (dC (.int 4)) (dlCons (dC (.int 8)) (dlCons (dC (.int 16)) (dlCons (dC (.int 32)) dlNil))))))) (d2 gIx (d2 gIx (dName 4) (dName 6)) (dName 9))))) t_law_4_1)
def t_law_5_0 : DTS := (dRet false (dC (.bool false)))
def t_law_6_3 : DTS := (dIf (dB (d2 gNeA (dName 8) (dCall sp_w_colours (dlCons (dName 7) (dlCons (dName 3) dlNil))))) t_law_5_0 dNext)
def t_law_6_2 : DTS := (dSeq (dFor (dItR1 (daCons (dCl gLen (daCons (dName 3) daNil)) daNil)) (dgName 9) t_law_4_0) t_law_6_3)
def t_law_6_1 : DTS := (dSeq (dSet 8 (dC (.int 0))) t_law_6_2)
def t_law_6_0 : DTS := (dSeq (dIf (dB (d2 gNeA (d2 gIx (d2 gIx (dName 4) (dName 6)) (dName 6)) (dName 2))) t_law_2_0 dNext) t_law_6_1)
def t_law_7_0 : DTS := (dRet false (dC (.bool false)))
def t_law_8_9 : DTS := (dRet false (dCh gEqA gEqA (d2 gIx (d2 gIx (dName 10) (dName 9)) (dName 6)) (d2 gIx (d2 gIx (dName 10) (dName 6)) (dName 9)) (dCl gLen (daCons (dCall sp_w_rings (dlCons (d2 gIx (dName 11) (dName 6)) (dlCons (d2 gIx (dName 11) (dName 9)) dlNil))) daNil))))
def t_law_8_8 : DTS := (dSeq (dIf (dOr (dB (d2 gNeA (dCl gLen (daCons (dName 10) daNil)) (dC (.int 42)))) (dOr (dB (d2 gNeA (d2 gIx (d2 gIx (dName 10) (dName 6)) (dName 9)) (dCall sp_loop_count (dlCons (d2 gIx (dName 11) (dName 6)) (dlCons (d2 gIx (dName 11) (dName 9)) dlNil))))) (dB (d2 gNeA (d2 gIx (d2 gIx (dName 10) (dName 6)) (dName 6)) (dC (.int 5)))))) t_law_7_0 dNext) t_law_8_9)
def t_law_8_7 : DTS := (dSeq (dPar2 6 9 (dlCons (dCallI 1 sp_w_next (dlCons (dC (.int 42)) dlNil)) (dlCons (dCallI 1 sp_w_next (dlCons (dC (.int 42)) dlNil)) dlNil))) t_law_8_8)
def t_law_8_6 : DTS := (dSeq (dPar2 10 11 (dlCons (dCall sp_loop_table (dlCons (dC (.int 5)) dlNil)) (dlCons (dCall sp_w_all (dlCons (dC (.int 5)) dlNil)) dlNil))) t_law_8_7)
def t_law_8_5 : DTS := (dSeq (dFor (dItEL (dName 3)) (dgTup 2 (dgCons (dgName 6) (dgCons (dgName 7) dgNil))) t_law_6_0) t_law_8_6)
def t_law_8_4 : DTS := (dSeq (dIf (dB (d2 gNeA (dCl gRep (daCons (dName 4) daNil)) (dCl gRep (daCons (dName 5) daNil)))) t_law_1_0 dNext) t_law_8_5)
def t_law_8_3 : DTS := (dSeq (dSet 5 (dCl gTuple (daCons (dLc (dItL (dName 3)) (dgName 7) dYes (dCl gTuple (daCons (dLc (dItL (dName 3)) (dgName 12) dYes (dCl gLen (daCons (dCall sp_w_rings (dlCons (dName 7) (dlCons (dName 12) dlNil))) daNil)) [12]) daNil)) [7]) daNil))) t_law_8_4)
def t_law_8_2 : DTS := (dSeq (dAsg (dTup (dlCons (dCall sp_w_all (dlCons (dName 2) dlNil)) (dlCons (dCallK sp_loop_table id (dlCons (dName 2) dlNil)) dlNil))) (dgTup 2 (dgCons (dgName 3) (dgCons (dgName 4) dgNil)))) t_law_8_3)
def t_law_8_1 : DTS := (dSeq (dSet 2 (dCallI 1 sp_w_next (dlCons (dC (.int 5)) dlNil))) t_law_8_2)
def t_law : DTS := (dSeq (dSet 1 (dCall sp_w_begun (dlCons (dName 0) dlNil))) t_law_8_1)
theorem rd_law : ∀ ds Qd, sp_law ds Qd → t_law { nx := fun _ => Qd (.d .none), rt := fun r _ => Qd r } (startD 13 ds) := by
  rintro ds Qd ⟨ns, rfl, h1, h⟩
  have z : sizeLine = 16777216 := sizeLine_eq
  unfold t_law
  walk_at "rd0"
  refine ⟨ns, rfl, h1, fun kvs hb => ?_⟩
  unfold t_law_8_1
  walk_at "rd"
  refine ⟨rfl, rfl, 0, hb, by omega, by omega, by decide, by decide, fun r1 a1 kvs1 hb1 g1 g2 g3 g4 => ⟨rfl, ?_⟩⟩
  obtain ⟨n, rfl⟩ := Int.eq_ofNat_of_zero_le g3
  have hn : n ≤ 4 := by omega
  have hL := srtW_small (n := n) (by omega)
  unfold t_law_8_2
  walk_at "rd"
  refine ⟨n, rfl, by omega, ?_⟩
  walk_at "rd"
  refine ⟨n, rfl, by omega, ?_⟩
  walk_at "rd"
  refine ⟨by omega, rfl, ?_⟩
  unfold t_law_8_3
  walk_at "rd"
  rw [List.length_map]
  refine ⟨fun i acc ρ => ρ = [.val (.list (ns.map .int)), .own (.dk kvs1), .val (.int n), .val (.list ((srtW n).map dgD)), .val (.tuple (tabD n)), .free, .free, .free, .free, .free, .free, .free, .free] ∧ acc = ((srtW n).take i).map fun x => rowD n x (srtW n), ⟨rfl, rfl⟩, ?_, ?_⟩
  · rintro i acc ρ hi ⟨rfl, rfl⟩
    have hm := List.getElem_mem hi
    have ht : (srtW n).take (i + 1) = (srtW n).take i ++ [(srtW n)[i]] := by rw [List.take_succ, List.getElem?_eq_getElem hi]; rfl
    rw [nth_map hi]
    generalize (srtW n)[i] = x at hm ht ⊢
    walk_at "rd"
    rw [List.length_map]
    refine ⟨fun j acc2 ρ => ρ = [.val (.list (ns.map .int)), .own (.dk kvs1), .val (.int n), .val (.list ((srtW n).map dgD)), .val (.tuple (tabD n)), .free, .free, .val (dgD x), .free, .free, .free, .free, .free] ∧ acc2 = ((srtW n).take j).map fun y => .int (lcL n x y : Nat), ⟨rfl, rfl⟩, ?_, ?_⟩
    · rintro j acc2 ρ hj ⟨rfl, rfl⟩
      have hm2 := List.getElem_mem hj
      have ht2 : (srtW n).take (j + 1) = (srtW n).take j ++ [(srtW n)[j]] := by rw [List.take_succ, List.getElem?_eq_getElem hj]; rfl
      rw [nth_map hj]
      generalize (srtW n)[j] = y at hm2 ht2 ⊢
      obtain ⟨w, D, ex⟩ := srtW_word hm
      obtain ⟨v, E, ey⟩ := srtW_word hm2
      walk_at "rd"
      refine ⟨n, w, v, by rw [ex], by rw [ey], D, E, by omega, ?_⟩
      walk_at "rd"
      refine ⟨by rw [List.length_map, List.length_take]; omega, rfl, ?_⟩
      rw [ht2, List.map_append, List.length_map, ex, ey]; rfl
    · rintro acc2 ρ ⟨rfl, rfl⟩
      rw [List.take_length]
      (try walk_at "rd")
      refine ⟨by rw [List.length_map, List.length_take]; omega, rfl, ?_⟩
      rw [ht, List.map_append]; rfl
  · rintro acc ρ ⟨rfl, rfl⟩
    rw [List.take_length]
    (try walk_at "rd")
    show t_law_8_4 _ [.val (.list (ns.map .int)), .own (.dk kvs1), .val (.int n), .val (.list ((srtW n).map dgD)), .val (.tuple (tabD n)), .val (.tuple (tabD n)), .free, .free, .free, .free, .free, .free, .free]
    obtain ⟨b1, b2, b3, b4⟩ := tab_rep hn
    unfold t_law_8_4
    walk_at "rd"
    refine ⟨b1, b2, b3, b4, b1, b2, b3, b4, ?_⟩
    rw [decide_eq_true rfl]
    walk_at "rd"
    unfold t_law_8_5
    walk_at "rd"
    rw [List.length_map]
    refine ⟨fun i ρ => ∃ s6 s7 s8 s9, ρ = [.val (.list (ns.map .int)), .own (.dk kvs1), .val (.int n), .val (.list ((srtW n).map dgD)), .val (.tuple (tabD n)), .val (.tuple (tabD n)), s6, s7, s8, s9, .free, .free, .free], ⟨_, _, _, _, rfl⟩, ?_, ?_⟩
    · rintro i ρ hi ⟨s6, s7, s8, s9, rfl⟩
      have hx := List.getElem_mem hi
      have ri : atI (tabD n) (0 + (i : Int)) = some (rowD n (srtW n)[i] (srtW n)) := tab_at (by omega) hi
      unfold enD
      rw [nth_map hi]
      walk_at "rd"
      refine ⟨rfl, ?_⟩
      unfold t_law_6_0
      walk_at "rd"
      rw [ri]
      unfold rowD
      walk_at "rd"
      rw [row_at (show (0 : Int) + (i : Int) = (i : Int) by omega) hi]
      walk_at "rd"
      rw [decide_eq_true (show ((lcL n (srtW n)[i] (srtW n)[i] : Nat) : Int) = (n : Int) by rw [lcL_self hx])]
      walk_at "rd"
      unfold t_law_6_1
      walk_at "rd"
      unfold t_law_6_2
      walk_at "rd"
      rw [List.length_map]
      rw [Int.toNat_natCast]
      refine ⟨by omega, fun j ρ => ∃ s9, ρ = [.val (.list (ns.map .int)), .own (.dk kvs1), .val (.int n), .val (.list ((srtW n).map dgD)), .val (.tuple (tabD n)), .val (.tuple (tabD n)), .val (.int (0 + (i : Int))), .val (dgD (srtW n)[i]), .val (.int ((((srtW n).take j).map fun y => 2 ^ lcL n (srtW n)[i] y).sum : Nat)), s9, .free, .free, .free], ⟨_, rfl⟩, ?_, ?_⟩
      · rintro j ρ hj ⟨s9, rfl⟩
        have hy := List.getElem_mem hj
        have hle := (lcL_le hx hy).2
        have rj : atI (tabD n) (0 + (j : Int)) = some (rowD n (srtW n)[j] (srtW n)) := tab_at (by omega) hj
        unfold t_law_4_0
        walk_at "rd"
        refine ⟨by omega, ?_⟩
        rw [ri]
        unfold rowD
        walk_at "rd"
        rw [row_at (show (0 : Int) + (j : Int) = (j : Int) by omega) hj]
        walk_at "rd"
        have e1 : atI [PyData.int 1, PyData.int 2, PyData.int 4, PyData.int 8, PyData.int 16, PyData.int 32] ((lcL n (srtW n)[i] (srtW n)[j] : Nat) : Int) = some (.int ((2 ^ lcL n (srtW n)[i] (srtW n)[j] : Nat) : Int)) := by
          generalize lcL n (srtW n)[i] (srtW n)[j] = m at hle
          have hm : m ≤ 4 := by omega
          match m, hm with
          | 0, _ => rfl
          | 1, _ => rfl
          | 2, _ => rfl
          | 3, _ => rfl
          | 4, _ => rfl
        rw [e1]
        walk_at "rd"
        unfold t_law_4_1
        walk_at "rd"
        rw [ri, rj]
        unfold rowD
        walk_at "rd"
        rw [row_at (show (0 : Int) + (j : Int) = (j : Int) by omega) hj, row_at (show (0 : Int) + (i : Int) = (i : Int) by omega) hi]
        walk_at "rd"
        rw [lcL_swap hy hx, decide_eq_true rfl]
        walk_at "rd"
        have e2 : ((((((srtW n).take j).map fun y => 2 ^ lcL n (srtW n)[i] y).sum : Nat)) : Int) + ((2 ^ lcL n (srtW n)[i] (srtW n)[j] : Nat) : Int) = ((((((srtW n).take (j + 1)).map fun y => 2 ^ lcL n (srtW n)[i] y).sum : Nat)) : Int) := by
          rw [List.take_succ, List.getElem?_eq_getElem hj, List.map_append, List.sum_append]
          show _ = (((_ : Nat) + (2 ^ lcL n (srtW n)[i] (srtW n)[j] + 0) : Nat) : Int)
          rw [Nat.add_zero, Int.natCast_add]
        rw [e2]
        exact ⟨_, rfl⟩
      · rintro ρ ⟨s9, rfl⟩
        rw [List.take_length]
        unfold t_law_6_3
        walk_at "rd"
        refine ⟨n, (srtW n)[i], rfl, rfl, hx, hn, ?_⟩
        walk_at "rd"
        rw [decide_eq_true (show ((((srtW n).map fun y => 2 ^ lcL n (srtW n)[i] y).sum : Nat) : Int) = ((colS (srtW n)[i] (srtW n) (2 ^ n) : Nat) : Int) by rw [row_sum hn hx, colS_sum])]
        exact ⟨_, _, _, _, rfl⟩
    · rintro ρ ⟨s6, s7, s8, s9, rfl⟩
      unfold t_law_8_6
      walk_at "rd"
      obtain ⟨M, hM⟩ : ∃ M : Nat, M = 5 := ⟨5, rfl⟩
      refine ⟨M, by omega, by omega, ?_⟩
      walk_at "rd"
      refine ⟨M, by omega, by omega, ?_⟩
      walk_at "rd"
      unfold t_law_8_7
      walk_at "rd"
      refine ⟨rfl, rfl, a1, hb1, by omega, by omega, by decide, by decide, fun r2 a2 kvs2 hb2 g5 g6 g7 g8 => ⟨rfl, rfl, rfl, a2, hb2, by omega, by omega, by decide, by decide, fun r3 a3 kvs3 hb3 g9 g10 g11 g12 => ⟨rfl, ?_⟩⟩⟩
      obtain ⟨p, rfl⟩ := Int.eq_ofNat_of_zero_le g7
      obtain ⟨q, rfl⟩ := Int.eq_ofNat_of_zero_le g11
      have l5 : (srtW M).length = 42 := by rw [hM, srtW_len]; decide
      have hp : p < (srtW M).length := by omega
      have hq : q < (srtW M).length := by omega
      have xp := List.getElem_mem hp
      have xq := List.getElem_mem hq
      have tp : atI (tabD M) (p : Int) = some (rowD M (srtW M)[p] (srtW M)) := tab_at rfl hp
      have tq : atI (tabD M) (q : Int) = some (rowD M (srtW M)[q] (srtW M)) := tab_at rfl hq
      have lt : (tabD M).length = 42 := by rw [tabD, List.length_map]; exact l5
      have ap : atI ((srtW M).map dgD) (p : Int) = some (dgD (srtW M)[p]) := atI_map (by omega) (by rw [Int.toNat_natCast]; exact hp)
      have aq : atI ((srtW M).map dgD) (q : Int) = some (dgD (srtW M)[q]) := atI_map (by omega) (by rw [Int.toNat_natCast]; exact hq)
      obtain ⟨w, D, ew⟩ := srtW_word xp
      obtain ⟨v, E, ev⟩ := srtW_word xq
      unfold t_law_8_8
      walk_at "rd"
      rw [lt, decide_eq_true (show ((42 : Nat) : Int) = 42 from rfl)]
      walk_at "rd"
      rw [tp, ap, aq]
      unfold rowD
      walk_at "rd"
      rw [row_at rfl hq, row_at rfl hp]
      walk_at "rd"
      refine ⟨M, w, v, by rw [ew], by rw [ev], D, E, by omega, ?_⟩
      walk_at "rd"
      have e5 : ((lcL M (srtW M)[p] (srtW M)[q] : Nat) : Int) = ((rgs (mtI w) (mtI v) (2 * M)).length : Int) := by rw [ew, ev, lcL_word]
      rw [decide_eq_true e5, lcL_self xp]
      walk_at "rd"
      rw [decide_eq_true (show ((M : Nat) : Int) = 5 by omega)]
      walk_at "rd"
      unfold t_law_8_9
      walk_at "rd"
      rw [tp, tq, ap, aq]
      unfold rowD
      walk_at "rd"
      rw [row_at rfl hp, row_at rfl hq]
      walk_at "rd"
      rw [lcL_swap xq xp, decide_eq_true rfl]
      walk_at "rd"
      refine ⟨M, w, v, by rw [ew], by rw [ev], D, E, by omega, ?_⟩
      walk_at "rd"
      rw [List.length_map, decide_eq_true e5]
      exact h

theorem len_law : ∀ ds Q, sp_law ds Q → ds.length = 1 := by
  rintro ds Q ⟨ns, rfl, _⟩
  rfl

theorem ok_law (T : Tx K mg) (base : Heap) : FnG P w K mg base CX0 8 T.f_law T.d_law ["script"] (spD K sp_law) :=
  fnDG_ok T.F_law sc_law len_law fun cdv A outer s H E hr hg => ⟨t_law,
    (dss_cons (ds_set 1 sc_law.nd (de_call (ok_w_begun T base) (hr.mono (by decide)) rfl T.g_w_begun T.F_w_begun.kp T.b_w_begun pass0 (dl_cons (de_name 0) dl_nil)) (hio := fun z => nomatch z))
    (dss_cons (ds_set 2 sc_law.nd (de_callI 1 (ok_w_next T base) (hr.mono (by decide)) rfl T.g_w_next T.F_w_next.kp T.b_w_next pass0 (dl_cons de_int dl_nil)) (hio := fun z => nomatch z))
    (dss_cons (ds_asg (de_tup (dl_cons (de_call (ok_w_all T base) (hr.mono (by decide)) rfl T.g_w_all T.F_w_all.kp T.b_w_all pass0 (dl_cons (de_name 2) dl_nil)) (dl_cons (de_callK0 (ok_loop_table T base) (hr.mono (by decide)) rfl T.g_loop_table T.F_loop_table.kp (kb_one T.F_loop_table fun _ _ _ _ _ _ _ => rfl) pass0 (fun h => h) (dk_cons (de_name 2) dk_nil)) dl_nil))) (dgo_tup rfl (dgos_cons (DG.go (dg_name 3 sc_law.nd)) (dgos_cons (DG.go (dg_name 4 sc_law.nd)) dgos_nil))))
    (dss_cons (ds_set 5 sc_law.nd (de_callTy call_tuple_of cll_tuple rfl T.z_tuple (by decide +kernel) (da_cons (de_lc rfl sc_law.nd (di_list (de_name 3)) (own := [("one", 7)]) (show BlkOk ["script", "m", "many", "every", "table", "due", "a", "one", "total", "b", "wide", "all_five", "other"] (defScope s_law) _ _ from ⟨rfl, by decide +kernel, by decide +kernel, by decide +kernel, by decide +kernel⟩) (fun _ _ _ _ _ => pg_name (i := 7) sc_law.nd rfl (by first | exact Or.inl rfl | exact Or.inr rfl)) (simGv_name (by decide)) (fun _ _ _ _ _ => dps_nil) (fun _ _ _ _ _ => (de_callTy call_tuple_of cll_tuple rfl T.z_tuple (by decide +kernel) (da_cons (de_lc rfl sc_law.nd (di_list (de_name 3)) (own := [("other", 12)]) (show BlkOk ["script", "m", "many", "every", "table", "due", "a", "one", "total", "b", "wide", "all_five", "other"] { kind := PySem.ScopeKind.function, names := [ (PySem.Str.ofString ".0", PySem.NameKind.local), (PySem.Str.ofString "one", PySem.NameKind.cell), (PySem.Str.ofString "tuple", PySem.NameKind.globalImplicit), (PySem.Str.ofString "every", PySem.NameKind.cell)], isGenerator := false, isCoroutine := false, more := [] : PySem.Scope } _ _ from ⟨rfl, by decide +kernel, by decide +kernel, by decide +kernel, by decide +kernel⟩) (fun _ _ _ _ _ => pg_name (i := 12) sc_law.nd rfl (by first | exact Or.inl rfl | exact Or.inr rfl)) (simGv_name (by decide)) (fun _ _ _ _ _ => dps_nil) (fun _ _ _ _ _ => (de_callB call_lenA cll_len rfl T.z_len (by decide +kernel) (da_cons (de_call (ok_w_rings T base) (hr.mono (by decide)) rfl T.g_w_rings T.F_w_rings.kp T.b_w_rings pass0 (dl_cons (de_name 7) (dl_cons (de_name 12) dl_nil))) da_nil)))) da_nil)))) da_nil)) (hio := fun z => nomatch z))
    (dss_cons (ds_if (dt_cmp (op_neA hr.units) opl_neA (de_repr hg (fp_room hr) T.z_repr (de_name 4)) (de_repr hg (fp_room hr) T.z_repr (de_name 5)) (nomark _)) (dss_one (ds_ret de_bl)) dss_nil)
    (dss_cons (ds_for PassesOwn.never rfl (di_enumL rfl T.z_enumerate (de_name 3)) (dg_tup rfl (dgs_cons (dg_name 6 sc_law.nd) (dgs_cons (dg_name 7 sc_law.nd) dgs_nil))) (dss_cons (ds_if (dt_cmp (op_neA hr.units) opl_neA (de_ix (de_ix (de_name 4) (de_name 6) (fun _ _ => rfl)) (de_name 6) (fun _ _ => rfl)) (de_name 2) (nomark _)) (dss_one (ds_ret de_bl)) dss_nil)
    (dss_cons (ds_set 8 sc_law.nd de_int (hio := fun z => nomatch z))
    (dss_cons (ds_for PassesOwn.never rfl (di_range1 rfl T.z_range (da_cons (de_callB call_lenA cll_len rfl T.z_len (by decide +kernel) (da_cons (de_name 3) da_nil)) da_nil)) (dg_name 9 sc_law.nd) (dss_cons (ds_set 8 sc_law.nd (de_bin op_addA opl_add (de_name 8) (de_ix (de_lst (dl_cons de_int (dl_cons de_int (dl_cons de_int (dl_cons de_int (dl_cons de_int (dl_cons de_int dl_nil))))))) (de_ix (de_ix (de_name 4) (de_name 6) (fun _ _ => rfl)) (de_name 9) (fun _ _ => rfl)) (fun _ _ => rfl))) (hio := fun z => nomatch z))
    (dss_one (ds_if (dt_cmp (op_neA hr.units) opl_neA (de_ix (de_ix (de_name 4) (de_name 6) (fun _ _ => rfl)) (de_name 9) (fun _ _ => rfl)) (de_ix (de_ix (de_name 4) (de_name 9) (fun _ _ => rfl)) (de_name 6) (fun _ _ => rfl)) (nomark _)) (dss_one (ds_ret de_bl)) dss_nil))))
    (dss_one (ds_if (dt_cmp (op_neA hr.units) opl_neA (de_name 8) (de_call (ok_w_colours T base) (hr.mono (by decide)) rfl T.g_w_colours T.F_w_colours.kp T.b_w_colours pass0 (dl_cons (de_name 7) (dl_cons (de_name 3) dl_nil))) (nomark _)) (dss_one (ds_ret de_bl)) dss_nil))))))
    (dss_cons (ds_par2 10 11 rfl sc_law.nd (dl_cons (de_call (ok_loop_table T base) (hr.mono (by decide)) rfl T.g_loop_table T.F_loop_table.kp T.b_loop_table pass0 (dl_cons de_int dl_nil)) (dl_cons (de_call (ok_w_all T base) (hr.mono (by decide)) rfl T.g_w_all T.F_w_all.kp T.b_w_all pass0 (dl_cons de_int dl_nil)) dl_nil)))
    (dss_cons (ds_par2 6 9 rfl sc_law.nd (dl_cons (de_callI 1 (ok_w_next T base) (hr.mono (by decide)) rfl T.g_w_next T.F_w_next.kp T.b_w_next pass0 (dl_cons de_int dl_nil)) (dl_cons (de_callI 1 (ok_w_next T base) (hr.mono (by decide)) rfl T.g_w_next T.F_w_next.kp T.b_w_next pass0 (dl_cons de_int dl_nil)) dl_nil)))
    (dss_cons (ds_if (dt_w (dw_or (dt_cmp (op_neA hr.units) opl_neA (de_callB call_lenA cll_len rfl T.z_len (by decide +kernel) (da_cons (de_name 10) da_nil)) de_int (nomark _)) (dw_or (dt_cmp (op_neA hr.units) opl_neA (de_ix (de_ix (de_name 10) (de_name 6) (fun _ _ => rfl)) (de_name 9) (fun _ _ => rfl)) (de_call (ok_loop_count T base) (hr.mono (by decide)) rfl T.g_loop_count T.F_loop_count.kp T.b_loop_count pass0 (dl_cons (de_ix (de_name 11) (de_name 6) (fun _ _ => rfl)) (dl_cons (de_ix (de_name 11) (de_name 9) (fun _ _ => rfl)) dl_nil))) (nomark _)) (dw_or1 (dt_cmp (op_neA hr.units) opl_neA (de_ix (de_ix (de_name 10) (de_name 6) (fun _ _ => rfl)) (de_name 6) (fun _ _ => rfl)) de_int (nomark _)))))) (dss_one (ds_ret de_bl)) dss_nil)
    (dss_one (ds_ret (de_chain (op_eqA hr.units) opl_eqA (op_eqA hr.units) opl_eqA (de_ix (de_ix (de_name 10) (de_name 9) (fun _ _ => rfl)) (de_name 6) (fun _ _ => rfl)) (de_ix (de_ix (de_name 10) (de_name 6) (fun _ _ => rfl)) (de_name 9) (fun _ _ => rfl)) (de_callB call_lenA cll_len rfl T.z_len (by decide +kernel) (da_cons (de_call (ok_w_rings T base) (hr.mono (by decide)) rfl T.g_w_rings T.F_w_rings.kp T.b_w_rings pass0 (dl_cons (de_ix (de_name 11) (de_name 6) (fun _ _ => rfl)) (dl_cons (de_ix (de_name 11) (de_name 9) (fun _ _ => rfl)) dl_nil))) da_nil)))))))))))))), rd_law⟩
end
/-! ### what the top has written; the law's own head -/
theorem all_mk {l : PySem.W.OpenLaw} {w : World} {K : Fg} {h : Heap} {mg : Str → Option Value} {fa f0 f1 f2 f3 f4 f5 f6 f7 f8 f9 f10 f11 f12 f13 f14 f15 f16 f17 f18 f19 f20 f21 f22 f23 f24 f25 f26 f27 f28 f29 f30 : Addr} (X : K.In h) (G : h.Ns mainGlobals mg) (hfa : mg "law" = some (.ref fa))
    {od0 an0 od1 an1 od2 an2 od3 an3 od4 an4 od5 an5 od6 an6 od7 an7 od8 an8 od9 an9 od10 an10 od11 an11 od12 an12 od13 an13 od14 an14 od15 an15 od16 an16 od17 an17 od18 an18 od19 an19 od20 an20 od21 an21 od22 an22 od23 an23 od24 an24 od25 an25 od26 an26 od27 an27 od28 an28 od29 an29 od30 an30 : Option Addr} {sl0 sl1 sl2 sl3 sl4 sl5 sl6 sl7 sl8 sl9 sl10 sl11 sl12 sl13 sl14 sl15 sl16 sl17 sl18 sl19 sl20 sl21 sl22 sl23 sl24 sl25 sl26 sl27 sl28 sl29 sl30 : Array (Option Value)} {oc0 kV0 dc0 pm0 cd0 ct0 oc1 kV1 dc1 pm1 cd1 ct1 oc2 kV2 dc2 pm2 cd2 ct2 oc3 kV3 dc3 pm3 cd3 ct3 oc4 kV4 dc4 pm4 cd4 ct4 oc5 kV5 dc5 pm5 cd5 ct5 oc6 kV6 dc6 pm6 cd6 ct6 oc7 kV7 dc7 pm7 cd7 ct7 oc8 kV8 dc8 pm8 cd8 ct8 oc9 kV9 dc9 pm9 cd9 ct9 oc10 kV10 dc10 pm10 cd10 ct10 oc11 kV11 dc11 pm11 cd11 ct11 oc12 kV12 dc12 pm12 cd12 ct12 oc13 kV13 dc13 pm13 cd13 ct13 oc14 kV14 dc14 pm14 cd14 ct14 oc15 kV15 dc15 pm15 cd15 ct15 oc16 kV16 dc16 pm16 cd16 ct16 oc17 kV17 dc17 pm17 cd17 ct17 oc18 kV18 dc18 pm18 cd18 ct18 oc19 kV19 dc19 pm19 cd19 ct19 oc20 kV20 dc20 pm20 cd20 ct20 oc21 kV21 dc21 pm21 cd21 ct21 oc22 kV22 dc22 pm22 cd22 ct22 oc23 kV23 dc23 pm23 cd23 ct23 oc24 kV24 dc24 pm24 cd24 ct24 oc25 kV25 dc25 pm25 cd25 ct25 oc26 kV26 dc26 pm26 cd26 ct26 oc27 kV27 dc27 pm27 cd27 ct27 oc28 kV28 dc28 pm28 cd28 ct28 oc29 kV29 dc29 pm29 cd29 ct29 oc30 kV30 dc30 pm30 cd30 ct30 : Value}
    (a0 : PySem.W.nsIn K mainGlobals "_law_begun" = some (some (.ref f0))) (l0 : K.lookup f0 = some ⟨oc0, od0, .func (PySem.W.fnOf "_law_begun" "_law_begun" (defArgs s_w_begun) (defBody s_w_begun) (defScope s_w_begun) .none kV0 dc0 pm0 an0 cd0 ct0), sl0⟩) (c0 : PySem.W.codeIn K cd0 "_law_begun" = true) (k0 : PySem.W.keepIn K (.ref f0) = true)
    (a1 : PySem.W.nsIn K mainGlobals "_law_next" = some (some (.ref f1))) (l1 : K.lookup f1 = some ⟨oc1, od1, .func (PySem.W.fnOf "_law_next" "_law_next" (defArgs s_w_next) (defBody s_w_next) (defScope s_w_next) .none kV1 dc1 pm1 an1 cd1 ct1), sl1⟩) (c1 : PySem.W.codeIn K cd1 "_law_next" = true) (k1 : PySem.W.keepIn K (.ref f1) = true)
    (a2 : PySem.W.nsIn K mainGlobals "is_true_integer" = some (some (.ref f2))) (l2 : K.lookup f2 = some ⟨oc2, od2, .func (PySem.W.fnOf "is_true_integer" "is_true_integer" (defArgs s_is_true_integer) (defBody s_is_true_integer) (defScope s_is_true_integer) .none kV2 dc2 pm2 an2 cd2 ct2), sl2⟩) (c2 : PySem.W.codeIn K cd2 "is_true_integer" = true) (k2 : PySem.W.keepIn K (.ref f2) = true)
    (a3 : PySem.W.nsIn K mainGlobals "is_integer_within" = some (some (.ref f3))) (l3 : K.lookup f3 = some ⟨oc3, od3, .func (PySem.W.fnOf "is_integer_within" "is_integer_within" (defArgs s_is_integer_within) (defBody s_is_integer_within) (defScope s_is_integer_within) .none kV3 dc3 pm3 an3 cd3 ct3), sl3⟩) (c3 : PySem.W.codeIn K cd3 "is_integer_within" = true) (k3 : PySem.W.keepIn K (.ref f3) = true)
    (a4 : PySem.W.nsIn K mainGlobals "validate_size" = some (some (.ref f4))) (l4 : K.lookup f4 = some ⟨oc4, od4, .func (PySem.W.fnOf "validate_size" "validate_size" (defArgs s_validate_size) (defBody s_validate_size) (defScope s_validate_size) .none kV4 dc4 pm4 an4 cd4 ct4), sl4⟩) (c4 : PySem.W.codeIn K cd4 "validate_size" = true) (k4 : PySem.W.keepIn K (.ref f4) = true)
    (a5 : PySem.W.nsIn K mainGlobals "_completions" = some (some (.ref f5))) (l5 : K.lookup f5 = some ⟨oc5, od5, .func (PySem.W.fnOf "_completions" "_completions" (defArgs s_completions) (defBody s_completions) (defScope s_completions) .none kV5 dc5 pm5 an5 cd5 ct5), sl5⟩) (c5 : PySem.W.codeIn K cd5 "_completions" = true) (k5 : PySem.W.keepIn K (.ref f5) = true)
    (a6 : PySem.W.nsIn K mainGlobals "word_count" = some (some (.ref f6))) (l6 : K.lookup f6 = some ⟨oc6, od6, .func (PySem.W.fnOf "word_count" "word_count" (defArgs s_word_count) (defBody s_word_count) (defScope s_word_count) .none kV6 dc6 pm6 an6 cd6 ct6), sl6⟩) (c6 : PySem.W.codeIn K cd6 "word_count" = true) (k6 : PySem.W.keepIn K (.ref f6) = true)
    (a7 : PySem.W.nsIn K mainGlobals "validate_word" = some (some (.ref f7))) (l7 : K.lookup f7 = some ⟨oc7, od7, .func (PySem.W.fnOf "validate_word" "validate_word" (defArgs s_validate_word) (defBody s_validate_word) (defScope s_validate_word) .none kV7 dc7 pm7 an7 cd7 ct7), sl7⟩) (c7 : PySem.W.codeIn K cd7 "validate_word" = true) (k7 : PySem.W.keepIn K (.ref f7) = true)
    (a8 : PySem.W.nsIn K mainGlobals "partners" = some (some (.ref f8))) (l8 : K.lookup f8 = some ⟨oc8, od8, .func (PySem.W.fnOf "partners" "partners" (defArgs s_partners) (defBody s_partners) (defScope s_partners) .none kV8 dc8 pm8 an8 cd8 ct8), sl8⟩) (c8 : PySem.W.codeIn K cd8 "partners" = true) (k8 : PySem.W.keepIn K (.ref f8) = true)
    (a9 : PySem.W.nsIn K mainGlobals "diagram_of" = some (some (.ref f9))) (l9 : K.lookup f9 = some ⟨oc9, od9, .func (PySem.W.fnOf "diagram_of" "diagram_of" (defArgs s_diagram_of) (defBody s_diagram_of) (defScope s_diagram_of) .none kV9 dc9 pm9 an9 cd9 ct9), sl9⟩) (c9 : PySem.W.codeIn K cd9 "diagram_of" = true) (k9 : PySem.W.keepIn K (.ref f9) = true)
    (a10 : PySem.W.nsIn K mainGlobals "_smaller_count" = some (some (.ref f10))) (l10 : K.lookup f10 = some ⟨oc10, od10, .func (PySem.W.fnOf "_smaller_count" "_smaller_count" (defArgs s_smaller_count) (defBody s_smaller_count) (defScope s_smaller_count) .none kV10 dc10 pm10 an10 cd10 ct10), sl10⟩) (c10 : PySem.W.codeIn K cd10 "_smaller_count" = true) (k10 : PySem.W.keepIn K (.ref f10) = true)
    (a11 : PySem.W.nsIn K mainGlobals "word_at" = some (some (.ref f11))) (l11 : K.lookup f11 = some ⟨oc11, od11, .func (PySem.W.fnOf "word_at" "word_at" (defArgs s_word_at) (defBody s_word_at) (defScope s_word_at) .none kV11 dc11 pm11 an11 cd11 ct11), sl11⟩) (c11 : PySem.W.codeIn K cd11 "word_at" = true) (k11 : PySem.W.keepIn K (.ref f11) = true)
    (a12 : PySem.W.nsIn K mainGlobals "all_diagrams" = some (some (.ref f12))) (l12 : K.lookup f12 = some ⟨oc12, od12, .func (PySem.W.fnOf "all_diagrams" "all_diagrams" (defArgs s_all_diagrams) (defBody s_all_diagrams) (defScope s_all_diagrams) .none kV12 dc12 pm12 an12 cd12 ct12), sl12⟩) (c12 : PySem.W.codeIn K cd12 "all_diagrams" = true) (k12 : PySem.W.keepIn K (.ref f12) = true)
    (a13 : PySem.W.nsIn K mainGlobals "joined_points" = some (some (.ref f13))) (l13 : K.lookup f13 = some ⟨oc13, od13, .func (PySem.W.fnOf "joined_points" "joined_points" (defArgs s_joined_points) (defBody s_joined_points) (defScope s_joined_points) .none kV13 dc13 pm13 an13 cd13 ct13), sl13⟩) (c13 : PySem.W.codeIn K cd13 "joined_points" = true) (k13 : PySem.W.keepIn K (.ref f13) = true)
    (a14 : PySem.W.nsIn K mainGlobals "_loop_from" = some (some (.ref f14))) (l14 : K.lookup f14 = some ⟨oc14, od14, .func (PySem.W.fnOf "_loop_from" "_loop_from" (defArgs s_loop_from) (defBody s_loop_from) (defScope s_loop_from) .none kV14 dc14 pm14 an14 cd14 ct14), sl14⟩) (c14 : PySem.W.codeIn K cd14 "_loop_from" = true) (k14 : PySem.W.keepIn K (.ref f14) = true)
    (a15 : PySem.W.nsIn K mainGlobals "traced_loops" = some (some (.ref f15))) (l15 : K.lookup f15 = some ⟨oc15, od15, .func (PySem.W.fnOf "traced_loops" "traced_loops" (defArgs s_traced_loops) (defBody s_traced_loops) (defScope s_traced_loops) .none kV15 dc15 pm15 an15 cd15 ct15), sl15⟩) (c15 : PySem.W.codeIn K cd15 "traced_loops" = true) (k15 : PySem.W.keepIn K (.ref f15) = true)
    (a16 : PySem.W.nsIn K mainGlobals "loop_table" = some (some (.ref f16))) (l16 : K.lookup f16 = some ⟨oc16, od16, .func (PySem.W.fnOf "loop_table" "loop_table" (defArgs s_loop_table) (defBody s_loop_table) (defScope s_loop_table) .none kV16 dc16 pm16 an16 cd16 ct16), sl16⟩) (c16 : PySem.W.codeIn K cd16 "loop_table" = true) (k16 : PySem.W.keepIn K (.ref f16) = true)
    (a17 : PySem.W.nsIn K mainGlobals "_law_chords" = some (some (.ref f17))) (l17 : K.lookup f17 = some ⟨oc17, od17, .func (PySem.W.fnOf "_law_chords" "_law_chords" (defArgs s_w_chords) (defBody s_w_chords) (defScope s_w_chords) .none kV17 dc17 pm17 an17 cd17 ct17), sl17⟩) (c17 : PySem.W.codeIn K cd17 "_law_chords" = true) (k17 : PySem.W.keepIn K (.ref f17) = true)
    (a18 : PySem.W.nsIn K mainGlobals "_law_all" = some (some (.ref f18))) (l18 : K.lookup f18 = some ⟨oc18, od18, .func (PySem.W.fnOf "_law_all" "_law_all" (defArgs s_w_all) (defBody s_w_all) (defScope s_w_all) .none kV18 dc18 pm18 an18 cd18 ct18), sl18⟩) (c18 : PySem.W.codeIn K cd18 "_law_all" = true) (k18 : PySem.W.keepIn K (.ref f18) = true)
    (a19 : PySem.W.nsIn K mainGlobals "_law_partners" = some (some (.ref f19))) (l19 : K.lookup f19 = some ⟨oc19, od19, .func (PySem.W.fnOf "_law_partners" "_law_partners" (defArgs s_w_partners) (defBody s_w_partners) (defScope s_w_partners) .none kV19 dc19 pm19 an19 cd19 ct19), sl19⟩) (c19 : PySem.W.codeIn K cd19 "_law_partners" = true) (k19 : PySem.W.keepIn K (.ref f19) = true)
    (a20 : PySem.W.nsIn K mainGlobals "_law_rings" = some (some (.ref f20))) (l20 : K.lookup f20 = some ⟨oc20, od20, .func (PySem.W.fnOf "_law_rings" "_law_rings" (defArgs s_w_rings) (defBody s_w_rings) (defScope s_w_rings) .none kV20 dc20 pm20 an20 cd20 ct20), sl20⟩) (c20 : PySem.W.codeIn K cd20 "_law_rings" = true) (k20 : PySem.W.keepIn K (.ref f20) = true)
    (a21 : PySem.W.nsIn K mainGlobals "_law_colours" = some (some (.ref f21))) (l21 : K.lookup f21 = some ⟨oc21, od21, .func (PySem.W.fnOf "_law_colours" "_law_colours" (defArgs s_w_colours) (defBody s_w_colours) (defScope s_w_colours) .none kV21 dc21 pm21 an21 cd21 ct21), sl21⟩) (c21 : PySem.W.codeIn K cd21 "_law_colours" = true) (k21 : PySem.W.keepIn K (.ref f21) = true)
    (a22 : PySem.W.nsIn K mainGlobals "is_pair" = some (some (.ref f22))) (l22 : K.lookup f22 = some ⟨oc22, od22, .func (PySem.W.fnOf "is_pair" "is_pair" (defArgs s_is_pair) (defBody s_is_pair) (defScope s_is_pair) .none kV22 dc22 pm22 an22 cd22 ct22), sl22⟩) (c22 : PySem.W.codeIn K cd22 "is_pair" = true) (k22 : PySem.W.keepIn K (.ref f22) = true)
    (a23 : PySem.W.nsIn K mainGlobals "is_point" = some (some (.ref f23))) (l23 : K.lookup f23 = some ⟨oc23, od23, .func (PySem.W.fnOf "is_point" "is_point" (defArgs s_is_point) (defBody s_is_point) (defScope s_is_point) .none kV23 dc23 pm23 an23 cd23 ct23), sl23⟩) (c23 : PySem.W.codeIn K cd23 "is_point" = true) (k23 : PySem.W.keepIn K (.ref f23) = true)
    (a24 : PySem.W.nsIn K mainGlobals "is_chord" = some (some (.ref f24))) (l24 : K.lookup f24 = some ⟨oc24, od24, .func (PySem.W.fnOf "is_chord" "is_chord" (defArgs s_is_chord) (defBody s_is_chord) (defScope s_is_chord) .none kV24 dc24 pm24 an24 cd24 ct24), sl24⟩) (c24 : PySem.W.codeIn K cd24 "is_chord" = true) (k24 : PySem.W.keepIn K (.ref f24) = true)
    (a25 : PySem.W.nsIn K mainGlobals "_fits_behind" = some (some (.ref f25))) (l25 : K.lookup f25 = some ⟨oc25, od25, .func (PySem.W.fnOf "_fits_behind" "_fits_behind" (defArgs s_fits_behind) (defBody s_fits_behind) (defScope s_fits_behind) .none kV25 dc25 pm25 an25 cd25 ct25), sl25⟩) (c25 : PySem.W.codeIn K cd25 "_fits_behind" = true) (k25 : PySem.W.keepIn K (.ref f25) = true)
    (a26 : PySem.W.nsIn K mainGlobals "validate_diagram" = some (some (.ref f26))) (l26 : K.lookup f26 = some ⟨oc26, od26, .func (PySem.W.fnOf "validate_diagram" "validate_diagram" (defArgs s_validate_diagram) (defBody s_validate_diagram) (defScope s_validate_diagram) .none kV26 dc26 pm26 an26 cd26 ct26), sl26⟩) (c26 : PySem.W.codeIn K cd26 "validate_diagram" = true) (k26 : PySem.W.keepIn K (.ref f26) = true)
    (a27 : PySem.W.nsIn K mainGlobals "validate_same_size" = some (some (.ref f27))) (l27 : K.lookup f27 = some ⟨oc27, od27, .func (PySem.W.fnOf "validate_same_size" "validate_same_size" (defArgs s_validate_same_size) (defBody s_validate_same_size) (defScope s_validate_same_size) .none kV27 dc27 pm27 an27 cd27 ct27), sl27⟩) (c27 : PySem.W.codeIn K cd27 "validate_same_size" = true) (k27 : PySem.W.keepIn K (.ref f27) = true)
    (a28 : PySem.W.nsIn K mainGlobals "loops" = some (some (.ref f28))) (l28 : K.lookup f28 = some ⟨oc28, od28, .func (PySem.W.fnOf "loops" "loops" (defArgs s_loops) (defBody s_loops) (defScope s_loops) .none kV28 dc28 pm28 an28 cd28 ct28), sl28⟩) (c28 : PySem.W.codeIn K cd28 "loops" = true) (k28 : PySem.W.keepIn K (.ref f28) = true)
    (a29 : PySem.W.nsIn K mainGlobals "loop_count" = some (some (.ref f29))) (l29 : K.lookup f29 = some ⟨oc29, od29, .func (PySem.W.fnOf "loop_count" "loop_count" (defArgs s_loop_count) (defBody s_loop_count) (defScope s_loop_count) .none kV29 dc29 pm29 an29 cd29 ct29), sl29⟩) (c29 : PySem.W.codeIn K cd29 "loop_count" = true) (k29 : PySem.W.keepIn K (.ref f29) = true)
    (a30 : PySem.W.nsIn K mainGlobals "law" = some (some (.ref f30))) (l30 : K.lookup f30 = some ⟨oc30, od30, .func (PySem.W.fnOf "law" "law" (defArgs s_law) (defBody s_law) (defScope s_law) .none kV30 dc30 pm30 an30 cd30 ct30), sl30⟩) (c30 : PySem.W.codeIn K cd30 "law" = true) (k30 : PySem.W.keepIn K (.ref f30) = true)
    (z_all : PySem.W.nsIn K mainGlobals "all" = some none)
    (z_bool : PySem.W.nsIn K mainGlobals "bool" = some none)
    (z_dict : PySem.W.nsIn K mainGlobals "dict" = some none)
    (z_enumerate : PySem.W.nsIn K mainGlobals "enumerate" = some none)
    (z_int : PySem.W.nsIn K mainGlobals "int" = some none)
    (z_isinstance : PySem.W.nsIn K mainGlobals "isinstance" = some none)
    (z_len : PySem.W.nsIn K mainGlobals "len" = some none)
    (z_list : PySem.W.nsIn K mainGlobals "list" = some none)
    (z_range : PySem.W.nsIn K mainGlobals "range" = some none)
    (z_repr : PySem.W.nsIn K mainGlobals "repr" = some none)
    (z_set : PySem.W.nsIn K mainGlobals "set" = some none)
    (z_sorted : PySem.W.nsIn K mainGlobals "sorted" = some none)
    (z_str : PySem.W.nsIn K mainGlobals "str" = some none)
    (z_tuple : PySem.W.nsIn K mainGlobals "tuple" = some none)
    (m_comb : PySem.W.nsIn K mainGlobals "comb" = some (some (.builtin "math.comb")))
    {t_MOST_COUNTED : Tok} (c_MOST_COUNTED : PySem.W.nsIn K mainGlobals "MOST_COUNTED" = some (some (.int 500 t_MOST_COUNTED)))
    {t_MOST_SIZE : Tok} (c_MOST_SIZE : PySem.W.nsIn K mainGlobals "MOST_SIZE" = some (some (.int 30 t_MOST_SIZE)))
    {t_MOST_TABLED : Tok} (c_MOST_TABLED : PySem.W.nsIn K mainGlobals "MOST_TABLED" = some (some (.int 5 t_MOST_TABLED)))
    : ∃ fd : FuncData, (∀ (s : Shared) (v : Value), BindsTo s fd ⟨[v], []⟩ [("script", v)]) ∧ ∀ base : Heap, K.In base → base.Ns mainGlobals mg → FnG l.prog w K mg base CX0 8 fa fd ["script"] (spD K (spL K 63)) := by
  have e := hfa.symm.trans (PySem.W.mg_of X G a30)
  cases e
  let T : Tx K mg := { f_w_begun := f0, d_w_begun := _, F_w_begun := fun_mk l0 c0 k0, g_w_begun := PySem.W.mg_of X G a0, f_w_next := f1, d_w_next := _, F_w_next := fun_mk l1 c1 k1, g_w_next := PySem.W.mg_of X G a1, f_is_true_integer := f2, d_is_true_integer := _, F_is_true_integer := fun_mk l2 c2 k2, g_is_true_integer := PySem.W.mg_of X G a2, f_is_integer_within := f3, d_is_integer_within := _, F_is_integer_within := fun_mk l3 c3 k3, g_is_integer_within := PySem.W.mg_of X G a3, f_validate_size := f4, d_validate_size := _, F_validate_size := fun_mk l4 c4 k4, g_validate_size := PySem.W.mg_of X G a4, f_completions := f5, d_completions := _, F_completions := fun_mk l5 c5 k5, g_completions := PySem.W.mg_of X G a5, f_word_count := f6, d_word_count := _, F_word_count := fun_mk l6 c6 k6, g_word_count := PySem.W.mg_of X G a6, f_validate_word := f7, d_validate_word := _, F_validate_word := fun_mk l7 c7 k7, g_validate_word := PySem.W.mg_of X G a7, f_partners := f8, d_partners := _, F_partners := fun_mk l8 c8 k8, g_partners := PySem.W.mg_of X G a8, f_diagram_of := f9, d_diagram_of := _, F_diagram_of := fun_mk l9 c9 k9, g_diagram_of := PySem.W.mg_of X G a9, f_smaller_count := f10, d_smaller_count := _, F_smaller_count := fun_mk l10 c10 k10, g_smaller_count := PySem.W.mg_of X G a10, f_word_at := f11, d_word_at := _, F_word_at := fun_mk l11 c11 k11, g_word_at := PySem.W.mg_of X G a11, f_all_diagrams := f12, d_all_diagrams := _, F_all_diagrams := fun_mk l12 c12 k12, g_all_diagrams := PySem.W.mg_of X G a12, f_joined_points := f13, d_joined_points := _, F_joined_points := fun_mk l13 c13 k13, g_joined_points := PySem.W.mg_of X G a13, f_loop_from := f14, d_loop_from := _, F_loop_from := fun_mk l14 c14 k14, g_loop_from := PySem.W.mg_of X G a14, f_traced_loops := f15, d_traced_loops := _, F_traced_loops := fun_mk l15 c15 k15, g_traced_loops := PySem.W.mg_of X G a15, f_loop_table := f16, d_loop_table := _, F_loop_table := fun_mk l16 c16 k16, g_loop_table := PySem.W.mg_of X G a16, f_w_chords := f17, d_w_chords := _, F_w_chords := fun_mk l17 c17 k17, g_w_chords := PySem.W.mg_of X G a17, f_w_all := f18, d_w_all := _, F_w_all := fun_mk l18 c18 k18, g_w_all := PySem.W.mg_of X G a18, f_w_partners := f19, d_w_partners := _, F_w_partners := fun_mk l19 c19 k19, g_w_partners := PySem.W.mg_of X G a19, f_w_rings := f20, d_w_rings := _, F_w_rings := fun_mk l20 c20 k20, g_w_rings := PySem.W.mg_of X G a20, f_w_colours := f21, d_w_colours := _, F_w_colours := fun_mk l21 c21 k21, g_w_colours := PySem.W.mg_of X G a21, f_is_pair := f22, d_is_pair := _, F_is_pair := fun_mk l22 c22 k22, g_is_pair := PySem.W.mg_of X G a22, f_is_point := f23, d_is_point := _, F_is_point := fun_mk l23 c23 k23, g_is_point := PySem.W.mg_of X G a23, f_is_chord := f24, d_is_chord := _, F_is_chord := fun_mk l24 c24 k24, g_is_chord := PySem.W.mg_of X G a24, f_fits_behind := f25, d_fits_behind := _, F_fits_behind := fun_mk l25 c25 k25, g_fits_behind := PySem.W.mg_of X G a25, f_validate_diagram := f26, d_validate_diagram := _, F_validate_diagram := fun_mk l26 c26 k26, g_validate_diagram := PySem.W.mg_of X G a26, f_validate_same_size := f27, d_validate_same_size := _, F_validate_same_size := fun_mk l27 c27 k27, g_validate_same_size := PySem.W.mg_of X G a27, f_loops := f28, d_loops := _, F_loops := fun_mk l28 c28 k28, g_loops := PySem.W.mg_of X G a28, f_loop_count := f29, d_loop_count := _, F_loop_count := fun_mk l29 c29 k29, g_loop_count := PySem.W.mg_of X G a29, f_law := fa, d_law := _, F_law := fun_mk l30 c30 k30, g_law := PySem.W.mg_of X G a30, z_all := PySem.W.mg_none_of X G z_all, z_bool := PySem.W.mg_none_of X G z_bool, z_dict := PySem.W.mg_none_of X G z_dict, z_enumerate := PySem.W.mg_none_of X G z_enumerate, z_int := PySem.W.mg_none_of X G z_int, z_isinstance := PySem.W.mg_none_of X G z_isinstance, z_len := PySem.W.mg_none_of X G z_len, z_list := PySem.W.mg_none_of X G z_list, z_range := PySem.W.mg_none_of X G z_range, z_repr := PySem.W.mg_none_of X G z_repr, z_set := PySem.W.mg_none_of X G z_set, z_sorted := PySem.W.mg_none_of X G z_sorted, z_str := PySem.W.mg_none_of X G z_str, z_tuple := PySem.W.mg_none_of X G z_tuple, m_comb := PySem.W.mg_of X G m_comb, t_MOST_COUNTED := t_MOST_COUNTED, c_MOST_COUNTED := PySem.W.mg_of X G c_MOST_COUNTED, t_MOST_SIZE := t_MOST_SIZE, c_MOST_SIZE := PySem.W.mg_of X G c_MOST_SIZE, t_MOST_TABLED := t_MOST_TABLED, c_MOST_TABLED := PySem.W.mg_of X G c_MOST_TABLED }
  exact ⟨T.d_law, fun s v => .of_eq rfl, fun base _ _ => ok_law T base⟩
end K60
open PySem PySem.W PyProof.Rows
set_option maxHeartbeats 0 in
theorem PySem.Challenge.cw_chordturn_k60_whole_loop_tables_holds : PySem.Challenge.rw_chordturn_k60_whole_loop_tables.Holds := by
  w_on; o_law; k_head; (case hw => w_witness2)
  k_fill
  refine DL.walk_ofG (l := PySem.Challenge.rw_chordturn_k60_whole_loop_tables) (n := 63) (k := 8) (x := "script") (CX := L2.CX0) rfl (by decide) rfl ⟨rfl, by decide, by decide⟩ (fun w h Y => PySem.W.kIn_of Y) ?F (fun _ _ _ _ h => h)
  case F =>
    intro w mg fa h KX G hmg
    refine' K60.all_mk KX G hmg ?a0 ?l0 ?c0 ?k0 ?a1 ?l1 ?c1 ?k1 ?a2 ?l2 ?c2 ?k2 ?a3 ?l3 ?c3 ?k3 ?a4 ?l4 ?c4 ?k4 ?a5 ?l5 ?c5 ?k5 ?a6 ?l6 ?c6 ?k6 ?a7 ?l7 ?c7 ?k7 ?a8 ?l8 ?c8 ?k8 ?a9 ?l9 ?c9 ?k9 ?a10 ?l10 ?c10 ?k10 ?a11 ?l11 ?c11 ?k11 ?a12 ?l12 ?c12 ?k12 ?a13 ?l13 ?c13 ?k13 ?a14 ?l14 ?c14 ?k14 ?a15 ?l15 ?c15 ?k15 ?a16 ?l16 ?c16 ?k16 ?a17 ?l17 ?c17 ?k17 ?a18 ?l18 ?c18 ?k18 ?a19 ?l19 ?c19 ?k19 ?a20 ?l20 ?c20 ?k20 ?a21 ?l21 ?c21 ?k21 ?a22 ?l22 ?c22 ?k22 ?a23 ?l23 ?c23 ?k23 ?a24 ?l24 ?c24 ?k24 ?a25 ?l25 ?c25 ?k25 ?a26 ?l26 ?c26 ?k26 ?a27 ?l27 ?c27 ?k27 ?a28 ?l28 ?c28 ?k28 ?a29 ?l29 ?c29 ?k29 ?a30 ?l30 ?c30 ?k30 ?z_all ?z_bool ?z_dict ?z_enumerate ?z_int ?z_isinstance ?z_len ?z_list ?z_range ?z_repr ?z_set ?z_sorted ?z_str ?z_tuple ?m_comb ?c_MOST_COUNTED ?c_MOST_SIZE ?c_MOST_TABLED
    (case a0 => k_is)
    (case l0 => k_is)
    (case c0 => k_is)
    (case k0 => k_is)
    (case a1 => k_is)
    (case l1 => k_is)
    (case c1 => k_is)
    (case k1 => k_is)
    (case a2 => k_is)
    (case l2 => k_is)
    (case c2 => k_is)
    (case k2 => k_is)
    (case a3 => k_is)
    (case l3 => k_is)
    (case c3 => k_is)
    (case k3 => k_is)
    (case a4 => k_is)
    (case l4 => k_is)
    (case c4 => k_is)
    (case k4 => k_is)
    (case a5 => k_is)
    (case l5 => k_is)
    (case c5 => k_is)
    (case k5 => k_is)
    (case a6 => k_is)
    (case l6 => k_is)
    (case c6 => k_is)
    (case k6 => k_is)
    (case a7 => k_is)
    (case l7 => k_is)
    (case c7 => k_is)
    (case k7 => k_is)
    (case a8 => k_is)
    (case l8 => k_is)
    (case c8 => k_is)
    (case k8 => k_is)
    (case a9 => k_is)
    (case l9 => k_is)
    (case c9 => k_is)
    (case k9 => k_is)
    (case a10 => k_is)
    (case l10 => k_is)
    (case c10 => k_is)
    (case k10 => k_is)
    (case a11 => k_is)
    (case l11 => k_is)
    (case c11 => k_is)
    (case k11 => k_is)
    (case a12 => k_is)
    (case l12 => k_is)
    (case c12 => k_is)
    (case k12 => k_is)
    (case a13 => k_is)
    (case l13 => k_is)
    (case c13 => k_is)
    (case k13 => k_is)
    (case a14 => k_is)
    (case l14 => k_is)
    (case c14 => k_is)
    (case k14 => k_is)
    (case a15 => k_is)
    (case l15 => k_is)
    (case c15 => k_is)
    (case k15 => k_is)
    (case a16 => k_is)
    (case l16 => k_is)
    (case c16 => k_is)
    (case k16 => k_is)
    (case a17 => k_is)
    (case l17 => k_is)
    (case c17 => k_is)
    (case k17 => k_is)
    (case a18 => k_is)
    (case l18 => k_is)
    (case c18 => k_is)
    (case k18 => k_is)
    (case a19 => k_is)
    (case l19 => k_is)
    (case c19 => k_is)
    (case k19 => k_is)
    (case a20 => k_is)
    (case l20 => k_is)
    (case c20 => k_is)
    (case k20 => k_is)
    (case a21 => k_is)
    (case l21 => k_is)
    (case c21 => k_is)
    (case k21 => k_is)
    (case a22 => k_is)
    (case l22 => k_is)
    (case c22 => k_is)
    (case k22 => k_is)
    (case a23 => k_is)
    (case l23 => k_is)
    (case c23 => k_is)
    (case k23 => k_is)
    (case a24 => k_is)
    (case l24 => k_is)
    (case c24 => k_is)
    (case k24 => k_is)
    (case a25 => k_is)
    (case l25 => k_is)
    (case c25 => k_is)
    (case k25 => k_is)
    (case a26 => k_is)
    (case l26 => k_is)
    (case c26 => k_is)
    (case k26 => k_is)
    (case a27 => k_is)
    (case l27 => k_is)
    (case c27 => k_is)
    (case k27 => k_is)
    (case a28 => k_is)
    (case l28 => k_is)
    (case c28 => k_is)
    (case k28 => k_is)
    (case a29 => k_is)
    (case l29 => k_is)
    (case c29 => k_is)
    (case k29 => k_is)
    (case a30 => k_is)
    (case l30 => k_is)
    (case c30 => k_is)
    (case k30 => k_is)
    (case z_all => k_is)
    (case z_bool => k_is)
    (case z_dict => k_is)
    (case z_enumerate => k_is)
    (case z_int => k_is)
    (case z_isinstance => k_is)
    (case z_len => k_is)
    (case z_list => k_is)
    (case z_range => k_is)
    (case z_repr => k_is)
    (case z_set => k_is)
    (case z_sorted => k_is)
    (case z_str => k_is)
    (case z_tuple => k_is)
    (case m_comb => k_is)
    (case c_MOST_COUNTED => k_is)
    (case c_MOST_SIZE => k_is)
    (case c_MOST_TABLED => k_is)
