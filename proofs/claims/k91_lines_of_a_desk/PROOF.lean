import PyProof.Rows.All
import Wide.All
import OpenK.AllK
import Wide.FinOn
import HandS.ForMost
import HandS.ForExc
import HandS.Evl
import HandS.Wide
import HandS.NoneIn
import HandS.TupSets
import HandS.SortOrd
import HandS.SortRule
import HandS.IsInst
import KE.KBits
import HandS.WideBits
import HandS.Dict
import HandS.Iter
import HandS.SortInts
import HandS.WordsDict
import KE.DataMinMax
import HandS.TupAny
import HandS.SortKw
import HandS.Conv
import PyProof.ReprHeadsTuple
import PyProof.ReprRoads
import PyProof.StrHeap
import HandS.Exc
import KE.KExcSuper
import KE.KSuper
import PyProof.FString2
import KE.KExcIs
import HandS.ExcField
import HandS.ExcIs
import HandS.Flow
import HandS.FStr
import HandS.Text
import HandS.Deep
import KE.KDictZip
import KE.KDictWalk
import KE.SortData
import KE.KDictSum
import PyProof.ListNew
import HandS.RevTup
import HandS.Rev
import HandS.SetKeys
import HandS.SetIn
import HandS.DictComp
import HandS.SetFor
import HandS.Strs
import HandS.TupLe
import PyProof.SliceSyntax
import HandS.RepeatKit
import PyProof.TupleOfSeq
import KE.LtData
import HandS.Star
import HandS.CallLocal
import HandS.StrSplit
import HandS.TupLen
import HandS.Defaults
import HandS.StrMore
import HandS.Zip
import KE.GoesMore
import KE.GoesZip
import KE.KDictOf
import KE.KDictCopyH
import HandS.More
import KE.KEqDict
import HandS.RaiseMore
import PySem.Challenge.RW_sparenext_k91_lines_of_a_desk
set_option Elab.async false
set_option maxRecDepth 100000
set_option linter.all false
section
open PySem L2 Evl
namespace BV
inductive D where
  | non | bl (b : Bool) | int (i : Int) | str (x : Str)
  | tup (ds : List D) | lst (ds : List D)
  | dct (ks : List (List Key)) (ds : List D)
  | obj (C : Addr) (ns : List Str) (ds : List D)
  | exc (C : Addr) (ns : List Str) (ds : List D)
  | dki (ks : List Key) (ds : List D)
  | at (q : Addr)
  | tph (is : List Int)
/-- what stands under k -/
def lookK (ks : List Key) (ds : List D) (k : Key) : Option D := ((ks.zip ds).find? fun p => decide (p.1 = k)).map (·.2)
/-- an exception of the class cls, its dict dd, that was caught or not yet raised -/
def ExH (cls : Value) (dd : Option Addr) (a : Addr) : HO := .ext fun h => ∃ (oe : Obj) (vs : Array Value), h.get? a = some oe ∧ Zc cls dd oe ∧ oe.data = .fields vs
/-- its fields -/
def XdAt (H : Hp) (dd : Option Addr) (fs : List (Str × V)) : Prop := (dd = none ∧ fs = []) ∨ ∃ d, dd = some d ∧ H d = some (.xd fs)
/-- the value v stands for the datum d in the heap H -/
inductive Rep (K : PySem.W.Frag) (H : Hp) : V → D → Prop
  | non : Rep K H .non .non
  | bl (b : Bool) : Rep K H (.bl b) (.bl b)
  | int (i : Int) : Rep K H (.int i) (.int i)
  | str (x : Str) : Rep K H (.str x) (.str x)
  | tup {a : Addr} {xs : List V} {ds : List D} (h : SqT K H a xs) (hl : xs.length = ds.length)
      (hr : ∀ (i : Nat) (v : V) (d : D), xs[i]? = some v → ds[i]? = some d → Rep K H v d) : Rep K H (.ref a) (.tup ds)
  | lst {a : Addr} {xs : List V} {ds : List D} (h : SqL K H a xs) (hl : xs.length = ds.length)
      (hr : ∀ (i : Nat) (v : V) (d : D), xs[i]? = some v → ds[i]? = some d → Rep K H v d) : Rep K H (.ref a) (.lst ds)
  | dct {a : Addr} {kvs : List (List Key × V)} {ks : List (List Key)} {ds : List D} (h : Rd H a (.dT kvs)) (hk : kvs.map (·.1) = ks) (hl : (kvs.map (·.2)).length = ds.length)
      (hr : ∀ (i : Nat) (v : V) (d : D), (kvs.map (·.2))[i]? = some v → ds[i]? = some d → Rep K H v d) : Rep K H (.ref a) (.dct ks ds)
  | obj {a C dx : Addr} {fs : List (Str × V)} {ns : List Str} {ds : List D} (h : H a = some (.ins C dx fs)) (hk : fs.map (·.1) = ns) (hl : (fs.map (·.2)).length = ds.length)
      (hr : ∀ (i : Nat) (v : V) (d : D), (fs.map (·.2))[i]? = some v → ds[i]? = some d → Rep K H v d) : Rep K H (.ref a) (.obj C ns ds)
  | exc {a C : Addr} {dd : Option Addr} {fs : List (Str × V)} {ns : List Str} {ds : List D} (h : H a = some (ExH (.ref C) dd a)) (hx : XdAt H dd fs) (hk : fs.map (·.1) = ns) (hl : (fs.map (·.2)).length = ds.length)
      (hr : ∀ (i : Nat) (v : V) (d : D), (fs.map (·.2))[i]? = some v → ds[i]? = some d → Rep K H v d) : Rep K H (.ref a) (.exc C ns ds)
  | dki {a : Addr} {kvs : List (Key × V)} {ks : List Key} {ds : List D} (h : Rd H a (.dK kvs)) (hk : kvs.map (·.1) = ks) (hl : ks.length = ds.length)
      (hr : ∀ (k : Key) (v : V) (d : D), valV kvs k = some v → lookK ks ds k = some d → Rep K H v d) : Rep K H (.ref a) (.dki ks ds)
  | at (q : Addr) : Rep K H (.ref q) (.at q)
  | tph {a : Addr} {is : List Int} (h : H a = some (.tup (is.map V.int))) : Rep K H (.ref a) (.tph is)
/-- place by place -/
def All2 {α β : Type} (R : α → β → Prop) (xs : List α) (ys : List β) : Prop := xs.length = ys.length ∧ ∀ (i : Nat) (x : α) (y : β), xs[i]? = some x → ys[i]? = some y → R x y
section
variable {α β : Type} {R R' : α → β → Prop} {xs xs' : List α} {ys ys' : List β} {x : α} {y : β}
theorem All2.nil : All2 R [] [] := ⟨rfl, fun i x y h => by simp at h⟩
theorem All2.imp (h : All2 R xs ys) (f : ∀ x y, R x y → R' x y) : All2 R' xs ys := ⟨h.1, fun i x y a b => f _ _ (h.2 i x y a b)⟩
theorem All2.cons (h : R x y) (t : All2 R xs ys) : All2 R (x :: xs) (y :: ys) := ⟨by simp [t.1], fun i u v a b => by
  cases i with
  | zero =>
    simp at a b
    subst a
    subst b
    exact h
  | succ i => exact t.2 i u v (by simpa using a) (by simpa using b)⟩
theorem All2.head (h : All2 R (x :: xs) (y :: ys)) : R x y := h.2 0 x y rfl rfl
theorem All2.tail (h : All2 R (x :: xs) (y :: ys)) : All2 R xs ys := ⟨by simpa using h.1, fun i u v a b => h.2 (i + 1) u v (by simpa using a) (by simpa using b)⟩
theorem All2.un_nil (h : All2 R xs []) : xs = [] := List.eq_nil_of_length_eq_zero h.1
theorem All2.un_cons (h : All2 R xs (y :: ys)) : ∃ u us, xs = u :: us ∧ R u y ∧ All2 R us ys := by
  cases xs with
  | nil => exact absurd h.1 (by simp)
  | cons u us => exact ⟨u, us, rfl, h.head, h.tail⟩
theorem All2.snoc (h : All2 R xs ys) (q : R x y) : All2 R (xs ++ [x]) (ys ++ [y]) := ⟨by simp [h.1], fun i u v a b => by
  by_cases hi : i < xs.length
  · rw [List.getElem?_append_left hi] at a
    rw [List.getElem?_append_left (by rw [← h.1]; exact hi)] at b
    exact h.2 i u v a b
  · rw [List.getElem?_append_right (by omega)] at a
    rw [List.getElem?_append_right (by have := h.1; omega)] at b
    have e1 : i - xs.length = 0 := by
      have := (List.getElem?_eq_some_iff.mp a).1
      simp at this
      omega
    have e2 : i - ys.length = 0 := by have := h.1; omega
    rw [e1] at a
    rw [e2] at b
    simp at a b
    subst a
    subst b
    exact q⟩
theorem All2.app (h : All2 R xs ys) (q : All2 R xs' ys') : All2 R (xs ++ xs') (ys ++ ys') := ⟨by simp [h.1, q.1], fun i u v a b => by
  by_cases hi : i < xs.length
  · rw [List.getElem?_append_left hi] at a
    rw [List.getElem?_append_left (by rw [← h.1]; exact hi)] at b
    exact h.2 i u v a b
  · rw [List.getElem?_append_right (by omega)] at a
    rw [List.getElem?_append_right (by have := h.1; omega), ← h.1] at b
    exact q.2 _ u v a b⟩
theorem All2.set (h : All2 R xs ys) (j : Nat) (q : R x y) : All2 R (xs.set j x) (ys.set j y) := ⟨by simp [h.1], fun i u v a b => by
  rw [List.getElem?_set] at a b
  by_cases e : j = i
  · rw [if_pos e] at a b
    by_cases hj : i < xs.length
    · rw [if_pos (by omega)] at a
      rw [if_pos (by have := h.1; omega)] at b
      cases a
      cases b
      exact q
    · rw [if_neg (by omega)] at a
      cases a
  · rw [if_neg e] at a b
    exact h.2 i u v a b⟩
theorem All2.get (h : All2 R xs ys) {i : Nat} (b : ys[i]? = some y) : ∃ x, xs[i]? = some x ∧ R x y := by
  have hi := (List.getElem?_eq_some_iff.mp b).1
  have hj : i < xs.length := by rw [h.1]; exact hi
  exact ⟨xs[i], List.getElem?_eq_getElem hj, h.2 i _ y (List.getElem?_eq_getElem hj) b⟩
theorem All2.getL (h : All2 R xs ys) {i : Nat} (b : xs[i]? = some x) : ∃ y, ys[i]? = some y ∧ R x y := by
  have hi := (List.getElem?_eq_some_iff.mp b).1
  have hj : i < ys.length := by rw [← h.1]; exact hi
  exact ⟨ys[i], List.getElem?_eq_getElem hj, h.2 i x _ b (List.getElem?_eq_getElem hj)⟩
theorem All2.drop (h : All2 R xs ys) (n : Nat) : All2 R (xs.drop n) (ys.drop n) := ⟨by simp [h.1], fun i u v a b => by
  rw [List.getElem?_drop] at a b
  exact h.2 _ u v a b⟩
theorem All2.take (h : All2 R xs ys) (n : Nat) : All2 R (xs.take n) (ys.take n) := ⟨by simp [h.1], fun i u v a b => by
  rw [List.getElem?_take] at a b
  split at a
  · rw [if_pos (by assumption)] at b
    exact h.2 _ u v a b
  · cases a⟩
end
section
variable {K : PySem.W.Frag} {H H' G : Hp} {v : V} {d : D} {xs : List V} {ds : List D}
theorem Rep.mono (r : Rep K H v d) (e : Ex H H') : Rep K H' v d := by
  induction r with
  | non => exact .non
  | bl b => exact .bl b
  | int i => exact .int i
  | str x => exact .str x
  | tup h hl hr ih => exact .tup (ex_t e h) hl ih
  | lst h hl hr ih => exact .lst (ex_l e h) hl ih
  | dct h hk hl hr ih => exact .dct (h.elim (fun z => .inl (e _ _ z)) fun ⟨o, z⟩ => .inr ⟨o, e _ _ z⟩) hk hl ih
  | dki h hk hl hr ih => exact .dki (h.elim (fun z => .inl (e _ _ z)) fun ⟨o, z⟩ => .inr ⟨o, e _ _ z⟩) hk hl ih
  | obj h hk hl hr ih => exact .obj (e _ _ h) hk hl ih
  | exc h hx hk hl hr ih => exact .exc (e _ _ h) (hx.elim .inl fun ⟨d, z1, z2⟩ => .inr ⟨d, z1, e _ _ z2⟩) hk hl ih
  | «at» q => exact .at q
  | tph h => exact .tph (e _ _ h)
abbrev Reps (K : PySem.W.Frag) (H : Hp) : List V → List D → Prop := All2 (Rep K H)
theorem Reps.mono (r : Reps K H xs ds) (e : Ex H H') : Reps K H' xs ds := All2.imp r fun _ _ h => h.mono e
/-- the same things, locked or not -/
theorem Rep.swap (r : Rep K H v d) (hs : ∀ a u, (∀ o t, u ≠ HO.frz o t) → Rd H a u → Rd H' a u) (hi : ∀ a C dx fs, H a = some (.ins C dx fs) → H' a = some (.ins C dx fs)) (he : ∀ a φ, H a = some (.ext φ) → H' a = some (.ext φ)) (hd : ∀ a fs, H a = some (.xd fs) → H' a = some (.xd fs)) (ht : ∀ a vs, H a = some (.tup vs) → H' a = some (.tup vs)) : Rep K H' v d := by
  induction r with
  | non => exact .non
  | bl b => exact .bl b
  | int i => exact .int i
  | str x => exact .str x
  | tup h hl hr ih => exact .tup (h.elim (fun z => .inl (hs _ _ (fun _ _ w => nomatch w) z)) .inr) hl ih
  | lst h hl hr ih => exact .lst (h.elim (fun z => .inl (hs _ _ (fun _ _ w => nomatch w) z)) .inr) hl ih
  | dct h hk hl hr ih => exact .dct (hs _ _ (fun _ _ w => nomatch w) h) hk hl ih
  | dki h hk hl hr ih => exact .dki (hs _ _ (fun _ _ w => nomatch w) h) hk hl ih
  | obj h hk hl hr ih => exact .obj (hi _ _ _ _ h) hk hl ih
  | exc h hx hk hl hr ih => exact .exc (he _ _ h) (hx.elim .inl fun ⟨d, z1, z2⟩ => .inr ⟨d, z1, hd _ _ z2⟩) hk hl ih
  | «at» q => exact .at q
  | tph h => exact .tph (ht _ _ h)
theorem Rep.int_inv {i : Int} (r : Rep K H v (.int i)) : v = .int i := by cases r; rfl
theorem Rep.bl_inv {b : Bool} (r : Rep K H v (.bl b)) : v = .bl b := by cases r; rfl
theorem Rep.str_inv {x : Str} (r : Rep K H v (.str x)) : v = .str x := by cases r; rfl
theorem Rep.non_inv (r : Rep K H v .non) : v = .non := by cases r; rfl
theorem Rep.tup_inv (r : Rep K H v (.tup ds)) : ∃ a xs, v = .ref a ∧ SqT K H a xs ∧ Reps K H xs ds := by
  cases r with
  | tup h hl hr => exact ⟨_, _, rfl, h, hl, hr⟩
theorem Rep.lst_inv (r : Rep K H v (.lst ds)) : ∃ a xs, v = .ref a ∧ SqL K H a xs ∧ Reps K H xs ds := by
  cases r with
  | lst h hl hr => exact ⟨_, _, rfl, h, hl, hr⟩
theorem Rep.dct_inv {ks : List (List Key)} (r : Rep K H v (.dct ks ds)) : ∃ a kvs, v = .ref a ∧ Rd H a (.dT kvs) ∧ kvs.map (·.1) = ks ∧ Reps K H (kvs.map (·.2)) ds := by
  cases r with
  | dct h hk hl hr => exact ⟨_, _, rfl, h, hk, hl, hr⟩
theorem Rep.dki_inv {ks : List Key} (r : Rep K H v (.dki ks ds)) : ∃ a kvs, v = .ref a ∧ Rd H a (.dK kvs) ∧ kvs.map (·.1) = ks ∧ ks.length = ds.length ∧ ∀ (k : Key) (v : V) (d : D), valV kvs k = some v → lookK ks ds k = some d → Rep K H v d := by
  cases r with
  | dki h hk hl hr => exact ⟨_, _, rfl, h, hk, hl, hr⟩
theorem Rep.obj_inv {C : Addr} {ns : List Str} (r : Rep K H v (.obj C ns ds)) : ∃ a dx fs, v = .ref a ∧ H a = some (.ins C dx fs) ∧ fs.map (·.1) = ns ∧ Reps K H (fs.map (·.2)) ds := by
  cases r with
  | obj h hk hl hr => exact ⟨_, _, _, rfl, h, hk, hl, hr⟩
theorem Rep.of_tup {a : Addr} (h : SqT K H a xs) (r : Reps K H xs ds) : Rep K H (.ref a) (.tup ds) := .tup h r.1 r.2
theorem Rep.of_lst {a : Addr} (h : SqL K H a xs) (r : Reps K H xs ds) : Rep K H (.ref a) (.lst ds) := .lst h r.1 r.2
def D.isNon : D → Bool
  | .non => true
  | _ => false
theorem Rep.isNon (r : Rep K H v d) : decide (v = .non) = d.isNon := by
  cases r <;> simp [D.isNon]
open Classical in
/-- the heap without what T tells -/
noncomputable def hid (T : Addr → Prop) (H : Hp) : Hp := fun b => if T b then none else H b
theorem hid_no {T : Addr → Prop} {b : Addr} (h : ¬ T b) : hid T H b = H b := by unfold hid; rw [if_neg h]
theorem hid_yes {T : Addr → Prop} {b : Addr} (h : T b) : hid T H b = none := by unfold hid; rw [if_pos h]
theorem hid_some {T : Addr → Prop} {b : Addr} {o : HO} (h : hid T H b = some o) : ¬ T b ∧ H b = some o := by
  by_cases q : T b
  · rw [hid_yes q] at h; cases h
  · rw [hid_no q] at h; exact ⟨q, h⟩
theorem hid_sub {T : Addr → Prop} : Ex (hid T H) H := fun _ _ h => (hid_some h).2
theorem hid_ext {T : Addr → Prop} (e : Ex H H') : Ex (hid T H) (hid T H') := fun b o h => by
  obtain ⟨h1, h2⟩ := hid_some h
  rw [hid_no h1]
  exact e b o h2
theorem hid_less {T T' : Addr → Prop} (h : ∀ b, T' b → T b) : Ex (hid T H) (hid T' H) := fun b o e => by
  obtain ⟨h1, h2⟩ := hid_some e
  rw [hid_no fun z => h1 (h b z)]
  exact h2
theorem hid_upd {T : Addr → Prop} {p : Addr} {o : HO} (h : T p) : hid T (upd H p o) = hid T H := by
  funext b
  by_cases q : T b
  · rw [hid_yes q, hid_yes q]
  · rw [hid_no q, hid_no q, upd_ne fun (z : b = p) => q (by rw [z]; exact h)]
def Hid (S : Addr → Prop) (ow : Nat → Option Addr) (b : Addr) : Prop := S b ∨ ∃ i, ow i = some b
end
inductive M where
  | lst (ds : List D)
  | dct (ks : List (List Key)) (ds : List D)
  | set (mk : Addr → List (Addr × List Int) → HO) (L : List (List Int))
  | ins (p C : Addr) (ns : List Str) (ds : List D)
  | dk (f : Key → Option D) (n : Nat)
  | dks (ks : List Key) (ds : List D)
inductive Sl where
  | no | sh (d : D) | rd (d : D) | own (m : M) | pr (l : Int) (sl : Sl) | ph (qs : List (Addr × M))
/-- under k the dict tells o -/
def KeyAt (K : PySem.W.Frag) (G : Hp) (kvs : List (Key × V)) (k : Key) (o : Option D) : Prop := (o = none → valV kvs k = none) ∧ ∀ d, o = some d → ∃ v, valV kvs k = some v ∧ Rep K G v d
/-- what stands at p is m, its things in G -/
def MRep (K : PySem.W.Frag) (G H : Hp) (p : Addr) : M → Prop
  | .lst ds => ∃ xs, H p = some (.lst xs) ∧ Reps K G xs ds
  | .dct ks ds => ∃ kvs, H p = some (.dT kvs) ∧ kvs.map (·.1) = ks ∧ Reps K G (kvs.map (·.2)) ds
  | .ins p' C ns ds => p = p' ∧ ∃ dx fs, H p = some (.ins C dx fs) ∧ fs.map (·.1) = ns ∧ Reps K G (fs.map (·.2)) ds
  | .dk f n => ∃ kvs, H p = some (.dK kvs) ∧ kvs.length ≤ n ∧ ∀ k, KeyAt K G kvs k (f k)
  | .dks ks ds => ∃ kvs, H p = some (.dK kvs) ∧ kvs.map (·.1) = ks ∧ Reps K G (kvs.map (·.2)) ds
  | .set mk L => ∃ L', H p = some (mk p L') ∧ (L'.map (·.2)).Perm L ∧ ∀ q, q ∈ L' → SqT K G q.1 (q.2.map V.int)
def SlOk (K : PySem.W.Frag) (H0 : Hp) (S : Addr → Prop) (ow : Nat → Option Addr) (σ : L2.St) (H : Hp) (i : Nat) : Sl → Prop
  | .no => True
  | .sh d => ∃ v, σ[i]? = some (some v) ∧ Rep K (hid (Hid S ow) H) v d
  | .rd d => ∃ v, σ[i]? = some (some v) ∧ Rep K H0 v d
  | .own m => ∃ p, σ[i]? = some (some (.ref p)) ∧ ow i = some p ∧ MRep K (hid (Hid S ow) H) H p m
  | .pr _ _ => True
  | .ph qs => i + 1 = σ.length ∧ (qs.map (·.1)).Nodup ∧ ∀ e, e ∈ qs → (∃ t, ow (σ.length + 2 * t) = some e.1) ∧ MRep K (hid (Hid S ow) H) H e.1 e.2
/-- nothing, or a tuple: what is never hidden -/
inductive Gone : Option HO → Prop
  | none : Gone none
  | tup (vs : List V) : Gone (some (.tup vs))
abbrev Nb (o : Option HO) : Prop := ¬ Gone o
theorem Nb.ne {o : Option HO} (h : Nb o) : o ≠ none := fun z => h (by rw [z]; exact .none)
theorem Nb.ex {A B : Hp} {b : Addr} (h : Nb (A b)) (e : Ex A B) : Nb (B b) := fun z => by
  cases q : A b with
  | none => exact h.ne q
  | some o => rw [e b o q] at z; rw [q] at h; exact h z
structure Good (K : PySem.W.Frag) (H0 : Hp) (S : Addr → Prop) (G : Hp) (ow : Nat → Option Addr) (σ : L2.St) (H : Hp) (ρ : List Sl) : Prop where
  len : σ.length = ρ.length
  ex : Ex H0 H
  sd : ∀ b, S b → Nb (H0 b)
  new : ∀ i p, ow i = some p → H0 p = none
  on : ∀ i p, ow i = some p → Nb (H p)
  inj : ∀ i j p, ow i = some p → ow j = some p → i = j
  kb : Ex G (hid (Hid S ow) H)
  fin : ∃ n, ∀ i, n ≤ i → ow i = none
  at_ : ∀ i sl, ρ[i]? = some sl → SlOk K H0 S ow σ H i sl
section
variable {K : PySem.W.Frag} {H0 H H' G G' : Hp} {S : Addr → Prop} {ow : Nat → Option Addr} {σ : L2.St} {ρ : List Sl} {p : Addr} {m : M} {v : V} {d : D} {i : Nat}
theorem MRep.mono (r : MRep K G H p m) (e : Ex G G') (h : ∀ o, H p = some o → H' p = some o) : MRep K G' H' p m := by
  cases m with
  | lst ds => obtain ⟨xs, a, b⟩ := r; exact ⟨xs, h _ a, b.mono e⟩
  | dct ks ds => obtain ⟨kvs, a, b, c⟩ := r; exact ⟨kvs, h _ a, b, c.mono e⟩
  | ins p' C ns ds => obtain ⟨a0, dx, fs, a, b, c⟩ := r; exact ⟨a0, dx, fs, h _ a, b, c.mono e⟩
  | set mk L => obtain ⟨L', a, b, c⟩ := r; exact ⟨L', h _ a, b, fun q hq => ex_t e (c q hq)⟩
  | dks ks ds => obtain ⟨kvs, a, b, c⟩ := r; exact ⟨kvs, h _ a, b, c.mono e⟩
  | dk f n => obtain ⟨kvs, a, b, c⟩ := r; exact ⟨kvs, h _ a, b, fun k => ⟨(c k).1, fun d hd => by obtain ⟨v, hv, rv⟩ := (c k).2 d hd; exact ⟨v, hv, rv.mono e⟩⟩⟩
theorem Good.ext (g : Good K H0 S G ow σ H ρ) (e : Ex H H') : Good K H0 S G ow σ H' ρ where
  len := g.len
  ex := g.ex.trans e
  sd := g.sd
  new := g.new
  on := fun i p h => (g.on i p h).ex e
  inj := g.inj
  kb := g.kb.trans (hid_ext e)
  fin := g.fin
  at_ := fun i sl h => by
    have q := g.at_ i sl h
    cases sl with
    | no => trivial
    | pr _ _ => trivial
    | sh d => obtain ⟨v, a, b⟩ := q; exact ⟨v, a, b.mono (hid_ext e)⟩
    | rd d => exact q
    | own m => obtain ⟨p, a, b, c⟩ := q; exact ⟨p, a, b, c.mono (hid_ext e) fun o z => e _ _ z⟩
    | ph qs => exact ⟨q.1, q.2.1, fun e' he => ⟨(q.2.2 e' he).1, (q.2.2 e' he).2.mono (hid_ext e) fun o z => e _ _ z⟩⟩
/-- what is new is not hidden -/
theorem Good.fresh (g : Good K H0 S G ow σ H ρ) (h : H p = none) : ¬ Hid S ow p := fun z => by
  rcases z with z | ⟨i, z⟩
  · cases q : H0 p with
    | none => exact (g.sd p z).ne q
    | some o => rw [g.ex p o q] at h; cases h
  · exact (g.on i p z).ne h
theorem Good.kbase (g : Good K H0 S G ow σ H ρ) (e : Ex G' G) : Good K H0 S G' ow σ H ρ := { g with kb := e.trans g.kb }
/-- with a base that knows all that may be shared -/
theorem Good.based (g : Good K H0 S G ow σ H ρ) : Good K H0 S (hid (Hid S ow) H) ow σ H ρ := { g with kb := Ex.refl _ }
def clr (ow : Nat → Option Addr) (i : Nat) : Nat → Option Addr := fun j => if j = i then none else ow j
def pt (ow : Nat → Option Addr) (i : Nat) (p : Addr) : Nat → Option Addr := fun j => if j = i then some p else ow j
theorem clr_some {j : Nat} (h : clr ow i j = some p) : j ≠ i ∧ ow j = some p := by
  unfold clr at h
  split at h
  · cases h
  · exact ⟨by assumption, h⟩
theorem Hid_clr {b : Addr} (h : Hid S (clr ow i) b) : Hid S ow b := by
  rcases h with h | ⟨j, h⟩
  · exact .inl h
  · exact .inr ⟨j, (clr_some h).2⟩
/-- a slot forgotten or given a shared or read thing -/
def clrL (ρ : List Sl) (ow : Nat → Option Addr) (i : Nat) : Nat → Option Addr := if i < ρ.length then clr ow i else ow
theorem Good.putC (g : Good K H0 S G ow σ H ρ) (i : Nat) (hq : i < ρ.length ∨ ∃ t, i = ρ.length + 2 * t + 1) (x : Option V) (sl : Sl) (h : SlOk K H0 S (clr ow i) (σ.set i x) H i sl ∨ ρ.length ≤ i) : Good K H0 S G (clr ow i) (σ.set i x) H (ρ.set i sl) where
  len := by rw [List.length_set, List.length_set]; exact g.len
  ex := g.ex
  sd := g.sd
  new := fun j p h => g.new j p (clr_some h).2
  on := fun j p h => g.on j p (clr_some h).2
  inj := fun j k p a b => g.inj j k p (clr_some a).2 (clr_some b).2
  kb := g.kb.trans (hid_less fun _ => Hid_clr)
  fin := by
    obtain ⟨n, h⟩ := g.fin
    exact ⟨n, fun j hj => by
      unfold clr
      split
      · rfl
      · exact h j hj⟩
  at_ := fun j s' e => by
    by_cases hj : i = j
    · subst hj
      have hlt : i < ρ.length := by
        have q := (List.getElem?_eq_some_iff.mp e).1
        rw [List.length_set] at q
        exact q
      rw [List.getElem?_set_self hlt] at e
      cases e
      exact h.resolve_right (by omega)
    · rw [List.getElem?_set_ne hj] at e
      have q := g.at_ j s' e
      have es : (σ.set i x)[j]? = σ[j]? := List.getElem?_set_ne hj
      cases s' with
      | no => trivial
      | pr _ _ => trivial
      | sh d => obtain ⟨v, a, b⟩ := q; exact ⟨v, by rw [es]; exact a, b.mono (hid_less fun _ => Hid_clr)⟩
      | rd d => obtain ⟨v, a, b⟩ := q; exact ⟨v, by rw [es]; exact a, b⟩
      | own m =>
        obtain ⟨p, a, b, c⟩ := q
        exact ⟨p, by rw [es]; exact a, by unfold clr; rw [if_neg (Ne.symm hj)]; exact b, c.mono (hid_less fun _ => Hid_clr) fun _ z => z⟩
      | ph qs =>
        obtain ⟨q1, q2, q3⟩ := q
        refine ⟨by rw [List.length_set]; exact q1, q2, fun e' he => ?_⟩
        obtain ⟨⟨t, ht⟩, c⟩ := q3 e' he
        have gl := g.len
        exact ⟨⟨t, by rw [List.length_set]; unfold clr; rw [if_neg (by rcases hq with hq | ⟨t', hq⟩ <;> omega)]; exact ht⟩, c.mono (hid_less fun _ => Hid_clr) fun _ z => z⟩
theorem clrL_lt (h : i < ρ.length) : clrL ρ ow i = clr ow i := if_pos h
theorem Good.put (g : Good K H0 S G ow σ H ρ) (i : Nat) (x : Option V) (sl : Sl) (h : SlOk K H0 S (clr ow i) (σ.set i x) H i sl ∨ ρ.length ≤ i) : Good K H0 S G (clrL ρ ow i) (σ.set i x) H (ρ.set i sl) := by
  by_cases hlt : i < ρ.length
  · rw [clrL_lt hlt]
    exact g.putC i (.inl hlt) x sl h
  · unfold clrL
    rw [if_neg hlt, List.set_eq_of_length_le (by rw [g.len]; omega), List.set_eq_of_length_le (by omega)]
    exact g
theorem Good.putSh (g : Good K H0 S G ow σ H ρ) (i : Nat) (r : Rep K (hid (Hid S ow) H) v d) : Good K H0 S G (clrL ρ ow i) (σ.set i (some v)) H (ρ.set i (.sh d)) := by
  refine g.put i (some v) (.sh d) ?_
  by_cases hi : i < ρ.length
  · exact .inl ⟨v, List.getElem?_set_self (by rw [g.len]; exact hi), r.mono (hid_less fun _ => Hid_clr)⟩
  · exact .inr (by omega)
/-- an owned thing written -/
theorem Good.write (g : Good K H0 S G ow σ H ρ) (hi : ow i = some p) (o : HO) (m : M) (h : MRep K (hid (Hid S ow) H) (upd H p o) p m) (hp : ρ[i]? ≠ none → σ[i]? = some (some (.ref p))) (hw : i < ρ.length ∨ ∃ t, i = ρ.length + 2 * t + 1) (nt : Nb (some o) := by exact fun z => nomatch z) : Good K H0 S G ow σ (upd H p o) (ρ.set i (.own m)) where
  len := by rw [List.length_set]; exact g.len
  ex := g.ex.mut (g.new i p hi)
  sd := g.sd
  new := g.new
  on := fun j q a b => by
    by_cases e : q = p
    · rw [e, upd_same] at b; exact nt b
    · rw [upd_ne e] at b; exact g.on j q a b
  inj := g.inj
  kb := by rw [hid_upd (.inr ⟨i, hi⟩)]; exact g.kb
  fin := g.fin
  at_ := fun j s' e => by
    have eh : hid (Hid S ow) (upd H p o) = hid (Hid S ow) H := hid_upd (.inr ⟨i, hi⟩)
    by_cases hj : i = j
    · subst hj
      have hlt : i < ρ.length := by
        have q := (List.getElem?_eq_some_iff.mp e).1
        rw [List.length_set] at q
        exact q
      rw [List.getElem?_set_self hlt] at e
      cases e
      refine ⟨p, hp (by rw [List.getElem?_eq_getElem hlt]; simp), hi, ?_⟩
      rw [eh]
      exact h
    · rw [List.getElem?_set_ne hj] at e
      have q := g.at_ j s' e
      cases s' with
      | no => trivial
      | pr _ _ => trivial
      | sh d => obtain ⟨v, a, b⟩ := q; exact ⟨v, a, by rw [eh]; exact b⟩
      | rd d => exact q
      | own m' =>
        obtain ⟨p', a, b, c⟩ := q
        have hne : p' ≠ p := fun z => hj (g.inj i j p hi (z ▸ b))
        refine ⟨p', a, b, ?_⟩
        rw [eh]
        exact c.mono (Ex.refl _) fun o' z => by rw [upd_ne hne]; exact z
      | ph qs =>
        obtain ⟨q1, q2, q3⟩ := q
        refine ⟨q1, q2, fun e' he => ?_⟩
        obtain ⟨⟨t, ht⟩, c⟩ := q3 e' he
        have gl := g.len
        have hne : e'.1 ≠ p := fun z => by
          have := g.inj i (σ.length + 2 * t) p hi (z ▸ ht)
          rcases hw with hw | ⟨t', hw⟩ <;> omega
        refine ⟨⟨t, ht⟩, ?_⟩
        rw [eh]
        exact c.mono (Ex.refl _) fun o' z => by rw [upd_ne hne]; exact z
/-- a new thing comes to be owned -/
theorem Good.take (g : Good K H0 S G ow σ H ρ) (i : Nat) (hlt : i < ρ.length) (hn : H p = none) (e : Ex H H') (hp : Nb (H' p)) (h : MRep K (hid (Hid S (pt ow i p)) H') H' p m) : Good K H0 S G (pt ow i p) (σ.set i (some (.ref p))) H' (ρ.set i (.own m)) := by
  have g' := g.ext e
  have np : ∀ j, ow j ≠ some p := fun j z => (g.on j p z).ne hn
  have h0 : H0 p = none := by
    cases q : H0 p with
    | none => rfl
    | some o => rw [g.ex p o q] at hn; cases hn
  have pe : ∀ {j q}, pt ow i p j = some q → (j = i ∧ q = p) ∨ (j ≠ i ∧ ow j = some q) := fun {j q} z => by
    unfold pt at z
    split at z
    · cases z; exact .inl ⟨by assumption, rfl⟩
    · exact .inr ⟨by assumption, z⟩
  -- what was told ahead is told still: it lay in H, p didn't
  have ge : Ex (hid (Hid S ow) H) (hid (Hid S (pt ow i p)) H') := fun b o z => by
    obtain ⟨z1, z2⟩ := hid_some z
    have hb : b ≠ p := fun w => by rw [w, hn] at z2; cases z2
    rw [hid_no]
    · exact e b o z2
    · intro w
      rcases w with w | ⟨j, w⟩
      · exact z1 (.inl w)
      · rcases pe w with ⟨_, w⟩ | ⟨_, w⟩
        · exact hb w
        · exact z1 (.inr ⟨j, w⟩)
  exact {
    len := by rw [List.length_set, List.length_set]; exact g.len
    ex := g'.ex
    sd := g.sd
    new := fun j q z => by
      rcases pe z with ⟨_, w⟩ | ⟨_, w⟩
      · rw [w]; exact h0
      · exact g.new j q w
    on := fun j q z => by
      rcases pe z with ⟨_, w⟩ | ⟨_, w⟩
      · rw [w]; exact hp
      · exact g'.on j q w
    inj := fun j k q a b => by
      rcases pe a with ⟨a1, a2⟩ | ⟨a1, a2⟩ <;> rcases pe b with ⟨b1, b2⟩ | ⟨b1, b2⟩
      · rw [a1, b1]
      · rw [a2] at b2; exact absurd b2 (np k)
      · rw [b2] at a2; exact absurd a2 (np j)
      · exact g.inj j k q a2 b2
    kb := g.kb.trans ge
    fin := by
      obtain ⟨n, h⟩ := g.fin
      exact ⟨max n (i + 1), fun j hj => by
        unfold pt
        rw [if_neg (by omega)]
        exact h j (by omega)⟩
    at_ := fun j s' q => by
      by_cases hj : i = j
      · subst hj
        rw [List.getElem?_set_self hlt] at q
        cases q
        exact ⟨p, List.getElem?_set_self (by rw [g.len]; exact hlt), by unfold pt; rw [if_pos rfl], h⟩
      · rw [List.getElem?_set_ne hj] at q
        have z := g.at_ j s' q
        have es : (σ.set i (some (V.ref p)))[j]? = σ[j]? := List.getElem?_set_ne hj
        cases s' with
        | no => trivial
        | pr _ _ => trivial
        | sh d => obtain ⟨v, a, b⟩ := z; exact ⟨v, by rw [es]; exact a, b.mono ge⟩
        | rd d => obtain ⟨v, a, b⟩ := z; exact ⟨v, by rw [es]; exact a, b⟩
        | own m' =>
          obtain ⟨p', a, b, c⟩ := z
          exact ⟨p', by rw [es]; exact a, by unfold pt; rw [if_neg (Ne.symm hj)]; exact b, c.mono ge fun o w => e _ _ w⟩
        | ph qs =>
          obtain ⟨q1, q2, q3⟩ := z
          refine ⟨by rw [List.length_set]; exact q1, q2, fun e' he => ?_⟩
          obtain ⟨⟨t, ht⟩, c⟩ := q3 e' he
          have gl := g.len
          exact ⟨⟨t, by rw [List.length_set]; unfold pt; rw [if_neg (by omega)]; exact ht⟩, c.mono ge fun o w => e _ _ w⟩ }
/-- a slot that owns nothing is given another thing, what is owned stays so -/
theorem Good.putK (g : Good K H0 S G ow σ H ρ) (i : Nat) (x : Option V) (sl : Sl) (h : SlOk K H0 S ow (σ.set i x) H i sl ∨ ρ.length ≤ i) : Good K H0 S G ow (σ.set i x) H (ρ.set i sl) where
  len := by rw [List.length_set, List.length_set]; exact g.len
  ex := g.ex
  sd := g.sd
  new := g.new
  on := g.on
  inj := g.inj
  kb := g.kb
  fin := g.fin
  at_ := fun j s' e => by
    by_cases hj : i = j
    · subst hj
      have hlt : i < ρ.length := by
        have q := (List.getElem?_eq_some_iff.mp e).1
        rw [List.length_set] at q
        exact q
      rw [List.getElem?_set_self hlt] at e
      cases e
      exact h.resolve_right (by omega)
    · rw [List.getElem?_set_ne hj] at e
      have q := g.at_ j s' e
      have es : (σ.set i x)[j]? = σ[j]? := List.getElem?_set_ne hj
      cases s' with
      | no => trivial
      | pr _ _ => trivial
      | sh d => obtain ⟨v, a, b⟩ := q; exact ⟨v, by rw [es]; exact a, b⟩
      | rd d => obtain ⟨v, a, b⟩ := q; exact ⟨v, by rw [es]; exact a, b⟩
      | own m => obtain ⟨p, a, b, c⟩ := q; exact ⟨p, by rw [es]; exact a, b, c⟩
      | ph qs => exact ⟨by rw [List.length_set]; exact q.1, q.2.1, fun e' he => by rw [List.length_set]; exact q.2.2 e' he⟩
/-- a value that fits a slot's word -/
def SlV (K : PySem.W.Frag) (H0 T : Hp) (v : V) : Sl → Prop
  | .no => True
  | .sh d => Rep K T v d
  | .rd d => Rep K H0 v d
  | .own _ => False
  | .ph _ => False
  | .pr l sl => ∃ (a : Addr) (u : V), v = .ref a ∧ SqT K T a [.int l, u] ∧ SlV K H0 T u sl
theorem SlV.mono {K : PySem.W.Frag} {H0 : Hp} : ∀ {sl : Sl} {v : V} {T T' : Hp}, SlV K H0 T v sl → Ex T T' → SlV K H0 T' v sl
  | .no, _, _, _, _, _ => trivial
  | .sh d, _, _, _, h, e => Rep.mono h e
  | .rd d, _, _, _, h, _ => h
  | .own m, _, _, _, h, _ => h.elim
  | .ph _, _, _, _, h, _ => h.elim
  | .pr l sl, _, _, _, h, e => by
    obtain ⟨a, u, e1, h1, h2⟩ := h
    exact ⟨a, u, e1, ex_t e h1, SlV.mono h2 e⟩
theorem Good.putV (g : Good K H0 S G ow σ H ρ) (i : Nat) {sl : Sl} (h : SlV K H0 (hid (Hid S ow) H) v sl) : Good K H0 S G ow (σ.set i (some v)) H (ρ.set i sl) := by
  refine g.putK i (some v) sl ?_
  by_cases hi : i < ρ.length
  · have es : (σ.set i (some v))[i]? = some (some v) := List.getElem?_set_self (by rw [g.len]; exact hi)
    cases sl with
    | no => exact .inl trivial
    | pr _ _ => exact .inl trivial
    | sh d => exact .inl ⟨v, es, h⟩
    | rd d => exact .inl ⟨v, es, h⟩
    | own m => exact h.elim
    | ph _ => exact h.elim
  · exact .inr (by omega)
/-- the slots of vs forgotten -/
def wipeS (ρ : List Sl) : List Nat → List Sl
  | [] => ρ
  | v :: vs => (wipeS ρ vs).set v .no
theorem Good.wipe (g : Good K H0 S G ow σ H ρ) : ∀ vs : List Nat, Good K H0 S G ow (L2.wipe σ vs) H (wipeS ρ vs)
  | [] => g
  | v :: vs => (Good.wipe g vs).putK v none .no (.inl trivial)
/-- a new thing hidden for a while -/
theorem Good.hide (g : Good K H0 S G ow σ H ρ) (hn : H p = none) (e : Ex H H') (hp : Nb (H' p)) : ∃ (ow' : Nat → Option Addr) (k : Nat), Good K H0 S G ow' σ H' ρ ∧ (∀ b, Hid S ow' b ↔ (Hid S ow b ∨ b = p)) ∧ ow' k = some p ∧ ρ.length ≤ k ∧ ∃ t, k = ρ.length + 2 * t + 1 := by
  obtain ⟨n, hf⟩ := g.fin
  have g' := g.ext e
  have np : ∀ j, ow j ≠ some p := fun j z => (g.on j p z).ne hn
  have h0 : H0 p = none := by
    cases q : H0 p with
    | none => rfl
    | some o => rw [g.ex p o q] at hn; cases hn
  have pe : ∀ {j q}, pt ow ((ρ.length + 2 * n + 1)) p j = some q → (j = (ρ.length + 2 * n + 1) ∧ q = p) ∨ (j ≠ (ρ.length + 2 * n + 1) ∧ ow j = some q) := fun {j q} z => by
    unfold pt at z
    split at z
    · cases z; exact .inl ⟨by assumption, rfl⟩
    · exact .inr ⟨by assumption, z⟩
  have hh : ∀ b, Hid S (pt ow ((ρ.length + 2 * n + 1)) p) b ↔ (Hid S ow b ∨ b = p) := fun b => by
    constructor
    · intro w
      rcases w with w | ⟨j, w⟩
      · exact .inl (.inl w)
      · rcases pe w with ⟨_, w⟩ | ⟨_, w⟩
        · exact .inr w
        · exact .inl (.inr ⟨j, w⟩)
    · intro w
      rcases w with (w | ⟨j, w⟩) | w
      · exact .inl w
      · have hj : j ≠ (ρ.length + 2 * n + 1) := fun z => by
          rw [z, hf _ (by omega)] at w
          cases w
        exact .inr ⟨j, by unfold pt; rw [if_neg hj]; exact w⟩
      · exact .inr ⟨(ρ.length + 2 * n + 1), by unfold pt; rw [if_pos rfl, w]⟩
  have ge : Ex (hid (Hid S ow) H) (hid (Hid S (pt ow ((ρ.length + 2 * n + 1)) p)) H') := fun b o z => by
    obtain ⟨z1, z2⟩ := hid_some z
    have hb : b ≠ p := fun w => by rw [w, hn] at z2; cases z2
    rw [hid_no fun w => ((hh b).1 w).elim z1 hb]
    exact e b o z2
  refine ⟨_, (ρ.length + 2 * n + 1), { len := g.len, ex := g'.ex, sd := g.sd, new := fun j q z => ?_, on := fun j q z => ?_, inj := fun j k q a b => ?_, kb := g.kb.trans ge, fin := ⟨(ρ.length + 2 * n + 1) + 1, fun j hj => ?_⟩, at_ := fun j s' q => ?_ }, hh, by unfold pt; rw [if_pos rfl], by omega, n, rfl⟩
  · rcases pe z with ⟨_, w⟩ | ⟨_, w⟩
    · rw [w]; exact h0
    · exact g.new j q w
  · rcases pe z with ⟨_, w⟩ | ⟨_, w⟩
    · rw [w]; exact hp
    · exact g'.on j q w
  · rcases pe a with ⟨a1, a2⟩ | ⟨a1, a2⟩ <;> rcases pe b with ⟨b1, b2⟩ | ⟨b1, b2⟩
    · rw [a1, b1]
    · rw [a2] at b2; exact absurd b2 (np k)
    · rw [b2] at a2; exact absurd a2 (np j)
    · exact g.inj j k q a2 b2
  · unfold pt
    rw [if_neg (by omega)]
    exact hf j (by omega)
  · have z := g.at_ j s' q
    have hj : j ≠ (ρ.length + 2 * n + 1) := by
      have := (List.getElem?_eq_some_iff.mp q).1
      omega
    cases s' with
    | no => trivial
    | pr _ _ => trivial
    | sh d => obtain ⟨v, a, b⟩ := z; exact ⟨v, a, b.mono ge⟩
    | rd d => exact z
    | own m' =>
      obtain ⟨p', a, b, c⟩ := z
      exact ⟨p', a, by unfold pt; rw [if_neg hj]; exact b, c.mono ge fun o w => e _ _ w⟩
    | ph qs =>
      obtain ⟨q1, q2, q3⟩ := z
      refine ⟨q1, q2, fun e' he => ?_⟩
      obtain ⟨⟨t, ht⟩, c⟩ := q3 e' he
      have gl := g.len
      exact ⟨⟨t, by unfold pt; rw [if_neg (by omega)]; exact ht⟩, c.mono ge fun o w => e _ _ w⟩
/-- an owned list is shared from now on -/
theorem Good.share (g : Good K H0 S G ow σ H ρ) {ds : List D} (hi : ρ[i]? = some (.own (.lst ds))) : Good K H0 S G (clr ow i) σ H (ρ.set i (.sh (.lst ds))) := by
  obtain ⟨p, a, b, xs, c, r⟩ := g.at_ i _ hi
  have hlt := (List.getElem?_eq_some_iff.mp hi).1
  have np : ¬ Hid S (clr ow i) p := fun z => by
    rcases z with z | ⟨j, z⟩
    · exact (g.sd p z).ne (g.new i p b)
    · obtain ⟨z1, z2⟩ := clr_some z
      exact z1 (g.inj j i p z2 b)
  have q := g.put i (some (V.ref p)) (.sh (.lst ds)) (.inl ⟨.ref p, List.getElem?_set_self (by rw [g.len]; exact hlt), .of_lst (sq_of (by rw [hid_no np]; exact c)) (r.mono (hid_less fun _ => Hid_clr))⟩)
  have es : σ.set i (some (V.ref p)) = σ := by
    have hs : i < σ.length := by rw [g.len]; exact hlt
    rw [List.getElem?_eq_getElem hs] at a
    rw [← Option.some.inj a]
    exact List.set_getElem_self hs
  rw [es, clrL_lt hlt] at q
  exact q
end
end BV
end
section
open PySem L2 Evl
namespace BV
section
variable (K : PySem.W.Frag)
def ED (te : TE) (ρ : List Sl) (d : D) : Prop := ∀ H0 S G ow σ H, Good K H0 S G ow σ H ρ → ∀ Q : VK, (∀ v H', Ex H H' → Rep K (hid (Hid S ow) H') v d → Q v H') → te σ H Q
/-- to be read alone -/
def ER (te : TE) (ρ : List Sl) (d : D) : Prop := ∀ H0 S G ow σ H, Good K H0 S G ow σ H ρ → ∀ Q : VK, (∀ v H', Ex H H' → Rep K H' v d → Q v H') → te σ H Q
/-- a new thing that nothing else knows -/
def EO (te : TE) (ρ : List Sl) (m : M) : Prop := ∀ H0 S G ow σ H, Good K H0 S G ow σ H ρ → ∀ Q : VK, (∀ p H', H p = none → Ex H H' → Nb (H' p) → MRep K (hid (fun b => Hid S ow b ∨ b = p) H') H' p m → Q (.ref p) H') → te σ H Q
def ET (tt : TT) (ρ : List Sl) (b : Bool) : Prop := ∀ H0 S G ow σ H, Good K H0 S G ow σ H ρ → ∀ Q : Bool → Hp → Prop, (∀ H', Ex H H' → Q b H') → tt σ H Q
def Arg (T H : Hp) (v : V) (a : Bool × D) : Prop := if a.1 = true then Rep K T v a.2 else Rep K H v a.2
abbrev Args (T H : Hp) : List V → List (Bool × D) → Prop := All2 (Arg K T H)
def EA (ta : TA) (ρ : List Sl) (as : List (Bool × D)) : Prop := ∀ H0 S G ow σ H, Good K H0 S G ow σ H ρ → ∀ Q : List V → Hp → Prop, (∀ vs H', Ex H H' → Args K (hid (Hid S ow) H') H' vs as → Q vs H') → ta σ H Q
/-- all shared -/
def EB (ta : TA) (ρ : List Sl) (ds : List D) : Prop := ∀ H0 S G ow σ H, Good K H0 S G ow σ H ρ → ∀ Q : List V → Hp → Prop, (∀ vs H', Ex H H' → Reps K (hid (Hid S ow) H') vs ds → Q vs H') → ta σ H Q
end
section
variable {K : PySem.W.Frag} {ρ : List Sl} {te ta tb tc : TE} {tt t u : TT} {tx ty : TA} {d d' x y : D} {ds : List D} {i j k : Int} {r r' : R2} {n : Nat} {m : M}
theorem Arg.mono {T T' H H' : Hp} {v : V} {a : Bool × D} (h : Arg K T H v a) (e : Ex T T') (e' : Ex H H') : Arg K T' H' v a := by
  unfold Arg at h ⊢
  split
  · rw [if_pos (by assumption)] at h; exact h.mono e
  · rw [if_neg (by assumption)] at h; exact h.mono e'
theorem ed_er (h : ED K te ρ d) : ER K te ρ d := fun H0 S G ow σ H g Q q => h H0 S G ow σ H g Q fun v H' e r => q v H' e (r.mono hid_sub)
theorem er_int (h : ER K te ρ (.int i)) : ED K te ρ (.int i) := fun H0 S G ow σ H g Q q => h H0 S G ow σ H g Q fun v H' e r => q v H' e (by rw [r.int_inv]; exact .int i)
theorem ed_is (h : ED K te ρ d) (e : d = d') : ED K te ρ d' := e ▸ h
theorem et_is {b c : Bool} (h : ET K tt ρ b) (e : b = c) : ET K tt ρ c := e ▸ h
theorem eo_is {m' : M} (h : EO K te ρ m) (e : m = m') : EO K te ρ m' := e ▸ h
theorem ed_var (h : ρ[n]? = some (.sh d)) : ED K (tVar n) ρ d := fun H0 S G ow σ H g Q q => by
  obtain ⟨v, a, b⟩ := g.at_ n _ h
  exact ⟨v, a, q v H (Ex.refl H) b⟩
theorem er_rd (h : ρ[n]? = some (.rd d)) : ER K (tVar n) ρ d := fun H0 S G ow σ H g Q q => by
  obtain ⟨v, a, b⟩ := g.at_ n _ h
  exact ⟨v, a, q v H (Ex.refl H) (b.mono g.ex)⟩
theorem er_own (h : ρ[n]? = some (.own (.lst ds))) : ER K (tVar n) ρ (.lst ds) := fun H0 S G ow σ H g Q q => by
  obtain ⟨p, a, b, xs, c, r⟩ := g.at_ n _ h
  exact ⟨.ref p, a, q _ H (Ex.refl H) (.of_lst (sq_of c) (r.mono hid_sub))⟩
theorem ed_int : ED K (tC (.int i)) ρ (.int i) := fun _ _ _ _ _ H _ _ q => q _ H (Ex.refl H) (.int i)
theorem ed_bl {b : Bool} : ED K (tC (.bl b)) ρ (.bl b) := fun _ _ _ _ _ H _ _ q => q _ H (Ex.refl H) (.bl b)
theorem ed_str {x : Str} : ED K (tC (.str x)) ρ (.str x) := fun _ _ _ _ _ H _ _ q => q _ H (Ex.refl H) (.str x)
theorem ed_non : ED K (tC .non) ρ .non := fun _ _ _ _ _ H _ _ q => q _ H (Ex.refl H) .non
theorem ed_ii {z : V} (ha : ED K ta ρ (.int i)) (hb : ED K tb ρ (.int j)) (hz : ∀ H, Rep K H z d) (hr : ∀ (H : Hp) (Q : VK), Q z H → r (.int i) (.int j) H Q) : ED K (tOp r ta tb) ρ d := fun H0 S G ow σ H g Q q =>
  ha H0 S G ow σ H g _ fun v H1 e1 r1 => hb H0 S G ow σ H1 (g.ext e1) _ fun u H2 e2 r2 => by
    rw [r1.int_inv, r2.int_inv]
    exact hr H2 Q (q z H2 (e1.trans e2) (hz _))
theorem ed_i0 {g : Int → Int → Int} (ha : ED K ta ρ (.int i)) (hb : ED K tb ρ (.int j)) : ED K (tOp (rI0 fun i j => .int (g i j)) ta tb) ρ (.int (g i j)) := ed_ii ha hb (fun _ => .int _) fun _ _ q => ⟨i, j, rfl, rfl, q⟩
theorem ed_iC {C : Int → Int → Prop} {g : Int → Int → Int} (ha : ED K ta ρ (.int i)) (hb : ED K tb ρ (.int j)) (hc : C i j) : ED K (tOp (rI C fun i j => .int (g i j)) ta tb) ρ (.int (g i j)) := ed_ii ha hb (fun _ => .int _) fun _ _ q => ⟨i, j, rfl, rfl, hc, q⟩
theorem ed_b0 {g : Int → Int → Bool} (ha : ED K ta ρ (.int i)) (hb : ED K tb ρ (.int j)) : ED K (tOp (rI0 fun i j => .bl (g i j)) ta tb) ρ (.bl (g i j)) := ed_ii ha hb (fun _ => .bl _) fun _ _ q => ⟨i, j, rfl, rfl, q⟩
theorem ed_eqI (ha : ED K ta ρ (.int i)) (hb : ED K tb ρ (.int j)) : ED K (tOp rEq ta tb) ρ (.bl (decide (i = j))) := ed_ii (z := .bl (decide (i = j))) ha hb (fun _ => .bl _) fun _ _ q => ⟨rfl, by
  rw [show decide (V.int i = V.int j) = decide (i = j) by rw [dec_int]; exact (Bool.beq_eq_decide_eq i j)]
  exact q⟩
theorem ed_neI (ha : ED K ta ρ (.int i)) (hb : ED K tb ρ (.int j)) : ED K (tOp rNe ta tb) ρ (.bl (!decide (i = j))) := ed_ii (z := .bl (!decide (i = j))) ha hb (fun _ => .bl _) fun _ _ q => ⟨rfl, by
  rw [show decide (V.int i = V.int j) = decide (i = j) by rw [dec_int]; exact (Bool.beq_eq_decide_eq i j)]
  exact q⟩
theorem ed_neg (ha : ED K ta ρ (.int i)) : ED K (tUn (rU fun i => .int (-i)) ta) ρ (.int (-i)) := fun H0 S G ow σ H g Q q =>
  ha H0 S G ow σ H g _ fun v H1 e1 r1 => ⟨i, r1.int_inv, q _ H1 e1 (.int _)⟩
theorem ed_chain {g g' : Int → Int → Bool} (ha : ED K ta ρ (.int i)) (hb : ED K tb ρ (.int j)) (hc : ED K tc ρ (.int k)) : ED K (tChain (rI0 fun i j => .bl (g i j)) (rI0 fun i j => .bl (g' i j)) ta tb tc) ρ (.bl (g i j && g' j k)) := fun H0 S G ow σ H gd Q q =>
  ha H0 S G ow σ H gd _ fun v H1 e1 r1 => hb H0 S G ow σ H1 (gd.ext e1) _ fun u H2 e2 r2 => by
    rw [r1.int_inv, r2.int_inv]
    refine ⟨i, j, rfl, rfl, g i j, rfl, ?_⟩
    cases hg : g i j with
    | true =>
      rw [if_pos rfl]
      refine hc H0 S G ow σ H2 (gd.ext (e1.trans e2)) _ fun w H3 e3 r3 => ?_
      rw [r3.int_inv]
      refine ⟨j, k, rfl, rfl, ?_⟩
      have q' := q (.bl (g' j k)) H3 ((e1.trans e2).trans e3) (by rw [hg]; exact .bl _)
      exact q'
    | false =>
      rw [if_neg Bool.false_ne_true]
      exact q (.bl false) H2 (e1.trans e2) (by rw [hg]; exact .bl _)
theorem et_test {b : Bool} (h : ED K te ρ (.bl b)) : ET K (tTest te) ρ b := fun H0 S G ow σ H g _ q => h H0 S G ow σ H g _ fun _ H1 e1 r1 => ⟨b, r1.bl_inv, q H1 e1⟩
theorem et_B {b : Bool} (h : ED K te ρ (.bl b)) : ET K (tB te) ρ b := fun H0 S G ow σ H g _ q => h H0 S G ow σ H g _ fun _ H1 e1 r1 => ⟨b, r1.bl_inv, q H1 e1⟩
theorem et_yes : ET K tYes ρ true := fun _ _ _ _ _ H _ _ q => q H (Ex.refl H)
theorem ed_isN (h : ER K te ρ d) : ED K (tIsN te) ρ (.bl d.isNon) := fun H0 S G ow σ H g Q q => h H0 S G ow σ H g _ fun v H1 e1 r1 => by
  rw [r1.isNon]
  exact q _ H1 e1 (.bl _)
theorem ed_notN (h : ER K te ρ d) : ED K (tNotN te) ρ (.bl (!d.isNon)) := fun H0 S G ow σ H g Q q => h H0 S G ow σ H g _ fun v H1 e1 r1 => by
  rw [r1.isNon]
  exact q _ H1 e1 (.bl _)
theorem et_and {a b : Bool} (h1 : ET K t ρ a) (h2 : a = true → ET K u ρ b) : ET K (tAnd t u) ρ (a && b) := fun H0 S G ow σ H g Q q => h1 H0 S G ow σ H g _ fun H1 e1 => by
  cases a with
  | true =>
    rw [if_pos rfl]
    exact h2 rfl H0 S G ow σ H1 (g.ext e1) Q fun H2 e2 => q H2 (e1.trans e2)
  | false =>
    rw [if_neg Bool.false_ne_true]
    exact q H1 e1
theorem et_or {a b : Bool} (h1 : ET K t ρ a) (h2 : a = false → ET K u ρ b) : ET K (tOr t u) ρ (a || b) := fun H0 S G ow σ H g Q q => h1 H0 S G ow σ H g _ fun H1 e1 => by
  cases a with
  | true =>
    rw [if_pos rfl]
    exact q H1 e1
  | false =>
    rw [if_neg Bool.false_ne_true]
    exact h2 rfl H0 S G ow σ H1 (g.ext e1) Q fun H2 e2 => q H2 (e1.trans e2)
theorem et_not {a : Bool} (h1 : ET K t ρ a) : ET K (tNot t) ρ (!a) := fun H0 S G ow σ H g _ q => h1 H0 S G ow σ H g _ fun H1 e1 => q H1 e1
theorem ed_andV {a b : Bool} (h1 : ED K ta ρ (.bl a)) (h2 : a = true → ED K tb ρ (.bl b)) : ED K (tAndV ta tb) ρ (.bl (a && b)) := fun H0 S G ow σ H g Q q => h1 H0 S G ow σ H g _ fun v H1 e1 r1 => ⟨a, r1.bl_inv, by
  cases a with
  | true =>
    rw [if_pos rfl]
    exact h2 rfl H0 S G ow σ H1 (g.ext e1) Q fun v2 H2 e2 r2 => q v2 H2 (e1.trans e2) r2
  | false =>
    rw [if_neg Bool.false_ne_true]
    exact q _ H1 e1 (.bl _)⟩
theorem ed_orV {a b : Bool} (h1 : ED K ta ρ (.bl a)) (h2 : a = false → ED K tb ρ (.bl b)) : ED K (tOrV ta tb) ρ (.bl (a || b)) := fun H0 S G ow σ H g Q q => h1 H0 S G ow σ H g _ fun v H1 e1 r1 => ⟨a, r1.bl_inv, by
  cases a with
  | true =>
    rw [if_pos rfl]
    exact q _ H1 e1 (.bl _)
  | false =>
    rw [if_neg Bool.false_ne_true]
    exact h2 rfl H0 S G ow σ H1 (g.ext e1) Q fun v2 H2 e2 r2 => q v2 H2 (e1.trans e2) r2⟩
theorem ed_if {b : Bool} (h : ET K tt ρ b) (h1 : b = true → ED K ta ρ d) (h2 : b = false → ED K tb ρ d) : ED K (tIf tt ta tb) ρ d := fun H0 S G ow σ H g Q q => h H0 S G ow σ H g _ fun H1 e1 => by
  cases b with
  | true =>
    rw [if_pos rfl]
    exact h1 rfl H0 S G ow σ H1 (g.ext e1) Q fun v H2 e2 r2 => q v H2 (e1.trans e2) r2
  | false =>
    rw [if_neg Bool.false_ne_true]
    exact h2 rfl H0 S G ow σ H1 (g.ext e1) Q fun v H2 e2 r2 => q v H2 (e1.trans e2) r2
theorem ea_nil : EA K tNil ρ [] := fun _ _ _ _ _ H _ _ q => q [] H (Ex.refl H) All2.nil
theorem ea_sh {as : List (Bool × D)} (h : ED K ta ρ d) (hr : EA K tx ρ as) : EA K (tCons ta tx) ρ ((true, d) :: as) := fun H0 S G ow σ H g Q q => h H0 S G ow σ H g _ fun v H1 e1 r1 => hr H0 S G ow σ H1 (g.ext e1) _ fun vs H2 e2 r2 =>
  q _ H2 (e1.trans e2) (All2.cons (r1.mono (hid_ext e2)) r2)
theorem ea_rd {as : List (Bool × D)} (h : ER K ta ρ d) (hr : EA K tx ρ as) : EA K (tCons ta tx) ρ ((false, d) :: as) := fun H0 S G ow σ H g Q q => h H0 S G ow σ H g _ fun v H1 e1 r1 => hr H0 S G ow σ H1 (g.ext e1) _ fun vs H2 e2 r2 =>
  q _ H2 (e1.trans e2) (All2.cons (r1.mono e2) r2)
theorem eb_nil : EB K tNil ρ [] := fun _ _ _ _ _ H _ _ q => q [] H (Ex.refl H) All2.nil
theorem eb_cons (h : ED K ta ρ d) (hr : EB K tx ρ ds) : EB K (tCons ta tx) ρ (d :: ds) := fun H0 S G ow σ H g Q q => h H0 S G ow σ H g _ fun v H1 e1 r1 => hr H0 S G ow σ H1 (g.ext e1) _ fun vs H2 e2 r2 =>
  q _ H2 (e1.trans e2) (All2.cons (r1.mono (hid_ext e2)) r2)
theorem ed_tup (h : EB K tx ρ ds) (hl : ds.length ≤ 100000 := by first | decide | simp) : ED K (tTup tx) ρ (.tup ds) := fun H0 S G ow σ H g Q q => h H0 S G ow σ H g _ fun vs H1 e1 r1 => ⟨sz_of (by rw [r1.1]; exact hl), fun p hp => by
  have g1 := g.ext e1
  have np := g1.fresh hp
  refine q _ _ (e1.trans (Ex.new hp)) (.of_tup (st_of ?_) (r1.mono (hid_ext (Ex.new hp))))
  rw [hid_no np]
  exact upd_same⟩
theorem eo_lst (h : EB K tx ρ ds) (hl : ds.length ≤ 100000 := by first | decide | simp) : EO K (tLst tx) ρ (.lst ds) := fun H0 S G ow σ H g Q q => h H0 S G ow σ H g _ fun vs H1 e1 r1 => ⟨sz_of (by rw [r1.1]; exact hl), fun p hp => by
  have g1 := g.ext e1
  refine q p _ (fresh_back e1 hp) (e1.trans (Ex.new hp)) (by rw [upd_same]; exact fun z => nomatch z) ⟨vs, upd_same, r1.mono fun b o z => ?_⟩
  obtain ⟨z1, z2⟩ := hid_some z
  have hb : b ≠ p := ne_of_none z2 hp
  rw [hid_no (fun w => w.elim z1 hb), upd_ne hb]
  exact z2⟩
theorem eo_dnew : EO K tDNewT ρ (.dct [] []) := fun H0 S G ow σ H g Q q => fun p hp => q p _ hp (Ex.new hp) (by rw [upd_same]; exact fun z => nomatch z) ⟨[], upd_same, rfl, All2.nil⟩
theorem ed_eo (h : EO K te ρ (.lst ds)) : ED K te ρ (.lst ds) := fun H0 S G ow σ H g Q q => h H0 S G ow σ H g _ fun p H1 hp e1 _ r1 => by
  obtain ⟨xs, a, b⟩ := r1
  refine q _ H1 e1 (.of_lst (sq_of ?_) (b.mono (hid_less fun _ z => .inl z)))
  rw [hid_no (g.fresh hp)]
  exact a
theorem ed_ixL {l : Nat} (ha : ED K ta ρ (.lst ds)) (hb : ED K tb ρ (.int i)) (hi : i = (l : Int)) (hd : ds[l]? = some d) : ED K (tOp (rIxL K) ta tb) ρ d := fun H0 S G ow σ H g Q q => ha H0 S G ow σ H g _ fun v H1 e1 r1 => hb H0 S G ow σ H1 (g.ext e1) _ fun u H2 e2 r2 => by
  obtain ⟨p, xs, rfl, hs, ra⟩ := (r1.mono (hid_ext e2)).lst_inv
  obtain ⟨x, hx, rx⟩ := ra.get hd
  rw [r2.int_inv, hi]
  exact ⟨p, xs, _, x, rfl, rfl, ex_l hid_sub hs, atI_nat hx, q x H2 (e1.trans e2) rx⟩
theorem ed_ixT {l : Nat} (ha : ED K ta ρ (.tup ds)) (hb : ED K tb ρ (.int i)) (hi : i = (l : Int)) (hd : ds[l]? = some d) : ED K (tOp (rIxT K) ta tb) ρ d := fun H0 S G ow σ H g Q q => ha H0 S G ow σ H g _ fun v H1 e1 r1 => hb H0 S G ow σ H1 (g.ext e1) _ fun u H2 e2 r2 => by
  obtain ⟨p, xs, rfl, hs, ra⟩ := (r1.mono (hid_ext e2)).tup_inv
  obtain ⟨x, hx, rx⟩ := ra.get hd
  rw [r2.int_inv, hi]
  exact ⟨p, xs, _, x, rfl, rfl, ex_t hid_sub hs, atI_nat hx, q x H2 (e1.trans e2) rx⟩
theorem er_ixL {l : Nat} (ha : ER K ta ρ (.lst ds)) (hb : ED K tb ρ (.int i)) (hi : i = (l : Int)) (hd : ds[l]? = some d) : ER K (tOp (rIxL K) ta tb) ρ d := fun H0 S G ow σ H g Q q => ha H0 S G ow σ H g _ fun v H1 e1 r1 => hb H0 S G ow σ H1 (g.ext e1) _ fun u H2 e2 r2 => by
  obtain ⟨p, xs, rfl, hs, ra⟩ := (r1.mono e2).lst_inv
  obtain ⟨x, hx, rx⟩ := ra.get hd
  rw [r2.int_inv, hi]
  exact ⟨p, xs, _, x, rfl, rfl, hs, atI_nat hx, q x H2 (e1.trans e2) rx⟩
theorem er_ixT {l : Nat} (ha : ER K ta ρ (.tup ds)) (hb : ED K tb ρ (.int i)) (hi : i = (l : Int)) (hd : ds[l]? = some d) : ER K (tOp (rIxT K) ta tb) ρ d := fun H0 S G ow σ H g Q q => ha H0 S G ow σ H g _ fun v H1 e1 r1 => hb H0 S G ow σ H1 (g.ext e1) _ fun u H2 e2 r2 => by
  obtain ⟨p, xs, rfl, hs, ra⟩ := (r1.mono e2).tup_inv
  obtain ⟨x, hx, rx⟩ := ra.get hd
  rw [r2.int_inv, hi]
  exact ⟨p, xs, _, x, rfl, rfl, hs, atI_nat hx, q x H2 (e1.trans e2) rx⟩
theorem ed_ixO {l : Nat} (h : ρ[n]? = some (.own (.lst ds))) (hb : ED K tb ρ (.int i)) (hi : i = (l : Int)) (hd : ds[l]? = some d) : ED K (tOp (rIxL K) (tVar n) tb) ρ d := fun H0 S G ow σ H g Q q => by
  obtain ⟨p, a, b, xs, c, r⟩ := g.at_ n _ h
  refine ⟨.ref p, a, hb H0 S G ow σ H g _ fun u H2 e2 r2 => ?_⟩
  obtain ⟨x, hx, rx⟩ := r.get hd
  rw [r2.int_inv, hi]
  exact ⟨p, xs, _, x, rfl, rfl, sq_of (e2 _ _ c), atI_nat hx, q x H2 e2 (rx.mono (hid_ext e2))⟩
theorem ed_len (ha : ER K ta ρ (.lst ds)) : ED K (tCB (rLenS K) (tCons ta tNil)) ρ (.int (ds.length : Int)) := fun H0 S G ow σ H g Q q => ha H0 S G ow σ H g _ fun v H1 e1 r1 => by
  obtain ⟨p, xs, rfl, hs, ra⟩ := r1.lst_inv
  refine ⟨p, xs, rfl, Or.inl hs, ?_⟩
  rw [ra.1]
  exact q _ H1 e1 (.int _)
theorem ed_lenT (ha : ER K ta ρ (.tup ds)) : ED K (tCB (rLenS K) (tCons ta tNil)) ρ (.int (ds.length : Int)) := fun H0 S G ow σ H g Q q => ha H0 S G ow σ H g _ fun v H1 e1 r1 => by
  obtain ⟨p, xs, rfl, hs, ra⟩ := r1.tup_inv
  refine ⟨p, xs, rfl, Or.inr hs, ?_⟩
  rw [ra.1]
  exact q _ H1 e1 (.int _)
def rInt1 : List V → Hp → VK → Prop := fun xs H Q => (∃ i, xs = [.int i] ∧ Q (.int i) H) ∨ ∃ k, xs = [.bl k] ∧ Q (.int (if k then 1 else 0)) H
theorem ed_intB {b : Bool} (ha : ED K ta ρ (.bl b)) : ED K (tCB rInt1 (tCons ta tNil)) ρ (.int (if b then 1 else 0)) := fun H0 S G ow σ H g Q q => ha H0 S G ow σ H g _ fun v H1 e1 r1 => .inr ⟨b, by rw [r1.bl_inv], q _ H1 e1 (.int _)⟩
def rMin2 : List V → Hp → VK → Prop := fun xs H Q => ∃ i j, xs = [.int i, .int j] ∧ Q (.int (if j < i then j else i)) H
theorem ed_min2 (ha : ED K ta ρ (.int i)) (hb : ED K tb ρ (.int j)) : ED K (tCB rMin2 (tCons ta (tCons tb tNil))) ρ (.int (if j < i then j else i)) := fun H0 S G ow σ H g Q q => ha H0 S G ow σ H g _ fun v H1 e1 r1 => hb H0 S G ow σ H1 (g.ext e1) _ fun u H2 e2 r2 =>
  ⟨i, j, by rw [r1.int_inv, r2.int_inv], q _ H2 (e1.trans e2) (.int _)⟩
theorem ed_max2 (ha : ED K ta ρ (.int i)) (hb : ED K tb ρ (.int j)) : ED K (tCB Evl.rMax2 (tCons ta (tCons tb tNil))) ρ (.int (if j > i then j else i)) := fun H0 S G ow σ H g Q q => ha H0 S G ow σ H g _ fun v H1 e1 r1 => hb H0 S G ow σ H1 (g.ext e1) _ fun u H2 e2 r2 =>
  ⟨i, j, by rw [r1.int_inv, r2.int_inv], q _ H2 (e1.trans e2) (.int _)⟩
theorem eo_of_new {p : Addr} {T : Addr → Prop} {H : Hp} {vs : List V} (hp : H p = none) (np : ¬ T p) (r : Reps K (hid T H) vs ds) : MRep K (hid (fun b => T b ∨ b = p) (upd H p (.lst vs))) (upd H p (.lst vs)) p (.lst ds) :=
  ⟨vs, upd_same, r.mono fun b o z => by
    obtain ⟨z1, z2⟩ := hid_some z
    have hb : b ≠ p := ne_of_none z2 hp
    rw [hid_no (fun w => w.elim z1 hb), upd_ne hb]
    exact z2⟩
def EP (K : PySem.W.Frag) (to : TO) (ρ : List Sl) (o : Option Int) : Prop := ∀ H0 S G ow σ H, Good K H0 S G ow σ H ρ → ∀ Q : Option Int → Hp → Prop, (∀ H', Ex H H' → Q o H') → to σ H Q
theorem ep_no : EP K tNoPart ρ none := fun _ _ _ _ _ H _ _ q => q H (Ex.refl H)
theorem ep_at (h : ED K te ρ (.int i)) : EP K (tPart te) ρ (some i) := fun H0 S G ow σ H g Q q => h H0 S G ow σ H g _ fun v H1 e1 r1 => ⟨i, r1.int_inv, q H1 e1⟩
def cutD (ds : List D) (lo hi : Option Int) : List D := (ds.drop (HT.sIx ds.length 0 lo)).take (HT.sIx ds.length ds.length hi - HT.sIx ds.length 0 lo)
theorem eo_sl {tl th : TO} {lo hi : Option Int} (ha : ED K ta ρ (.lst ds)) (h1 : EP K tl ρ lo) (h2 : EP K th ρ hi) : EO K (tSl (rSlL K) ta tl th) ρ (.lst (cutD ds lo hi)) := fun H0 S G ow σ H g Q q => ha H0 S G ow σ H g _ fun v H1 e1 r1 =>
  h1 H0 S G ow σ H1 (g.ext e1) _ fun H2 e2 => h2 H0 S G ow σ H2 (g.ext (e1.trans e2)) _ fun H3 e3 => by
    obtain ⟨p, xs, rfl, hs, ra⟩ := (r1.mono (hid_ext (e2.trans e3))).lst_inv
    have e := (e1.trans e2).trans e3
    refine ⟨p, xs, rfl, ex_l hid_sub hs, fun l hl => q l _ (fresh_back e hl) (e.trans (Ex.new hl)) (by rw [upd_same]; exact fun z => nomatch z) (eo_of_new hl ((g.ext e).fresh hl) ?_)⟩
    unfold cutV cutD
    rw [ra.1]
    exact (ra.drop _).take _
theorem eo_cat {es : List D} (ha : EO K ta ρ (.lst ds)) (hb : EO K tb ρ (.lst es)) (hl : ds.length + es.length ≤ 100000) : EO K (tOp rCat ta tb) ρ (.lst (ds ++ es)) := fun H0 S G ow σ H g Q q => ha H0 S G ow σ H g _ fun p H1 hp e1 _ r1 =>
  hb H0 S G ow σ H1 (g.ext e1) _ fun p' H2 hp' e2 _ r2 => by
    obtain ⟨xs, a, b⟩ := r1
    obtain ⟨ys, a', b'⟩ := r2
    refine ⟨p, p', xs, ys, rfl, rfl, e2 _ _ a, a', sz_of (by rw [b.1, b'.1]; exact hl), fun l hl => ?_⟩
    have e := e1.trans e2
    refine q l _ (fresh_back e hl) (e.trans (Ex.new hl)) (by rw [upd_same]; exact fun z => nomatch z) (eo_of_new hl ((g.ext e).fresh hl) ?_)
    exact All2.app ((b.mono (hid_less fun _ z => .inl z)).mono (hid_ext e2)) (b'.mono (hid_less fun _ z => .inl z))
end
end BV
end
section
open PySem L2 Evl
namespace BV
structure Zs where
  nx : List Sl → Prop
  rt : Hp → (Addr → Prop) → V → Hp → Prop
  bk : List Sl → Prop := fun _ => False
  ct : List Sl → Prop := fun _ => False
  xh : Hp → (Addr → Prop) → Prop := fun _ _ => True
def RSh (K : PySem.W.Frag) (d : D) : Hp → (Addr → Prop) → V → Hp → Prop := fun H0 S v H' => Ex H0 H' ∧ Rep K (hid S H') v d
def ROwn (K : PySem.W.Frag) (m : M) : Hp → (Addr → Prop) → V → Hp → Prop := fun H0 S v H' => ∃ p, v = .ref p ∧ H0 p = none ∧ Ex H0 H' ∧ Nb (H' p) ∧ MRep K (hid (fun b => S b ∨ b = p) H') H' p m
section
variable (K : PySem.W.Frag)
def SD (ts : TS) (ρ : List Sl) (Z : Zs) : Prop := ∀ H0 S G ow σ H (E : Ends), Good K H0 S G ow σ H ρ →
  (∀ ρ' ow' σ' H', Z.nx ρ' → Good K H0 S G ow' σ' H' ρ' → E.nx σ' H') → (∀ ρ' ow' σ' H', Z.bk ρ' → Good K H0 S G ow' σ' H' ρ' → E.bk σ' H') →
  (∀ ρ' ow' σ' H', Z.ct ρ' → Good K H0 S G ow' σ' H' ρ' → E.ct σ' H') → ((∀ v H', Z.rt H0 S v H' → E.rt v H') ∧ Z.xh H0 S) → ts E σ H
/-- a thing is stored at a target; of the slots only those of vs change -/
def BG (vs : List Nat) (g : TG) (sl : Sl) (ρ : List Sl) (Nx : List Sl → Prop) : Prop := ∀ H0 S G ow σ H v, Good K H0 S G ow σ H ρ → SlV K H0 (hid (Hid S ow) H) v sl →
  ∀ Q : L2.St → Hp → Prop, (∀ ρ' σ', Nx ρ' → L2.wipe σ' vs = L2.wipe σ vs → Good K H0 S G ow σ' H ρ' → Q σ' H) → g v σ H Q
def BGs (vs : List Nat) (g : TGs) (sls : List Sl) (ρ : List Sl) (Nx : List Sl → Prop) : Prop := ∀ H0 S G ow σ H us, Good K H0 S G ow σ H ρ → All2 (SlV K H0 (hid (Hid S ow) H)) us sls →
  ∀ Q : L2.St → Hp → Prop, (∀ ρ' σ', Nx ρ' → L2.wipe σ' vs = L2.wipe σ vs → Good K H0 S G ow σ' H ρ' → Q σ' H) → g us σ H Q
/-- what an iterator yields, wherever T is hidden -/
def Walks (J : It) (H0 : Hp) (its : List Sl) (T : Addr → Prop) (H : Hp) : Prop :=
  (∀ i, i < its.length → J.go i H ∧ ∀ x H', J.yld i H x H' → Ex H H' ∧ ∃ sl, its[i]? = some sl ∧ SlV K H0 (hid T H') x sl) ∧ ∀ i, its.length ≤ i → J.stop i H
def EI (wi : TI) (ρ : List Sl) (its : List Sl) : Prop := ∀ H0 S G ow σ H, Good K H0 S G ow σ H ρ → ∀ R : It → Hp → Prop,
  (∀ J H1, Ex H H1 → (∀ T H', Ex (hid (Hid S ow) H1) (hid T H') → Ex H0 H' → (∀ b, T b → Nb (H' b)) → Walks K J H0 its T H') → R J H1) → wi σ H R
/-- the same while nothing is changed -/
def EIc (wi : TI) (ρ : List Sl) (its : List Sl) : Prop := ∀ H0 S G ow σ H, Good K H0 S G ow σ H ρ → ∀ R : It → Hp → Prop,
  (∀ J H1, Ex H H1 → (∀ T H', Ex H1 H' → Ex (hid (Hid S ow) H1) (hid T H') → Ex H0 H' → (∀ b, T b → Nb (H' b)) → Walks K J H0 its T H') → R J H1) → wi σ H R
end
section
variable {K : PySem.W.Frag} {ρ : List Sl} {te ta tb tc : TE} {tt t u : TT} {tx ty : TA} {d d' x y : D} {ds : List D} {i j k : Int} {r r' : R2} {n : Nat} {m : M} {ts tu tw : TS} {Z : Zs} {g : TG} {gs : TGs} {vs : List Nat} {Nx : List Sl → Prop} {wi : TI} {its : List Sl}
theorem ei_c (h : EI K wi ρ its) : EIc K wi ρ its := fun H0 S G ow σ H gd R q => h H0 S G ow σ H gd R fun J H1 e w => q J H1 e fun T H' _ a b c => w T H' a b c
theorem sd_seq (h : SD K ts ρ { Z with nx := fun ρ' => SD K tu ρ' Z }) : SD K (tSeq ts tu) ρ Z := fun H0 S G ow σ H E g hn hb hc hr =>
  h H0 S G ow σ H { E with nx := tu E } g (fun ρ' ow' σ' H' q g' => q H0 S G ow' σ' H' E g' hn hb hc hr) hb hc hr
theorem sd_next (h : Z.nx ρ) : SD K tNext ρ Z := fun H0 S G ow σ H E g hn _ _ _ => hn ρ ow σ H h g
theorem sd_asg (h : ED K te ρ d) (k : Z.nx (ρ.set n (.sh d))) : SD K (tAsg te (gName n)) ρ Z := fun H0 S G ow σ H E g hn _ _ _ => h H0 S G ow σ H g _ fun v H' e r => hn _ _ _ H' k ((g.ext e).putSh n r)
theorem sd_asgG (h : ED K te ρ d) (k : BG K vs g (.sh d) ρ Z.nx) : SD K (tAsg te g) ρ Z := fun H0 S G ow σ H E gd hn _ _ _ => h H0 S G ow σ H gd _ fun v H' e r => k H0 S G ow σ H' v (gd.ext e) r _ fun ρ' σ' q _ g' => hn ρ' ow σ' H' q g'
theorem sd_asgO (h : EO K te ρ m) (hl : n < ρ.length) (k : Z.nx (ρ.set n (.own m))) : SD K (tAsg te (gName n)) ρ Z := fun H0 S G ow σ H E g hn _ _ _ => h H0 S G ow σ H g _ fun p H' hp e nn r =>
  hn _ _ _ H' k (g.take n hl hp e nn (r.mono (hid_less fun b w => by
    rcases w with w | ⟨j, w⟩
    · exact .inl (.inl w)
    · unfold pt at w
      split at w
      · cases w; exact .inr rfl
      · exact .inl (.inr ⟨j, w⟩)) fun _ z => z))
theorem sd_drop (h : ER K te ρ d) (k : Z.nx ρ) : SD K (tDrop te) ρ Z := fun H0 S G ow σ H E g hn _ _ _ => h H0 S G ow σ H g _ fun v H' e r => hn _ _ _ H' k (g.ext e)
theorem sd_if {b : Bool} (h : ET K tt ρ b) (h1 : b = true → SD K tu ρ Z) (h2 : b = false → SD K tw ρ Z) : SD K (tIfS tt tu tw) ρ Z := fun H0 S G ow σ H E g hn hb hc hr => h H0 S G ow σ H g _ fun H' e => by
  cases b with
  | true =>
    rw [if_pos rfl]
    exact h1 rfl H0 S G ow σ H' E (g.ext e) hn hb hc hr
  | false =>
    rw [if_neg Bool.false_ne_true]
    exact h2 rfl H0 S G ow σ H' E (g.ext e) hn hb hc hr
theorem rep_out {S : Addr → Prop} {ow : Nat → Option Addr} {H : Hp} {v : V} (r : Rep K (hid (Hid S ow) H) v d) : Rep K (hid S H) v d := r.mono (hid_less fun _ z => .inl z)
theorem sd_ret (h : ED K te ρ d) (k : ∀ H0 S v H', RSh K d H0 S v H' → Z.rt H0 S v H') : SD K (tRet te) ρ Z := fun H0 S G ow σ H E g _ _ _ hr => h H0 S G ow σ H g _ fun v H' e r => hr.1 v H' (k H0 S v H' ⟨g.ex.trans e, rep_out r⟩)
theorem sd_retO (h : EO K te ρ m) (k : ∀ H0 S v H', ROwn K m H0 S v H' → Z.rt H0 S v H') : SD K (tRet te) ρ Z := fun H0 S G ow σ H E g _ _ _ hr => h H0 S G ow σ H g _ fun p H' hp e nn r => hr.1 _ H' (k H0 S _ H' ⟨p, rfl, fresh_back g.ex hp, g.ex.trans e, nn, r.mono (hid_less fun b w => w.elim (fun z => .inl (.inl z)) .inr) fun _ z => z⟩)
theorem sd_retVar (h : ρ[n]? = some (.own m)) (k : ∀ H0 S v H', ROwn K m H0 S v H' → Z.rt H0 S v H') : SD K (tRet (tVar n)) ρ Z := fun H0 S G ow σ H E g _ _ _ hr => by
  obtain ⟨p, a, b, c⟩ := g.at_ n _ h
  exact ⟨.ref p, a, hr.1 _ H (k H0 S _ H ⟨p, rfl, g.new n p b, g.ex, g.on n p b, c.mono (hid_less fun q w => w.elim .inl fun z => .inr ⟨n, by rw [z]; exact b⟩) fun _ z => z⟩)⟩
theorem sd_share (h : ρ[n]? = some (.own (.lst ds))) (k : SD K ts (ρ.set n (.sh (.lst ds))) Z) : SD K ts ρ Z := fun H0 S G ow σ H E g hn hb hc hr => k H0 S G _ σ H E (g.share h) hn hb hc hr
/-- xs.append(e), xs built here -/
theorem sd_app (h : ρ[n]? = some (.own (.lst ds))) (he : ED K te ρ d) (hl : ds.length < 100000) (k : Z.nx (ρ.set n (.own (.lst (ds ++ [d]))))) : SD K (tDrop (tBM K "list" rAppend (tVar n) (tCons te tNil))) ρ Z := fun H0 S G ow σ H E g hn _ _ _ => by
  obtain ⟨p, a, b, xs, c, r⟩ := g.at_ n _ h
  refine ⟨.ref p, a, Or.inl ⟨rfl, xs, sq_of c⟩, he H0 S G ow σ H g _ fun v H' e rv => ?_⟩
  refine ⟨p, xs, v, rfl, rfl, e _ _ c, sz_lt (by rw [r.1]; exact hl), hn _ _ _ _ k ((g.ext e).write b _ _ ⟨_, upd_same, (r.mono (hid_ext e)).snoc rv⟩ (fun _ => a) (.inl (List.getElem?_eq_some_iff.mp h).1))⟩
/-- xs[i] = e, xs built here -/
theorem sd_setIx {l : Nat} (h : ρ[n]? = some (.own (.lst ds))) (he : ED K te ρ d) (hi : ED K tb ρ (.int i)) (e1 : i = (l : Int)) (e2 : l < ds.length) (k : Z.nx (ρ.set n (.own (.lst (ds.set l d))))) : SD K (tAsg te (gSub (tVar n) tb rSetL)) ρ Z := fun H0 S G ow σ H E g hn _ _ _ => by
  obtain ⟨p, a, b, xs, c, r⟩ := g.at_ n _ h
  refine he H0 S G ow σ H g _ fun v H' e rv => ⟨.ref p, a, hi H0 S G ow σ H' (g.ext e) _ fun u H2 e' ru => ?_⟩
  have e'' := e.trans e'
  refine ⟨p, xs, i, l, rfl, ru.int_inv, e'' _ _ c, by rw [e1]; exact ixN_nat (by rw [r.1]; exact e2), hn _ _ _ _ k ((g.ext e'').write b _ _ ⟨_, upd_same, (r.mono (hid_ext e'')).set l (rv.mono (hid_ext e'))⟩ (fun _ => a) (.inl (List.getElem?_eq_some_iff.mp h).1))⟩
theorem wipe_set {σ : L2.St} {x : Option V} : ∀ {vs : List Nat} {n : Nat}, n ∈ vs → L2.wipe (σ.set n x) vs = L2.wipe σ vs
  | [], n, h => absurd h (by simp)
  | v :: vs, n, h => by
    show (L2.wipe (σ.set n x) vs).set v none = (L2.wipe σ vs).set v none
    by_cases e : n ∈ vs
    · rw [wipe_set e]
    · have ev : n = v := by
        rcases List.mem_cons.mp h with z | z
        · exact z
        · exact absurd z e
      subst ev
      refine List.ext_getElem? fun j => ?_
      have hlen : ∀ (τ : L2.St), (L2.wipe τ vs).length = τ.length := fun τ => L2.wipe_length τ vs
      by_cases hj : n = j
      · subst hj
        by_cases hlt : n < σ.length
        · rw [List.getElem?_set_self (by rw [hlen, List.length_set]; exact hlt), List.getElem?_set_self (by rw [hlen]; exact hlt)]
        · rw [List.getElem?_eq_none (by rw [List.length_set, hlen, List.length_set]; omega), List.getElem?_eq_none (by rw [List.length_set, hlen]; omega)]
      · rw [List.getElem?_set_ne hj, List.getElem?_set_ne hj]
        clear h hlen
        induction vs with
        | nil => exact List.getElem?_set_ne hj
        | cons w ws ih =>
          have e' : n ∉ ws := fun z => e (List.mem_cons_of_mem _ z)
          show ((L2.wipe (σ.set n x) ws).set w none)[j]? = ((L2.wipe σ ws).set w none)[j]?
          by_cases hw : w = j
          · subst hw
            by_cases hlt : w < σ.length
            · rw [List.getElem?_set_self (by rw [L2.wipe_length, List.length_set]; exact hlt), List.getElem?_set_self (by rw [L2.wipe_length]; exact hlt)]
            · rw [List.getElem?_eq_none (by rw [List.length_set, L2.wipe_length, List.length_set]; omega), List.getElem?_eq_none (by rw [List.length_set, L2.wipe_length]; omega)]
          · rw [List.getElem?_set_ne hw, List.getElem?_set_ne hw]
            exact ih e'
theorem wipe_in {σ : L2.St} : ∀ {vs ws : List Nat}, (∀ v ∈ vs, v ∈ ws) → L2.wipe (L2.wipe σ vs) ws = L2.wipe σ ws
  | [], ws, _ => rfl
  | v :: vs, ws, h => by
    show L2.wipe ((L2.wipe σ vs).set v none) ws = _
    rw [wipe_set (h v List.mem_cons_self)]
    exact wipe_in fun u hu => h u (List.mem_cons_of_mem _ hu)
theorem wipe_wipe {σ : L2.St} {vs : List Nat} : L2.wipe (L2.wipe σ vs) vs = L2.wipe σ vs := wipe_in fun _ h => h
theorem bg_name {sl : Sl} (hv : n ∈ vs) (k : Nx (ρ.set n sl)) : BG K vs (gName n) sl ρ Nx := fun H0 S G ow σ H v g h Q q => q _ _ k (wipe_set hv) (g.putV n h)
theorem bgs_nil (k : Nx ρ) : BGs K vs gNil [] ρ Nx := fun H0 S G ow σ H us g h Q q => ⟨h.un_nil, q ρ σ k rfl g⟩
theorem bgs_cons {sl : Sl} {sls : List Sl} (h : BG K vs g sl ρ fun ρ' => BGs K vs gs sls ρ' Nx) : BGs K vs (gCons g gs) (sl :: sls) ρ Nx := fun H0 S G ow σ H us gd hu Q q => by
  obtain ⟨u, r, rfl, hu1, hr⟩ := hu.un_cons
  exact ⟨u, r, rfl, h H0 S G ow σ H u gd hu1 _ fun ρ' σ' k e g' => k H0 S G ow σ' H r g' hr Q fun ρ2 σ2 k2 e2 g2 => q ρ2 σ2 k2 (e2.trans e) g2⟩
theorem bg_tup (hl : ds.length = n) (h : BGs K vs gs (ds.map Sl.sh) ρ Nx) : BG K vs (gTup K n gs) (.sh (.tup ds)) ρ Nx := fun H0 S G ow σ H v g hv Q q => by
  obtain ⟨a, xs, rfl, hs, hr⟩ := Rep.tup_inv hv
  refine ⟨a, xs, rfl, ex_t hid_sub hs, hr.1.trans hl, h H0 S G ow σ H xs g ⟨by rw [List.length_map]; exact hr.1, fun l u w e1 e2 => ?_⟩ Q q⟩
  rw [List.getElem?_map] at e2
  obtain ⟨d, e3, rfl⟩ := Option.map_eq_some_iff.mp e2
  exact hr.2 l u d e1 e3
theorem bg_tupR (hl : ds.length = n) (h : BGs K vs gs (ds.map Sl.rd) ρ Nx) : BG K vs (gTup K n gs) (.rd (.tup ds)) ρ Nx := fun H0 S G ow σ H v g hv Q q => by
  obtain ⟨a, xs, rfl, hs, hr⟩ := Rep.tup_inv (K := K) (H := H0) hv
  refine ⟨a, xs, rfl, ex_t g.ex hs, hr.1.trans hl, h H0 S G ow σ H xs g ⟨by rw [List.length_map]; exact hr.1, fun l u w e1 e2 => ?_⟩ Q q⟩
  rw [List.getElem?_map] at e2
  obtain ⟨d, e3, rfl⟩ := Option.map_eq_some_iff.mp e2
  exact hr.2 l u d e1 e3
theorem ei_r1 (h : EB K tx ρ [.int i]) (hi : -1000000 ≤ i ∧ i ≤ 1000000) : EI K (iRng1 tx) ρ ((List.range i.toNat).map fun (k : Nat) => .sh (.int (k : Int))) := fun H0 S G ow σ H g R q => h H0 S G ow σ H g _ fun us H1 e r => by
  obtain ⟨u, us', rfl, ru, rr⟩ := r.un_cons
  rw [rr.un_nil, ru.int_inv]
  refine ⟨i, rfl, by omega, by omega, q _ H1 e fun T H' _ _ _ => ⟨fun l hl => ?_, fun l hl => ?_⟩⟩
  · rw [List.length_map, List.length_range] at hl
    refine ⟨hl, fun x H2 y => ?_⟩
    obtain ⟨rfl, rfl⟩ := y
    refine ⟨Ex.refl _, .sh (.int (l : Int)), by rw [List.getElem?_map, List.getElem?_range hl]; rfl, ?_⟩
    rw [Int.zero_add]
    exact .int _
  · rw [List.length_map, List.length_range] at hl
    exact hl
theorem ei_r2 (h : EB K tx ρ [.int i, .int j]) (hi : -1000000 ≤ i ∧ i ≤ 1000000 ∧ -1000000 ≤ j ∧ j ≤ 1000000) : EI K (iRng2 tx) ρ ((List.range (j - i).toNat).map fun (k : Nat) => .sh (.int (i + (k : Int)))) := fun H0 S G ow σ H g R q => h H0 S G ow σ H g _ fun us H1 e r => by
  obtain ⟨u, us', rfl, ru, rr⟩ := r.un_cons
  obtain ⟨u2, us2, rfl, ru2, rr2⟩ := rr.un_cons
  rw [rr2.un_nil, ru.int_inv, ru2.int_inv]
  refine ⟨i, j, rfl, ⟨by omega, by omega, by omega, by omega⟩, q _ H1 e fun T H' _ _ _ => ⟨fun l hl => ?_, fun l hl => ?_⟩⟩
  · rw [List.length_map, List.length_range] at hl
    refine ⟨hl, fun x H2 y => ?_⟩
    obtain ⟨rfl, rfl⟩ := y
    exact ⟨Ex.refl _, .sh (.int (i + (l : Int))), by rw [List.getElem?_map, List.getElem?_range hl]; rfl, .int _⟩
  · rw [List.length_map, List.length_range] at hl
    exact hl
/-- what a walk over a list asks -/
theorem walks_l {H0 H : Hp} {T : Addr → Prop} {a : Addr} {xs : List V} {f : D → Sl} (hs : SqL K H a xs) (hl : xs.length = ds.length) (hr : ∀ (l : Nat) v d, xs[l]? = some v → ds[l]? = some d → SlV K H0 (hid T H) v (f d)) : Walks K (Itl K a) H0 (ds.map f) T H := by
  refine ⟨fun l h => ?_, fun l h => ?_⟩
  · rw [List.length_map] at h
    have h1 : l < xs.length := by rw [hl]; exact h
    refine ⟨⟨xs, xs[l], hs, List.getElem?_eq_getElem h1⟩, fun x H' y => ?_⟩
    obtain ⟨rfl, y⟩ := y
    exact ⟨Ex.refl _, f ds[l], by rw [List.getElem?_map, List.getElem?_eq_getElem h]; rfl, hr l x _ (y xs hs) (List.getElem?_eq_getElem h)⟩
  · rw [List.length_map] at h
    exact ⟨xs, hs, by rw [hl]; exact h⟩
theorem walks_t {H0 H : Hp} {T : Addr → Prop} {a : Addr} {xs : List V} {f : D → Sl} (hs : SqT K H a xs) (hl : xs.length = ds.length) (hr : ∀ (l : Nat) v d, xs[l]? = some v → ds[l]? = some d → SlV K H0 (hid T H) v (f d)) : Walks K (Itt K a) H0 (ds.map f) T H := by
  refine ⟨fun l h => ?_, fun l h => ?_⟩
  · rw [List.length_map] at h
    have h1 : l < xs.length := by rw [hl]; exact h
    refine ⟨⟨xs, xs[l], hs, List.getElem?_eq_getElem h1⟩, fun x H' y => ?_⟩
    obtain ⟨rfl, y⟩ := y
    exact ⟨Ex.refl _, f ds[l], by rw [List.getElem?_map, List.getElem?_eq_getElem h]; rfl, hr l x _ (y xs hs) (List.getElem?_eq_getElem h)⟩
  · rw [List.length_map] at h
    exact ⟨xs, hs, by rw [hl]; exact h⟩
theorem ei_l (h : ED K te ρ (.lst ds)) : EI K (iList K te) ρ (ds.map Sl.sh) := fun H0 S G ow σ H g R q => h H0 S G ow σ H g _ fun v H1 e r => by
  obtain ⟨a, xs, rfl, hs, hr⟩ := r.lst_inv
  exact ⟨a, rfl, ⟨xs, ex_l hid_sub hs⟩, q _ H1 e fun T H' e1 _ _ => walks_l (ex_l (e1.trans hid_sub) hs) hr.1 fun l v d a b => (hr.2 l v d a b).mono e1⟩
theorem ei_t (h : ED K te ρ (.tup ds)) : EI K (iTup K te) ρ (ds.map Sl.sh) := fun H0 S G ow σ H g R q => h H0 S G ow σ H g _ fun v H1 e r => by
  obtain ⟨a, xs, rfl, hs, hr⟩ := r.tup_inv
  exact ⟨a, rfl, ⟨xs, ex_t hid_sub hs⟩, q _ H1 e fun T H' e1 _ _ => walks_t (ex_t (e1.trans hid_sub) hs) hr.1 fun l v d a b => (hr.2 l v d a b).mono e1⟩
theorem ei_lR (h : ρ[n]? = some (.rd (.lst ds))) : EI K (iList K (tVar n)) ρ (ds.map Sl.rd) := fun H0 S G ow σ H g R q => by
  obtain ⟨v, e1, r⟩ := g.at_ n _ h
  obtain ⟨a, xs, rfl, hs, hr⟩ := r.lst_inv
  exact ⟨_, e1, a, rfl, ⟨xs, ex_l g.ex hs⟩, q _ H (Ex.refl _) fun T H' _ e2 _ => walks_l (ex_l e2 hs) hr.1 fun l v d a b => hr.2 l v d a b⟩
theorem walks_e {H0 H : Hp} {T : Addr → Prop} {a : Addr} {xs : List V} (hs : SqL K H a xs) (hl : xs.length = ds.length) (hT : ∀ b, T b → Nb (H b)) (hr : ∀ (l : Nat) v d, xs[l]? = some v → ds[l]? = some d → Rep K (hid T H) v d) :
    Walks K (Ite K a) H0 ((List.range ds.length).map fun (l : Nat) => .sh (.tup [.int (l : Int), ds.getD l .non])) T H := by
  refine ⟨fun l h => ?_, fun l h => ?_⟩
  · rw [List.length_map, List.length_range] at h
    have h1 : l < xs.length := by rw [hl]; exact h
    refine ⟨⟨xs, xs[l], hs, List.getElem?_eq_getElem h1⟩, fun x H' y => ?_⟩
    obtain ⟨P, v, rfl, hP, rfl, y⟩ := y
    have nP : ¬ T P := fun z => (hT P z).ne hP
    refine ⟨Ex.new hP, _, by rw [List.getElem?_map, List.getElem?_range h]; rfl, ?_⟩
    refine Rep.of_tup (xs := [.int (l : Int), v]) (st_of (by rw [hid_no nP]; exact upd_same)) (All2.cons (.int _) (All2.cons ?_ All2.nil))
    refine (hr l v _ (y xs hs) ?_).mono (hid_ext (Ex.new hP))
    rw [List.getD_eq_getElem?_getD, List.getElem?_eq_getElem h]
    rfl
  · rw [List.length_map, List.length_range] at h
    exact ⟨xs, hs, by rw [hl]; exact h⟩
theorem ei_e (h : EB K tx ρ [.lst ds]) : EI K (iEnum K tx) ρ ((List.range ds.length).map fun (l : Nat) => .sh (.tup [.int (l : Int), ds.getD l .non])) := fun H0 S G ow σ H g R q => h H0 S G ow σ H g _ fun us H1 e r => by
  obtain ⟨u, us', rfl, ru, rr⟩ := r.un_cons
  obtain ⟨a, xs, rfl, hs, hr⟩ := ru.lst_inv
  rw [rr.un_nil]
  exact ⟨a, xs, rfl, ex_l hid_sub hs, q _ H1 e fun T H' e1 _ hT => walks_e (ex_l (e1.trans hid_sub) hs) hr.1 hT fun l v d a b => (hr.2 l v d a b).mono e1⟩
theorem sd_for {tb : TS} (hi : EI K wi ρ its) (Inv : Nat → List Sl → Prop) (h0 : Inv 0 ρ)
    (hs : ∀ (l : Nat) (sl : Sl) (ρ' : List Sl), its[l]? = some sl → Inv l ρ' → ∃ vs, BG K vs g sl ρ' fun r => SD K tb r { Z with nx := Inv (l + 1), ct := Inv (l + 1), bk := Z.nx })
    (hd : ∀ ρ', Inv its.length ρ' → Z.nx ρ') : SD K (tFor wi g tb) ρ Z := fun H0 S G ow σ H E gd hn hb hc hr => hi H0 S G ow σ H gd _ fun J H1 e w => by
  have g1 := (gd.ext e).based
  have eG : Ex G (hid (Hid S ow) H1) := (gd.ext e).kb
  refine ⟨fun l m σ' H' => m = its.length - l ∧ l ≤ its.length ∧ ∃ ρ' ow', Inv l ρ' ∧ Good K H0 S (hid (Hid S ow) H1) ow' σ' H' ρ', ⟨its.length, by omega, by omega, ρ, ow, h0, g1⟩, ?_⟩
  rintro l m σ' H' ⟨rfl, hle, ρ', ow', hI, g'⟩
  have W := w (Hid S ow') H' g'.kb g'.ex fun b z => by
    rcases z with z | ⟨q, z⟩
    · exact (g'.sd b z).ex g'.ex
    · exact g'.on q b z
  by_cases hlt : l < its.length
  · obtain ⟨a1, a2⟩ := W.1 l hlt
    refine .inr ⟨a1, fun σ2 H2 => ∃ ρ2 ow2, Inv (l + 1) ρ2 ∧ Good K H0 S (hid (Hid S ow) H1) ow2 σ2 H2 ρ2, fun σ2 H2 ⟨ρ2, ow2, b1, b2⟩ => ⟨its.length - (l + 1), by omega, rfl, hlt, ρ2, ow2, b1, b2⟩, fun x H2 y => ?_⟩
    obtain ⟨e2, sl, hsl, hx⟩ := a2 x H2 y
    obtain ⟨vs, B⟩ := hs l sl ρ' hsl hI
    refine B H0 S _ ow' σ' H2 x (g'.ext e2) hx _ fun ρ3 σ3 k _ g3 => ?_
    exact k H0 S _ ow' σ3 H2 _ g3 (fun ρ4 ow4 σ4 H4 q g4 => ⟨ρ4, ow4, q, g4⟩) (fun ρ4 ow4 σ4 H4 q g4 => hn ρ4 ow4 σ4 H4 q (g4.kbase eG)) (fun ρ4 ow4 σ4 H4 q g4 => ⟨ρ4, ow4, q, g4⟩) hr
  · have el : l = its.length := by omega
    subst el
    exact .inl ⟨W.2 _ (Nat.le_refl _), hn ρ' ow' σ' H' (hd ρ' hI) (g'.kbase eG)⟩
theorem sd_while {tb : TS} (Inv : Nat → List Sl → Prop) (m0 : Nat) (h0 : Inv m0 ρ)
    (hs : ∀ (l : Nat) (ρ' : List Sl), Inv l ρ' → ∃ b, ET K tt ρ' b ∧ (b = true → SD K tb ρ' { Z with nx := fun r => ∃ l', l' < l ∧ Inv l' r, ct := fun r => ∃ l', l' < l ∧ Inv l' r, bk := Z.nx }) ∧ (b = false → Z.nx ρ')) : SD K (tWhile tt tb) ρ Z := fun H0 S G ow σ H E gd hn hb hc hr => by
  refine ⟨fun l σ' H' => ∃ ρ' ow', Inv l ρ' ∧ Good K H0 S G ow' σ' H' ρ', ⟨m0, ρ, ow, h0, gd⟩, ?_⟩
  rintro l σ' H' ⟨ρ', ow', hI, g'⟩
  obtain ⟨b, ht, h1, h2⟩ := hs l ρ' hI
  refine ht H0 S G ow' σ' H' g' _ fun H2 e2 => ?_
  cases b with
  | true =>
    rw [if_pos rfl]
    refine ⟨fun σ2 H3 => ∃ l', l' < l ∧ ∃ ρ2 ow2, Inv l' ρ2 ∧ Good K H0 S G ow2 σ2 H3 ρ2, fun σ2 H3 ⟨l', a, b⟩ => ⟨l', a, b⟩, ?_⟩
    exact h1 rfl H0 S G ow' σ' H2 _ (g'.ext e2) (fun ρ4 ow4 σ4 H4 ⟨l', a, q⟩ g4 => ⟨l', a, ρ4, ow4, q, g4⟩) (fun ρ4 ow4 σ4 H4 q g4 => hn ρ4 ow4 σ4 H4 q g4) (fun ρ4 ow4 σ4 H4 ⟨l', a, q⟩ g4 => ⟨l', a, ρ4, ow4, q, g4⟩) hr
  | false =>
    rw [if_neg Bool.false_ne_true]
    exact hn ρ' ow' σ' H2 (h2 rfl) (g'.ext e2)
end
end BV
end
section
open PySem PySem.Spec PyProof.Rows L2 Evl
namespace BV
section
variable {K : PySem.W.Frag} {ρ : List Sl} {te ta tb tc : TE} {tt tt1 t u : TT} {tx ty : TA} {d d' : D} {ds : List D} {i j k : Int} {n : Nat} {m : M} {ts tu tw : TS} {Z : Zs} {g g1 : TG} {vs vs1 : List Nat} {wi wi1 : TI}
theorem Good.there {K : PySem.W.Frag} {H0 H G : Hp} {S : Addr → Prop} {ow : Nat → Option Addr} {σ : L2.St} {ρ : List Sl} (g : Good K H0 S G ow σ H ρ) : ∀ b, Hid S ow b → Nb (H b) := fun b z => by
  rcases z with z | ⟨q, z⟩
  · exact (g.sd b z).ex g.ex
  · exact g.on q b z
theorem take_snoc {α : Type} {xs : List α} {i : Nat} {x : α} (h : xs[i]? = some x) : xs.take (i + 1) = xs.take i ++ [x] := by
  rw [List.take_add_one, h]
  rfl
/-- what holds of the list at p so far -/
def Acc (K : PySem.W.Frag) (T : Addr → Prop) (H1 : Hp) (p : Addr) (ds : List D) (H' : Hp) : Prop := Ex H1 H' ∧ ∃ acc, H' p = some (.lst acc) ∧ Reps K (hid (fun b => T b ∨ b = p) H') acc ds
theorem Acc.ext {T : Addr → Prop} {H1 H' H'' : Hp} {p : Addr} (a : Acc K T H1 p ds H') (e : Ex H' H'') : Acc K T H1 p ds H'' := by
  obtain ⟨e1, acc, h, r⟩ := a
  exact ⟨e1.trans e, acc, e _ _ h, r.mono (hid_ext e)⟩
theorem Acc.snoc {T : Addr → Prop} {H1 H' : Hp} {p : Addr} {y : V} (a : Acc K T H1 p ds H') (hp : H1 p = none) (r : Rep K (hid (fun b => T b ∨ b = p) H') y d) (hl : ds.length < 100000) :
    ∃ acc, H' p = some (.lst acc) ∧ acc.length < sizeLine ∧ Acc K T H1 p (ds ++ [d]) (upd H' p (.lst (acc ++ [y]))) := by
  obtain ⟨e1, acc, h, rs⟩ := a
  refine ⟨acc, h, sz_lt (by rw [rs.1]; exact hl), e1.mut hp, acc ++ [y], upd_same, ?_⟩
  rw [hid_upd (.inr rfl)]
  exact rs.snoc r
theorem eo_lc {α : Type} {xs : List α} {emb : α → Sl} {f : α → Bool} {v : α → D} (hi : EIc K wi ρ (xs.map emb)) (hl : xs.length ≤ 50000)
    (hb : ∀ (i : Nat) (x : α), xs[i]? = some x → BG K vs g (emb x) (wipeS ρ vs) fun r => ET K tt r (f x) ∧ (f x = true → ED K te r (v x))) : EO K (tLc wi g tt te vs) ρ (.lst ((xs.filter f).map v)) := fun H0 S G ow σ H gd Q q => hi H0 S G ow σ H gd _ fun J H1 e w => by
  intro p hp
  have gd1 := gd.ext e
  refine ⟨fun i m H' => m = xs.length - i ∧ i ≤ xs.length ∧ Acc K (Hid S ow) H1 p (((xs.take i).filter f).map v) H', ⟨xs.length, by omega, by omega, Ex.new hp, [], upd_same, All2.nil⟩, ?_⟩
  rintro i m H' ⟨rfl, hle, hA⟩
  obtain ⟨e1, acc, hacc, hr⟩ := id hA
  obtain ⟨ow', kp, g', hh, hkp, hkl⟩ := gd1.hide hp e1 (by rw [hacc]; exact fun z => nomatch z)
  have W := w (Hid S ow') H' e1 (fun b o z => by
    obtain ⟨z1, z2⟩ := hid_some z
    have hbp : b ≠ p := ne_of_none z2 hp
    rw [hid_no fun y => ((hh b).1 y).elim z1 hbp]
    exact e1 b o z2) g'.ex g'.there
  by_cases hlt : i < xs.length
  · obtain ⟨a1, a2⟩ := W.1 i (by rw [List.length_map]; exact hlt)
    have ex : xs[i]? = some xs[i] := List.getElem?_eq_getElem hlt
    have hlen : (((xs.take i).filter f).map v).length < 100000 := by
      rw [List.length_map]
      have := List.length_filter_le f (xs.take i)
      rw [List.length_take] at this
      omega
    refine .inr ⟨a1, fun H2 => Acc K (Hid S ow) H1 p (((xs.take (i + 1)).filter f).map v) H2, fun H2 z => ⟨xs.length - (i + 1), by omega, rfl, hlt, z⟩, fun x H2 y => ?_⟩
    obtain ⟨e2, sl, hsl, hx⟩ := a2 x H2 y
    rw [List.getElem?_map, ex] at hsl
    cases hsl
    refine hb i _ ex H0 S G ow' _ H2 x ((g'.ext e2).wipe vs) hx _ fun ρ3 σ3 k ew g3 => ⟨ew.trans wipe_wipe, ?_⟩
    refine k.1 H0 S G ow' σ3 H2 g3 _ fun H4 e4 => ?_
    have hA4 := hA.ext (e2.trans e4)
    rw [take_snoc ex, List.filter_append, List.map_append]
    cases hf : f xs[i] with
    | true =>
      rw [if_pos rfl]
      refine k.2 hf H0 S G ow' σ3 H4 (g3.ext e4) _ fun y H5 e5 r5 => ?_
      have hz := (hA4.ext e5).snoc hp (r5.mono (hid_less fun b z => (hh b).2 z)) hlen
      rw [List.filter_cons_of_pos hf]
      exact hz
    | false =>
      rw [if_neg Bool.false_ne_true, List.filter_cons_of_neg (by rw [hf]; exact Bool.false_ne_true)]
      show Acc K (Hid S ow) H1 p (_ ++ []) H4
      rw [List.append_nil]
      exact hA4
  · have el : i = xs.length := by omega
    subst el
    rw [List.take_length] at hA
    obtain ⟨e1, acc, hacc, hr⟩ := hA
    exact .inl ⟨W.2 _ (by rw [List.length_map]; exact Nat.le_refl _), q p H' (fresh_back e hp) (e.trans e1) (by rw [hacc]; exact fun z => nomatch z) ⟨acc, hacc, hr⟩⟩
/-- two clauses -/
theorem eo_lc2 {α β : Type} {xs : List α} {emb : α → Sl} {f : α → Bool} {ys : α → List β} {emb1 : α → β → Sl} {f1 : α → β → Bool} {v : α → β → D} (hi : EIc K wi ρ (xs.map emb)) (hl : xs.length ≤ 500) (hl1 : ∀ x ∈ xs, (ys x).length ≤ 100)
    (hb : ∀ (i : Nat) (x : α), xs[i]? = some x → BG K vs g (emb x) (wipeS ρ vs) fun r => ET K tt r (f x) ∧ (f x = true → EI K wi1 r ((ys x).map (emb1 x)) ∧
      ∀ (j : Nat) (y : β), (ys x)[j]? = some y → BG K vs1 g1 (emb1 x y) (wipeS r vs1) fun r1 => ET K tt1 r1 (f1 x y) ∧ (f1 x y = true → ED K te r1 (v x y)))) :
    EO K (tLc2 wi g tt wi1 g1 tt1 te vs vs1) ρ (.lst (xs.flatMap fun x => if f x = true then ((ys x).filter (f1 x)).map (v x) else [])) := fun H0 S G ow σ H gd Q q => hi H0 S G ow σ H gd _ fun J H1 e w => by
  intro p hp
  have gd1 := gd.ext e
  have lens : ∀ l : List α, (∀ x ∈ l, (ys x).length ≤ 100) → (l.flatMap fun x => if f x = true then ((ys x).filter (f1 x)).map (v x) else []).length ≤ 100 * l.length := fun l hx => by
    induction l with
    | nil => exact Nat.le_refl _
    | cons a l ih =>
      rw [List.flatMap_cons, List.length_append, List.length_cons]
      have h1 := ih fun x hx' => hx x (List.mem_cons_of_mem _ hx')
      have h2 : (if f a = true then ((ys a).filter (f1 a)).map (v a) else []).length ≤ 100 := by
        split
        · rw [List.length_map]
          exact Nat.le_trans (List.length_filter_le _ _) (hx a List.mem_cons_self)
        · exact Nat.zero_le _
      omega
  refine ⟨fun i m H' => m = xs.length - i ∧ i ≤ xs.length ∧ Acc K (Hid S ow) H1 p ((xs.take i).flatMap fun x => if f x = true then ((ys x).filter (f1 x)).map (v x) else []) H', ⟨xs.length, by omega, by omega, Ex.new hp, [], upd_same, All2.nil⟩, ?_⟩
  rintro i m H' ⟨rfl, hle, hA⟩
  obtain ⟨e1, acc, hacc, hr⟩ := id hA
  obtain ⟨ow', kp, g', hh, hkp, hkl, tk, hkt⟩ := gd1.hide hp e1 (by rw [hacc]; exact fun z => nomatch z)
  have W := w (Hid S ow') H' e1 (fun b o z => by
    obtain ⟨z1, z2⟩ := hid_some z
    have hbp : b ≠ p := ne_of_none z2 hp
    rw [hid_no fun y => ((hh b).1 y).elim z1 hbp]
    exact e1 b o z2) g'.ex g'.there
  by_cases hlt : i < xs.length
  · obtain ⟨a1, a2⟩ := W.1 i (by rw [List.length_map]; exact hlt)
    have ex : xs[i]? = some xs[i] := List.getElem?_eq_getElem hlt
    have hlen := lens (xs.take i) fun x hx => hl1 x (List.mem_of_mem_take hx)
    rw [List.length_take] at hlen
    refine .inr ⟨a1, fun H2 => Acc K (Hid S ow) H1 p ((xs.take (i + 1)).flatMap fun x => if f x = true then ((ys x).filter (f1 x)).map (v x) else []) H2, fun H2 z => ⟨xs.length - (i + 1), by omega, rfl, hlt, z⟩, fun x H2 y => ?_⟩
    obtain ⟨e2, sl, hsl, hx⟩ := a2 x H2 y
    rw [List.getElem?_map, ex] at hsl
    cases hsl
    refine hb i _ ex H0 S G ow' _ H2 x ((g'.ext e2).wipe vs) hx _ fun ρ3 σ3 k ew g3 => ⟨ew.trans wipe_wipe, ?_⟩
    refine k.1 H0 S G ow' σ3 H2 g3 _ fun H4 e4 => ?_
    have hA4 := hA.ext (e2.trans e4)
    rw [take_snoc ex, List.flatMap_append, List.flatMap_singleton]
    cases hf : f xs[i] with
    | false =>
      rw [if_neg Bool.false_ne_true, if_neg Bool.false_ne_true, List.append_nil]
      exact hA4
    | true =>
      rw [if_pos rfl, if_pos rfl]
      obtain ⟨hi1, hb1⟩ := k.2 hf
      have hyl := hl1 xs[i] (List.getElem_mem hlt)
      refine hi1 H0 S G ow' σ3 H4 (g3.ext e4) _ fun J1 H5 e5 w1 => ?_
      have hA5 := hA4.ext e5
      have gb := ((g3.ext e4).ext e5).based
      have hkr : ρ3.length ≤ kp := by
        have l1 := congrArg List.length ew
        rw [L2.wipe_length, L2.wipe_length, L2.wipe_length] at l1
        have l2 := g3.len
        have l3 := gd.len
        omega
      have hkr3 : kp = ρ3.length + 2 * tk + 1 := by
        have l1 := congrArg List.length ew
        rw [L2.wipe_length, L2.wipe_length, L2.wipe_length] at l1
        have l2 := g3.len
        have l3 := gd.len
        omega
      refine ⟨fun jj mm H' => mm = (ys xs[i]).length - jj ∧ jj ≤ (ys xs[i]).length ∧ Good K H0 S (hid (Hid S ow') H5) ow' σ3 H' ρ3 ∧ Acc K (Hid S ow) H1 p (((xs.take i).flatMap fun x => if f x = true then ((ys x).filter (f1 x)).map (v x) else []) ++ (((ys xs[i]).take jj).filter (f1 xs[i])).map (v xs[i])) H',
        ⟨(ys xs[i]).length, by omega, by omega, gb, by
          show Acc K (Hid S ow) H1 p (_ ++ []) H5
          rw [List.append_nil]
          exact hA5⟩, ?_⟩
      rintro jj mm H6 ⟨rfl, hle1, g6, hA6⟩
      have W1 := w1 (Hid S ow') H6 g6.kb g6.ex g6.there
      by_cases hlt1 : jj < (ys xs[i]).length
      · obtain ⟨c1, c2⟩ := W1.1 jj (by rw [List.length_map]; exact hlt1)
        have ey : (ys xs[i])[jj]? = some (ys xs[i])[jj] := List.getElem?_eq_getElem hlt1
        refine .inr ⟨c1, fun H7 => Good K H0 S (hid (Hid S ow') H5) ow' σ3 H7 ρ3 ∧ Acc K (Hid S ow) H1 p (((xs.take i).flatMap fun x => if f x = true then ((ys x).filter (f1 x)).map (v x) else []) ++ (((ys xs[i]).take (jj + 1)).filter (f1 xs[i])).map (v xs[i])) H7,
          fun H7 z => ⟨(ys xs[i]).length - (jj + 1), by omega, rfl, hlt1, z.1, z.2⟩, fun x H7 y => ?_⟩
        obtain ⟨e7, sl1, hsl1, hx1⟩ := c2 x H7 y
        rw [List.getElem?_map, ey] at hsl1
        cases hsl1
        refine hb1 jj _ ey H0 S _ ow' _ H7 x ((g6.ext e7).wipe vs1) hx1 _ fun ρ8 σ8 k8 ew8 g8 => ⟨ew8.trans wipe_wipe, ?_⟩
        refine k8.1 H0 S _ ow' σ8 H7 g8 _ fun H9 e9 => ?_
        have hA9 := hA6.ext (e7.trans e9)
        rw [take_snoc ey, List.filter_append, List.map_append]
        cases hf1 : f1 xs[i] (ys xs[i])[jj] with
        | true =>
          rw [if_pos rfl]
          refine k8.2 hf1 H0 S _ ow' σ8 H9 (g8.ext e9) _ fun z H10 e10 r10 => ?_
          have hlenA : (((xs.take i).flatMap fun x => if f x = true then ((ys x).filter (f1 x)).map (v x) else []) ++ (((ys xs[i]).take jj).filter (f1 xs[i])).map (v xs[i])).length < 100000 := by
            rw [List.length_append, List.length_map]
            have := List.length_filter_le (f1 xs[i]) ((ys xs[i]).take jj)
            rw [List.length_take] at this
            omega
          obtain ⟨acc', q1, q2, q3⟩ := (hA9.ext e10).snoc hp (r10.mono (hid_less fun b z => (hh b).2 z)) hlenA
          refine ⟨acc', q1, q2, ?_, ?_⟩
          · have g10 := (g6.ext e7).ext (e9.trans e10)
            have gw := g10.write hkp (.lst (acc' ++ [z])) (.lst _) (by
              obtain ⟨_, acc2, s1, s2⟩ := q3
              rw [upd_same] at s1
              cases s1
              refine ⟨_, upd_same, s2.mono ?_⟩
              rw [hid_upd (.inr rfl)]
              exact hid_less fun b z => (hh b).1 z) (fun z => absurd (List.getElem?_eq_none hkr) z) (.inr ⟨tk, hkr3⟩)
            rw [List.set_eq_of_length_le hkr] at gw
            exact gw
          · rw [List.filter_cons_of_pos hf1, ← List.append_assoc]
            exact q3
        | false =>
          rw [if_neg Bool.false_ne_true, List.filter_cons_of_neg (by rw [hf1]; exact Bool.false_ne_true)]
          refine ⟨(g6.ext e7).ext e9, ?_⟩
          show Acc K (Hid S ow) H1 p (_ ++ (_ ++ [])) H9
          rw [List.append_nil]
          exact hA9
      · have el : jj = (ys xs[i]).length := by omega
        subst el
        rw [List.take_length] at hA6
        exact .inl ⟨W1.2 _ (by rw [List.length_map]; exact Nat.le_refl _), hA6⟩
  · have el : i = xs.length := by omega
    subst el
    rw [List.take_length] at hA
    obtain ⟨e1, acc, hacc, hr⟩ := hA
    exact .inl ⟨W.2 _ (by rw [List.length_map]; exact Nat.le_refl _), q p H' (fresh_back e hp) (e.trans e1) (by rw [hacc]; exact fun z => nomatch z) ⟨acc, hacc, hr⟩⟩
/-- over a range, in short -/
theorem sd_forR1 {tb : TS} (h : EB K tx ρ [.int i]) (hi : -1000000 ≤ i ∧ i ≤ 1000000) (Inv : Nat → List Sl → Prop) (h0 : Inv 0 ρ)
    (hs : ∀ (l : Nat) (ρ' : List Sl), (l : Int) < i → Inv l ρ' → SD K tb (ρ'.set n (.sh (.int (l : Int)))) { Z with nx := Inv (l + 1), ct := Inv (l + 1), bk := Z.nx }) (hd : ∀ ρ', Inv i.toNat ρ' → Z.nx ρ') : SD K (tFor (iRng1 tx) (gName n) tb) ρ Z :=
  sd_for (ei_r1 h hi) Inv h0 (fun l sl ρ' e hI => by
    rw [List.getElem?_map] at e
    obtain ⟨q, e1, rfl⟩ := Option.map_eq_some_iff.mp e
    have hq := (List.getElem?_eq_some_iff.mp e1).1
    rw [List.length_range] at hq
    rw [List.getElem?_range hq] at e1
    cases e1
    exact ⟨[n], bg_name (by simp) (hs l ρ' (by omega) hI)⟩) fun ρ' hI => by
      rw [List.length_map, List.length_range] at hI
      exact hd ρ' hI
theorem sd_forR2 {tb : TS} (h : EB K tx ρ [.int i, .int j]) (hi : -1000000 ≤ i ∧ i ≤ 1000000 ∧ -1000000 ≤ j ∧ j ≤ 1000000) (Inv : Nat → List Sl → Prop) (h0 : Inv 0 ρ)
    (hs : ∀ (l : Nat) (ρ' : List Sl), i + (l : Int) < j → Inv l ρ' → SD K tb (ρ'.set n (.sh (.int (i + (l : Int))))) { Z with nx := Inv (l + 1), ct := Inv (l + 1), bk := Z.nx }) (hd : ∀ ρ', Inv (j - i).toNat ρ' → Z.nx ρ') : SD K (tFor (iRng2 tx) (gName n) tb) ρ Z :=
  sd_for (ei_r2 h hi) Inv h0 (fun l sl ρ' e hI => by
    rw [List.getElem?_map] at e
    obtain ⟨q, e1, rfl⟩ := Option.map_eq_some_iff.mp e
    have hq := (List.getElem?_eq_some_iff.mp e1).1
    rw [List.length_range] at hq
    rw [List.getElem?_range hq] at e1
    cases e1
    exact ⟨[n], bg_name (by simp) (hs l ρ' (by omega) hI)⟩) fun ρ' hI => by
      rw [List.length_map, List.length_range] at hI
      exact hd ρ' hI
/-- over a list (shared or read) or a tuple, in short: the things by a function of the place -/
theorem sd_forI {α : Type} {xs : List α} {emb : α → Sl} {tb : TS} (hi : EI K wi ρ (xs.map emb)) (Inv : Nat → List Sl → Prop) (h0 : Inv 0 ρ)
    (hs : ∀ (l : Nat) (x : α) (ρ' : List Sl), xs[l]? = some x → Inv l ρ' → ∃ vs, BG K vs g (emb x) ρ' fun r => SD K tb r { Z with nx := Inv (l + 1), ct := Inv (l + 1), bk := Z.nx }) (hd : ∀ ρ', Inv xs.length ρ' → Z.nx ρ') : SD K (tFor wi g tb) ρ Z :=
  sd_for hi Inv h0 (fun l sl ρ' e hI => by
    rw [List.getElem?_map] at e
    obtain ⟨q, e1, rfl⟩ := Option.map_eq_some_iff.mp e
    exact hs l q ρ' e1 hI) fun ρ' hI => by
      rw [List.length_map] at hI
      exact hd ρ' hI
theorem inV_ints (i : Int) (is : List Int) : inV (.int i) (is.map V.int) = is.any fun y => decide (y = i) := by
  unfold inV
  rw [List.any_map]
  rfl
theorem ed_inT {is : List Int} (ha : ED K ta ρ (.int i)) (hb : EB K tx ρ (is.map .int)) (hl : is.length ≤ 100000 := by first | decide | simp) : ED K (tOp (rIn K false) ta (tTup tx)) ρ (.bl (is.any fun y => decide (y = i))) := fun H0 S G ow σ H g Q q =>
  ha H0 S G ow σ H g _ fun v H1 e1 r1 => by
    refine ed_tup hb (by rw [List.length_map]; exact hl) H0 S G ow σ H1 (g.ext e1) _ fun u H2 e2 r2 => ?_
    obtain ⟨a, xs, rfl, hs, hr⟩ := r2.tup_inv
    have hx : xs = is.map V.int := by
      refine List.ext_getElem? fun k => ?_
      rw [List.getElem?_map]
      cases h : is[k]? with
      | none =>
        have := List.getElem?_eq_none_iff.mp h
        rw [List.getElem?_eq_none (by have := hr.1; rw [List.length_map] at this; omega)]
        rfl
      | some y =>
        obtain ⟨z, hz, rz⟩ := hr.get (i := k) (y := .int y) (by rw [List.getElem?_map, h]; rfl)
        rw [hz, rz.int_inv]
        rfl
    subst hx
    refine ⟨a, _, rfl, Or.inr (ex_t hid_sub hs), by rw [r1.int_inv]; rfl, by rw [List.all_map]; exact List.all_eq_true.mpr fun _ _ => rfl, ?_⟩
    rw [r1.int_inv, if_neg Bool.false_ne_true, inV_ints]
    exact q _ H2 (e1.trans e2) (.bl _)
/-- a def's promise by value: what T tells is not its own to share -/
def PSh (K : PySem.W.Frag) (as : List (Bool × D)) (d : D) (vs : List V) (H : Hp) (Q : VK) : Prop := ∃ T : Addr → Prop, (∀ b, T b → Nb (H b)) ∧ Args K (hid T H) H vs as ∧ ∀ v H', Ex H H' → Rep K (hid T H') v d → Q v H'
def POw (K : PySem.W.Frag) (as : List (Bool × D)) (m : M) (vs : List V) (H : Hp) (Q : VK) : Prop := ∃ T : Addr → Prop, (∀ b, T b → Nb (H b)) ∧ Args K (hid T H) H vs as ∧
  ∀ p H', H p = none → Ex H H' → Nb (H' p) → MRep K (hid (fun b => T b ∨ b = p) H') H' p m → Q (.ref p) H'
def spSh {α : Type} (K : PySem.W.Frag) (pre : α → Prop) (args : α → List (Bool × D)) (res : α → D) : Sp := fun vs H Q _ => ∃ x, pre x ∧ PSh K (args x) (res x) vs H Q
def spOw {α : Type} (K : PySem.W.Frag) (pre : α → Prop) (args : α → List (Bool × D)) (res : α → M) : Sp := fun vs H Q _ => ∃ x, pre x ∧ POw K (args x) (res x) vs H Q
theorem ed_call {α : Type} {pre : α → Prop} {args : α → List (Bool × D)} {res : α → D} {E : XK} (x : α) (hp : pre x) (ha : EA K tx ρ (args x)) : ED K (tCall (spSh K pre args res) [] E tx) ρ (res x) := fun H0 S G ow σ H g Q q =>
  ha H0 S G ow σ H g _ fun us H1 e r => by
    rw [List.append_nil]
    exact ⟨x, hp, Hid S ow, (g.ext e).there, r, fun v H' e' r' => q v H' (e.trans e') r'⟩
theorem eo_call {α : Type} {pre : α → Prop} {args : α → List (Bool × D)} {res : α → M} {E : XK} (x : α) (hp : pre x) (ha : EA K tx ρ (args x)) : EO K (tCall (spOw K pre args res) [] E tx) ρ (res x) := fun H0 S G ow σ H g Q q =>
  ha H0 S G ow σ H g _ fun us H1 e r => by
    rw [List.append_nil]
    exact ⟨x, hp, Hid S ow, (g.ext e).there, r, fun p H' hp e' nn r' => q p H' (fresh_back e hp) (e.trans e') nn r'⟩
def slots : List (Bool × D) → List Sl
  | [] => []
  | (true, d) :: as => .sh d :: slots as
  | (false, d) :: as => .rd d :: slots as
theorem slots_len : ∀ as : List (Bool × D), (slots as).length = as.length
  | [] => rfl
  | (true, d) :: as => congrArg (· + 1) (slots_len as)
  | (false, d) :: as => congrArg (· + 1) (slots_len as)
theorem slots_at : ∀ {as : List (Bool × D)} {vs : List V} {T H : Hp} {i : Nat} {sl : Sl}, Args K T H vs as → (slots as)[i]? = some sl → ∃ v, vs[i]? = some v ∧ SlV K H T v sl
  | [], _, _, _, _, _, _, e => by simp [slots] at e
  | (b, d) :: as, vs, T, H, 0, sl, r, e => by
    obtain ⟨u, us, rfl, ru, rr⟩ := r.un_cons
    refine ⟨u, rfl, ?_⟩
    cases b with
    | true =>
      have e' : sl = .sh d := (Option.some.inj e).symm
      subst e'
      unfold Arg at ru
      rw [if_pos rfl] at ru
      exact ru
    | false =>
      have e' : sl = .rd d := (Option.some.inj e).symm
      subst e'
      unfold Arg at ru
      rw [if_neg Bool.false_ne_true] at ru
      exact ru
  | (b, d) :: as, vs, T, H, i + 1, sl, r, e => by
    obtain ⟨u, us, rfl, ru, rr⟩ := r.un_cons
    have e' : (slots as)[i]? = some sl := by cases b <;> exact e
    obtain ⟨v, h1, h2⟩ := slots_at rr e'
    exact ⟨v, h1, h2⟩
theorem good_start {T : Addr → Prop} {H : Hp} {as : List (Bool × D)} {us : List V} {N : List Str} (hT : ∀ b, T b → Nb (H b)) (ha : Args K (hid T H) H us as) (hN : as.length ≤ N.length) :
    Good K H T (fun _ => none) (fun _ => none) (L2.start N us) H (slots as ++ List.replicate (N.length - as.length) .no) := by
  have eh : hid (Hid T fun _ => none) H = hid T H := by
    funext b
    by_cases h : T b
    · rw [hid_yes h, hid_yes (.inl h)]
    · rw [hid_no h, hid_no fun z => z.elim h fun ⟨i, z⟩ => nomatch z]
  refine { len := ?_, ex := Ex.refl _, sd := hT, new := fun i p h => (nomatch h), on := fun i p h => (nomatch h), inj := fun i j p h => (nomatch h), kb := fun b o h => (nomatch h), fin := ⟨0, fun _ _ => rfl⟩, at_ := fun i sl h => ?_ }
  · unfold L2.start
    rw [List.length_append, List.length_append, List.length_map, List.length_replicate, List.length_replicate, slots_len, ha.1]
  · by_cases hi : i < as.length
    · rw [List.getElem?_append_left (by rw [slots_len]; exact hi)] at h
      obtain ⟨v, h1, h2⟩ := slots_at ha h
      have es : (L2.start N us)[i]? = some (some v) := by
        unfold L2.start
        rw [List.getElem?_append_left (by rw [List.length_map, ha.1]; exact hi), List.getElem?_map, h1]
        rfl
      cases sl with
      | no => trivial
      | pr _ _ => trivial
      | sh d => exact ⟨v, es, by rw [eh]; exact h2⟩
      | rd d => exact ⟨v, es, h2⟩
      | own m => exact h2.elim
      | ph _ => exact h2.elim
    · rw [List.getElem?_append_right (by rw [slots_len]; omega)] at h
      have e := (List.getElem?_replicate (n := N.length - as.length) (a := Sl.no) (i := i - (slots as).length)).symm.trans h
      split at e
      · cases e; trivial
      · cases e
theorem body_sh {T : Addr → Prop} {H : Hp} {as : List (Bool × D)} {us : List V} {N : List Str} {Q : VK} {ρ0 : List Sl} (h : PSh K as d us H Q) (hN : as.length ≤ N.length) (hρ : slots as ++ List.replicate (N.length - as.length) .no = ρ0)
    (sd : SD K ts ρ0 { nx := fun _ => d = .non, rt := RSh K d }) : ts { nx := fun _ H' => Q .non H', rt := Q } (L2.start N us) H := by
  obtain ⟨T, hT, ha, q⟩ := h
  subst hρ
  exact sd H T _ _ _ H _ (good_start hT ha hN) (fun ρ' ow' σ' H' e g => q _ H' g.ex (by rw [e]; exact .non)) (fun _ _ _ _ z => z.elim) (fun _ _ _ _ z => z.elim) ⟨fun v H' r => q v H' r.1 r.2, trivial⟩
theorem body_ow {T : Addr → Prop} {H : Hp} {as : List (Bool × D)} {us : List V} {N : List Str} {Q : VK} {ρ0 : List Sl} (h : POw K as m us H Q) (hN : as.length ≤ N.length) (hρ : slots as ++ List.replicate (N.length - as.length) .no = ρ0)
    (sd : SD K ts ρ0 { nx := fun _ => False, rt := ROwn K m }) : ts { nx := fun _ H' => Q .non H', rt := Q } (L2.start N us) H := by
  obtain ⟨T, hT, ha, q⟩ := h
  subst hρ
  exact sd H T _ _ _ H _ (good_start hT ha hN) (fun ρ' ow' σ' H' e g => e.elim) (fun _ _ _ _ z => z.elim) (fun _ _ _ _ z => z.elim) ⟨fun v H' ⟨p, e, a, b, c, r⟩ => by
    rw [e]
    exact q p H' a b c r, trivial⟩
section
variable {P : Program} {w : World} {mg : Str → Option Value} {base : Heap}
/-- a def that tells a datum -/
theorem fun_sh {α : Type} {pre : α → Prop} {args : α → List (Bool × D)} {res : α → D} {x qual : Str} {st : Stmt} {f : Addr} {fd : FuncData} {N ps : List Str} {k : Nat} (F : Fun K x qual st f fd) (S : FnScope N ps (defScope st)) (hl : ∀ x, (args x).length = ps.length)
    (hN : ps.length ≤ N.length)
    (hb : ∀ (cdv : Value) (A : Around) (outer : List Env) (s : Shared) (H : Hp) (E : XK), Room k (A.deeper (envOfC qual (defScope st) s.heap.objs.size f cdv)) → ∀ x, pre x →
      ∃ t, PSs (cxOf CX0 P w K mg base N qual (defScope st) f cdv A outer s H E).nox (defBody st) t ∧ SD K t (slots (args x) ++ List.replicate (N.length - (args x).length) .no) { nx := fun _ => res x = .non, rt := RSh K (res x) }) :
    FnOk P w K mg base CX0 (k + 1) f fd ps (spSh K pre args res) := by
  refine F.ok S (fun vs H Q E h => ?_) (fun cdv A outer s H vs Q E hr h => ?_)
  · obtain ⟨x, _, T, _, ha, _⟩ := h
    rw [ha.1]
    exact hl x
  · obtain ⟨x, hx, h⟩ := h
    obtain ⟨t, h1, h2⟩ := hb cdv A outer s H E hr x hx
    exact ⟨t, h1, body_sh (T := fun _ => False) h (by rw [hl]; exact hN) rfl h2⟩
/-- a def that tells a new list or dict -/
theorem fun_ow {α : Type} {pre : α → Prop} {args : α → List (Bool × D)} {res : α → M} {x qual : Str} {st : Stmt} {f : Addr} {fd : FuncData} {N ps : List Str} {k : Nat} (F : Fun K x qual st f fd) (S : FnScope N ps (defScope st)) (hl : ∀ x, (args x).length = ps.length)
    (hN : ps.length ≤ N.length)
    (hb : ∀ (cdv : Value) (A : Around) (outer : List Env) (s : Shared) (H : Hp) (E : XK), Room k (A.deeper (envOfC qual (defScope st) s.heap.objs.size f cdv)) → ∀ x, pre x →
      ∃ t, PSs (cxOf CX0 P w K mg base N qual (defScope st) f cdv A outer s H E).nox (defBody st) t ∧ SD K t (slots (args x) ++ List.replicate (N.length - (args x).length) .no) { nx := fun _ => False, rt := ROwn K (res x) }) :
    FnOk P w K mg base CX0 (k + 1) f fd ps (spOw K pre args res) := by
  refine F.ok S (fun vs H Q E h => ?_) (fun cdv A outer s H vs Q E hr h => ?_)
  · obtain ⟨x, _, T, _, ha, _⟩ := h
    rw [ha.1]
    exact hl x
  · obtain ⟨x, hx, h⟩ := h
    obtain ⟨t, h1, h2⟩ := hb cdv A outer s H E hr x hx
    exact ⟨t, h1, body_ow (T := fun _ => False) h (by rw [hl]; exact hN) rfl h2⟩
end
end
end BV
end
section
open PySem PySem.Spec PyProof.Rows L2 Evl
namespace BV
/-- the def at the global name x keeps sp, at level k -/
structure Cal (P : Program) (w : World) (K : PySem.W.Frag) (mg : Str → Option Value) (base : Heap) (k : Nat) (x : Str) (sp : Sp) : Prop where
  ex : ∃ (f : Addr) (fd : FuncData) (ps : List Str), FnOk P w K mg base CX0 k f fd ps sp ∧ mg x = some (.ref f) ∧ PySem.W.keepIn K (.ref f) = true ∧ Binds K fd ps []
/-- the class at the global name x, its __init__ keeps sp -/
structure Mak (P : Program) (w : World) (K : PySem.W.Frag) (mg : Str → Option Value) (base : Heap) (k : Nat) (x : Str) (C : Addr) (sp : Sp) : Prop where
  ex : ∃ (f : Addr) (fd : FuncData) (ps : List Str), Mk K C f ∧ FnOk P w K mg base CX0 k f fd ps sp ∧ mg x = some (.ref C) ∧ Binds K fd ps []
section
variable {X : Cx} {k j : Nat} {C : Addr} {x : Str} {sp : Sp} {p pos : Pos} {e : Expr} {es : List Expr} {t : TA}
theorem pe_cal (c : Cal X.prog X.w X.K X.mg X.base k x sp) (hr : Room j X.A) (hk : k ≤ j) (hg : Gl X x) (ha : PA X (e :: es) t) (hdb : (x == ("__debug__" : Str)) = false := by decide)
    (he : starEach (e :: es) X.env = (false, eval e X.env) :: starEach es X.env := by rfl) (hpl : (backTo pos (starEach es X.env)).any (·.1) = false := by rfl) : PE X (.Call (.Name x p) (e :: es) [] pos) (tCall sp [] E0 t) := by
  obtain ⟨f, fd, ps, F, hm, kp, b⟩ := c.ex
  exact pe_call F (hr.mono hk) hg hm kp b .nil pass0 ha hdb he hpl
theorem pe_mak (c : Mak X.prog X.w X.K X.mg X.base k x C sp) (hr : Room j X.A) (hk : k + 1 ≤ j) (hg : Gl X x) (ha : PA X (e :: es) t) (hdb : (x == ("__debug__" : Str)) = false := by decide)
    (he : starEach (e :: es) X.env = (false, eval e X.env) :: starEach es X.env := by rfl) (hpl : (backTo pos (starEach es X.env)).any (·.1) = false := by rfl) : PE X (.Call (.Name x p) (e :: es) [] pos) (tMake C sp [] E0 t) := by
  obtain ⟨f, fd, ps, M, F, hm, b⟩ := c.ex
  exact pe_make M F (hr.mono hk) hg hm b .nil pass0 ha hdb he hpl
end
/-- a def of the text that stands at its global name -/
structure Dfn (K : PySem.W.Frag) (mg : Str → Option Value) (x : Str) (st : Stmt) : Prop where
  ex : ∃ f fd, Fun K x x st f fd ∧ mg x = some (.ref f)
section
variable {P : Program} {w : World} {K : PySem.W.Frag} {mg : Str → Option Value} {base : Heap}
theorem Dfn.sh {α : Type} {pre : α → Prop} {args : α → List (Bool × D)} {res : α → D} {x : Str} {st : Stmt} {N ps : List Str} {k : Nat} (F : Dfn K mg x st) (S : FnScope N ps (defScope st)) (hl : ∀ x, (args x).length = ps.length)
    (hN : ps.length ≤ N.length) (hB : ∀ (kV doc pm : Value) (an : Option Addr) (cdv ct : Value) (us : List Value), us.length = ps.length → bindArgs (PySem.W.fnOf x x (defArgs st) (defBody st) (defScope st) .none kV doc pm an cdv ct) ⟨us, []⟩ = pure (ps.zip us))
    (hb : ∀ (f : Addr) (cdv : Value) (A : Around) (outer : List Env) (s : Shared) (H : Hp) (E : XK), Room k (A.deeper (envOfC x (defScope st) s.heap.objs.size f cdv)) → ∀ y, pre y →
      ∃ t, PSs (cxOf CX0 P w K mg base N x (defScope st) f cdv A outer s H E).nox (defBody st) t ∧ SD K t (slots (args y) ++ List.replicate (N.length - (args y).length) .no) { nx := fun _ => res y = .non, rt := RSh K (res y) }) :
    Cal P w K mg base (k + 1) x (spSh K pre args res) := by
  obtain ⟨f, fd, F, hm⟩ := F.ex
  exact ⟨f, fd, ps, fun_sh F S hl hN (hb f), hm, F.kp, F.binds hB⟩
theorem Dfn.ow {α : Type} {pre : α → Prop} {args : α → List (Bool × D)} {res : α → M} {x : Str} {st : Stmt} {N ps : List Str} {k : Nat} (F : Dfn K mg x st) (S : FnScope N ps (defScope st)) (hl : ∀ x, (args x).length = ps.length)
    (hN : ps.length ≤ N.length) (hB : ∀ (kV doc pm : Value) (an : Option Addr) (cdv ct : Value) (us : List Value), us.length = ps.length → bindArgs (PySem.W.fnOf x x (defArgs st) (defBody st) (defScope st) .none kV doc pm an cdv ct) ⟨us, []⟩ = pure (ps.zip us))
    (hb : ∀ (f : Addr) (cdv : Value) (A : Around) (outer : List Env) (s : Shared) (H : Hp) (E : XK), Room k (A.deeper (envOfC x (defScope st) s.heap.objs.size f cdv)) → ∀ y, pre y →
      ∃ t, PSs (cxOf CX0 P w K mg base N x (defScope st) f cdv A outer s H E).nox (defBody st) t ∧ SD K t (slots (args y) ++ List.replicate (N.length - (args y).length) .no) { nx := fun _ => False, rt := ROwn K (res y) }) :
    Cal P w K mg base (k + 1) x (spOw K pre args res) := by
  obtain ⟨f, fd, F, hm⟩ := F.ex
  exact ⟨f, fd, ps, fun_ow F S hl hN (hb f), hm, F.kp, F.binds hB⟩
end
end BV
end
section
set_option maxHeartbeats 2000000
open PySem PySem.Spec PyProof.Rows L2
namespace BV
/-- the table at a has the tuples L -/
structure PT (P : Program) (w : World) (h : Heap) (a : Addr) (L : List (Addr × List Int)) (es : Array (Int × Value)) (ep : Nat) (t : SetTable) : Prop where
  here : ∃ o, h.get? a = some o ∧ (o.ExactSet ∧ o.data = .set es ep t)
  rowsE : es.toList = rowsOf P w L
  tabE : TabOk t (L.map fun q => thash P w q.2)
  ndE : (L.map fun q => q.2).Nodup
  tupE : ∀ q, q ∈ L → IsT P w h q.2 q.1
  plainE : t.plain = true
  ledE : w.params.followText "set-order" = true ∨ t.led = true
  roomE : 5 * L.length < 3 * t.mask
section
variable {P : Program} {w : World} {A : Around} {E : Value → Shared → Prop} {s : Shared} {a : Addr} {L : List (Addr × List Int)} {es : Array (Int × Value)} {ep : Nat} {t : SetTable}
theorem PT.count (R : PT P w s.heap a L es ep t) : es.size = L.length := by
  have e := congrArg List.length R.rowsE
  rw [Array.length_toList] at e
  rw [e]
  exact List.length_map _
theorem PT.fit (R : PT P w s.heap a L es ep t) : t.fits es.size = true := by
  have q1 := R.tabE.sz
  have q2 := R.count
  have q3 := R.roomE
  rw [List.length_map] at q1
  unfold SetTable.fits SetTable.fill
  rw [R.tabE.dm, Bool.and_eq_true, beq_iff_eq, decide_eq_true_eq]
  exact ⟨by omega, by show t.place.size + 0 ≤ t.mask; omega⟩
theorem PT.at_ (R : PT P w s.heap a L es ep t) {i : Nat} {q : Addr × List Int} (e : L[i]? = some q) : es[i]? = some (thash P w q.2, Value.ref q.1) := by
  have z : es.toList[i]? = some (thash P w q.2, Value.ref q.1) := by
    rw [R.rowsE]
    show (L.map _)[i]? = _
    rw [List.getElem?_map, e]
    rfl
  rw [Array.getElem?_toList] at z
  exact z
theorem PT.stays (R : PT P w s.heap a L es ep t) : ¬ t.gaveWay = true := by
  unfold SetTable.gaveWay
  rw [mask_odd R.tabE.mok]
  exact fun z => absurd z (by decide)
abbrev begin_ (t : SetTable) (h : Int) : SetTable.Probe := runAt t.mask (SetTable.bits h % (t.mask + 1)) (SetTable.bits h)
/-- the search, from its c-th step on, asked for adding or not -/
theorem seek (R : PT P w s.heap a L es ep t) {x : Addr} {k : List Int} (hx : IsT P w s.heap k x) (hu : A.units < cLine) {b : Bool} {M : Nat} (hM1 : M < 10 * SetTable.turns t.mask)
    (hM2 : way t.mask (thash P w k) M ∉ t.place.toList) (hM3 : ∀ c, c < M → way t.mask (thash P w k) c ∈ t.place.toList) {Q : SetFound → Shared → Prop}
    (hin : k ∈ L.map (fun q => q.2) → ∀ r : Option Nat, (b = false → r.isSome = true) → Q (.there r) s) (hout : k ∉ L.map (fun q => q.2) → Q (.free (way t.mask (thash P w k) M) false) s) :
    ∀ (f c : Nat) (stand : Option SetTable.Probe), stand.getD (t.probeStart (thash P w k)) = nth t.mask (begin_ t (thash P w k)) c → c ≤ M → M - c < f →
      (∀ (i : Nat) q, L[i]? = some q → q.2 = k → ∃ d, c ≤ d ∧ d < M ∧ t.place.toList[i]? = some (way t.mask (thash P w k) d)) →
      wpAny (model P w) A (setSearchFrom a (.ref x) (thash P w k) b f stand) Q E s := by
  intro f
  induction f with
  | zero => exact fun c _ _ _ z => absurd z (Nat.not_lt_zero _)
  | succ f ih =>
    intro c stand hst hc hf hre
    obtain ⟨o, ho, hex, hd⟩ := R.here
    rw [setSearchFrom_succ]
    refine wpAny_bind (wpAny_setState_of ho hd R.fit ?_)
    dsimp only
    refine wp_if_neg R.stays ?_
    try refine wpAny_bind (wpAny_pure ?_)
    have dm : ∀ (n : Nat) (p : SetTable.Probe), p.dummy = none → (nth t.mask p n).dummy = none := fun n => by
      induction n with
      | zero => exact fun p z => z
      | succ n ihn =>
        intro p z
        refine ihn (adv t.mask p) ?_
        unfold adv
        split <;> exact z
    have on : ∀ q, nth t.mask (nth t.mask (begin_ t (thash P w k)) c) q = nth t.mask (begin_ t (thash P w k)) (c + q) := fun q => (nth_add t.mask c _ q).symm
    have onj : ∀ q, (nth t.mask (nth t.mask (begin_ t (thash P w k)) c) q).j = way t.mask (thash P w k) (c + q) := fun q => congrArg SetTable.Probe.j (on q)
    have sp := go_spec t R.tabE.ris R.tabE.dm (fun i => (es[i]?.map (·.1)).getD 0) (thash P w k) (10 * SetTable.turns t.mask) (M - c) _ (dm c (begin_ t (thash P w k)) rfl) (Nat.lt_of_le_of_lt (Nat.sub_le M c) hM1)
      (fun q hq => (onj q).symm ▸ hM3 (c + q) (Nat.add_lt_of_lt_sub' hq)) (by
        rw [onj, Nat.add_sub_cancel' hc]
        exact hM2)
    have hash : ∀ (i : Nat) q, L[i]? = some q → (es[i]?.map (·.1)).getD 0 = thash P w q.2 := fun i q e => by
      rw [R.at_ e]
      rfl
    rcases sp with ⟨q, i, hq, hi, hh, hno, hpr⟩ | ⟨hno, hpr⟩
    · have pr : t.probe (fun i => (es[i]?.map (·.1)).getD 0) (thash P w k) (stand.getD (t.probeStart (thash P w k))) = some (.candidate (way t.mask (thash P w k) (c + q)) i (nth t.mask (begin_ t (thash P w k)) (c + (q + 1)))) := by
        rw [hst, ← onj, ← on]
        exact hpr
      rw [pr]
      dsimp only
      rw [onj] at hi
      have li : i < L.length := by
        have z1 := (List.getElem?_eq_some_iff.mp hi).1
        have z2 := R.tabE.sz
        rw [List.length_map] at z2
        rw [Array.length_toList, z2] at z1
        exact z1
      obtain ⟨e, he⟩ : ∃ e, L[i]? = some e := ⟨_, List.getElem?_eq_getElem li⟩
      have me : e ∈ L := List.mem_of_getElem? he
      have te := R.tupE e me
      have live : t.slot (way t.mask (thash P w k) (c + q)) = .live i := slot_live R.tabE.ris hi
      have rest : wpAny (model P w) A (searchRest a (.ref x) (thash P w k) b f es t (way t.mask (thash P w k) (c + q)) i (nth t.mask (begin_ t (thash P w k)) (c + (q + 1)))) Q E s := by
        unfold searchRest
        rw [R.at_ he]
        dsimp only
        refine wpAny_bind (wpAny_holding (wpAny_eqBool_tuple hu te hx ?_))
        refine wpAny_bind (wpAny_setState_of ho hd R.fit ?_)
        dsimp only
        by_cases ek : e.2 = k
        · have mem : k ∈ L.map fun q => q.2 := List.mem_map.mpr ⟨e, me, ek⟩
          cases b with
          | true =>
            refine wp_if_pos (by simp [ek]) ?_
            exact wpAny_pure (hin mem none fun z => absurd z (by decide))
          | false =>
            refine wp_if_neg (by simp) ?_
            try refine wpAny_bind (wpAny_pure ?_)
            rw [sameMem]
            dsimp only
            simp only [if_true, live, R.at_ he]
            refine wpAny_bind (wpAny_isSame_ref_self (wpAny_bind (wpAny_pure ?_)))
            simp only [if_true]
            refine wp_if_pos (by simp [ek]) ?_
            exact wpAny_pure (hin mem (some i) fun _ => rfl)
        · refine wp_if_neg (by simp [ek]) ?_
          try refine wpAny_bind (wpAny_pure ?_)
          rw [sameMem]
          dsimp only
          simp only [if_true, live, R.at_ he]
          refine wpAny_bind (wpAny_isSame_ref_self (wpAny_bind (wpAny_pure ?_)))
          simp only [if_true]
          refine wp_if_neg (by simp [ek]) ?_
          refine ih (c + (q + 1)) _ rfl (by omega) (by omega) fun i0 q0 e0 k0 => ?_
          obtain ⟨d, d1, d2, d3⟩ := hre i0 q0 e0 k0
          have dne : d ≠ c + q := fun z => by
            rw [z] at d3
            have s0 := slot_live R.tabE.ris d3
            rw [live] at s0
            injection s0 with s0
            rw [← s0, he] at e0
            exact ek ((congrArg Prod.snd (Option.some.inj e0)).trans k0)
          have dge : ¬ d < c + q := fun z => by
            refine hno (d - c) i0 (by omega) (by rw [onj, show c + (d - c) = d by omega]; exact d3) ?_
            exact (hash i0 q0 e0).trans (congrArg (thash P w) k0)
          exact ⟨d, by omega, d2, d3⟩
      by_cases led : t.led = true
      · refine wp_if_neg (by simp [led]) ?_
        try refine wpAny_bind (wpAny_pure ?_)
        exact rest
      · refine wp_if_pos (by simp [led]) ?_
        refine wpAny_bind (seen_tup hx (fun y hy => ?_) ?_)
        · obtain ⟨v, hv, ev⟩ := List.mem_map.mp hy
          have v1 : v ∈ es ∧ v.1 = thash P w k := by simpa using hv
          have v2 : v ∈ es.toList := by simpa using v1.1
          rw [R.rowsE] at v2
          obtain ⟨u, hu2, eu⟩ := List.mem_map.mp v2
          exact ⟨u.2, u.1, by rw [← ev, ← eu], R.tupE u hu2⟩
        · refine wp_if_neg (by decide) ?_
          try refine wpAny_bind (wpAny_pure ?_)
          exact rest
    · have pr : t.probe (fun i => (es[i]?.map (·.1)).getD 0) (thash P w k) (stand.getD (t.probeStart (thash P w k))) = some (.empty (way t.mask (thash P w k) M) none) := by
        have ew : way t.mask (thash P w k) M = (nth t.mask (nth t.mask (begin_ t (thash P w k)) c) (M - c)).j := by
          rw [onj, Nat.add_sub_cancel' hc]
        rw [hst, ew]
        exact hpr
      rw [pr]
      dsimp only
      refine wpAny_pure (hout fun mem => ?_)
      obtain ⟨q0, m0, k0⟩ := List.mem_map.mp mem
      obtain ⟨i0, l0, e0⟩ := List.getElem_of_mem m0
      have e1 : L[i0]? = some q0 := by rw [List.getElem?_eq_getElem l0, e0]
      obtain ⟨d, d1, d2, d3⟩ := hre i0 q0 e1 k0
      refine hno (d - c) i0 (by omega) (by rw [onj, show c + (d - c) = d by omega]; exact d3) ?_
      exact (hash i0 q0 e1).trans (congrArg (thash P w) k0)
theorem seek0 (R : PT P w s.heap a L es ep t) {x : Addr} {k : List Int} (hx : IsT P w s.heap k x) (hu : A.units < cLine) {b : Bool} {Q : SetFound → Shared → Prop}
    (hin : k ∈ L.map (fun q => q.2) → ∀ r : Option Nat, (b = false → r.isSome = true) → Q (.there r) s)
    (hout : ∀ M, k ∉ L.map (fun q => q.2) → way t.mask (thash P w k) M ∉ t.place.toList → (∀ c, c < M → way t.mask (thash P w k) c ∈ t.place.toList) → Q (.free (way t.mask (thash P w k) M) false) s) :
    wpAny (model P w) A (setSearch a (.ref x) (thash P w k) b) Q E s := by
  have room := R.roomE
  obtain ⟨M, m1, m2, m3⟩ := R.tabE.first (by rw [List.length_map]; omega) (thash P w k)
  have small : M < 100000 := by
    have z : 10 * SetTable.turns t.mask ≤ 1420 := by
      unfold SetTable.turns
      rcases R.tabE.mok with e | e | e <;> omega
    omega
  unfold setSearch
  refine seek R hx hu m1 m2 m3 hin (fun n => hout M n m2 m3) 100000 0 none rfl (Nat.zero_le _) (by omega) fun i q e ek => ?_
  have hi : (L.map fun q => thash P w q.2)[i]? = some (thash P w k) := by
    rw [List.getElem?_map, e, ← ek]
    rfl
  have li : i < t.place.toList.length := by
    have z1 := (List.getElem?_eq_some_iff.mp e).1
    have z2 := R.tabE.sz
    rw [List.length_map] at z2
    rw [Array.length_toList, z2]
    exact z1
  obtain ⟨d, hd, ed⟩ := R.tabE.before m2 hi (List.getElem?_eq_getElem li)
  exact ⟨d, Nat.zero_le _, hd, by rw [List.getElem?_eq_getElem li, ed]⟩
/-- in -/
theorem there_at (R : PT P w s.heap a L es ep t) {x : Addr} {k : List Int} (hx : IsT P w s.heap k x) (hu : A.units < cLine) {Q : Option Nat → Shared → Prop} (h : ∀ r : Option Nat, r.isSome = decide (k ∈ L.map fun q => q.2) → Q r s) :
    wpAny (model P w) A (setFind a (.ref x) (thash P w k)) Q E s := by
  obtain ⟨o, ho, hex, hd⟩ := R.here
  show wpAny _ _ (setFindIn a (.ref x) (thash P w k) (99999 + 1)) _ _ _
  unfold setFindIn
  refine wpAny_bind (wpAny_setState_of ho hd R.fit ?_)
  dsimp only
  refine wp_if_neg (by simp [byScan, Value.scannable]) ?_
  try refine wpAny_bind (wpAny_pure ?_)
  refine wpAny_bind (seek0 R hx hu (fun m r hr => ?_) fun M n m2 m3 => ?_)
  · dsimp only
    exact wpAny_pure (h r (by rw [hr rfl]; exact (decide_eq_true m).symm))
  · dsimp only
    exact wpAny_pure (h none (decide_eq_false n).symm)
/-- the table laid anew -/
theorem lay_anew {o : Obj} (ho : s.heap.get? a = some o) (hex : o.ExactSet) (hd : o.data = .set es ep t) (rows : es.toList = rowsOf P w L) (tab : TabOk t (L.map fun q => thash P w q.2)) (full : es.size ≤ t.mask)
    (nd : (L.map fun q => q.2).Nodup) (tup : ∀ q, q ∈ L → IsT P w s.heap q.2 q.1) (pl : t.plain = true) (ld : w.params.followText "set-order" = true ∨ t.led = true) {n M : Nat} (hw : SetTable.sizeAbove n - 1 = M) (hM : MaskOk M)
    (hz : SetTable.sizeAbove n ≤ 128) (room : 5 * L.length < 3 * M) {Q : Unit → Shared → Prop} (hQ : ∀ h' L' es' ep' t', Heap.SameBut a s.heap h' → PT P w h' a L' es' ep' t' → L'.Perm L → Q () { s with heap := h' }) : wpAny (model P w) A (setRelay a n) Q E s := by
  have cnt : es.size = L.length := by
    have e := congrArg List.length rows
    rw [Array.length_toList] at e
    rw [e]
    exact List.length_map _
  have fit : t.fits es.size = true := by
    have q1 := tab.sz
    rw [List.length_map] at q1
    unfold SetTable.fits SetTable.fill
    rw [tab.dm, Bool.and_eq_true, beq_iff_eq, decide_eq_true_eq]
    exact ⟨by omega, by show t.place.size + 0 ≤ t.mask; omega⟩
  obtain ⟨t', order, e, perm, T, em, el, epl, edm⟩ := relaid_ok t (hs := es.map (·.1)) (wanted := n) hw hM (by rw [Array.size_map, cnt]; omega)
  rw [Array.size_map, cnt] at perm
  obtain ⟨L', r1, r2, r3⟩ := order_rows L es order rows perm
  rw [← r3] at T
  have cnt' : (order.filterMap (es[·]?)).size = es.size := by
    have z := congrArg List.length r1
    rw [Array.length_toList] at z
    rw [z, cnt, ← r2.length_eq]
    exact List.length_map _
  rw [setRelay_eq]
  refine wpAny_bind (wpAny_setState_of ho hd fit ?_)
  dsimp only
  refine wp_if_neg (by rw [sizeLine_eq]; omega) ?_
  try refine wpAny_bind (wpAny_pure ?_)
  rw [e]
  dsimp only
  refine wpAny_bind ?_
  refine wp_if_neg (by rw [cnt']; simp) ?_
  try refine wpAny_bind (wpAny_pure ?_)
  refine wpAny_pure ?_
  dsimp only
  refine wpAny_storeSet_of ho hd ?_ (by rw [cnt', cnt, sizeLine_eq]; rcases hM with z | z | z <;> omega)
  have but : Heap.SameBut a s.heap (s.heap.update a (Obj.putSet (order.filterMap (es[·]?)) t')) := Heap.SameBut.update ..
  refine hQ _ L' _ (ep + 1) t' but ⟨⟨_, store_at ho hd, ⟨hex.1, hex.2.1, hex.2.2⟩, rfl⟩, r1, T, ?_, fun q hq => isT_same (tup q (r2.mem_iff.mp hq)) ho hd but, by rw [epl]; exact pl, by rw [el]; exact ld, by rw [r2.length_eq, em]; exact room⟩ r2
  exact (r2.map _).nodup_iff.mpr nd
/-- add -/
theorem put_at (R : PT P w s.heap a L es ep t) {x : Addr} {k : List Int} (hx : IsT P w s.heap k x) (hu : A.units < cLine) (few : L.length + 1 ≤ 76) {Q : Bool → Shared → Prop}
    (hQ : ∀ b h' L' es' ep' t', Heap.SameBut a s.heap h' → PT P w h' a L' es' ep' t' → (k ∈ L.map (fun q => q.2) → L' = L) → (k ∉ L.map (fun q => q.2) → L'.Perm ((x, k) :: L)) → Q b { s with heap := h' }) :
    wpAny (model P w) A (setAddHashed a (.ref x) (thash P w k)) Q E s := by
  obtain ⟨o, ho, hex, hd⟩ := R.here
  have cnt := R.count
  have room := R.roomE
  unfold setAddHashed
  refine wpAny_holding ?_
  show wpAny _ _ (setAddHashedIn a (.ref x) (thash P w k) (99999 + 1)) _ _ _
  rw [setAddHashedIn_succ]
  refine wpAny_bind (wpAny_setState_of ho hd R.fit ?_)
  dsimp only
  refine wp_if_neg (by simp [byScan, Value.scannable]) ?_
  try refine wpAny_bind (wpAny_pure ?_)
  refine wpAny_bind (seek0 R hx hu (fun m r _ => ?_) fun M n m2 m3 => ?_)
  · dsimp only
    exact wpAny_pure (hQ false s.heap L es ep t (Heap.SameBut.refl a s.heap) R (fun _ => rfl) fun z => absurd m z)
  · dsimp only
    refine wpAny_bind (wpAny_setState_of ho hd R.fit ?_)
    dsimp only
    obtain ⟨q1, q2, q3, q4, q5, q6, q7, q8, q9⟩ := R.tabE.put m2 m3
    have hpl : (t.put (way t.mask (thash P w k) M)).1.plain = true := q6.trans R.plainE
    generalize hpt : t.put (way t.mask (thash P w k) M) = pt at q1 q3 q4 q5 q6 q7 q8 q9 hpl ⊢
    obtain ⟨t1, p⟩ := pt
    dsimp only at q1 q3 q4 q5 q6 q7 q8 q9 hpl ⊢
    subst q1
    first
      | (refine wpAny_bind ?_; refine wp_if_pos hpl ?_; refine hashBy_tup hx ?_)
      | refine wp_if_pos hpl (wpAny_bind (hashBy_tup hx ?_))
    simp only [if_true]
    have rin : (SetTable.insertAt es (SetTable.below t.place (way t.mask (thash P w k) M)) (thash P w k, Value.ref x)).toList = rowsOf P w (L.take (SetTable.below t.place (way t.mask (thash P w k) M)) ++ (x, k) :: L.drop (SetTable.below t.place (way t.mask (thash P w k) M))) := by
      rw [SetTable.toList_insertAt, rows_put, R.rowsE]
    generalize SetTable.below t.place (way t.mask (thash P w k) M) = p at q2 q3 rin ⊢
    have perm := put_perm L p (x, k)
    have len1 : (L.take p ++ (x, k) :: L.drop p).length = L.length + 1 := perm.length_eq
    have tab1 : (L.take p ++ (x, k) :: L.drop p).map (fun q => thash P w q.2) = (L.map fun q => thash P w q.2).take p ++ thash P w k :: (L.map fun q => thash P w q.2).drop p := by
      rw [List.map_append, List.map_cons, List.map_take, List.map_drop]
    rw [← tab1] at q3
    have nd1 : ((L.take p ++ (x, k) :: L.drop p).map fun q => q.2).Nodup := (perm.map _).nodup_iff.mpr (List.nodup_cons.mpr ⟨n, R.ndE⟩)
    have cnt1 : (SetTable.insertAt es p (thash P w k, Value.ref x)).size = L.length + 1 := by
      have z := congrArg List.length rin
      rw [Array.length_toList] at z
      rw [z, ← len1]
      exact List.length_map _
    generalize SetTable.insertAt es p (thash P w k, Value.ref x) = es1 at rin cnt1 ⊢
    generalize L.take p ++ (x, k) :: L.drop p = L1 at perm len1 q3 nd1 rin
    refine wpAny_bind (wpAny_storeSet_of ho hd ?_ (by rw [cnt1, sizeLine_eq]; omega))
    have but : Heap.SameBut a s.heap (s.heap.update a (Obj.putSet es1 t1)) := Heap.SameBut.update ..
    have ho1 := store_at (es' := es1) (t' := t1) ho hd
    generalize s.heap.update a (Obj.putSet es1 t1) = h1 at but ho1 ⊢
    have tup1 : ∀ q, q ∈ L1 → IsT P w h1 q.2 q.1 := fun q hq => by
      rcases List.mem_cons.mp (perm.mem_iff.mp hq) with z | z
      · rw [z]
        exact isT_same hx ho hd but
      · exact isT_same (R.tupE q z) ho hd but
    have ld1 : w.params.followText "set-order" = true ∨ t1.led = true := by
      rw [q5]
      exact R.ledE
    have hex1 : ({ o with data := Data.set es1 (ep + 1) t1 } : Obj).ExactSet := ⟨hex.1, hex.2.1, hex.2.2⟩
    by_cases full : t1.tooFull = true
    · first
        | (refine wpAny_bind ?_; refine wp_if_pos (by simp [full]) ?_)
        | (refine wp_if_pos (by simp [full]) ?_; refine wpAny_bind ?_)
      have hfull : (L.length + 1) * 5 ≥ t1.mask * 3 := by
        have z := full
        unfold SetTable.tooFull at z
        rw [decide_eq_true_eq, q9, List.length_map] at z
        exact z
      rw [cnt]
      have two : (t.mask = 7 ∧ L.length = 4) ∨ (t.mask = 31 ∧ L.length = 18) := by
        rcases R.tabE.mok with z | z | z <;> rw [z] at room <;> rw [q4, z] at hfull <;> omega
      have go : ∀ M', SetTable.sizeAbove (SetTable.grown (L.length + 1)) - 1 = M' → MaskOk M' → SetTable.sizeAbove (SetTable.grown (L.length + 1)) ≤ 128 → 5 * (L.length + 1) < 3 * M' →
          wpAny (model P w) A (setRelay a (SetTable.grown (L.length + 1))) (fun _ s' => wpAny (model P w) A (pure true) Q E s') E { s with heap := h1 } := fun M' g1 g2 g3 g4 => by
        refine lay_anew (s := { s with heap := h1 }) (L := L1) ho1 hex1 rfl rin q3 (by rw [cnt1, q4]; rcases two with z | z <;> omega) nd1 tup1 hpl ld1 g1 g2 g3 (by rw [len1]; exact g4) ?_
        intro h2 L2 es2 ep2 t2 but2 R2 perm2
        refine wpAny_pure (hQ true h2 L2 es2 ep2 t2 (but.trans but2) R2 (fun z => absurd z n) fun _ => perm2.trans perm)
      rcases two with ⟨_, z⟩ | ⟨_, z⟩
      · refine go 31 (by rw [z, size_20]) (.inr (.inl rfl)) (by rw [z, size_20]; decide) (by omega)
      · refine go 127 (by rw [z, size_76]) (.inr (.inr rfl)) (by rw [z, size_76]; decide) (by omega)
    · first
        | refine wp_if_neg (by simp [full]) ?_
        | (refine wpAny_bind ?_; refine wp_if_neg (by simp [full]) ?_; refine wpAny_pure ?_)
      refine wpAny_pure (hQ true h1 L1 es1 (ep + 1) t1 but ⟨⟨_, ho1, hex1, rfl⟩, rin, q3, nd1, tup1, hpl, ld1, ?_⟩ (fun z => absurd z n) fun _ => perm)
      have z := full
      unfold SetTable.tooFull at z
      rw [decide_eq_true_eq, q9, List.length_map] at z
      rw [len1]
      omega
end
end BV
namespace BV
/-- the set at a has the tuples L; they themselves lie elsewhere -/
def SP0 (P : Program) (w : World) (h : Heap) (a : Addr) (L : List (Addr × List Int)) : Prop :=
  ∃ (es : Array (Int × Value)) (ep : Nat) (t : SetTable), (∃ o, h.get? a = some o ∧ (o.ExactSet ∧ o.data = .set es ep t)) ∧ es.toList = rowsOf P w L ∧ TabOk t (L.map fun q => thash P w q.2) ∧ (L.map fun q => q.2).Nodup ∧ t.plain = true ∧
    (w.params.followText "set-order" = true ∨ t.led = true) ∧ 5 * L.length < 3 * t.mask
def SetPO (P : Program) (w : World) (a : Addr) (L : List (Addr × List Int)) : HO := .ext fun h => SP0 P w h a L
theorem PT.sp0 {P : Program} {w : World} {h : Heap} {a : Addr} {L : List (Addr × List Int)} {es : Array (Int × Value)} {ep : Nat} {t : SetTable} (R : PT P w h a L es ep t) : SP0 P w h a L :=
  ⟨es, ep, t, R.here, R.rowsE, R.tabE, R.ndE, R.plainE, R.ledE, R.roomE⟩
theorem SP0.pt {P : Program} {w : World} {h : Heap} {a : Addr} {L : List (Addr × List Int)} (R : SP0 P w h a L) (ht : ∀ q, q ∈ L → IsT P w h q.2 q.1) : ∃ es ep t, PT P w h a L es ep t := by
  obtain ⟨es, ep, t, h1, h2, h3, h4, h5, h6, h7⟩ := R
  exact ⟨es, ep, t, h1, h2, h3, h4, ht, h5, h6, h7⟩
theorem setP_ok {P : Program} {w : World} {H : Hp} {h : Heap} {a : Addr} {L : List (Addr × List Int)} (R : SP0 P w h a L) : ObjOk P w H h a (SetPO P w a L) := by
  obtain ⟨es, ep, t, ⟨o, ho, r⟩, q⟩ := id R
  refine ⟨R, ⟨o, ho⟩, fun h1 h2 p k => ?_⟩
  obtain ⟨es', ep', t', ⟨o', ho', r'⟩, q'⟩ := p
  exact ⟨es', ep', t', ⟨o', k o' ho', r'⟩, q'⟩
section
variable {X : Cx}
theorem setP_at {pins : List (Addr × Obj)} {σ : L2.St} {H : Hp} {s : Shared} {a : Addr} {L : List (Addr × List Int)} (I : Inv X pins σ H s) (ha : H a = some (SetPO X.prog X.w a L)) (hL : ∀ q, q ∈ L → SqT X.K H q.1 (q.2.map V.int)) : ∃ es ep t, PT X.prog X.w s.heap a L es ep t :=
  SP0.pt (I.hok a _ ha).1 fun q hq => I.isT (hL q hq)
def rNewP (P : Program) (w : World) : List V → Hp → VK → Prop := fun xs H Q => xs = [] ∧ ∀ p, H p = none → Q (.ref p) (upd H p (SetPO P w p []))
theorem cr_newP : CallR X (.type "set") (rNewP X.prog X.w) := by
  intro pins s σ H xs us Q I r h
  obtain ⟨rfl, q⟩ := h
  cases r
  refine setR_new fun _ => ?_
  refine ⟨.ref _, upd H s.heap.objs.size (SetPO X.prog X.w s.heap.objs.size []), I.laid (t' := s.toks) (fun b u e => Heap.get?_push_of_some _ e) (Nat.le_refl _) (setP_ok ?_), rfl, q _ (I.hok.fresh (Nat.le_refl _))⟩
  have R := setTR_fresh (P := X.prog) (w := X.w) (a := s.heap.objs.size) (h := s.heap.push { cls := .type "set", dict := none, data := .set #[] 0 (.fresh 0 0 (!X.w.params.followText "set-order")) }) (Heap.get?_push_size _ rfl)
  exact ⟨_, _, _, R.ob, R.rows, R.tab, R.nd, R.plain, R.led, by show 0 < 3 * 7; decide⟩
def rInP (K : PySem.W.Frag) (P : Program) (w : World) : R2 := fun x y H Q => ∃ (a b : Addr) (k : List Int) (L : List (Addr × List Int)), x = .ref b ∧ y = .ref a ∧ H a = some (SetPO P w a L) ∧ (∀ q, q ∈ L → SqT K H q.1 (q.2.map V.int)) ∧ SqT K H b (k.map V.int) ∧
  Q (.bl (decide (k ∈ L.map fun q => q.2))) H
theorem op_inP (hu : X.A.units + 64 < cLine) : OpR X (compareOp .In) (rInP X.K X.prog X.w) := by
  intro pins s σ H x y v u Q I rx ry h
  obtain ⟨a, b, k, L, rfl, rfl, ha, hL, hb, q⟩ := h
  cases rx
  cases ry
  obtain ⟨es, ep, t, R⟩ := setP_at I ha hL
  have hk := I.isT hb
  obtain ⟨o, ho, hex, hd⟩ := R.here
  have ty : s.TypeIs (.ref a) "set" := ⟨o, ho, hex.1⟩
  show wpAny _ _ (do return Value.bool (← contains (.ref a) (.ref b))) _ _ s
  refine wpAny_bind ?_
  unfold contains
  try with_reducible refine wpAny_holding ?_
  refine wpAny_bind (wpAny_specialOf ty F.slot_set_contains.lookup ?_)
  show wpAny _ _ (if (some (Value.builtin "set.__contains__") == some Value.none) = true then _ else _) _ _ s
  rw [if_neg (by rw [beq_builtin_none]; exact Bool.false_ne_true)]
  refine wpAny_bind (wpAny_callSpecialUnlessNone?_slot (name := Str.ofString "__contains__") ty F.slot_set_contains (wpAny_call_entry F.slot_set_contains ty entry_set_contains ?_ (F.args_set_contains_2 _ _)))
  unfold Builtin.«frozenset.__contains__» Builtin.Frozenset.oneOther
  simp only [List.isEmpty_nil, bind_assoc]
  unfold Builtin.Frozenset.addrOf Builtin.Frozenset.withSetAsKey setContains
  refine wpAny_bind (wpAny_pure ?_)
  try dsimp only
  refine wpAny_bind (wpAny_pure ?_)
  try dsimp only
  refine wpAny_bind (wpAny_tryCatch ?_)
  refine wpAny_holding ?_
  refine wpAny_bind (wpAny_pyHash_tuple ?_ hk ?_)
  · show X.A.units + 1 < cLine
    omega
  refine wpAny_bind (there_at (s := { s with toks := s.toks + (k.length + 1) }) ⟨R.here, R.rowsE, R.tabE, R.ndE, R.tupE, R.plainE, R.ledE, R.roomE⟩ hk ?_ fun r hr => ?_)
  · show X.A.units + 1 < cLine
    omega
  refine wpAny_pure ?_
  show wpAny _ _ (ret (Value.bool r.isSome)) _ _ _
  rw [hr]
  exact wpAny_pure ⟨_, rfl, wpAny_truthy_bool (wpAny_pure ⟨.bl _, H, I.tok _, rfl, q⟩)⟩
def rAddP (K : PySem.W.Frag) (P : Program) (w : World) : V → List V → Hp → VK → Prop := fun x xs H Q => ∃ (a b : Addr) (k : List Int) (L : List (Addr × List Int)), x = .ref a ∧ xs = [.ref b] ∧ H a = some (SetPO P w a L) ∧ (∀ q, q ∈ L → SqT K H q.1 (q.2.map V.int)) ∧
  SqT K H b (k.map V.int) ∧ L.length + 1 ≤ 76 ∧ ∀ L', (k ∈ L.map (fun q => q.2) → L' = L) → (k ∉ L.map (fun q => q.2) → L'.Perm ((b, k) :: L)) → Q .non (upd H a (SetPO P w a L'))
theorem add_run (hu : X.A.units + 64 < cLine) {pins : List (Addr × Obj)} {s : Shared} {σ : L2.St} {H : Hp} {x : V} {xs : List V} {v : Value} {us : List Value} {Q : VK} (I : Inv X pins σ H s) (rx : RelV x v) (rxs : Vals xs us) (h : rAddP X.K X.prog X.w x xs H Q) :
    wpAny (model X.prog X.w) X.A (call (.builtin "set.add") (v :: us)) (L2.EP X pins σ Q) X.xe s := by
  obtain ⟨a, b, k, L, rfl, rfl, ha, hL, hb, few, q⟩ := h
  cases rx
  cases rxs with
  | cons ry rt =>
    cases rt
    cases ry
    obtain ⟨es, ep, t, R⟩ := setP_at I ha hL
    have hk := I.isT hb
    obtain ⟨o, ho, hex, hd⟩ := R.here
    have ty : s.TypeIs (.ref a) "set" := ⟨o, ho, hex.1⟩
    refine wpAny_call_entry F.slot_set_add ty F.entry_set_add ?_ (F.args_set_add_2 _ _)
    unfold Builtin.«set.add» Builtin.Frozenset.oneOther
    simp only [List.isEmpty_nil, bind_assoc]
    unfold Builtin.Frozenset.addrOf setAdd
    refine wpAny_bind (wpAny_pure ?_)
    try dsimp only
    refine wpAny_bind (wpAny_pure ?_)
    try dsimp only
    refine wpAny_bind ?_
    refine wpAny_holding ?_
    refine wpAny_bind (wpAny_pyHash_tuple (by show X.A.units + 1 < cLine; omega) hk ?_)
    refine put_at (s := { s with toks := s.toks + (k.length + 1) }) ⟨R.here, R.rowsE, R.tabE, R.ndE, R.tupE, R.plainE, R.ledE, R.roomE⟩ hk (by show X.A.units + 1 < cLine; omega) few fun bb h' L' es' ep' t' but R' in1 in2 => ?_
    show wpAny _ _ (ret Value.none) _ _ _
    obtain ⟨o', ho', r'⟩ := R'.here
    exact wpAny_pure ⟨_, rfl, .non, upd H a (SetPO X.prog X.w a L'), I.write (e := a) (t' := s.toks + (k.length + 1)) (by rw [ha]; trivial) (.inl rfl) (fun c u hc hu => (but.2 c hc).trans hu) ⟨o', ho'⟩ (setP_ok R'.sp0), rfl, q L' in1 in2⟩
def tAddP (K : PySem.W.Frag) (P : Program) (w : World) (to : TE) (t : TA) : TE := fun σ H Q => to σ H fun x H1 => (∃ a L, x = .ref a ∧ H1 a = some (SetPO P w a L)) ∧ t σ H1 fun xs H2 => rAddP K P w x xs H2 Q
variable {o e : Expr} {es : List Expr} {to : TE} {t : TA} {apos cpos : Pos}
theorem pe_addP (hu : X.A.units + 64 < cLine) (ho : PE X o to) (ha : PA X (e :: es) t) (hb : attributeBase o "add" X.env (eval o X.env) = eval o X.env := by rfl)
    (hf : ((backTo cpos (starEach (e :: es) X.env)).all (fun x => !x.1) && (backToKw cpos (keywordEach [] X.env)).all (fun x => x.1.isSome) && decide ((e :: es).length + ([] : List Keyword).length + (if ([] : List Keyword).isEmpty then 0 else 1) < 30)) = true := by rfl)
    (hl : (apos.endLine == cpos.line) = true := by rfl) (hs : starEach (e :: es) X.env = (false, eval e X.env) :: starEach es X.env := by rfl) (hp : (backTo cpos (starEach es X.env)).any (·.1) = false := by rfl) :
    PE X (.Call (.Attribute o "add" apos) (e :: es) [] cpos) (tAddP X.K X.prog X.w to t) := by
  refine ⟨fun pins s σ H Q I h => ?_⟩
  refine wpAny_Call_method_late hb hf hl rfl (thn (ho.run pins s σ H _ I h) fun v s1 ⟨x, H1, I1, r1, ty, q1⟩ => ?_)
  obtain ⟨a, L, rfl, hL⟩ := ty
  obtain ⟨es0, ep0, t0, ⟨ob, hob, hex, hdt⟩, _⟩ := (I1.hok a _ hL).1
  cases r1
  refine ⟨"set", "set.add", F.plainAttrs_set, F.slot_set_add, F.type_set_add, ⟨ob, hob, hex.1⟩, fun c z => ⟨ob, by cases z; exact hob, hex.2.1⟩, ?_⟩
  have hA := ha.run cpos pins s1 σ H1 _ I1 q1
  rw [hs] at hA ⊢
  refine Calls.callWith_builtin (by show (false || (backTo cpos (starEach es X.env)).any (·.1)) = false; rw [hp]; rfl) (Calls.evalArgs_plain ?_)
  exact thn hA fun us s2 ⟨vs, H2, I2, r2, q2⟩ => add_run (x := .ref a) hu I2 rfl r2 q2
end
section
variable {P : Program} {w : World} {K : PySem.W.Frag} {ρ : List Sl} {te ta : TE} {k : List Int} {L : List (List Int)} {n : Nat} {Z : Zs}
open Evl
theorem eo_setnew : EO K (tCB (rNewP P w) tNil) ρ (.set (SetPO P w) []) := fun H0 S G ow σ H g Q q => ⟨rfl, fun p hp => q p _ hp (Ex.new hp) (by rw [upd_same]; exact fun z => nomatch z) ⟨[], upd_same, List.Perm.refl _, fun q hq => by cases hq⟩⟩
theorem ints_of {T : Hp} {xs : List V} (h : Reps K T xs (k.map .int)) : xs = k.map V.int := by
  refine List.ext_getElem? fun i => ?_
  rw [List.getElem?_map]
  cases e : k[i]? with
  | none =>
    have z := List.getElem?_eq_none_iff.mp e
    rw [List.getElem?_eq_none (by have := h.1; rw [List.length_map] at this; omega)]
    rfl
  | some y =>
    obtain ⟨v, hv, rv⟩ := h.get (i := i) (y := .int y) (by rw [List.getElem?_map, e]; rfl)
    rw [hv, rv.int_inv]
    rfl
theorem ed_inSet (h : ρ[n]? = some (.own (.set (SetPO P w) L))) (ha : ED K ta ρ (.tup (k.map .int))) : ED K (tOp (rInP K P w) ta (tVar n)) ρ (.bl (decide (k ∈ L))) := fun H0 S G ow σ H g Q q => ha H0 S G ow σ H g _ fun v H1 e1 r1 => by
  obtain ⟨b, xs, rfl, hs, hr⟩ := r1.tup_inv
  rw [ints_of hr] at hs
  obtain ⟨p, a1, a2, L', c1, c2, c3⟩ := (g.ext e1).at_ n _ h
  refine ⟨.ref p, a1, p, b, k, L', rfl, rfl, c1, fun u hu => ex_t hid_sub (c3 u hu), ex_t hid_sub hs, ?_⟩
  have e : decide (k ∈ L'.map fun u => u.2) = decide (k ∈ L) := decide_eq_decide.mpr c2.mem_iff
  rw [e]
  exact q _ H1 e1 (.bl _)
theorem sd_addSet (h : ρ[n]? = some (.own (.set (SetPO P w) L))) (he : ED K te ρ (.tup (k.map .int))) (hk : k ∉ L) (hl : L.length + 1 ≤ 76) (kk : Z.nx (ρ.set n (.own (.set (SetPO P w) (k :: L))))) : SD K (tDrop (tAddP K P w (tVar n) (tCons te tNil))) ρ Z := fun H0 S G ow σ H E g hn _ _ _ => by
  obtain ⟨p, a1, a2, L', c1, c2, c3⟩ := g.at_ n _ h
  refine ⟨.ref p, a1, ⟨p, L', rfl, c1⟩, he H0 S G ow σ H g _ fun v H1 e1 r1 => ?_⟩
  obtain ⟨b, xs, rfl, hs, hr⟩ := r1.tup_inv
  rw [ints_of hr] at hs
  have hL : ∀ u, u ∈ L' → SqT K (hid (Hid S ow) H1) u.1 (u.2.map V.int) := fun u hu => ex_t (hid_ext e1) (c3 u hu)
  have hn' : k ∉ L'.map fun u => u.2 := fun z => hk (c2.mem_iff.mp z)
  have hlen : L'.length = L.length := by rw [← c2.length_eq, List.length_map]
  refine ⟨p, b, k, L', rfl, rfl, e1 _ _ c1, fun u hu => ex_t hid_sub (hL u hu), ex_t hid_sub hs, by omega, fun L2 _ i2 => ?_⟩
  have pm := i2 hn'
  refine hn _ _ _ _ kk ((g.ext e1).write a2 _ (.set (SetPO P w) (k :: L)) ⟨L2, upd_same, (pm.map _).trans (c2.cons k), fun u hu => ?_⟩ (fun _ => a1) (.inl (List.getElem?_eq_some_iff.mp h).1))
  rcases List.mem_cons.mp (pm.mem_iff.mp hu) with z | z
  · rw [z]
    exact hs
  · exact hL u z
end
end BV
end
section
set_option maxHeartbeats 2000000
open PySem PySem.Spec PyProof.Rows L2
namespace BV
/-- one list of ints ahead of another, as tuples are -/
def lexL : List Int → List Int → Bool
  | [], [] => false
  | [], _ :: _ => true
  | _ :: _, [] => false
  | x :: xs, y :: ys => if x = y then lexL xs ys else decide (x < y)
theorem lexL_asym : ∀ {xs ys : List Int}, lexL xs ys = true → lexL ys xs = false
  | [], [], h => rfl
  | [], _ :: _, h => rfl
  | _ :: _, [], h => by simp [lexL] at h
  | x :: xs, y :: ys, h => by
    unfold lexL at h ⊢
    by_cases e : x = y
    · rw [if_pos e] at h
      rw [if_pos e.symm]
      exact lexL_asym h
    · rw [if_neg e] at h
      rw [if_neg (Ne.symm e)]
      have := of_decide_eq_true h
      exact decide_eq_false (by omega)
theorem lexL_tr : ∀ {xs ys zs : List Int}, lexL ys xs = false → lexL zs ys = false → lexL zs xs = false
  | [], ys, [], _, _ => rfl
  | [], ys, _ :: _, _, _ => rfl
  | x :: xs, [], zs, h, _ => by simp [lexL] at h
  | x :: xs, y :: ys, [], _, h => by simp [lexL] at h
  | x :: xs, y :: ys, z :: zs, h1, h2 => by
    unfold lexL at h1 h2 ⊢
    by_cases e1 : y = x
    · rw [if_pos e1] at h1
      by_cases e2 : z = y
      · rw [if_pos e2] at h2
        rw [if_pos (e2.trans e1)]
        exact lexL_tr h1 h2
      · rw [if_neg e2] at h2
        rw [if_neg (fun w => e2 (w.trans e1.symm))]
        have := of_decide_eq_false h2
        exact decide_eq_false (by omega)
    · rw [if_neg e1] at h1
      have a1 := of_decide_eq_false h1
      by_cases e2 : z = y
      · rw [if_neg (fun w => e1 (e2.symm.trans w))]
        exact decide_eq_false (by omega)
      · rw [if_neg e2] at h2
        have a2 := of_decide_eq_false h2
        rw [if_neg (by omega)]
        exact decide_eq_false (by omega)
theorem lexL_eq : ∀ {xs ys : List Int}, lexL xs ys = false → lexL ys xs = false → xs = ys
  | [], [], _, _ => rfl
  | [], _ :: _, h, _ => by simp [lexL] at h
  | _ :: _, [], _, h => by simp [lexL] at h
  | x :: xs, y :: ys, h1, h2 => by
    unfold lexL at h1 h2
    by_cases e : x = y
    · rw [if_pos e] at h1
      rw [if_pos e.symm] at h2
      rw [e, lexL_eq h1 h2]
    · rw [if_neg e] at h1
      rw [if_neg (Ne.symm e)] at h2
      have a1 := of_decide_eq_false h1
      have a2 := of_decide_eq_false h2
      omega
/-- there is one such list -/
theorem sorted_one : ∀ {us ts : List (List Int)}, us.Perm ts → us.Pairwise (fun u v => lexL v u = false) → ts.Pairwise (fun u v => lexL v u = false) → us = ts := fun {us ts} p a b =>
  p.eq_of_pairwise (fun x y _ _ h1 h2 => lexL_eq h2 h1) a b
section
variable {prog : Program} {w : World} {A : Around} {E : Value → Shared → Prop} {s : Shared}
theorem lex_run {Q : Bool → Shared → Prop} : ∀ {xs ys : List Value} {ns ms : List Int} {i : Nat}, IntsAre xs ns → IntsAre ys ms → Q (lexL ns ms) s → PySem.W.KatLex prog w A true (decide (xs.length < ys.length)) Q (xs.zip ys) i s
  | _, _, _, _, _, .nil, .nil, q => PySem.W.kat_nil q
  | _, _, _, _, _, .nil, .cons _ _ _, q => PySem.W.kat_nil (by
    show Q (decide _) s
    rw [decide_eq_true (by simp)]
    exact q)
  | _, _, _, _, _, .cons _ _ _, .nil, q => PySem.W.kat_nil (by
    show Q (decide _) s
    rw [decide_eq_false (by simp)]
    exact q)
  | _, _, _, _, i, .cons (vs := xs) x t r, .cons (vs := ys) y u r', q => by
    refine PySem.W.kat_cons (SeqAt.EqAt.int_int x t y u prog w _ _ ?_)
    refine PySem.W.kat_go (fun e => ?_) (fun e => ?_)
    · have exy : x = y := by simpa using e
      refine PySem.W.kat_yes ?_
      have z := lex_run (Q := Q) (i := i + 1) r r' (by unfold lexL at q; rw [if_pos exy] at q; exact q)
      have hd : decide (xs.length < ys.length) = decide ((Value.int x t :: xs).length < (Value.int y u :: ys).length) := decide_eq_decide.mpr (by simp)
      rw [hd] at z
      exact z
    · have exy : ¬ x = y := by simpa using e
      refine PySem.W.kat_no (TS.oneLt_ints _ ?_)
      unfold lexL at q
      rw [if_neg exy] at q
      exact q
theorem tups_cmp {vs : List Value} {k : Value → List Int} (hp : ∀ v, v ∈ vs → TS.TupInts s.heap v (k v)) : SrtO.Cmp prog w A s (tuples' true) (fun p => p.1 ∈ vs) (SrtO.lt2 fun v u => lexL (k v) (k u)) := by
  intro p q hm hm'
  obtain ⟨a, xs, e, ⟨o, ho, hc, n, hd⟩, i⟩ := hp _ hm
  obtain ⟨a', ys, e', ⟨o', ho', hc', n', hd'⟩, i'⟩ := hp _ hm'
  show wpAny (model prog w) A (keyLt' (tuples' true) p.1 q.1) (fun r s' => s' = s ∧ r = lexL (k p.1) (k q.1)) (fun _ _ => False) s
  generalize k p.1 = ns at i ⊢
  generalize k q.1 = ms at i' ⊢
  rw [e, e']
  refine PySem.W.kat_lt ho hd ho' hd' ?_
  exact lex_run (Q := fun r s' => s' = s ∧ r = lexL ns ms) i i' ⟨rfl, rfl⟩
theorem tups_firsts {h : Heap} : ∀ {vs : List Value}, (∀ v, v ∈ vs → ∃ ns, TS.TupInts h v ns ∧ ns ≠ []) → ∃ fs, PySem.W.KatTups h vs fs ∧ fs.length = vs.length ∧ ∀ f, f ∈ fs → ∃ n t, f = Value.int n t
  | [], _ => ⟨[], PySem.W.KatTups.nil, rfl, fun f hf => by simp at hf⟩
  | v :: vs, x => by
    obtain ⟨fs, k, hl, hi⟩ := tups_firsts fun u hu => x u (List.mem_cons_of_mem _ hu)
    obtain ⟨ns, ⟨a, xs, rfl, ⟨o, ho, hc, n, hdt⟩, i⟩, hne⟩ := x v List.mem_cons_self
    obtain ⟨⟨xs⟩⟩ := xs
    · cases i with
      | nil => exact absurd rfl hne
    · rename_i y ys
      cases i with
      | cons m t r =>
        refine ⟨.int m t :: fs, PySem.W.KatTups.cons ho hc hdt rfl k, by simp [hl], fun f hf => ?_⟩
        rcases List.mem_cons.mp hf with z | z
        · exact ⟨m, t, z⟩
        · exact hi f z
theorem tups_sortable {a : Addr} {vs : List Value} {k : Value → List Int} (h0 : 0 < vs.length) (hp : ∀ v, v ∈ vs → TS.TupInts s.heap v (k v) ∧ k v ≠ []) (ha : ∀ o, s.heap.get? a = some o → o.cls ≠ .type "tuple") : SrtO.SortableO prog w A s a vs fun v u => lexL (k v) (k u) := by
  intro h' keep
  have hp' : ∀ v, v ∈ vs → TS.TupInts h' v (k v) := fun v hm => (hp v hm).1.keeps fun b o e c => keep b o (fun z => by subst z; exact ha o e c) e
  obtain ⟨fs, h1, h2, h3⟩ := tups_firsts fun v hm => ⟨_, hp' v hm, (hp v hm).2⟩
  refine ⟨tuples' true, fun Q E hq => PySem.W.kat_kind (T := .type "int") h1 (by omega) (fun f hm => ?_) (by rfl) ?_, tups_cmp hp'⟩
  · obtain ⟨x, t, rfl⟩ := h3 f hm
    exact PySem.W.Looks.now
  · rw [show (Value.type "int" != Value.type "tuple") = true by decide +kernel]
    exact hq
end
section
variable {X : Cx}
/-- sorted(xs), a new list: the same tuples, rising -/
def rSortTI (K : PySem.W.Frag) : List V → Hp → VK → Prop := fun vs H Q => ∃ (a : Addr) (xs : List V) (ts : List (List Int)), vs = [V.ref a] ∧ SqL K H a xs ∧ All2 (fun x t => (∃ p, x = V.ref p ∧ SqT K H p (t.map V.int)) ∧ t ≠ []) xs ts ∧
  ∀ (ys : List V) (us : List (List Int)) (p : Addr), us.Perm ts → us.Pairwise (fun u v => lexL v u = false) → ys.length = us.length → (∀ (i : Nat) y u, ys[i]? = some y → us[i]? = some u → ∃ j : Nat, xs[j]? = some y ∧ ts[j]? = some u) → H p = none → Q (.ref p) (upd H p (.lst ys))
theorem cr_sortTI : CallR X (.builtin "sorted") (rSortTI X.K) := by
  intro pins s σ H vs us Q I r h
  obtain ⟨a, xs, ts, rfl, hs, hx, q⟩ := h
  obtain ⟨its, rv, hl, hz⟩ := I.list hs
  rw [Vals.ref1 r]
  have hm1 : ∀ x, x ∈ xs → ∃ t, ∃ p, x = V.ref p ∧ SqT X.K H p (t.map V.int) ∧ t ≠ [] := fun x m => by
    obtain ⟨i, hi, e⟩ := List.getElem_of_mem m
    obtain ⟨t, _, ⟨p, e1, e2⟩, e3⟩ := hx.getL (List.getElem?_eq_getElem hi)
    exact ⟨t, p, by rw [← e]; exact e1, e2, e3⟩
  obtain ⟨e1, e2⟩ := bkV_refs rv fun x m => by
    obtain ⟨t, p, e, _⟩ := hm1 x m
    exact ⟨p, e⟩
  have hk : ∀ v, v ∈ its → TS.TupInts s.heap v (TS.intsOf s.heap v) ∧ TS.intsOf s.heap v ≠ [] := fun v hv => by
    obtain ⟨p, rfl⟩ := e2 v hv
    obtain ⟨t, p', e, ht, hn⟩ := hm1 (V.ref p) (by rw [e1]; exact List.mem_map.mpr ⟨_, hv, rfl⟩)
    cases e
    have z := tupI_raw I ht
    rw [z.ints]
    exact ⟨z, hn⟩
  have hts : its.map (TS.intsOf s.heap) = ts := by
    refine List.ext_getElem? fun i => ?_
    rw [List.getElem?_map]
    cases e : its[i]? with
    | none =>
      have z1 := List.getElem?_eq_none_iff.mp e
      rw [List.getElem?_eq_none (by have := hx.1; have := rv.length; omega)]
      rfl
    | some v =>
      have hv := List.mem_of_getElem? e
      obtain ⟨p, rfl⟩ := e2 v hv
      have ex : xs[i]? = some (V.ref p) := by
        rw [e1, List.getElem?_map, e]
        rfl
      obtain ⟨t, et, ⟨p', e3, ht⟩, _⟩ := hx.getL ex
      cases e3
      rw [et]
      exact congrArg some (tupI_raw I ht).ints
  refine SrtO.sorted_ord (ltv := fun v u => lexL (TS.intsOf s.heap v) (TS.intsOf s.heap u)) ⟨fun x y z => lexL_asym z, fun x y z h1 h2 => lexL_tr h1 h2⟩ hl.isList (by rw [← rv.length]; exact hz) (fun h2 h₁ b hb kk => ?_) fun out hs hb => ?_
  · refine tups_sortable (s := { s with heap := h₁ }) (by omega) (fun v hv => ⟨(hk v hv).1.keeps fun c o e _ => (kk c o e).2, (hk v hv).2⟩) fun o e => ?_
    have e' : some o = some (seqObj "list" its.toArray 0) := e.symm.trans hb
    cases e'
    exact fun c => absurd (Value.type.inj c) (by decide)
  · have h3 : ∀ u, u ∈ out → ∃ a, u = Value.ref a := fun u hu => e2 u (hb.perm.mem_iff.mp hu)
    obtain ⟨ep, he⟩ := PyProof.Rows.sortedAll_at s.heap its out.toArray
    have hlen : (out.map bkV).length ≤ sizeLine := by
      rw [List.length_map, hb.perm.length_eq, ← rv.length]
      exact hz
    refine ⟨.ref _, upd H (s.heap.objs.size + 1) (.lst (out.map bkV)), I.laid (t' := s.toks) (fun _ _ => PyProof.Rows.sortedAll_old) (Nat.le_succ _) ⟨hlen, out, ep, bkV_vals h3, he⟩, rfl,
      q (out.map bkV) (out.map (TS.intsOf s.heap)) _ (by rw [← hts]; exact hb.perm.map _) (List.pairwise_map.mpr hs) (by rw [List.length_map, List.length_map]) (fun i y u hy hu => ?_) (I.hok.fresh (Nat.le_succ _))⟩
    rw [List.getElem?_map] at hy hu
    obtain ⟨v, hv, rfl⟩ := Option.map_eq_some_iff.mp hy
    rw [hv] at hu
    cases hu
    have hm := hb.perm.mem_iff.mp (List.mem_of_getElem? hv)
    obtain ⟨j, hj, ej⟩ := List.getElem_of_mem hm
    have ej' : its[j]? = some v := by rw [List.getElem?_eq_getElem hj, ej]
    exact ⟨j, by rw [e1, List.getElem?_map, ej']; rfl, by rw [← hts, List.getElem?_map, ej']; rfl⟩
end
section
open Evl
variable {K : PySem.W.Frag} {ρ : List Sl} {ta : TE}
def tupsD (ts : List (List Int)) : List D := ts.map fun t => .tup (t.map .int)
theorem eo_sortTI {ts us : List (List Int)} (ha : ED K ta ρ (.lst (tupsD ts))) (hn : ∀ t, t ∈ ts → t ≠ []) (hp : us.Perm ts) (hs : us.Pairwise fun u v => lexL v u = false) : EO K (tCB (rSortTI K) (tCons ta tNil)) ρ (.lst (tupsD us)) := fun H0 S G ow σ H g Q q =>
  ha H0 S G ow σ H g _ fun v H1 e1 r1 => by
    obtain ⟨a, xs, rfl, hs1, hr⟩ := r1.lst_inv
    have hlen : xs.length = ts.length := by rw [hr.1]; exact List.length_map _
    have hat : ∀ (i : Nat) x t, xs[i]? = some x → ts[i]? = some t → Rep K (hid (Hid S ow) H1) x (.tup (t.map .int)) := fun i x t e2 e3 => hr.2 i x _ e2 (by unfold tupsD; rw [List.getElem?_map, e3]; rfl)
    refine ⟨a, xs, ts, rfl, ex_l hid_sub hs1, ⟨hlen, fun i x t e2 e3 => ?_⟩, fun ys us' p hp' hs' hl hy hpn => ?_⟩
    · obtain ⟨b, zs, rfl, hz, hrz⟩ := (hat i x t e2 e3).tup_inv
      rw [ints_of hrz] at hz
      exact ⟨⟨b, rfl, ex_t hid_sub hz⟩, hn t (List.mem_of_getElem? e3)⟩
    · have eu : us' = us := sorted_one (hp'.trans hp.symm) hs' hs
      subst eu
      refine q p _ (fresh_back e1 hpn) (e1.trans (Ex.new hpn)) (by rw [upd_same]; exact fun z => nomatch z) (eo_of_new hpn ((g.ext e1).fresh hpn) ⟨by unfold tupsD; rw [List.length_map]; exact hl, fun i y d e2 e3 => ?_⟩)
      unfold tupsD at e3
      rw [List.getElem?_map] at e3
      obtain ⟨u, e4, rfl⟩ := Option.map_eq_some_iff.mp e3
      obtain ⟨j, e5, e6⟩ := hy i y u e2 e4
      exact hat j y u e5 e6
end
end BV
end
section
open PySem PySem.Spec PyProof.Rows L2 Evl
namespace BV
section
variable {K : PySem.W.Frag} {ρ : List Sl} {te ta tb tc tv : TE} {tt t u : TT} {tx ty : TA} {d d' x y : D} {ds es : List D} {i j k : Int} {r r' : R2} {n : Nat} {m : M} {ts tu tw : TS} {Z : Zs} {g : TG} {gs : TGs} {vs : List Nat} {Nx : List Sl → Prop} {wi : TI} {its : List Sl} {f : Str} {ns : List Str} {C : Addr}
theorem sd_asgRd (h : ρ[n]? = some (.rd d)) (k : BG K vs g (.rd d) ρ Z.nx) : SD K (tAsg (tVar n) g) ρ Z := fun H0 S G ow σ H E gd hn _ _ _ => by
  obtain ⟨v, a, b⟩ := gd.at_ n _ h
  exact ⟨v, a, k H0 S G ow σ H v gd b _ fun ρ' σ' q _ g' => hn ρ' ow σ' H q g'⟩
theorem ei_mm {α : Type} {xs : List α} {f : α → D} {w : D → Sl} (h : EI K wi ρ ((xs.map f).map w)) : EI K wi ρ (xs.map fun x => w (f x)) := by
  rw [List.map_map] at h
  exact h
theorem bg_pr {sl : Sl} {l : Int} (h : BGs K vs gs [.sh (.int l), sl] ρ Nx) : BG K vs (gTup K 2 gs) (.pr l sl) ρ Nx := fun H0 S G ow σ H v g hv Q q => by
  obtain ⟨a, u, rfl, hs, hu⟩ := hv
  exact ⟨a, _, rfl, ex_t hid_sub hs, rfl, h H0 S G ow σ H _ g (All2.cons (Rep.int l) (All2.cons hu All2.nil)) Q q⟩
theorem ei_eR (h : ρ[n]? = some (.rd (.lst ds))) : EI K (iEnum K (tCons (tVar n) tNil)) ρ ((List.range ds.length).map fun (l : Nat) => .pr (l : Int) (.rd (ds.getD l .non))) := fun H0 S G ow σ H g R q => by
  obtain ⟨v, e1, r⟩ := g.at_ n _ h
  obtain ⟨a, xs, rfl, hs, hr⟩ := r.lst_inv
  refine ⟨_, e1, a, xs, rfl, ex_l g.ex hs, q _ H (Ex.refl _) fun T H' _ e2 hT => ⟨fun l hl => ?_, fun l hl => ?_⟩⟩
  · rw [List.length_map, List.length_range] at hl
    have h1 : l < xs.length := by rw [hr.1]; exact hl
    refine ⟨⟨xs, xs[l], ex_l e2 hs, List.getElem?_eq_getElem h1⟩, fun x H2 y => ?_⟩
    obtain ⟨P, v, rfl, hP, rfl, y⟩ := y
    have nP : ¬ T P := fun z => (hT P z).ne hP
    refine ⟨Ex.new hP, .pr (l : Int) (.rd (ds.getD l .non)), by rw [List.getElem?_map, List.getElem?_range hl]; rfl, P, v, rfl, st_of (by rw [hid_no nP]; exact upd_same), ?_⟩
    refine hr.2 l v _ (y xs (ex_l e2 hs)) ?_
    rw [List.getD_eq_getElem?_getD, List.getElem?_eq_getElem hl]
    rfl
  · rw [List.length_map, List.length_range] at hl
    exact ⟨xs, ex_l e2 hs, by rw [hr.1]; exact hl⟩
theorem ed_tupOf (ha : ED K ta ρ (.lst ds)) : ED K (tCB (fun xs H Q => ∃ p ys, xs = [.ref p] ∧ ((SqL K H p ys ∧ ∀ l, H l = none → Q (.ref l) (upd H l (.tup ys))) ∨ (SqT K H p ys ∧ Q (.ref p) H))) (tCons ta tNil)) ρ (.tup ds) := fun H0 S G ow σ H g Q q =>
  ha H0 S G ow σ H g _ fun v H1 e1 r1 => by
    obtain ⟨p, xs, rfl, hs, hr⟩ := r1.lst_inv
    refine ⟨p, xs, rfl, .inl ⟨ex_l hid_sub hs, fun l hl => q _ _ (e1.trans (Ex.new hl)) (.of_tup (st_of ?_) (hr.mono (hid_ext (Ex.new hl))))⟩⟩
    rw [hid_no ((g.ext e1).fresh hl)]
    exact upd_same
theorem look_at : ∀ {fs : List (Str × V)} {j : Nat} {f : Str} {v : V}, (fs.map (·.1))[j]? = some f → (fs.map (·.1)).Nodup → (fs.map (·.2))[j]? = some v → fs.lookup f = some v
  | [], _, _, _, h, _, _ => by simp at h
  | (g, x) :: fs, 0, f, v, h, _, e => by
    simp at h e
    subst h
    subst e
    exact List.lookup_cons_self
  | (g, x) :: fs, j + 1, f, v, h, nd, e => by
    have h' : (fs.map (·.1))[j]? = some f := by simpa using h
    have e' : (fs.map (·.2))[j]? = some v := by simpa using e
    obtain ⟨n1, n2⟩ := List.nodup_cons.mp (show (g :: fs.map (·.1)).Nodup from nd)
    have ne : f ≠ g := fun z => n1 (by rw [← z]; exact List.mem_of_getElem? h')
    rw [List.lookup_cons]
    rw [show (f == g) = false from beq_eq_false_iff_ne.mpr ne]
    exact look_at h' n2 e'
theorem putF_new : ∀ {fs : List (Str × V)} {f : Str} {v : V}, f ∉ fs.map (·.1) → putF f v fs = fs ++ [(f, v)]
  | [], _, _, _ => rfl
  | (g, x) :: fs, f, v, h => by
    have n1 : g ≠ f := fun z => h (by rw [z]; exact List.mem_cons_self)
    have n2 : f ∉ fs.map (·.1) := fun z => h (List.mem_cons_of_mem _ z)
    show (if g = f then (g, v) :: fs else (g, x) :: putF f v fs) = _
    rw [if_neg n1, putF_new n2]
    rfl
theorem ed_fld {l : Nat} (ha : ED K ta ρ (.obj C ns ds)) (hC : Cls K C) (hno : NoAttr K C f) (hn : ns.Nodup) (hf : ns[l]? = some f) (hd : ds[l]? = some d) : ED K (tFld K ta f) ρ d := fun H0 S G ow σ H g Q q =>
  ha H0 S G ow σ H g _ fun v H1 e1 r1 => by
    obtain ⟨a, dx, fs, rfl, ho, hk, hr⟩ := r1.obj_inv
    obtain ⟨x, hx, rx⟩ := hr.get hd
    exact ⟨a, C, dx, fs, x, rfl, (hid_some ho).2, hC, hno, look_at (by rw [hk]; exact hf) (by rw [hk]; exact hn) hx, q x H1 e1 rx⟩
theorem ed_fldO {l : Nat} {p : Addr} (h : ρ[n]? = some (.own (.ins p C ns ds))) (hC : Cls K C) (hno : NoAttr K C f) (hn : ns.Nodup) (hf : ns[l]? = some f) (hd : ds[l]? = some d) : ED K (tFld K (tVar n) f) ρ d := fun H0 S G ow σ H g Q q => by
  obtain ⟨p, a, b, e, dx, fs, c, hk, hr⟩ := g.at_ n _ h
  obtain ⟨x, hx, rx⟩ := hr.get hd
  exact ⟨.ref p, a, p, C, dx, fs, x, rfl, c, hC, hno, look_at (by rw [hk]; exact hf) (by rw [hk]; exact hn) hx, q x H (Ex.refl H) rx⟩
theorem sd_fld {p : Addr} (h : ρ[n]? = some (.own (.ins p C ns ds))) (he : ED K tv ρ d) (hC : Cls K C) (hno : NoAttr K C f) (hf : f ∉ ns) (hl : ns.length < 100) (k : Z.nx (ρ.set n (.own (.ins p C (ns ++ [f]) (ds ++ [d]))))) : SD K (sFld K (tVar n) tv f) ρ Z :=
  fun H0 S G ow σ H E g hn _ _ _ => he H0 S G ow σ H g _ fun v H1 e1 r1 => by
    obtain ⟨p, a, b, e, dx, fs, c, hk, hr⟩ := (g.ext e1).at_ n _ h
    refine ⟨.ref p, a, p, C, dx, fs, rfl, c, hC, hno, by have := congrArg List.length hk; rw [List.length_map] at this; omega, hn _ _ _ _ k ((g.ext e1).write b _ _ ⟨e, dx, _, upd_same, ?_, ?_⟩ (fun _ => a) (.inl (List.getElem?_eq_some_iff.mp h).1))⟩
    · rw [putF_new (by rw [hk]; exact hf), List.map_append, hk]
      rfl
    · rw [putF_new (by rw [hk]; exact hf), List.map_append]
      exact hr.snoc r1
theorem valV_none {kvs : List (List Key × V)} {k : List Key} (h : k ∉ kvs.map (·.1)) : valV kvs k = none := by
  cases e : valV kvs k with
  | none => rfl
  | some v => exact absurd (valV_in e) h
def intK (is : List Int) : List Key := is.map Sum.inl
theorem kV_ints (is : List Int) : (intK is).map kV = is.map V.int := by
  unfold intK
  rw [List.map_map]
  rfl
theorem sd_dput {is : List Int} {ks : List (List Key)} (h : ρ[n]? = some (.own (.dct ks ds))) (hv : ED K tv ρ d) (hk : EB K tx ρ (is.map .int)) (hz : is.length ≤ 100000 := by first | decide | simp) (hn : intK is ∉ ks) (hl : ks.length < 100000)
    (k : Z.nx (ρ.set n (.own (.dct (ks ++ [intK is]) (ds ++ [d]))))) : SD K (sDPut (tVar n) (tTup tx) tv) ρ Z := fun H0 S G ow σ H E g hnx _ _ _ => hv H0 S G ow σ H g _ fun v H1 e1 r1 => by
  obtain ⟨p, a, b, kvs, c, e, hr⟩ := (g.ext e1).at_ n _ h
  refine ⟨.ref p, a, hk H0 S G ow σ H1 (g.ext e1) _ fun us H2 e2 r2 => ⟨sz_of (by rw [r2.1, List.length_map]; exact hz), fun q hq => ?_⟩⟩
  rw [ints_of r2]
  have e3 : Ex H2 (upd H2 q (.tup (is.map V.int))) := Ex.new hq
  have hlen : kvs.length < 100000 := by
    have := congrArg List.length e
    rw [List.length_map] at this
    omega
  have hkn : valV kvs (intK is) = none := valV_none (by rw [e]; exact hn)
  refine ⟨p, _, rfl, DPut.t (k := intK is) (e3 _ _ (e2 _ _ c)) (by rw [kV_ints]; exact upd_same) (sz_lt hlen), ?_⟩
  rw [putK_new _ hkn]
  refine hnx _ _ _ _ k (((g.ext e1).ext (e2.trans e3)).write b _ _ ⟨_, upd_same, by rw [List.map_append, e]; rfl, ?_⟩ (fun _ => a) (.inl (List.getElem?_eq_some_iff.mp h).1))
  rw [List.map_append]
  exact (hr.mono (hid_ext (e2.trans e3))).snoc (r1.mono (hid_ext (e2.trans e3)))
theorem sd_retDct {ks : List (List Key)} (h : ρ[n]? = some (.own (.dct ks ds))) (k : ∀ H0 S v H', RSh K (.dct ks ds) H0 S v H' → Z.rt H0 S v H') : SD K (tRet (tVar n)) ρ Z := fun H0 S G ow σ H E g _ _ _ hr => by
  obtain ⟨p, a, b, kvs, c, e, r⟩ := g.at_ n _ h
  have np : ¬ S p := fun z => (g.sd p z).ne (g.new n p b)
  exact ⟨.ref p, a, hr.1 _ H (k H0 S _ H ⟨g.ex, .dct (.inl (by rw [hid_no np]; exact c)) e r.1 fun i v d h1 h2 => rep_out (r.2 i v d h1 h2)⟩)⟩
theorem pe_gint {X : Cx} {x : Str} {z : Int} {pos : Pos} (hg : Gl X x) (h : ∃ t, X.mg x = some (.int z t)) (hd : (x == ("__debug__" : Str)) = false := by decide) : PE X (.Name x pos) (tC (.int z)) := by
  obtain ⟨t, h⟩ := h
  exact pe_glob hg h ⟨t, rfl⟩ hd
end
section
variable {X : Cx} (K : PySem.W.Frag) (h : X.K = K)
include h
theorem ix_listK : IxR X (rIxL K) := by subst h; exact ix_list
theorem ix_tupK : IxR X (rIxT K) := by subst h; exact ix_tup
variable {tg l e : Expr} {tl ta : TE} {es : List Expr} {k : Nat} {t : TGs} {n : Nat} {pos : Pos} {f : Str}
theorem pi_tupK (hl : PE X l tl) : PI X tg l (iTup K tl) := by subst h; exact pi_tup hl
theorem pg_tupK (hc : X.calm = true) (hs : PGs X es t) (hn : (assignEach es X.env).length = n := by rfl) (hst : (assignEach es X.env).findIdx? (·.1) = none := by rfl) : PG X (.Tuple es k pos) (gTup K n t) := by subst h; exact pg_tup hc hs hn hst
theorem pe_fldK (ha : PE X e ta) (hb : attributeBase e f X.env (eval e X.env) = eval e X.env) : PE X (.Attribute e f pos) (tFld K ta f) := by subst h; exact pe_fld ha hb
end
/-- the promise of an __init__: what was made becomes an instance with the fields ns -/
def spNew {α : Type} (K : PySem.W.Frag) (C : Addr) (pre : α → Prop) (args : α → List (Bool × D)) (ns : List Str) (res : α → List D) : Sp := fun vs H Q _ => ∃ (self dx : Addr) (H1 : Hp) (us : List V) (x : α) (T : Addr → Prop), vs = .ref self :: us ∧ H1 self = none ∧ H1 dx = none ∧ dx ≠ self ∧
  H = upd (upd H1 dx (.own self)) self (.ins C dx []) ∧ pre x ∧ (∀ b, T b → Nb (H1 b)) ∧ Args K (hid T H1) H1 us (args x) ∧ ∀ H', Ex H1 H' → Nb (H' self) → MRep K (hid (fun b => T b ∨ b = self) H') H' self (.ins self C ns (res x)) → Q .non H'
section
variable {K : PySem.W.Frag} {ρ : List Sl} {tx : TA} {C : Addr} {ns : List Str} {ts : TS}
theorem ed_make {α : Type} {pre : α → Prop} {args : α → List (Bool × D)} {res : α → List D} {E : XK} (x : α) (hp : pre x) (ha : EA K tx ρ (args x)) : ED K (tMake C (spNew K C pre args ns res) [] E tx) ρ (.obj C ns (res x)) := fun H0 S G ow σ H g Q q =>
  ha H0 S G ow σ H g _ fun us H1 e r => by
    intro self dx hs hd hne
    rw [List.append_nil]
    refine ⟨self, dx, H1, us, x, Hid S ow, rfl, hs, hd, hne, rfl, hp, (g.ext e).there, r, fun H' e' hn h => ⟨rfl, ?_⟩⟩
    obtain ⟨_, dx', fs, h1, h2, h3⟩ := h
    refine q _ H' (e.trans e') (.obj (by rw [hid_no ((g.ext e).fresh hs)]; exact h1) h2 h3.1 fun i v d a b => (h3.2 i v d a b).mono (hid_less fun _ z => .inl z))
/-- __init__'s body -/
theorem body_new {α : Type} {pre : α → Prop} {args : α → List (Bool × D)} {res : α → List D} {vs : List V} {H : Hp} {N : List Str} {Q : VK} {E : XK} (h : spNew K C pre args ns res vs H Q E) (hN : ∀ x, (args x).length + 1 ≤ N.length)
    (hb : ∀ self x, pre x → SD K ts (.own (.ins self C [] []) :: slots (args x) ++ List.replicate (N.length - ((args x).length + 1)) .no)
      { nx := fun ρ' => ρ'[0]? = some (.own (.ins self C ns (res x))), rt := fun _ _ _ _ => False }) : ts { nx := fun _ H' => Q .non H', rt := Q } (L2.start N vs) H := by
  obtain ⟨self, dx, H1, us, x, T, rfl, hs, hd, hne, rfl, hp, hT, ha, q⟩ := h
  have e1 : Ex H1 (upd (upd H1 dx (.own self)) self (.ins C dx [])) := fun b o z => by
    rw [upd_ne (ne_of_none z hs), upd_ne (ne_of_none z hd)]
    exact z
  have nT : ¬ T self := fun z => (hT self z).ne hs
  have hh : ∀ b, Hid T (pt (fun _ => none) 0 self) b ↔ (T b ∨ b = self) := fun b => by
    constructor
    · rintro (z | ⟨i, z⟩)
      · exact .inl z
      · unfold pt at z
        split at z
        · cases z; exact .inr rfl
        · cases z
    · rintro (z | z)
      · exact .inl z
      · exact .inr ⟨0, by rw [z]; rfl⟩
  have em : Ex (hid T H1) (hid (Hid T (pt (fun _ => none) 0 self)) (upd (upd H1 dx (.own self)) self (.ins C dx []))) := fun b o z => by
    obtain ⟨z1, z2⟩ := hid_some z
    rw [hid_no fun w => ((hh b).1 w).elim z1 (ne_of_none z2 hs)]
    exact e1 b o z2
  have pe : ∀ {i p}, pt (fun _ => none) 0 self i = some p → i = 0 ∧ p = self := fun {i p} z => by
    unfold pt at z
    split at z
    · cases z; exact ⟨by assumption, rfl⟩
    · cases z
  have hNx := hN x
  have ul := ha.1
  have g : Good K H1 T (fun _ => none) (pt (fun _ => none) 0 self) (L2.start N (.ref self :: us)) (upd (upd H1 dx (.own self)) self (.ins C dx [])) (.own (.ins self C [] []) :: slots (args x) ++ List.replicate (N.length - ((args x).length + 1)) .no) := by
    refine { len := ?_, ex := e1, sd := hT, new := fun i p z => by rw [(pe z).2]; exact hs, on := fun i p z => by rw [(pe z).2, upd_same]; exact fun w => (nomatch w), inj := fun i j p a b => by rw [(pe a).1, (pe b).1], kb := fun b o z => (nomatch z), fin := ⟨1, fun i hi => ?_⟩, at_ := fun i sl z => ?_ }
    · unfold L2.start
      simp only [List.length_append, List.length_map, List.length_replicate, List.length_cons, slots_len]
      omega
    · unfold pt
      rw [if_neg (by omega)]
    · cases i with
      | zero =>
        have e : sl = .own (.ins self C [] []) := (Option.some.inj z).symm
        subst e
        exact ⟨self, rfl, rfl, rfl, dx, [], upd_same, rfl, All2.nil⟩
      | succ i =>
        have z' : (slots (args x) ++ List.replicate (N.length - ((args x).length + 1)) Sl.no)[i]? = some sl := z
        by_cases hi : i < (args x).length
        · rw [List.getElem?_append_left (by rw [slots_len]; exact hi)] at z'
          obtain ⟨v, h1, h2⟩ := slots_at ha z'
          have es : (L2.start N (.ref self :: us))[i + 1]? = some (some v) := by
            unfold L2.start
            rw [List.map_cons, List.cons_append, List.getElem?_cons_succ, List.getElem?_append_left (by rw [List.length_map, ul]; exact hi), List.getElem?_map, h1]
            rfl
          cases sl with
          | no => trivial
          | pr _ _ => trivial
          | sh d => exact ⟨v, es, Rep.mono h2 em⟩
          | rd d => exact ⟨v, es, h2⟩
          | own m => exact h2.elim
          | ph _ => exact h2.elim
        · rw [List.getElem?_append_right (by rw [slots_len]; omega), List.getElem?_replicate] at z'
          split at z'
          · cases z'; trivial
          · cases z'
  refine hb self x hp H1 T _ _ _ _ _ g (fun ρ' ow' σ' H' e g' => ?_) (fun _ _ _ _ z => z.elim) (fun _ _ _ _ z => z.elim) ⟨fun _ _ z => z.elim, trivial⟩
  obtain ⟨p, a, b, c⟩ := g'.at_ 0 _ e
  obtain ⟨rfl, c'⟩ := id c
  exact q H' g'.ex (g'.on 0 p b) (c.mono (hid_less fun b' z => z.elim .inl fun w => .inr ⟨0, by rw [w]; exact b⟩) fun _ z => z)
variable {P : Program} {w : World} {mg : Str → Option Value} {base : Heap}
theorem mak_of {α : Type} {pre : α → Prop} {args : α → List (Bool × D)} {res : α → List D} {x qual : Str} {st : Stmt} {fI : Addr} {fd : FuncData} {N ps : List Str} {k : Nat} (M : Mk K C fI) (hm : mg x = some (.ref C)) (F : Fun K "__init__" qual st fI fd) (S : FnScope N ps (defScope st))
    (hl : ∀ x, (args x).length + 1 = ps.length) (hN : ps.length ≤ N.length)
    (hB : ∀ (kV doc pm : Value) (an : Option Addr) (cdv ct : Value) (us : List Value), us.length = ps.length → bindArgs (PySem.W.fnOf "__init__" qual (defArgs st) (defBody st) (defScope st) .none kV doc pm an cdv ct) ⟨us, []⟩ = pure (ps.zip us))
    (hb : ∀ (f : Addr) (cdv : Value) (A : Around) (outer : List Env) (s : Shared) (H : Hp) (E : XK), Room k (A.deeper (envOfC qual (defScope st) s.heap.objs.size f cdv)) → ∀ y : α, pre y →
      ∃ t, PSs (cxOf CX0 P w K mg base N qual (defScope st) f cdv A outer s H E).nox (defBody st) t ∧ ∀ self, SD K t (.own (.ins self C [] []) :: slots (args y) ++ List.replicate (N.length - ((args y).length + 1)) .no)
        { nx := fun ρ' => ρ'[0]? = some (.own (.ins self C ns (res y))), rt := fun _ _ _ _ => False }) :
    Mak P w K mg base (k + 1) x C (spNew K C pre args ns res) := by
  refine ⟨fI, fd, ps, M, F.ok S (fun vs H Q E h => ?_) (fun cdv A outer s H vs Q E hr h => ?_), hm, F.binds hB⟩
  · obtain ⟨self, dx, H1, us, x, T, rfl, _, _, _, _, _, _, ha, _⟩ := h
    rw [List.length_cons, ha.1]
    exact hl x
  · obtain ⟨self, dx, H1, us, x, T, e1, e2, e3, e4, e5, hp, e6, e7, e8⟩ := id h
    obtain ⟨t, h1, h2⟩ := hb fI cdv A outer s H E hr x hp
    refine ⟨t, h1, body_new (α := Unit) (pre := fun _ => True) (args := fun _ => args x) (res := fun _ => res x) (ns := ns) (E := E) ⟨self, dx, H1, us, (), T, e1, e2, e3, e4, e5, True.intro, e6, e7, e8⟩ (fun _ => by rw [hl]; exact hN) fun self' _ _ => h2 self'⟩
end
end BV
end
section
open PySem PySem.Spec PyProof.Rows L2 Evl
namespace BV
section
variable {K : PySem.W.Frag} {ρ : List Sl} {te ta tb tc tv : TE} {tx ty : TA} {d d' x y : D} {ds es : List D} {i j k : Int} {n : Nat} {m : M} {ts tu tw : TS} {Z : Zs}
theorem eqv_ints : ∀ l m : List Int, PyData.eqvAll (l.map .int) (m.map .int) = decide (l = m)
  | [], [] => by simp [PyData.eqvAll]
  | [], _ :: _ => by simp [PyData.eqvAll]
  | _ :: _, [] => by simp [PyData.eqvAll]
  | i :: l, j :: m => by
    simp only [List.map_cons, PyData.eqvAll, PyData.eqv, eqv_ints l m]
    by_cases h : i = j <;> simp [h]
/-- the last bit -/
theorem bit1 (i : Int) : Builtin.bitAnd i 1 = i % 2 := PySem.W.kbt_mask i 1
theorem ed_bit {i : Int} (ha : ED K ta ρ (.int i)) : ED K (tOp (rI0 fun i j => .int (Builtin.bitAnd i j)) ta (tC (.int 1))) ρ (.int (i % 2)) := ed_is (ed_i0 ha ed_int) (congrArg D.int (bit1 i))
theorem ed_shr {i : Int} {k : Nat} (ha : ED K ta ρ (.int i)) (hb : ED K tb ρ (.int (k : Int))) : ED K (tOp (rI (fun _ j => 0 ≤ j) fun i j => .int (i / 2 ^ j.toNat)) ta tb) ρ (.int (i / 2 ^ k)) := ed_is (ed_iC ha hb (Int.natCast_nonneg _)) (by rw [Int.toNat_natCast])
end
abbrev spLaw (K : PySem.W.Frag) : Sp := spSh K (fun ns : List Int => ns.length ≤ 63) (fun ns => [(true, .lst (ns.map .int))]) (fun _ => .bl true)
theorem sp_start {K : PySem.W.Frag} {H : Hp} {a : Addr} {ns : List Int} {E : XK} (hl : ns.length ≤ 63) (hS : SqL K H a (ns.map V.int)) : spLaw K [.ref a] H (fun v _ => v = .bl true) E := by
  refine ⟨ns, hl, fun _ => False, fun _ h => h.elim, All2.cons ?_ All2.nil, fun v H' _ r => r.bl_inv⟩
  show Rep K (hid (fun _ => False) H) (.ref a) (.lst (ns.map .int))
  rw [show hid (fun _ => False) H = H from funext fun b => hid_no fun z => z]
  refine .of_lst hS ⟨by rw [List.length_map, List.length_map], fun i v d h1 h2 => ?_⟩
  rw [List.getElem?_map] at h1 h2
  obtain ⟨x, hx, rfl⟩ := Option.map_eq_some_iff.mp h1
  rw [hx] at h2
  cases h2
  exact .int x
section
variable {P : Program} {w : World} {K : PySem.W.Frag} {mg : Str → Option Value} {h : Heap}
theorem Dfn.law {α : Type} {pre : α → Prop} {args : α → List (Bool × D)} {res : α → D} {x p : Str} {st : Stmt} {N : List Str} {k : Nat} {fa : Addr} (F : Dfn K mg x st) (hfa : mg x = some (.ref fa)) (S : FnScope N [p] (defScope st)) (hl : ∀ x, (args x).length = 1)
    (hN : 1 ≤ N.length) (hB : ∀ (kV doc pm : Value) (an : Option Addr) (cdv ct : Value) (us : List Value), us.length = [p].length → bindArgs (PySem.W.fnOf x x (defArgs st) (defBody st) (defScope st) .none kV doc pm an cdv ct) ⟨us, []⟩ = pure ([p].zip us))
    (hb : ∀ (base : Heap) (f : Addr) (cdv : Value) (A : Around) (outer : List Env) (s : Shared) (H : Hp) (E : XK), Room k (A.deeper (envOfC x (defScope st) s.heap.objs.size f cdv)) → ∀ y, pre y →
      ∃ t, PSs (cxOf CX0 P w K mg base N x (defScope st) f cdv A outer s H E).nox (defBody st) t ∧ SD K t (slots (args y) ++ List.replicate (N.length - (args y).length) .no) { nx := fun _ => res y = .non, rt := RSh K (res y) }) :
    ∃ fd : FuncData, (∀ (s : Shared) (v : Value), BindsTo s fd ⟨[v], []⟩ [(p, v)]) ∧ ∀ base : Heap, FnOk P w K mg base CX0 (k + 1) fa fd [p] (spSh K pre args res) := by
  obtain ⟨f, fd, F, hm⟩ := F.ex
  cases hm.symm.trans hfa
  refine ⟨fd, ?_, fun base => fun_sh F S hl hN (hb base fa)⟩
  obtain ⟨oc, od, kV, doc, pm, an, cdv, ct, osl, rfl, _⟩ := F.ex
  exact fun s v => .of_eq (hB kV doc pm an cdv ct [v] rfl)
theorem dfn_of (X : K.In h) (G : h.Ns mainGlobals mg) {x : Str} {st : Stmt} {f : Addr} {od an : Option Addr} {osl : Array (Option Value)} {oc kV doc pm cdv ct : Value} (a : PySem.W.nsIn K mainGlobals x = some (some (.ref f)))
    (l : K.lookup f = some ⟨oc, od, .func (PySem.W.fnOf x x (defArgs st) (defBody st) (defScope st) .none kV doc pm an cdv ct), osl⟩) (c : PySem.W.codeIn K cdv x = true) (k : PySem.W.keepIn K (.ref f) = true) : Dfn K mg x st := ⟨f, _, fun_mk l c k, PySem.W.mg_of X G a⟩
end
end BV
end
section
open PySem PySem.Spec PyProof.Rows L2 Evl
namespace BV
section
variable {K : PySem.W.Frag} {ρ : List Sl} {te ta tb tc tv td : TE} {tx ty : TA} {d d' x y : D} {ds es : List D} {i j k : Int} {n : Nat} {m : M} {ts tu tw : TS} {Z : Zs} {C : Addr} {ns : List Str}
def lookD (ks : List (List Key)) (ds : List D) (k : List Key) : Option D := ((ks.zip ds).find? fun p => decide (p.1 = k)).map (·.2)
theorem find_pos {α : Type} {k1 k : List Key} {x : α} {l : List (List Key × α)} (h : k1 = k) : ((k1, x) :: l).find? (fun p => decide (p.1 = k)) = some (k1, x) := by simp [h]
theorem find_neg {α : Type} {k1 k : List Key} {x : α} {l : List (List Key × α)} (h : ¬ k1 = k) : ((k1, x) :: l).find? (fun p => decide (p.1 = k)) = l.find? (fun p => decide (p.1 = k)) := by simp [h]
theorem look_rep {H : Hp} {k : List Key} : ∀ {kvs : List (List Key × V)} {ks : List (List Key)} {ds : List D}, kvs.map (·.1) = ks → Reps K H (kvs.map (·.2)) ds →
    (lookD ks ds k = none → valV kvs k = none) ∧ ∀ d, lookD ks ds k = some d → ∃ v, valV kvs k = some v ∧ Rep K H v d
  | [], ks, ds, e, r => by
    subst e
    rw [show ds = [] from List.eq_nil_of_length_eq_zero r.1.symm]
    exact ⟨fun _ => rfl, fun d h => nomatch h⟩
  | (k1, v1) :: kvs, ks, ds, e, r => by
    subst e
    cases ds with
    | nil => exact absurd r.1 (by simp)
    | cons d1 ds =>
      have h1 : Rep K H v1 d1 := All2.head r
      have ih := look_rep (k := k) (kvs := kvs) rfl (All2.tail r)
      unfold lookD valV at ih ⊢
      simp only [List.map_cons, List.zip_cons_cons]
      by_cases hk : k1 = k
      · simp only [find_pos hk]
        exact ⟨fun h => (nomatch h), fun d h => ⟨v1, rfl, by rw [← Option.some.inj h]; exact h1⟩⟩
      · simp only [find_neg hk]
        exact ih
theorem lookD_isSome {k : List Key} : ∀ {ks : List (List Key)} {ds : List D}, ks.length = ds.length → ((lookD ks ds k).isSome = true ↔ k ∈ ks)
  | [], [], _ => ⟨fun h => (nomatch h), fun h => absurd h (by simp)⟩
  | [], _ :: _, h => absurd h (by simp)
  | _ :: _, [], h => absurd h (by simp)
  | k1 :: ks, d1 :: ds, h => by
    have ih := lookD_isSome (k := k) (ks := ks) (ds := ds) (by simpa using h)
    unfold lookD at ih ⊢
    rw [List.zip_cons_cons, List.mem_cons]
    by_cases hk : k1 = k
    · rw [find_pos hk]
      exact ⟨fun _ => .inl hk.symm, fun _ => rfl⟩
    · rw [find_neg hk, ih]
      exact ⟨.inr, fun z => z.resolve_left fun w => hk w.symm⟩
theorem dget_t {H : Hp} {a b : Addr} {kvs : List (List Key × V)} {k : List Key} (e : Rd H a (.dT kvs)) (eb : H b = some (.tup (k.map kV))) : DGet H a (.ref b) (valV kvs k) := .inr ⟨kvs, k, b, e, rfl, eb, rfl⟩
theorem rd_ex {H H' : Hp} {a : Addr} {u : HO} (h : Rd H a u) (e : Ex H H') : Rd H' a u := h.elim (fun z => .inl (e _ _ z)) fun ⟨q, z⟩ => .inr ⟨q, e _ _ z⟩
/-- the key's tuple laid, the value found -/
theorem key_at {H0 G : Hp} {S : Addr → Prop} {ow : Nat → Option Addr} {σ : L2.St} {H : Hp} {is : List Int} (g : Good K H0 S G ow σ H ρ) (hk : EB K tx ρ (is.map .int)) (hl : is.length ≤ 100000) {Q : VK} (q : ∀ p H', Ex H H' → H' p = some (.tup (is.map V.int)) → Q (.ref p) H') : tTup tx σ H Q :=
  hk H0 S G ow σ H g _ fun us H2 e2 r2 => ⟨sz_of (by rw [r2.1, List.length_map]; exact hl), fun p hp => by
    rw [ints_of r2]
    exact q p _ (e2.trans (Ex.new hp)) upd_same⟩
theorem ed_dget {is : List Int} {ks : List (List Key)} (hd : ER K td ρ (.dct ks ds)) (hk : EB K tx ρ (is.map .int)) (h : lookD ks ds (intK is) = some (.int i)) (hl : is.length ≤ 100000 := by first | decide | simp) : ED K (tDGet td (tTup tx)) ρ (.int i) := fun H0 S G ow σ H g Q q =>
  hd H0 S G ow σ H g _ fun v H1 e1 r1 => key_at (g.ext e1) hk hl fun p H2 e2 hp => by
    obtain ⟨a, kvs, rfl, ha, e, hr⟩ := (r1.mono e2).dct_inv
    obtain ⟨u, hu, ru⟩ := (look_rep e hr).2 _ h
    refine ⟨a, u, rfl, ?_, q u H2 (e1.trans e2) (by rw [ru.int_inv]; exact .int i)⟩
    have z := dget_t (k := intK is) ha (by rw [kV_ints]; exact hp)
    rw [hu] at z
    exact z
theorem ed_din {is : List Int} {ks : List (List Key)} (hd : ER K td ρ (.dct ks ds)) (hk : EB K tx ρ (is.map .int)) (hl : is.length ≤ 100000 := by first | decide | simp) : ED K (tDIn (tTup tx) td) ρ (.bl (lookD ks ds (intK is)).isSome) := fun H0 S G ow σ H g Q q =>
  key_at g hk hl fun p H1 e1 hp => hd H0 S G ow σ H1 (g.ext e1) _ fun v H2 e2 r2 => by
    obtain ⟨a, kvs, rfl, ha, e, hr⟩ := r2.dct_inv
    have z := dget_t (k := intK is) ha (by rw [kV_ints]; exact e2 _ _ hp)
    refine ⟨a, _, rfl, z, ?_⟩
    have lr := look_rep (k := intK is) e hr
    cases hh : lookD ks ds (intK is) with
    | none =>
      rw [lr.1 hh]
      have q' := q (.bl false) H2 (e1.trans e2) (by rw [hh]; exact .bl false)
      exact q'
    | some dd =>
      obtain ⟨u, hu, _⟩ := lr.2 _ hh
      rw [hu]
      have q' := q (.bl true) H2 (e1.trans e2) (by rw [hh]; exact .bl true)
      exact q'
theorem isd_rd {H : Hp} {a : Addr} {kvs : List (List Key × V)} (h : Rd H a (.dT kvs)) : IsD H a := .inr ⟨kvs, h⟩
/-- d.get((..)): an int or None -/
theorem ed_dget1 {is : List Int} {ks : List (List Key)} (hd : ER K td ρ (.dct ks ds)) (hk : EB K tx ρ (is.map .int)) (h : (lookD ks ds (intK is)).getD .non = d) (hs : d = .non ∨ ∃ i, d = .int i) (hl : is.length ≤ 100000 := by first | decide | simp) : ED K (tDGet1 td (tTup tx)) ρ d := fun H0 S G ow σ H g Q q =>
  hd H0 S G ow σ H g _ fun v H1 e1 r1 => by
    obtain ⟨a, kvs, rfl, ha, e, hr⟩ := r1.dct_inv
    refine ⟨a, rfl, isd_rd ha, key_at (g.ext e1) hk hl fun p H2 e2 hp => ?_⟩
    refine ⟨_, dget_t (k := intK is) (rd_ex ha e2) (by rw [kV_ints]; exact hp), ?_⟩
    have lr := look_rep (k := intK is) e hr
    cases hh : lookD ks ds (intK is) with
    | none =>
      rw [lr.1 hh]
      rw [hh] at h
      exact q .non H2 (e1.trans e2) (by rw [← h]; exact .non)
    | some dd =>
      obtain ⟨u, hu, ru⟩ := lr.2 _ hh
      rw [hu]
      rw [hh] at h
      have h : dd = d := h
      subst h
      rcases hs with rfl | ⟨i, rfl⟩
      · exact q u H2 (e1.trans e2) (by rw [ru.non_inv]; exact .non)
      · exact q u H2 (e1.trans e2) (by rw [ru.int_inv]; exact .int i)
theorem flat_rep {α β : Type} {R : α → β → Prop} {xs : List α} {ys : List β} (h : All2 R xs ys) : ∀ l : Nat, All2 R (List.replicate l xs).flatten (List.replicate l ys).flatten
  | 0 => All2.nil
  | l + 1 => by
    rw [List.replicate_succ, List.replicate_succ, List.flatten_cons, List.flatten_cons]
    exact All2.app h (flat_rep h l)
theorem eo_rep {l : Nat} (ha : EO K ta ρ (.lst ds)) (hb : ED K tb ρ (.int (l : Int))) (hl : ds.length * l ≤ 100000) (hl2 : l ≤ 100000) : EO K (tOp rRep ta tb) ρ (.lst (List.replicate l ds).flatten) := fun H0 S G ow σ H g Q q => ha H0 S G ow σ H g _ fun p H1 hp e1 _ r1 =>
  hb H0 S G ow σ H1 (g.ext e1) _ fun u H2 e2 r2 => by
    obtain ⟨xs, a, b⟩ := r1
    rw [r2.int_inv]
    have hl0 : xs.length * l ≤ 100000 := by rw [b.1]; exact hl
    have e := e1.trans e2
    refine ⟨p, (l : Int), xs, rfl, rfl, e2 _ _ a, by omega, by omega, by rw [Int.toNat_natCast]; exact sz_of hl0, fun z hz => ?_⟩
    rw [Int.toNat_natCast]
    exact q z _ (fresh_back e hz) (e.trans (Ex.new hz)) (by rw [upd_same]; exact fun z => nomatch z) (eo_of_new hz ((g.ext e).fresh hz) (flat_rep ((b.mono (hid_less fun _ z => .inl z)).mono (hid_ext e2)) l))
/-- the last one of a list built here -/
theorem atI_last {xs : List V} {x : V} (e : xs[xs.length - 1]? = some x) (h : 0 < xs.length) : atI xs (-1) = some x := by
  have e2 : ixN xs.length (-1) = some (xs.length - 1) := by
    unfold ixN
    rw [if_neg (by decide), if_pos (by omega)]
    exact congrArg some (by omega)
  unfold atI
  rw [e2]
  exact e
theorem ed_lastO (h : ρ[n]? = some (.own (.lst ds))) (hb : ED K tb ρ (.int (-1))) (h0 : 0 < ds.length) (hd : ds[ds.length - 1]? = some d) : ED K (tOp (rIxL K) (tVar n) tb) ρ d := fun H0 S G ow σ H g Q q => by
  obtain ⟨p, a, b, xs, c, r⟩ := g.at_ n _ h
  refine ⟨.ref p, a, hb H0 S G ow σ H g _ fun u H2 e2 r2 => ?_⟩
  obtain ⟨x, hx, rx⟩ := r.get hd
  rw [r2.int_inv]
  exact ⟨p, xs, _, x, rfl, rfl, sq_of (e2 _ _ c), atI_last (by rw [r.1]; exact hx) (by rw [r.1]; exact h0), q x H2 e2 (rx.mono (hid_ext e2))⟩
theorem fld_none : ∀ {fs : List (Str × V)} {m : Str}, m ∉ fs.map (·.1) → fs.lookup m = none
  | [], _, _ => rfl
  | (g, x) :: fs, m, h => by
    rw [List.lookup_cons, show (m == g) = false from beq_eq_false_iff_ne.mpr fun z => h (by rw [z]; exact List.mem_cons_self)]
    exact fld_none fun z => h (List.mem_cons_of_mem _ z)
theorem ed_meth {α : Type} {pre : α → Prop} {args : α → List (Bool × D)} {res : α → D} {E : XK} {mn : Str} {as : List (Bool × D)} (x : α) (hp : pre x) (ho : ED K te ρ (.obj C ns ds)) (hm : mn ∉ ns) (ha : EA K tx ρ as) (e : args x = (true, .obj C ns ds) :: as) : ED K (tMeth C mn (spSh K pre args res) [] E te tx) ρ (res x) := fun H0 S G ow σ H g Q q =>
  ho H0 S G ow σ H g _ fun v H1 e1 r1 => by
    obtain ⟨a, dx, fs, rfl, h1, h2, h3⟩ := id r1.obj_inv
    refine ⟨a, dx, fs, rfl, (hid_some h1).2, fld_none (by rw [h2]; exact hm), ha H0 S G ow σ H1 (g.ext e1) _ fun us H2 e2 r2 => ?_⟩
    rw [List.append_nil]
    refine ⟨x, hp, Hid S ow, (g.ext (e1.trans e2)).there, ?_, fun v H' e' r' => q v H' ((e1.trans e2).trans e') r'⟩
    rw [e]
    exact All2.cons (r1.mono (hid_ext e2)) r2
theorem eo_meth {α : Type} {pre : α → Prop} {args : α → List (Bool × D)} {res : α → M} {E : XK} {mn : Str} {as : List (Bool × D)} (x : α) (hp : pre x) (ho : ED K te ρ (.obj C ns ds)) (hm : mn ∉ ns) (ha : EA K tx ρ as) (e : args x = (true, .obj C ns ds) :: as) : EO K (tMeth C mn (spOw K pre args res) [] E te tx) ρ (res x) := fun H0 S G ow σ H g Q q =>
  ho H0 S G ow σ H g _ fun v H1 e1 r1 => by
    obtain ⟨a, dx, fs, rfl, h1, h2, h3⟩ := id r1.obj_inv
    refine ⟨a, dx, fs, rfl, (hid_some h1).2, fld_none (by rw [h2]; exact hm), ha H0 S G ow σ H1 (g.ext e1) _ fun us H2 e2 r2 => ?_⟩
    rw [List.append_nil]
    refine ⟨x, hp, Hid S ow, (g.ext (e1.trans e2)).there, ?_, fun p H' hp e' nn r' => q p H' (fresh_back (e1.trans e2) hp) ((e1.trans e2).trans e') nn r'⟩
    rw [e]
    exact All2.cons (r1.mono (hid_ext e2)) r2
end
/-- a method of the class at C -/
structure Met (P : Program) (w : World) (K : PySem.W.Frag) (mg : Str → Option Value) (base : Heap) (k : Nat) (C : Addr) (m : Str) (sp : Sp) : Prop where
  ex : ∃ (f : Addr) (fd : FuncData) (ps : List Str), FnOk P w K mg base CX0 k f fd ps sp ∧ Meth K C m f ∧ Binds K fd ps []
section
variable {X : Cx} {k j : Nat} {C : Addr} {m : Str} {sp : Sp} {apos pos : Pos} {e o : Expr} {es : List Expr} {t : TA} {ta : TE}
theorem pe_met (c : Met X.prog X.w X.K X.mg X.base k C m sp) (hC : Cls X.K C) (hr : Room j X.A) (hk : k ≤ j) (ho : PE X o ta) (ha : PA X (e :: es) t) {pl : Sem Bool}
    (hst : starEach (e :: es) X.env = (false, eval e X.env) :: starEach es X.env := by rfl) (hpl : (backTo pos (starEach es X.env)).any (·.1) = false := by rfl)
    (ht : eval (.Call (.Attribute o m apos) (e :: es) [] pos) X.env = (do
      let ov ← eval o X.env
      standAt apos.atName
      let (f, first) ← holding [ov] (getMethod ov m pl)
      callWith pos f first (backTo pos (starEach (e :: es) X.env)) (backToKw pos (keywordEach [] X.env))) := by rfl) : PE X (.Call (.Attribute o m apos) (e :: es) [] pos) (tMeth C m sp [] E0 ta t) := by
  obtain ⟨f, fd, ps, F, M, b⟩ := c.ex
  exact pe_meth ho hC M F (hr.mono hk) b .nil pass0 ha hst hpl ht
end
/-- the same but at d, where the one is locked and the other isn't -/
structure Sw (d : Addr) (A B : Hp) : Prop where
  off : ∀ b, b ≠ d → A b = B b
  at_ : (A d = none ∧ B d = none) ∨ ∃ (kvs : List (List Key × V)) (od : Obj), (A d = some (.dT kvs) ∧ B d = some (.frz od (.dT kvs))) ∨ (A d = some (.frz od (.dT kvs)) ∧ B d = some (.dT kvs))
section
variable {K : PySem.W.Frag} {d p : Addr} {A B H0 H H0' H' G G' : Hp} {S T : Addr → Prop} {ow : Nat → Option Addr} {σ : L2.St} {ρ : List Sl} {v : V} {dt : D} {m : M}
theorem Sw.none (s : Sw d A B) {b : Addr} (h : Nb (A b)) : Nb (B b) := by
  by_cases e : b = d
  · subst e
    rcases s.at_ with ⟨h1, _⟩ | ⟨kvs, od, ⟨_, h2⟩ | ⟨_, h2⟩⟩
    · exact absurd h1 h.ne
    · rw [h2]; exact fun z => nomatch z
    · rw [h2]; exact fun z => nomatch z
  · rw [← s.off b e]; exact h
theorem Sw.rd (s : Sw d A B) {b : Addr} {u : HO} (hu : ∀ o t, u ≠ .frz o t) (r : Rd A b u) : Rd B b u := by
  by_cases e : b = d
  · subst e
    rcases s.at_ with ⟨h1, _⟩ | ⟨kvs, od, ⟨h1, h2⟩ | ⟨h1, h2⟩⟩
    · rcases r with r | ⟨o, r⟩
      · rw [h1] at r; cases r
      · rw [h1] at r; cases r
    · rcases r with r | ⟨o, r⟩
      · rw [h1] at r; cases r; exact .inr ⟨od, h2⟩
      · rw [h1] at r; cases r
    · rcases r with r | ⟨o, r⟩
      · rw [h1] at r; cases r; exact absurd rfl (hu _ _)
      · rw [h1] at r; cases r; exact .inl h2
  · rcases r with r | ⟨o, r⟩
    · exact .inl (by rw [← s.off b e]; exact r)
    · exact .inr ⟨o, by rw [← s.off b e]; exact r⟩
theorem Sw.off' (s : Sw d A B) {b : Addr} {u : HO} (h : A b = some u) (h1 : ∀ kvs, u ≠ .dT kvs) (h2 : ∀ o t, u ≠ .frz o t) : B b = some u := by
  have e : b ≠ d := fun z => by
    rw [z] at h
    rcases s.at_ with ⟨q, _⟩ | ⟨kvs, od, ⟨q, _⟩ | ⟨q, _⟩⟩
    · rw [q] at h; cases h
    · rw [q] at h; exact h1 _ (Option.some.inj h).symm
    · rw [q] at h; exact h2 _ _ (Option.some.inj h).symm
  rw [← s.off b e]
  exact h
theorem Sw.rep (s : Sw d A B) (r : Rep K A v dt) : Rep K B v dt := r.swap (fun a u hu h => s.rd hu h) (fun a C dx fs h => s.off' h (fun _ z => nomatch z) fun _ _ z => nomatch z) (fun a φ h => s.off' h (fun _ z => nomatch z) fun _ _ z => nomatch z) (fun a fs h => s.off' h (fun _ z => nomatch z) fun _ _ z => nomatch z) (fun a vs h => s.off' h (fun _ z => nomatch z) fun _ _ z => nomatch z)
variable {Z : Zs} {tb : TS} {n ia ib : Nat} {ks : List (List Key)} {ds : List D}
end
section
variable {P : Program} {w : World} {K : PySem.W.Frag} {mg : Str → Option Value} {base : Heap} {C : Addr}
theorem met_sh {α : Type} {pre : α → Prop} {args : α → List (Bool × D)} {res : α → D} {x qual : Str} {st : Stmt} {N ps : List Str} {k : Nat} (F : ∃ f fd, Fun K x qual st f fd ∧ Meth K C x f) (S : FnScope N ps (defScope st)) (hl : ∀ x, (args x).length = ps.length)
    (hN : ps.length ≤ N.length) (hB : ∀ (kV doc pm : Value) (an : Option Addr) (cdv ct : Value) (us : List Value), us.length = ps.length → bindArgs (PySem.W.fnOf x qual (defArgs st) (defBody st) (defScope st) .none kV doc pm an cdv ct) ⟨us, []⟩ = pure (ps.zip us))
    (hb : ∀ (f : Addr) (cdv : Value) (A : Around) (outer : List Env) (s : Shared) (H : Hp) (E : XK), Room k (A.deeper (envOfC qual (defScope st) s.heap.objs.size f cdv)) → ∀ y, pre y →
      ∃ t, PSs (cxOf CX0 P w K mg base N qual (defScope st) f cdv A outer s H E).nox (defBody st) t ∧ SD K t (slots (args y) ++ List.replicate (N.length - (args y).length) .no) { nx := fun _ => res y = .non, rt := RSh K (res y) }) :
    Met P w K mg base (k + 1) C x (spSh K pre args res) := by
  obtain ⟨f, fd, F, hm⟩ := F
  exact ⟨f, fd, ps, fun_sh F S hl hN (hb f), hm, F.binds hB⟩
theorem met_ow {α : Type} {pre : α → Prop} {args : α → List (Bool × D)} {res : α → M} {x qual : Str} {st : Stmt} {N ps : List Str} {k : Nat} (F : ∃ f fd, Fun K x qual st f fd ∧ Meth K C x f) (S : FnScope N ps (defScope st)) (hl : ∀ x, (args x).length = ps.length)
    (hN : ps.length ≤ N.length) (hB : ∀ (kV doc pm : Value) (an : Option Addr) (cdv ct : Value) (us : List Value), us.length = ps.length → bindArgs (PySem.W.fnOf x qual (defArgs st) (defBody st) (defScope st) .none kV doc pm an cdv ct) ⟨us, []⟩ = pure (ps.zip us))
    (hb : ∀ (f : Addr) (cdv : Value) (A : Around) (outer : List Env) (s : Shared) (H : Hp) (E : XK), Room k (A.deeper (envOfC qual (defScope st) s.heap.objs.size f cdv)) → ∀ y, pre y →
      ∃ t, PSs (cxOf CX0 P w K mg base N qual (defScope st) f cdv A outer s H E).nox (defBody st) t ∧ SD K t (slots (args y) ++ List.replicate (N.length - (args y).length) .no) { nx := fun _ => False, rt := ROwn K (res y) }) :
    Met P w K mg base (k + 1) C x (spOw K pre args res) := by
  obtain ⟨f, fd, F, hm⟩ := F
  exact ⟨f, fd, ps, fun_ow F S hl hN (hb f), hm, F.binds hB⟩
end
end BV
end
section
namespace Ds
abbrev Edge := Nat × Nat × Int
abbrev Xs := List (Option Int)
def at_ (X : Xs) (a : Nat) : Option Int := X.getD a none
def eff (X : Xs) (e : Edge) : Bool := match at_ X e.2.1 with
  | none => false
  | some y => match at_ X e.1 with
    | none => true
    | some x => decide (e.2.2 + y < x)
def relax (X : Xs) (e : Edge) : Xs := if eff X e = true then X.set e.1 (some (e.2.2 + (at_ X e.2.1).getD 0)) else X
def pass (E : List Edge) (X : Xs) : Xs := E.foldl relax X
inductive Pth (E : List Edge) (t : Nat) : Nat → Nat → Prop
  | nil : Pth E t t 0
  | cons {a b s : Nat} {w : Int} (h : (a, b, w) ∈ E) (p : Pth E t b s) : Pth E t a (w.toNat + s)
theorem least {P : Nat → Prop} : ∀ s : Nat, P s → ∃ m, P m ∧ ∀ r, P r → m ≤ r := by
  intro s
  induction s using Nat.strongRecOn with
  | _ s ih =>
    intro h
    by_cases q : ∃ r, P r ∧ r < s
    · obtain ⟨r, h1, h2⟩ := q
      exact ih r h2 h1
    · exact ⟨s, h, fun r hr => Nat.le_of_not_lt fun z => q ⟨r, hr, z⟩⟩
open Classical in
noncomputable def dst (E : List Edge) (t a : Nat) : Option Int := if h : ∃ m, Pth E t a m ∧ ∀ r, Pth E t a r → m ≤ r then some (Classical.choose h : Nat) else none
section
variable {E : List Edge} {t n : Nat} {X : Xs}
theorem dst_some {a : Nat} {x : Int} (h : dst E t a = some x) : ∃ s : Nat, x = s ∧ Pth E t a s ∧ ∀ r, Pth E t a r → s ≤ r := by
  unfold dst at h
  split at h
  · rename_i q
    exact ⟨_, (Option.some.inj h).symm, Classical.choose_spec q⟩
  · cases h
theorem dst_le {a s : Nat} (p : Pth E t a s) : ∃ m : Nat, dst E t a = some (m : Int) ∧ m ≤ s := by
  have q := least s p
  unfold dst
  rw [dif_pos q]
  exact ⟨_, rfl, (Classical.choose_spec q).2 s p⟩
theorem dst_t : dst E t t = some 0 := by
  obtain ⟨m, h, hm⟩ := dst_le (E := E) (Pth.nil (t := t))
  rw [h]
  have : m = 0 := by omega
  rw [this]
  rfl
structure Wf (E : List Edge) (n t : Nat) : Prop where
  tn : t < n
  ok : ∀ e, e ∈ E → e.1 < n ∧ e.2.1 < n ∧ 1 ≤ e.2.2
theorem dst_closed (W : Wf E n t) {a b : Nat} {w y : Int} (h : (a, b, w) ∈ E) (hb : dst E t b = some y) : ∃ x, dst E t a = some x ∧ x ≤ w + y := by
  obtain ⟨s, rfl, p, _⟩ := dst_some hb
  obtain ⟨m, hm, hle⟩ := dst_le (Pth.cons h p)
  have h1 := (W.ok _ h).2.2
  have h1 : 1 ≤ w := h1
  exact ⟨m, hm, by omega⟩
theorem dst_step (W : Wf E n t) {a : Nat} {x : Int} (h : dst E t a = some x) (ht : a ≠ t) : ∃ b w y, (a, b, w) ∈ E ∧ dst E t b = some y ∧ x = w + y := by
  obtain ⟨s, rfl, p, hmin⟩ := dst_some h
  cases p with
  | nil => exact absurd rfl ht
  | @cons _ b s' w he p =>
    obtain ⟨m, hm, hle⟩ := dst_le p
    obtain ⟨x', hx', hle'⟩ := dst_closed W he hm
    rw [h] at hx'
    have e := Option.some.inj hx'
    have h1 : 1 ≤ w := (W.ok _ he).2.2
    exact ⟨b, w, m, he, hm, by omega⟩
theorem dst_pos {a : Nat} {x : Int} (h : dst E t a = some x) : 0 ≤ x := by
  obtain ⟨s, rfl, _⟩ := dst_some h
  omega
theorem at_set {a b : Nat} {x : Option Int} (h : a < X.length) : at_ (X.set a x) b = if b = a then x else at_ X b := by
  unfold at_
  rw [List.getD_eq_getElem?_getD, List.getD_eq_getElem?_getD, List.getElem?_set]
  by_cases e : a = b
  · subst e
    rw [if_pos rfl, if_pos h, if_pos rfl]
    rfl
  · rw [if_neg e, if_neg (Ne.symm e)]
/-- what holds of sums so far -/
structure Snd (E : List Edge) (n t : Nat) (X : Xs) : Prop where
  len : X.length = n
  zero : at_ X t = some 0
  real : ∀ a x, at_ X a = some x → ∃ s : Nat, x = s ∧ Pth E t a s
theorem Snd.ge (S : Snd E n t X) {a : Nat} {x : Int} (h : at_ X a = some x) : ∃ d, dst E t a = some d ∧ d ≤ x := by
  obtain ⟨s, rfl, p⟩ := S.real a x h
  obtain ⟨m, hm, hle⟩ := dst_le p
  exact ⟨m, hm, by omega⟩
theorem eff_some {e : Edge} (h : eff X e = true) : ∃ y, at_ X e.2.1 = some y ∧ ∀ x, at_ X e.1 = some x → e.2.2 + y < x := by
  unfold eff at h
  split at h
  · cases h
  · rename_i y hy
    refine ⟨y, hy, fun x hx => ?_⟩
    rw [hx] at h
    exact of_decide_eq_true h
theorem eff_no {e : Edge} {y : Int} (h : eff X e = false) (hy : at_ X e.2.1 = some y) : ∃ x, at_ X e.1 = some x ∧ x ≤ e.2.2 + y := by
  unfold eff at h
  rw [hy] at h
  cases hx : at_ X e.1 with
  | none => rw [hx] at h; cases h
  | some x =>
    rw [hx] at h
    have := of_decide_eq_false h
    exact ⟨x, rfl, by omega⟩
theorem relax_yes {e : Edge} {y : Int} (h : eff X e = true) (hy : at_ X e.2.1 = some y) : relax X e = X.set e.1 (some (e.2.2 + y)) := by
  unfold relax
  rw [if_pos h, hy]
  rfl
theorem relax_no {e : Edge} (h : eff X e = false) : relax X e = X := by
  unfold relax
  rw [h]
  rfl
theorem Snd.relax (W : Wf E n t) (S : Snd E n t X) {e : Edge} (he : e ∈ E) : Snd E n t (relax X e) := by
  cases h : eff X e with
  | false => rw [relax_no h]; exact S
  | true =>
    obtain ⟨y, hy, hlt⟩ := eff_some h
    obtain ⟨w1, w2, w3⟩ := W.ok e he
    rw [relax_yes h hy]
    obtain ⟨s, rfl, p⟩ := S.real _ _ hy
    have hl : e.1 < X.length := by rw [S.len]; exact w1
    refine ⟨by rw [List.length_set]; exact S.len, ?_, fun a x hx => ?_⟩
    · rw [at_set hl]
      split
      · rename_i q
        have := hlt 0 (by rw [← q]; exact S.zero)
        omega
      · exact S.zero
    · rw [at_set hl] at hx
      split at hx
      · rename_i q
        subst q
        refine ⟨e.2.2.toNat + s, ?_, Pth.cons (b := e.2.1) he p⟩
        have := Option.some.inj hx
        omega
      · exact S.real a x hx
theorem relax_mono (W : Wf E n t) (hl : X.length = n) {e : Edge} (he : e ∈ E) {a : Nat} {x : Int} (h : at_ X a = some x) : ∃ x', at_ (relax X e) a = some x' ∧ x' ≤ x := by
  cases q : eff X e with
  | false => rw [relax_no q]; exact ⟨x, h, Int.le_refl _⟩
  | true =>
    obtain ⟨y, hy, hlt⟩ := eff_some q
    rw [relax_yes q hy, at_set (by rw [hl]; exact (W.ok e he).1)]
    split
    · rename_i z
      subst z
      exact ⟨_, rfl, Int.le_of_lt (hlt x h)⟩
    · exact ⟨x, h, Int.le_refl _⟩
theorem relax_at (W : Wf E n t) (hl : X.length = n) {e : Edge} (he : e ∈ E) {y : Int} (hy : at_ X e.2.1 = some y) : ∃ x', at_ (relax X e) e.1 = some x' ∧ x' ≤ e.2.2 + y := by
  cases q : eff X e with
  | false => rw [relax_no q]; exact eff_no q hy
  | true =>
    rw [relax_yes q hy, at_set (by rw [hl]; exact (W.ok e he).1), if_pos rfl]
    exact ⟨_, rfl, Int.le_refl _⟩
theorem relax_len {e : Edge} : (relax X e).length = X.length := by
  unfold relax
  split
  · rw [List.length_set]
  · rfl
theorem pass_len : ∀ (F : List Edge) (X : Xs), (pass F X).length = X.length
  | [], X => rfl
  | e :: F, X => (pass_len F (relax X e)).trans relax_len
theorem Snd.pass (W : Wf E n t) : ∀ (F : List Edge) {X : Xs}, (∀ e, e ∈ F → e ∈ E) → Snd E n t X → Snd E n t (pass F X)
  | [], X, _, S => S
  | e :: F, X, h, S => Snd.pass W F (fun e he => h e (List.mem_cons_of_mem _ he)) (S.relax W (h e List.mem_cons_self))
theorem pass_mono (W : Wf E n t) : ∀ (F : List Edge) {X : Xs}, (∀ e, e ∈ F → e ∈ E) → X.length = n → ∀ {a : Nat} {x : Int}, at_ X a = some x → ∃ x', at_ (pass F X) a = some x' ∧ x' ≤ x
  | [], X, _, _, a, x, hx => ⟨x, hx, Int.le_refl _⟩
  | e :: F, X, h, hl, a, x, hx => by
    obtain ⟨x1, h1, l1⟩ := relax_mono W hl (h e List.mem_cons_self) hx
    obtain ⟨x2, h2, l2⟩ := pass_mono W F (fun e he => h e (List.mem_cons_of_mem _ he)) (relax_len.trans hl) h1
    exact ⟨x2, h2, Int.le_trans l2 l1⟩
theorem pass_at (W : Wf E n t) : ∀ (F : List Edge) {X : Xs}, (∀ e, e ∈ F → e ∈ E) → X.length = n → ∀ {e : Edge} {y : Int}, e ∈ F → at_ X e.2.1 = some y → ∃ x', at_ (pass F X) e.1 = some x' ∧ x' ≤ e.2.2 + y
  | f :: F, X, h, hl, e, y, he, hy => by
    have hF : ∀ e, e ∈ F → e ∈ E := fun e he => h e (List.mem_cons_of_mem _ he)
    rcases List.mem_cons.mp he with rfl | he
    · obtain ⟨x1, h1, l1⟩ := relax_at W hl (h e List.mem_cons_self) hy
      obtain ⟨x2, h2, l2⟩ := pass_mono W F hF (relax_len.trans hl) h1
      exact ⟨x2, h2, Int.le_trans l2 l1⟩
    · obtain ⟨y1, h1, l1⟩ := relax_mono W hl (h f List.mem_cons_self) hy
      obtain ⟨x2, h2, l2⟩ := pass_at W F hF (relax_len.trans hl) he h1
      exact ⟨x2, h2, by omega⟩
theorem filter_lt {α : Type} {p q : α → Bool} : ∀ {l : List α}, (∀ a, a ∈ l → q a = true → p a = true) → (∃ a, a ∈ l ∧ p a = true ∧ q a = false) → (l.filter q).length < (l.filter p).length
  | [], _, ⟨a, h, _⟩ => absurd h (by simp)
  | x :: l, h, ⟨a, ha, h1, h2⟩ => by
    have le : ∀ l' : List α, (∀ a, a ∈ l' → q a = true → p a = true) → (l'.filter q).length ≤ (l'.filter p).length := fun l' => by
      induction l' with
      | nil => exact fun _ => Nat.le_refl _
      | cons y l' ih =>
        intro hh
        have i := ih fun a ha => hh a (List.mem_cons_of_mem _ ha)
        rw [List.filter_cons, List.filter_cons]
        cases e : q y with
        | true => rw [hh y List.mem_cons_self e]; simpa using i
        | false =>
          cases p y with
          | true => simp; omega
          | false => simpa using i
    have hl : ∀ a, a ∈ l → q a = true → p a = true := fun a ha => h a (List.mem_cons_of_mem _ ha)
    rcases List.mem_cons.mp ha with rfl | ha
    · rw [List.filter_cons_of_pos h1, List.filter_cons_of_neg (by rw [h2]; exact Bool.false_ne_true), List.length_cons]
      have := le l hl
      omega
    · have i := filter_lt hl ⟨a, ha, h1, h2⟩
      rw [List.filter_cons, List.filter_cons]
      cases e : q x with
      | true => rw [h x List.mem_cons_self e]; simpa using i
      | false =>
        cases p x with
        | true => simp; omega
        | false => simpa using i
open Classical in
noncomputable def bad (E : List Edge) (t : Nat) (X : Xs) (a : Nat) : Bool := decide (dst E t a ≠ none ∧ at_ X a ≠ dst E t a)
noncomputable def bads (E : List Edge) (n t : Nat) (X : Xs) : Nat := ((List.range n).filter (bad E t X)).length
theorem bad_yes {a : Nat} (h : bad E t X a = true) : ∃ x, dst E t a = some x ∧ at_ X a ≠ some x := by
  have h := of_decide_eq_true h
  cases q : dst E t a with
  | none => exact absurd q h.1
  | some x => exact ⟨x, rfl, by rw [← q]; exact h.2⟩
theorem bad_no {a : Nat} {x : Int} (h : bad E t X a = false) (q : dst E t a = some x) : at_ X a = some x := by
  have h := of_decide_eq_false h
  exact Classical.byContradiction fun z => h ⟨by rw [q]; exact fun w => (nomatch w), by rw [q]; exact z⟩
theorem bad_of {a : Nat} {x : Int} (q : dst E t a = some x) (h : at_ X a = some x) : bad E t X a = false := decide_eq_false fun z => z.2 (by rw [q, h])
theorem bads_less (W : Wf E n t) (S : Snd E n t X) (h : bads E n t X ≠ 0) : bads E n t (pass E X) < bads E n t X := by
  have S' := S.pass W E (fun _ z => z)
  refine filter_lt (fun a ha h1 => ?_) ?_
  · cases q : bad E t X a with
    | true => rfl
    | false =>
      obtain ⟨x, hx, hne⟩ := bad_yes h1
      obtain ⟨x', h2, l2⟩ := pass_mono W E (fun _ z => z) S.len (bad_no q hx)
      obtain ⟨d, h3, l3⟩ := S'.ge h2
      rw [hx] at h3
      cases h3
      exact absurd (by rw [h2, show x' = x by omega]) hne
  · obtain ⟨a0, h0, _⟩ : ∃ a, a ∈ (List.range n).filter (bad E t X) ∧ True := by
      unfold bads at h
      cases q : (List.range n).filter (bad E t X) with
      | nil => rw [q] at h; exact absurd rfl h
      | cons a l => exact ⟨a, List.mem_cons_self, trivial⟩
    obtain ⟨h01, h02⟩ := List.mem_filter.mp h0
    obtain ⟨x0, hx0, _⟩ := bad_yes h02
    obtain ⟨s0, rfl, _, _⟩ := dst_some hx0
    obtain ⟨m, ⟨a, ha, hb, hd⟩, hmin⟩ := least (P := fun m : Nat => ∃ a, a ∈ List.range n ∧ bad E t X a = true ∧ dst E t a = some (m : Int)) s0 ⟨a0, h01, h02, hx0⟩
    refine ⟨a, ha, hb, ?_⟩
    have hat : a ≠ t := fun z => by
      subst z
      obtain ⟨x, hx, hne⟩ := bad_yes hb
      rw [dst_t] at hx
      cases hx
      exact hne S.zero
    obtain ⟨b, w, y, he, hy, e⟩ := dst_step W hd hat
    obtain ⟨w1, w2, w3⟩ := W.ok _ he
    have w3 : 1 ≤ w := w3
    obtain ⟨sy, rfl, _, _⟩ := dst_some hy
    have hbb : bad E t X b = false := by
      cases q : bad E t X b with
      | false => rfl
      | true =>
        have := hmin sy ⟨b, List.mem_range.mpr w2, q, hy⟩
        omega
    obtain ⟨x', h1, l1⟩ := pass_at W E (fun _ z => z) S.len he (bad_no hbb hy)
    obtain ⟨d, h3, l3⟩ := S'.ge h1
    have h1 : at_ (pass E X) a = some x' := h1
    have l1 : x' ≤ w + sy := l1
    have h3 : dst E t a = some d := h3
    rw [hd] at h3
    cases h3
    exact bad_of hd (by rw [h1, show x' = (m : Int) by omega])
noncomputable def DL (E : List Edge) (n t : Nat) : Xs := (List.range n).map (dst E t)
theorem at_DL {a : Nat} (h : a < n) : at_ (DL E n t) a = dst E t a := by
  unfold at_ DL
  rw [List.getD_eq_getElem?_getD, List.getElem?_map, List.getElem?_range h]
  rfl
theorem eq_DL (S : Snd E n t X) (h : ∀ a x, a < n → dst E t a = some x → at_ X a = some x) : X = DL E n t := by
  refine List.ext_getElem? fun a => ?_
  by_cases ha : a < n
  · have e1 : X[a]? = some (at_ X a) := by
      unfold at_
      rw [List.getD_eq_getElem?_getD, List.getElem?_eq_getElem (by rw [S.len]; exact ha)]
      rfl
    have e2 : (DL E n t)[a]? = some (dst E t a) := by
      unfold DL
      rw [List.getElem?_map, List.getElem?_range ha]
      rfl
    rw [e1, e2]
    cases q : dst E t a with
    | some x => rw [h a x ha q]
    | none =>
      cases z : at_ X a with
      | none => rfl
      | some x =>
        obtain ⟨d, hd, _⟩ := S.ge z
        rw [q] at hd
        cases hd
  · rw [List.getElem?_eq_none (by rw [S.len]; omega), List.getElem?_eq_none (by unfold DL; rw [List.length_map, List.length_range]; omega)]
def X0 (n t : Nat) : Xs := (List.replicate n none).set t (some 0)
theorem snd0 (W : Wf E n t) : Snd E n t (X0 n t) := by
  have hl : t < (List.replicate n (none : Option Int)).length := by rw [List.length_replicate]; exact W.tn
  refine ⟨by unfold X0; rw [List.length_set, List.length_replicate], by unfold X0; rw [at_set hl, if_pos rfl], fun a x h => ?_⟩
  unfold X0 at h
  rw [at_set hl] at h
  split at h
  · rename_i e
    subst e
    cases h
    exact ⟨0, rfl, .nil⟩
  · unfold at_ at h
    rw [List.getD_eq_getElem?_getD, List.getElem?_replicate] at h
    split at h <;> cases h
def turns (E : List Edge) (n t : Nat) : Nat → Xs
  | 0 => X0 n t
  | k + 1 => pass E (turns E n t k)
theorem turns_snd (W : Wf E n t) : ∀ k, Snd E n t (turns E n t k)
  | 0 => snd0 W
  | k + 1 => (turns_snd W k).pass W E fun _ z => z
theorem bads_0 (W : Wf E n t) : bads E n t (turns E n t 0) < n := by
  unfold bads
  have h := filter_lt (l := List.range n) (p := fun _ => true) (q := bad E t (X0 n t)) (fun _ _ _ => rfl) ⟨t, List.mem_range.mpr W.tn, rfl, bad_of dst_t (snd0 W).zero⟩
  rw [List.filter_eq_self.mpr fun _ _ => rfl, List.length_range] at h
  exact h
theorem bads_k (W : Wf E n t) : ∀ k, bads E n t (turns E n t k) + k < n ∨ bads E n t (turns E n t k) = 0
  | 0 => .inl (bads_0 W)
  | k + 1 => by
    by_cases h : bads E n t (turns E n t k) = 0
    · refine .inr ?_
      by_cases q : bads E n t (turns E n t (k + 1)) = 0
      · exact q
      · -- nothing that was right is wrong behind
        exfalso
        apply q
        unfold bads at h ⊢
        rw [List.length_eq_zero_iff, List.filter_eq_nil_iff] at h ⊢
        intro a ha hb
        have ha0 := h a ha
        have ha1 : bad E t (turns E n t k) a = false := by
          cases z : bad E t (turns E n t k) a with
          | false => rfl
          | true => exact absurd z ha0
        obtain ⟨x, hx, hne⟩ := bad_yes hb
        obtain ⟨x', h2, l2⟩ := pass_mono W E (fun _ z => z) (turns_snd W k).len (bad_no ha1 hx)
        obtain ⟨d, h3, l3⟩ := (turns_snd W (k + 1)).ge h2
        rw [hx] at h3
        cases h3
        exact hne (h2.trans (by rw [show x' = x by omega]))
    · have := bads_less W (turns_snd W k) h
      rcases bads_k W k with z | z
      · exact .inl (show bads E n t (pass E (turns E n t k)) + (k + 1) < n by omega)
      · exact absurd z h
theorem turns_DL (W : Wf E n t) {k : Nat} (hk : n ≤ k + 1) : turns E n t k = DL E n t := by
  have h : bads E n t (turns E n t k) = 0 := by
    rcases bads_k W k with z | z
    · omega
    · exact z
  unfold bads at h
  rw [List.length_eq_zero_iff, List.filter_eq_nil_iff] at h
  refine eq_DL (turns_snd W k) fun a x ha hx => ?_
  refine bad_no ?_ hx
  cases z : bad E t (turns E n t k) a with
  | false => rfl
  | true => exact absurd z (h a (List.mem_range.mpr ha))
theorem DL_still (W : Wf E n t) {e : Edge} (he : e ∈ E) : eff (DL E n t) e = false := by
  cases h : eff (DL E n t) e with
  | false => rfl
  | true =>
    obtain ⟨w1, w2, w3⟩ := W.ok e he
    obtain ⟨y, hy, hlt⟩ := eff_some h
    rw [at_DL w2] at hy
    obtain ⟨x, hx, hle⟩ := dst_closed W (show (e.1, e.2.1, e.2.2) ∈ E from he) hy
    have := hlt x (by rw [at_DL w1]; exact hx)
    omega
theorem still_DL (S : Snd E n t X) (h : ∀ e, e ∈ E → eff X e = false) : X = DL E n t := by
  refine eq_DL S fun a x ha hx => ?_
  obtain ⟨s, rfl, p, hmin⟩ := dst_some hx
  have key : ∀ b r, Pth E t b r → (∃ x, at_ X b = some x ∧ x ≤ (r : Int)) := fun b r p => by
    induction p with
    | nil => exact ⟨0, S.zero, Int.le_refl _⟩
    | @cons a b s w he p ih =>
      obtain ⟨y, hy, ly⟩ := ih
      obtain ⟨x, hx, lx⟩ := eff_no (h _ he) hy
      have lx : x ≤ w + y := lx
      exact ⟨x, hx, by omega⟩
  obtain ⟨x, hx1, lx⟩ := key a s p
  obtain ⟨d, hd, ld⟩ := S.ge hx1
  rw [hx] at hd
  cases hd
  rw [hx1, show x = (s : Int) by omega]
end
end Ds
end
section
open PySem PySem.Spec PyProof.Rows L2 Evl
namespace BV
section
variable {K : PySem.W.Frag} {ρ : List Sl} {te ta tb tc tv td : TE} {tx ty : TA} {d d' x y : D} {ds es : List D} {i j k : Int} {n : Nat} {m : M} {ts tu tw : TS} {Z : Zs}
theorem et_tru (h : ER K ta ρ (.lst ds)) : ET K (fun σ H Q => ta σ H fun x H' => ∃ k, TruV K x H' k ∧ Q k H') ρ (!ds.isEmpty) := fun H0 S G ow σ H g _ q => h H0 S G ow σ H g _ fun v H1 e1 r1 => by
  obtain ⟨a, xs, rfl, hs, hr⟩ := r1.lst_inv
  refine ⟨!xs.isEmpty, .inl ⟨xs, hs, rfl⟩, ?_⟩
  have e : xs.isEmpty = ds.isEmpty := by
    have := hr.1
    cases xs <;> cases ds <;> first | rfl | (exact absurd this (by simp))
  rw [e]
  exact q H1 e1
theorem rising_one : ∀ {us vs : List Int}, us.Perm vs → us.Pairwise (· ≤ ·) → vs.Pairwise (· ≤ ·) → us = vs := fun {us vs} p a b =>
  List.Perm.eq_of_pairwise (le := (· ≤ ·)) (fun x y _ _ h1 h2 => Int.le_antisymm h1 h2) a b p
theorem eo_sortI {ns us : List Int} (ha : ED K ta ρ (.lst (ns.map .int))) (hp : us.Perm ns) (hs : us.Pairwise (· ≤ ·)) : EO K (tCB (rSortedI K) (tCons ta tNil)) ρ (.lst (us.map .int)) := fun H0 S G ow σ H g Q q => ha H0 S G ow σ H g _ fun v H1 e1 r1 => by
  obtain ⟨a, xs, rfl, hq, hr⟩ := r1.lst_inv
  have hx := ints_of hr
  subst hx
  refine ⟨a, ns, rfl, ex_l hid_sub hq, fun ns' p hp' hs' hn => ?_⟩
  have e : ns' = us := rising_one (hp'.trans hp.symm) hs' hs
  subst e
  refine q p _ (fresh_back e1 hn) (e1.trans (Ex.new hn)) (by rw [upd_same]; exact fun z => nomatch z) (eo_of_new hn ((g.ext e1).fresh hn) ⟨by rw [List.length_map, List.length_map], fun i v d h1 h2 => ?_⟩)
  rw [List.getElem?_map] at h1 h2
  obtain ⟨x, hx, rfl⟩ := Option.map_eq_some_iff.mp h1
  rw [hx] at h2
  cases h2
  exact .int x
/-- xs + [..], xs built here -/
theorem eo_catO (h : ρ[n]? = some (.own (.lst ds))) (hb : EO K tb ρ (.lst es)) (hl : ds.length + es.length ≤ 100000) : EO K (tOp rCat (tVar n) tb) ρ (.lst (ds ++ es)) := fun H0 S G ow σ H g Q q => by
  obtain ⟨p, a, b, xs, c, r⟩ := g.at_ n _ h
  refine ⟨.ref p, a, hb H0 S G ow σ H g _ fun p' H2 hp' e2 _ r2 => ?_⟩
  obtain ⟨ys, a', b'⟩ := r2
  refine ⟨p, p', xs, ys, rfl, rfl, e2 _ _ c, a', sz_of (by rw [r.1, b'.1]; exact hl), fun l hl => ?_⟩
  refine q l _ (fresh_back e2 hl) (e2.trans (Ex.new hl)) (by rw [upd_same]; exact fun z => nomatch z) (eo_of_new hl ((g.ext e2).fresh hl) ?_)
  exact All2.app (r.mono (hid_ext e2)) (b'.mono (hid_less fun _ z => .inl z))
def optI : Option Int → D
  | none => .non
  | some i => .int i
abbrev xsD (X : Ds.Xs) : List D := X.map optI
theorem xs_at {X : Ds.Xs} {a : Nat} (h : a < X.length) : (xsD X)[a]? = some (optI (Ds.at_ X a)) := by
  unfold Ds.at_
  rw [List.getElem?_map, List.getD_eq_getElem?_getD, List.getElem?_eq_getElem h]
  rfl
theorem xs_set (X : Ds.Xs) (a : Nat) (i : Int) : (xsD X).set a (.int i) = xsD (X.set a (some i)) := by
  show _ = List.map optI _
  rw [List.map_set]
  rfl
def spOr (s1 s2 : Sp) : Sp := fun vs H Q E => s1 vs H Q E ∨ s2 vs H Q E
theorem ed_callL {α : Type} {pre : α → Prop} {args : α → List (Bool × D)} {res : α → D} {E : XK} {s2 : Sp} (x : α) (hp : pre x) (ha : EA K tx ρ (args x)) : ED K (tCall (spOr (spSh K pre args res) s2) [] E tx) ρ (res x) := fun H0 S G ow σ H g Q q =>
  ha H0 S G ow σ H g _ fun us H1 e r => by
    rw [List.append_nil]
    exact .inl ⟨x, hp, Hid S ow, (g.ext e).there, r, fun v H' e' r' => q v H' (e.trans e') r'⟩
theorem eo_callR {α : Type} {pre : α → Prop} {args : α → List (Bool × D)} {res : α → M} {E : XK} {s1 : Sp} (x : α) (hp : pre x) (ha : EA K tx ρ (args x)) : EO K (tCall (spOr s1 (spOw K pre args res)) [] E tx) ρ (res x) := fun H0 S G ow σ H g Q q =>
  ha H0 S G ow σ H g _ fun us H1 e r => by
    rw [List.append_nil]
    exact .inr ⟨x, hp, Hid S ow, (g.ext e).there, r, fun p H' hp e' nn r' => q p H' (fresh_back e hp) (e.trans e') nn r'⟩
end
section
variable {P : Program} {w : World} {K : PySem.W.Frag} {mg : Str → Option Value} {base : Heap}
theorem Dfn.or {α : Type} {pre1 pre2 : α → Prop} {args : α → List (Bool × D)} {res1 : α → D} {res2 : α → M} {x : Str} {st : Stmt} {N ps : List Str} {k : Nat} (F : Dfn K mg x st) (S : FnScope N ps (defScope st)) (hl : ∀ x, (args x).length = ps.length)
    (hN : ps.length ≤ N.length) (hB : ∀ (kV doc pm : Value) (an : Option Addr) (cdv ct : Value) (us : List Value), us.length = ps.length → bindArgs (PySem.W.fnOf x x (defArgs st) (defBody st) (defScope st) .none kV doc pm an cdv ct) ⟨us, []⟩ = pure (ps.zip us))
    (hb : ∀ (f : Addr) (cdv : Value) (A : Around) (outer : List Env) (s : Shared) (H : Hp) (E : XK), Room k (A.deeper (envOfC x (defScope st) s.heap.objs.size f cdv)) → 
      ∃ t, PSs (cxOf CX0 P w K mg base N x (defScope st) f cdv A outer s H E).nox (defBody st) t ∧ (∀ y, pre1 y → SD K t (slots (args y) ++ List.replicate (N.length - (args y).length) .no) { nx := fun _ => res1 y = .non, rt := RSh K (res1 y) }) ∧
        ∀ y, pre2 y → SD K t (slots (args y) ++ List.replicate (N.length - (args y).length) .no) { nx := fun _ => False, rt := ROwn K (res2 y) }) :
    Cal P w K mg base (k + 1) x (spOr (spSh K pre1 args res1) (spOw K pre2 args res2)) := by
  obtain ⟨f, fd, F, hm⟩ := F.ex
  refine ⟨f, fd, ps, F.ok S (fun vs H Q E h => ?_) (fun cdv A outer s H vs Q E hr h => ?_), hm, F.kp, F.binds hB⟩
  · rcases h with ⟨x, _, T, _, ha, _⟩ | ⟨x, _, T, _, ha, _⟩
    · rw [ha.1]; exact hl x
    · rw [ha.1]; exact hl x
  · obtain ⟨t, h1, h2, h3⟩ := hb f cdv A outer s H E hr
    rcases h with ⟨x, hx, h⟩ | ⟨x, hx, h⟩
    · exact ⟨t, h1, body_sh (T := fun _ => False) h (by rw [hl]; exact hN) rfl (h2 x hx)⟩
    · exact ⟨t, h1, body_ow (T := fun _ => False) h (by rw [hl]; exact hN) rfl (h3 x hx)⟩
end
end BV
end
section
open PySem PySem.Spec PyProof.Rows L2 Evl
namespace BV
section
variable {K : PySem.W.Frag} {ρ : List Sl} {te ta tb tc tv td tk : TE} {tx ty : TA} {d d' x y : D} {ds es : List D} {i j k : Int} {n mx : Nat} {m : M} {ts tu tw : TS} {Z : Zs} {f : Key → Option D}
theorem KeyAt.mono {G G' : Hp} {kvs : List (Key × V)} {q : Key} {o : Option D} (h : KeyAt K G kvs q o) (e : Ex G G') : KeyAt K G' kvs q o := ⟨h.1, fun d hd => by
  obtain ⟨v, hv, rv⟩ := h.2 d hd
  exact ⟨v, hv, rv.mono e⟩⟩
def putD (f : Key → Option D) (q : Key) (d : D) : Key → Option D := fun j => if j = q then some d else f j
theorem KeyAt.put {G : Hp} {kvs : List (Key × V)} {q : Key} {v : V} {d : D} (h : ∀ j, KeyAt K G kvs j (f j)) (r : Rep K G v d) (j : Key) : KeyAt K G (putK kvs q v) j (putD f q d j) := by
  unfold putD KeyAt
  rw [valV_put]
  by_cases e : j = q
  · rw [if_pos e, if_pos e]
    exact ⟨fun z => (nomatch z), fun d' z => ⟨v, rfl, by rw [← Option.some.inj z]; exact r⟩⟩
  · rw [if_neg e, if_neg e]
    exact h j
theorem putK_few {kvs : List (Key × V)} {q : Key} {v : V} : (putK kvs q v).length ≤ kvs.length + 1 := by
  unfold putK
  split
  · rw [List.length_map]
    exact Nat.le_succ _
  · rw [List.length_append]
    exact Nat.le_refl _
/-- d[i] = v -/
theorem sd_dputK (h : ρ[n]? = some (.own (.dk f mx))) (hv : ED K tv ρ d) (hk : ED K tk ρ (.int i)) (hl : mx < 100000) (k : Z.nx (ρ.set n (.own (.dk (putD f (.inl i) d) (mx + 1))))) : SD K (sDPut (tVar n) tk tv) ρ Z := fun H0 S G ow σ H E g hnx _ _ _ => hv H0 S G ow σ H g _ fun v H1 e1 r1 => by
  obtain ⟨p, a, b, kvs, c, e, hr⟩ := (g.ext e1).at_ n _ h
  refine ⟨.ref p, a, hk H0 S G ow σ H1 (g.ext e1) _ fun u H2 e2 r2 => ?_⟩
  rw [r2.int_inv]
  refine ⟨p, _, rfl, DPut.k (k := Sum.inl i) (e2 _ _ c) (sz_lt (by omega)), ?_⟩
  exact hnx _ _ _ _ k (((g.ext e1).ext e2).write b _ _ ⟨_, upd_same, Nat.le_trans putK_few (by omega), KeyAt.put (fun j => (hr j).mono (hid_ext e2)) (r1.mono (hid_ext e2))⟩ (fun _ => a) (.inl (List.getElem?_eq_some_iff.mp h).1))
/-- d[i] -/
theorem ed_dgetKO (h : ρ[n]? = some (.own (.dk f mx))) (hk : ED K tk ρ (.int i)) (hd : f (.inl i) = some d) : ED K (tDGet (tVar n) tk) ρ d := fun H0 S G ow σ H g Q q => by
  obtain ⟨p, a, b, kvs, c, e, hr⟩ := g.at_ n _ h
  refine ⟨.ref p, a, hk H0 S G ow σ H g _ fun u H2 e2 r2 => ?_⟩
  rw [r2.int_inv]
  obtain ⟨v, hv, rv⟩ := (hr (.inl i)).2 d hd
  have z := DGet.k (k := Sum.inl i) (e2 _ _ c)
  rw [hv] at z
  exact ⟨p, v, rfl, z, q v H2 e2 (rv.mono (hid_ext e2))⟩
/-- i in d -/
theorem ed_dinKO (h : ρ[n]? = some (.own (.dk f mx))) (hk : ED K tk ρ (.int i)) : ED K (tDIn tk (tVar n)) ρ (.bl (f (.inl i)).isSome) := fun H0 S G ow σ H g Q q => hk H0 S G ow σ H g _ fun u H2 e2 r2 => by
  obtain ⟨p, a, b, kvs, c, e, hr⟩ := (g.ext e2).at_ n _ h
  rw [r2.int_inv]
  refine ⟨.ref p, a, p, _, rfl, DGet.k (k := Sum.inl i) c, ?_⟩
  cases hf : f (.inl i) with
  | none =>
    rw [(hr (.inl i)).1 hf]
    rw [hf] at q
    exact q (.bl false) H2 e2 (.bl false)
  | some d =>
    obtain ⟨v, hv, rv⟩ := (hr (.inl i)).2 d hf
    rw [hv]
    rw [hf] at q
    exact q (.bl true) H2 e2 (.bl true)
/-- {i: v} -/
theorem eo_disp1 (hk : ED K tk ρ (.int i)) (hv : ED K tv ρ d) : EO K (tDisp [(tk, tv)]) ρ (.dk (putD (fun _ => none) (.inl i) d) 1) := fun H0 S G ow σ H g Q q => fun p hp => by
  obtain ⟨ow', kp, g', hh, hkp, hkl⟩ := g.hide (p := p) (H' := upd H p (.dK [])) hp (Ex.new hp) (by rw [upd_same]; exact fun z => nomatch z)
  refine hk H0 S G ow' σ _ g' _ fun u H2 e2 r2 => hv H0 S G ow' σ H2 (g'.ext e2) _ fun v H3 e3 r3 => ?_
  have e := e2.trans e3
  have hp3 : H3 p = some (.dK []) := e _ _ upd_same
  rw [r2.int_inv]
  refine ⟨hp3, [(Sum.inl i, v)], rfl, (by show 1 ≤ 15; decide), ?_⟩
  have eh : hid (Hid S ow') H3 = hid (fun b => Hid S ow b ∨ b = p) (upd H3 p (.dK (mergeK [] [(Sum.inl i, v)]))) := by
    rw [hid_upd (T := fun b => Hid S ow b ∨ b = p) (.inr rfl)]
    funext b
    by_cases z : Hid S ow' b
    · rw [hid_yes z, hid_yes (T := fun b => Hid S ow b ∨ b = p) ((hh b).1 z)]
    · rw [hid_no z, hid_no (T := fun b => Hid S ow b ∨ b = p) fun w => z ((hh b).2 w)]
  refine q p _ hp (fun b o z => ?_) (by rw [upd_same]; exact fun z => nomatch z) ⟨_, upd_same, Nat.le_refl 1, fun j => ?_⟩
  · rw [upd_ne (ne_of_none z hp)]
    exact e b o (by rw [upd_ne (ne_of_none z hp)]; exact z)
  · rw [eh] at r3
    exact KeyAt.put (kvs := []) (fun _ => ⟨fun _ => rfl, fun d z => by cases z⟩) r3 j
theorem bls_of {T : Hp} {xs : List V} {bs : List Bool} (h : Reps K T xs (bs.map .bl)) : xs = bs.map V.bl := by
  refine List.ext_getElem? fun l => ?_
  rw [List.getElem?_map]
  cases e : bs[l]? with
  | none =>
    have := List.getElem?_eq_none_iff.mp e
    rw [List.getElem?_eq_none (by have := h.1; rw [List.length_map] at this; omega)]
    rfl
  | some b =>
    obtain ⟨z, hz, rz⟩ := h.get (i := l) (y := .bl b) (by rw [List.getElem?_map, e]; rfl)
    rw [hz, rz.bl_inv]
    rfl
theorem ed_all {bs : List Bool} (ha : ER K ta ρ (.lst (bs.map .bl))) : ED K (tCB (rAll K) (tCons ta tNil)) ρ (.bl (bs.all id)) := fun H0 S G ow σ H g Q q => ha H0 S G ow σ H g _ fun v H1 e1 r1 => by
  obtain ⟨a, xs, rfl, hs, hr⟩ := r1.lst_inv
  have hx := bls_of hr
  subst hx
  exact ⟨a, bs, rfl, hs, q _ H1 e1 (.bl _)⟩
end
end BV
end
section
open PySem PySem.Spec PyProof.Rows L2 Evl
namespace BV
mutual
def D.py : D → PyData
  | .non => .none
  | .bl b => .bool b
  | .int i => .int i
  | .str x => .str x
  | .tup ds => .tuple (D.pys ds)
  | .lst ds => .list (D.pys ds)
  | .dct _ _ => .none
  | .obj _ _ _ => .none
  | .exc _ _ _ => .none
  | .dki _ _ => .none
  | .at _ => .none
  | .tph _ => .none
def D.pys : List D → List PyData
  | [] => []
  | d :: ds => d.py :: D.pys ds
end
mutual
def D.ok : D → Bool
  | .non => true
  | .bl _ => true
  | .int _ => true
  | .str x => PyData.strOk x
  | .tup ds => D.oks ds
  | .lst ds => D.oks ds
  | .dct _ _ => false
  | .obj _ _ _ => false
  | .exc _ _ _ => false
  | .dki _ _ => false
  | .at _ => false
  | .tph _ => false
def D.oks : List D → Bool
  | [] => true
  | d :: ds => d.ok && D.oks ds
end
mutual
theorem dp_of {K : PySem.W.Frag} {H : Hp} : ∀ {d : D} {v : V}, d.ok = true → Rep K H v d → Dp K H v d.py
  | .non, v, _, r => by rw [r.non_inv]; exact .non
  | .bl b, v, _, r => by rw [r.bl_inv]; exact .bl b
  | .int i, v, _, r => by rw [r.int_inv]; exact .int i
  | .str x, v, _, r => by rw [r.str_inv]; exact .str x
  | .tup ds, v, h, r => by
    obtain ⟨a, xs, rfl, hs, hr⟩ := r.tup_inv
    unfold D.ok at h
    unfold D.py
    exact .tup hs (dps_of h hr)
  | .lst ds, v, h, r => by
    obtain ⟨a, xs, rfl, hs, hr⟩ := r.lst_inv
    unfold D.ok at h
    unfold D.py
    exact .lst hs (dps_of h hr)
  | .dct _ _, v, h, _ => by unfold D.ok at h; cases h
  | .obj _ _ _, v, h, _ => by unfold D.ok at h; cases h
  | .exc _ _ _, v, h, _ => by unfold D.ok at h; cases h
  | .dki _ _, v, h, _ => by unfold D.ok at h; cases h
  | .at _, v, h, _ => by unfold D.ok at h; cases h
theorem dps_of {K : PySem.W.Frag} {H : Hp} : ∀ {ds : List D} {xs : List V}, D.oks ds = true → Reps K H xs ds → DpAll K H xs (D.pys ds)
  | [], xs, _, r => by rw [All2.un_nil r]; exact .nil
  | d :: ds, xs, h, r => by
    obtain ⟨u, us, rfl, ru, rr⟩ := All2.un_cons r
    unfold D.oks at h
    obtain ⟨h1, h2⟩ := Bool.and_eq_true_iff.mp h
    unfold D.pys
    exact .cons (dp_of h1 ru) (dps_of h2 rr)
end
mutual
theorem lay_of : ∀ {d : D}, d.ok = true → PyData.canLay0 d.py = true
  | .non, _ => rfl
  | .bl b, _ => rfl
  | .int i, _ => rfl
  | .str x, h => by unfold D.ok at h; unfold D.py; exact h
  | .tup ds, h => by unfold D.ok at h; unfold D.py; exact lays_of h
  | .lst ds, h => by unfold D.ok at h; unfold D.py; exact lays_of h
  | .dct _ _, h => by unfold D.ok at h; cases h
  | .obj _ _ _, h => by unfold D.ok at h; cases h
  | .exc _ _ _, h => by unfold D.ok at h; cases h
  | .dki _ _, h => by unfold D.ok at h; cases h
  | .at _, h => by unfold D.ok at h; cases h
theorem lays_of : ∀ {ds : List D}, D.oks ds = true → PyData.canLayAll0 (D.pys ds) = true
  | [], _ => by unfold D.pys; rfl
  | d :: ds, h => by
    unfold D.oks at h
    obtain ⟨h1, h2⟩ := Bool.and_eq_true_iff.mp h
    unfold D.pys
    exact Bool.and_eq_true_iff.mpr ⟨lay_of h1, lays_of h2⟩
end
/-- plain data of bounded depth -/
structure Flt (k : Nat) (d : D) : Prop where
  ok : d.ok = true
  dp : d.py.depth ≤ k
theorem Flt.int {k : Nat} {i : Int} : Flt k (.int i) := ⟨rfl, Nat.zero_le k⟩
theorem Flt.non {k : Nat} : Flt k .non := ⟨rfl, Nat.zero_le k⟩
theorem Flt.bl {k : Nat} {b : Bool} : Flt k (.bl b) := ⟨rfl, Nat.zero_le k⟩
theorem Flt.str {k : Nat} {x : Str} (h : PyData.strOk x = true) : Flt k (.str x) := ⟨h, Nat.zero_le k⟩
theorem Flt.up {k j : Nat} {d : D} (h : Flt k d) (q : k ≤ j) : Flt j d := ⟨h.ok, Nat.le_trans h.dp q⟩
theorem oks_all : ∀ {ds : List D}, (∀ d, d ∈ ds → d.ok = true) → D.oks ds = true
  | [], _ => rfl
  | d :: ds, h => Bool.and_eq_true_iff.mpr ⟨h d List.mem_cons_self, oks_all fun x hx => h x (List.mem_cons_of_mem _ hx)⟩
theorem dps_all {k : Nat} : ∀ {ds : List D}, (∀ d, d ∈ ds → d.py.depth ≤ k) → PyData.depthAll (D.pys ds) ≤ k
  | [], _ => Nat.zero_le k
  | d :: ds, h => Nat.max_le.mpr ⟨h d List.mem_cons_self, dps_all fun x hx => h x (List.mem_cons_of_mem _ hx)⟩
theorem Flt.lst {k : Nat} {ds : List D} (h : ∀ d, d ∈ ds → Flt k d) : Flt (k + 1) (.lst ds) := ⟨oks_all fun d hd => (h d hd).ok, Nat.succ_le_succ (dps_all fun d hd => (h d hd).dp)⟩
theorem Flt.tup {k : Nat} {ds : List D} (h : ∀ d, d ∈ ds → Flt k d) : Flt (k + 1) (.tup ds) := ⟨oks_all fun d hd => (h d hd).ok, Nat.succ_le_succ (dps_all fun d hd => (h d hd).dp)⟩
theorem Flt.shaped {d : D} (h : Flt 60 d) : SeqAt.shaped d.py = true := Bool.and_eq_true_iff.mpr ⟨lay_of h.ok, decide_eq_true (Nat.le_trans h.dp (by decide))⟩
section
variable {K : PySem.W.Frag} {ρ : List Sl} {te ta tb tc tv : TE} {tx ty : TA} {d d' x y : D} {ds es : List D} {i j k : Int} {n : Nat} {m : M} {ts tu tw : TS} {Z : Zs}
theorem ed_eqG (ha : ER K ta ρ d) (hb : ER K tb ρ d') (h : Flt 60 d) (h' : Flt 60 d') : ED K (tOp (rEqD K) ta tb) ρ (.bl (PyData.eqv d.py d'.py)) := fun H0 S G ow σ H g Q q =>
  ha H0 S G ow σ H g _ fun v H1 e1 r1 => hb H0 S G ow σ H1 (g.ext e1) _ fun u H2 e2 r2 =>
    ⟨d.py, d'.py, dp_of h.ok (r1.mono e2), dp_of h'.ok r2, h.shaped, h'.shaped, q _ H2 (e1.trans e2) (.bl _)⟩
theorem ed_neG (ha : ER K ta ρ d) (hb : ER K tb ρ d') (h : Flt 60 d) (h' : Flt 60 d') : ED K (tOp (rNeD K) ta tb) ρ (.bl (!PyData.eqv d.py d'.py)) := fun H0 S G ow σ H g Q q =>
  ha H0 S G ow σ H g _ fun v H1 e1 r1 => hb H0 S G ow σ H1 (g.ext e1) _ fun u H2 e2 r2 =>
    ⟨d.py, d'.py, dp_of h.ok (r1.mono e2), dp_of h'.ok r2, h.shaped, h'.shaped, q _ H2 (e1.trans e2) (.bl _)⟩
theorem ed_eqS {x y : Str} (ha : ED K ta ρ (.str x)) (hb : ED K tb ρ (.str y)) : ED K (tOp rEq ta tb) ρ (.bl (decide (x = y))) := fun H0 S G ow σ H g Q q =>
  ha H0 S G ow σ H g _ fun v H1 e1 r1 => hb H0 S G ow σ H1 (g.ext e1) _ fun u H2 e2 r2 => by
    rw [r1.str_inv, r2.str_inv]
    refine ⟨rfl, ?_⟩
    rw [show decide (V.str x = V.str y) = decide (x = y) from decide_eq_decide.mpr ⟨fun z => by injection z, fun z => by rw [z]⟩]
    exact q _ H2 (e1.trans e2) (.bl _)
theorem ed_neS {x y : Str} (ha : ED K ta ρ (.str x)) (hb : ED K tb ρ (.str y)) : ED K (tOp rNe ta tb) ρ (.bl (!decide (x = y))) := fun H0 S G ow σ H g Q q =>
  ha H0 S G ow σ H g _ fun v H1 e1 r1 => hb H0 S G ow σ H1 (g.ext e1) _ fun u H2 e2 r2 => by
    rw [r1.str_inv, r2.str_inv]
    refine ⟨rfl, ?_⟩
    rw [show decide (V.str x = V.str y) = decide (x = y) from decide_eq_decide.mpr ⟨fun z => by injection z, fun z => by rw [z]⟩]
    exact q _ H2 (e1.trans e2) (.bl _)
def eqF : D → D → Bool
  | .non, .non => true
  | .int i, .int j => decide (i = j)
  | .str x, .str y => decide (x = y)
  | _, _ => false
def flF : D → Bool
  | .non => true
  | .int i => true
  | .str x => true
  | _ => false
theorem flat_in {H : Hp} : ∀ {ds : List D} {xs : List V} {v : V} {d : D}, ds.all flF = true → flF d = true → Reps K H xs ds → Rep K H v d → flatV v = true ∧ xs.all flatV = true ∧ inV v xs = ds.any (fun y => eqF y d)
  | [], xs, v, d, _, hd, r, rv => by
    rw [All2.un_nil r]
    refine ⟨?_, rfl, rfl⟩
    cases d with
    | non => rw [rv.non_inv]; rfl
    | int i => rw [rv.int_inv]; rfl
    | str i => rw [rv.str_inv]; rfl
    | bl => cases hd
    | tup => cases hd
    | lst => cases hd
    | dct => cases hd
    | obj => cases hd
    | exc => cases hd
    | dki => cases hd
    | tph => cases hd
    | «at» => cases hd
  | y :: ds, xs, v, d, h, hd, r, rv => by
    obtain ⟨u, us, rfl, ru, rr⟩ := All2.un_cons r
    obtain ⟨h1, h2⟩ := Bool.and_eq_true_iff.mp (show (flF y && ds.all flF) = true from h)
    obtain ⟨i1, i2, i3⟩ := flat_in h2 hd rr rv
    refine ⟨i1, Bool.and_eq_true_iff.mpr ⟨?_, i2⟩, ?_⟩
    · cases y with
      | non => rw [ru.non_inv]; rfl
      | int i => rw [ru.int_inv]; rfl
      | str i => rw [ru.str_inv]; rfl
      | bl => cases h1
      | tup => cases h1
      | lst => cases h1
      | dct => cases h1
      | obj => cases h1
      | exc => cases h1
      | dki => cases h1
      | tph => cases h1
      | «at» => cases h1
    · show (eqV u v || inV v us) = (eqF y d || ds.any fun y => eqF y d)
      rw [i3]
      congr 1
      cases y with
      | non => cases d with
        | non => rw [ru.non_inv, rv.non_inv]; rfl
        | int i => rw [ru.non_inv, rv.int_inv]; rfl
        | str i => rw [ru.non_inv, rv.str_inv]; rfl
        | bl => cases hd
        | tup => cases hd
        | lst => cases hd
        | dct => cases hd
        | obj => cases hd
        | exc => cases hd
        | dki => cases hd
        | tph => cases hd
        | «at» => cases hd
      | int i => cases d with
        | non => rw [ru.int_inv, rv.non_inv]; rfl
        | int i => rw [ru.int_inv, rv.int_inv]; rfl
        | str i => rw [ru.int_inv, rv.str_inv]; rfl
        | bl => cases hd
        | tup => cases hd
        | lst => cases hd
        | dct => cases hd
        | obj => cases hd
        | exc => cases hd
        | dki => cases hd
        | tph => cases hd
        | «at» => cases hd
      | str i => cases d with
        | non => rw [ru.str_inv, rv.non_inv]; rfl
        | int i => rw [ru.str_inv, rv.int_inv]; rfl
        | str j =>
          rw [ru.str_inv, rv.str_inv]
          show (i == j) = decide (i = j)
          by_cases e : i = j
          · rw [decide_eq_true e, e]; exact beq_self_eq_true j
          · rw [decide_eq_false e]
            cases q : (i == j) with
            | false => rfl
            | true => exact absurd (eq_of_beq q) e
        | bl => cases hd
        | tup => cases hd
        | lst => cases hd
        | dct => cases hd
        | obj => cases hd
        | exc => cases hd
        | dki => cases hd
        | tph => cases hd
        | «at» => cases hd
      | bl => cases h1
      | tup => cases h1
      | lst => cases h1
      | dct => cases h1
      | obj => cases h1
      | exc => cases h1
      | dki => cases h1
      | tph => cases h1
      | «at» => cases h1
theorem ed_inL (ha : ED K ta ρ d) (hb : ER K tb ρ (.lst ds)) (h1 : ds.all flF = true) (h2 : flF d = true) : ED K (tOp (rIn K false) ta tb) ρ (.bl (ds.any fun y => eqF y d)) := fun H0 S G ow σ H g Q q =>
  ha H0 S G ow σ H g _ fun v H1 e1 r1 => hb H0 S G ow σ H1 (g.ext e1) _ fun u H2 e2 r2 => by
    obtain ⟨a, xs, rfl, hs, hr⟩ := r2.lst_inv
    obtain ⟨i1, i2, i3⟩ := flat_in h1 h2 hr ((r1.mono hid_sub).mono e2)
    refine ⟨a, xs, rfl, .inl hs, i1, i2, ?_⟩
    rw [if_neg Bool.false_ne_true, i3]
    exact q _ H2 (e1.trans e2) (.bl _)
theorem ed_inTp (ha : ED K ta ρ d) (hb : ER K tb ρ (.tup ds)) (h1 : ds.all flF = true) (h2 : flF d = true) : ED K (tOp (rIn K false) ta tb) ρ (.bl (ds.any fun y => eqF y d)) := fun H0 S G ow σ H g Q q =>
  ha H0 S G ow σ H g _ fun v H1 e1 r1 => hb H0 S G ow σ H1 (g.ext e1) _ fun u H2 e2 r2 => by
    obtain ⟨a, xs, rfl, hs, hr⟩ := r2.tup_inv
    obtain ⟨i1, i2, i3⟩ := flat_in h1 h2 hr ((r1.mono hid_sub).mono e2)
    refine ⟨a, xs, rfl, .inr hs, i1, i2, ?_⟩
    rw [if_neg Bool.false_ne_true, i3]
    exact q _ H2 (e1.trans e2) (.bl _)
theorem ed_notInTp (ha : ED K ta ρ d) (hb : ER K tb ρ (.tup ds)) (h1 : ds.all flF = true) (h2 : flF d = true) : ED K (tOp (rIn K true) ta tb) ρ (.bl (!ds.any fun y => eqF y d)) := fun H0 S G ow σ H g Q q =>
  ha H0 S G ow σ H g _ fun v H1 e1 r1 => hb H0 S G ow σ H1 (g.ext e1) _ fun u H2 e2 r2 => by
    obtain ⟨a, xs, rfl, hs, hr⟩ := r2.tup_inv
    obtain ⟨i1, i2, i3⟩ := flat_in h1 h2 hr ((r1.mono hid_sub).mono e2)
    refine ⟨a, xs, rfl, .inr hs, i1, i2, ?_⟩
    rw [if_pos rfl, i3]
    exact q _ H2 (e1.trans e2) (.bl _)
end
end BV
end
section
open PySem PySem.Spec PyProof.Rows L2 Evl
namespace BV
section
variable {K : PySem.W.Frag} {ρ : List Sl} {te ta tb tc tv : TE} {tx ty : TA} {d d' x y : D} {ds es : List D} {i j k : Int} {n : Nat} {m : M} {ts tu tw : TS} {Z : Zs}
/-- a tuple of words that the module keeps -/
def KTup (K : PySem.W.Frag) (a : Addr) (ws : List Str) : Prop := ∃ (o : Obj) (its : Array Value) (n : Nat), K.lookup a = some o ∧ o.cls = .type "tuple" ∧ o.data = .seq its n ∧ its.size ≤ sizeLine ∧ Vals (ws.map V.str) its.toList
theorem ed_ktup {a : Addr} {ws : List Str} (h : KTup K a ws) : ED K (tC (.ref a)) ρ (.tup (ws.map .str)) := fun _ _ _ _ _ H _ _ q => q _ H (Ex.refl H) (.tup (.inr h) (by rw [List.length_map, List.length_map]) fun i v d h1 h2 => by
  rw [List.getElem?_map] at h1 h2
  cases e : ws[i]? with
  | none => rw [e] at h1; cases h1
  | some x =>
    rw [e] at h1 h2
    cases h1
    cases h2
    exact .str x)
theorem vals_strs2 {x y : Str} {t u : Tok} : Vals [V.str x, V.str y] [Value.str x t, Value.str y u] := .cons (show RelV (V.str x) (Value.str x t) from ⟨t, rfl⟩) (.cons (show RelV (V.str y) (Value.str y u) from ⟨u, rfl⟩) .nil)
theorem pys_ints : ∀ l : List Int, D.pys (l.map .int) = l.map .int
  | [] => rfl
  | i :: l => by
    show PyData.int i :: D.pys (l.map .int) = PyData.int i :: l.map .int
    rw [pys_ints l]
end
end BV
end
section
open PySem PySem.Spec PyProof.Rows L2 Evl
namespace BV
section
variable {prog : Program} {w : World} {A : Around} {E : Value → Shared → Prop} {s : Shared}
theorem collect_tuple {l : Addr} {vs : List Value} {Q : List Value → Shared → Prop} (hl : IsTup s.heap l vs.toArray)
    (h : Q vs { s with heap := (s.heap.push (seqObj "list" #[] 0)).update s.heap.objs.size (Obj.mapSeq (· ++ vs.toArray)) }) (hsz : vs.length ≤ sizeLine) :
    wpAny (model prog w) A (collect (.ref l)) Q E s := by
  obtain ⟨o, ho, hc, n, hd⟩ := id hl
  unfold collect
  refine wpAny_bind (wpAny_runValue (codeAny_builtin entry_proto_collect' ?_))
  show wpAny _ _ (do again (.builtin "list.__iadd__" ⟨[← newList [], .ref l], []⟩)) _ _ s
  refine wpAny_bind (wpAny_newList (wpAny_pure ⟨Code.quiet_builtin _ (by decide +kernel), codeAny_builtin entry_list_iadd' ?_⟩))
  show wpAny _ _ (Builtin.List.listExtendWith (.ref s.heap.objs.size) (.ref l) (.ref s.heap.objs.size)) _ _ { s with heap := s.heap.push (seqObj "list" #[] 0) }
  unfold Builtin.List.listExtendWith
  have ho' : (s.heap.push (seqObj "list" #[] 0)).get? l = some o := Heap.get?_push_of_some _ ho
  refine wpAny_bind (wpAny_typeOf (T := "tuple") ⟨o, ho', hc⟩ ?_)
  have ht : (Value.type "tuple" == Value.type "tuple") = true := by rfl
  rw [if_pos (by rw [ht]; simp)]
  refine wpAny_bind (listItems_at ho' hd ?_)
  refine wpAny_bind (listItems_at (xs := #[]) (n := 0) (Heap.get?_push_size _ rfl) rfl ?_)
  rw [if_neg (by simp)]
  refine wpAny_bind (listUpdate_at (xs := #[]) (n := 0) (Heap.get?_push_size _ rfl) rfl ?_ (Nat.zero_le _) (by show (#[] ++ vs.toArray).size ≤ sizeLine + 1; simp only [Array.size_append, List.size_toArray, List.length_nil]; omega))
  refine wpAny_pure ?_
  show wpAny (model prog w) A (do
      let o ← load s.heap.objs.size
      match o.data with
      | .seq xs _ => pure xs.toList
      | _ => unsupported "internal:collect") Q E { s with heap := (s.heap.push (seqObj "list" #[] 0)).update s.heap.objs.size (Obj.mapSeq (· ++ vs.toArray)) }
  refine wpAny_bind (wpAny_load (get?_update_seq (Heap.get?_push_size _ rfl) _) ?_)
  show wpAny _ _ (pure ((#[] : Array Value) ++ vs.toArray).toList) Q E _
  rw [show ((#[] : Array Value) ++ vs.toArray).toList = vs by simp]
  exact wpAny_pure h
end
section
variable {prog : Program} {w : World} {A : Around} {E : Value → Shared → Prop} {s : Shared}
theorem sorted_ordT {l : Addr} {vs : List Value} {ltv : Value → Value → Bool} {Q : Value → Shared → Prop} (O : SrtO.Swo ltv) (hl : IsTup s.heap l vs.toArray) (hz : vs.length ≤ sizeLine)
    (hS : 2 ≤ vs.length → ∀ (h₁ : Heap) (a : Addr), h₁.get? a = some (seqObj "list" vs.toArray 0) → (∀ b o, s.heap.get? b = some o → b ≠ a ∧ h₁.get? b = some o) → SrtO.SortableO prog w A.in1.in1 { s with heap := h₁ } a vs ltv)
    (h : ∀ out : List Value, SrtO.Srtd ltv out → SrtO.Stb ltv out vs → Q (.ref (s.heap.objs.size + 1)) { s with heap := sortedAll s.heap vs out.toArray }) :
    wpAny (model prog w) A (call (.builtin "sorted") [.ref l]) Q E s := by
  refine Calls.call_function_entry kind_sorted plain_sorted entry_sorted (args_sorted1 _) ?_
  unfold Builtin.«sorted»
  refine wpAny_bind (m := checkCount "sorted" 1 1 _) (wpAny_pure ?_)
  refine wpAny_bind (collect_tuple hl ?_ hz)
  refine wpAny_bind (wpAny_newList ?_ hz)
  have hsz : ((s.heap.push (seqObj "list" #[] 0)).update s.heap.objs.size (Obj.mapSeq (· ++ vs.toArray))).objs.size = s.heap.objs.size + 1 := by
    rw [Heap.size_update, size_push']
  have hoL : (((s.heap.push (seqObj "list" #[] 0)).update s.heap.objs.size (Obj.mapSeq (· ++ vs.toArray))).push (seqObj "list" vs.toArray 0)).get? (s.heap.objs.size + 1) = some (seqObj "list" vs.toArray 0) := by
    rw [← hsz]; exact Heap.get?_push_size _ rfl
  have keep : ∀ b o, s.heap.get? b = some o → b ≠ s.heap.objs.size + 1 ∧ (((s.heap.push (seqObj "list" #[] 0)).update s.heap.objs.size (Obj.mapSeq (· ++ vs.toArray))).push (seqObj "list" vs.toArray 0)).get? b = some o := fun b o q => by
    have hlt : b < s.heap.objs.size := Heap.lt_size q
    refine ⟨Nat.ne_of_lt (Nat.lt_succ_of_lt hlt), Heap.get?_push_of_some _ ?_⟩
    rw [Heap.get?_update_ne _ _ _ _ (Nat.ne_of_lt hlt)]
    exact Heap.get?_push_of_some _ q
  show wpAny _ _ _ _ _ { s with heap := ((s.heap.push (seqObj "list" #[] 0)).update s.heap.objs.size (Obj.mapSeq (· ++ vs.toArray))).push (seqObj "list" vs.toArray 0) }
  rw [hsz]
  refine wpAny_bind (wpAny_holding (wpAny_call_entry slot_list_sort ⟨_, hoL, rfl⟩ entry_list_sort (SrtO.list_sort_ord O hoL hz (fun h2 => hS h2 _ _ hoL keep) fun out hs hb => ⟨_, rfl, ?_⟩) (args_list_sort _)))
  exact wpAny_pure ⟨_, rfl, h out hs hb⟩
end
section
variable {X : Cx}
def rSortedIT (K : PySem.W.Frag) : List V → Hp → VK → Prop := fun vs H Q => ∃ (a : Addr) (ns : List Int), vs = [V.ref a] ∧ SqT K H a (ns.map V.int) ∧
  ∀ (ns' : List Int) (p : Addr), ns'.Perm ns → ns'.Pairwise (· ≤ ·) → H p = none → Q (.ref p) (upd H p (.lst (ns'.map V.int)))
theorem cr_sortedIT : CallR X (.builtin "sorted") (rSortedIT X.K) := by
  intro pins s σ H vs us Q I r h
  obtain ⟨a, ns, rfl, hs, q⟩ := h
  obtain ⟨its, rv, hl, hz⟩ := I.tuple hs
  rw [Vals.ref1 r]
  have hi := rv.ints
  refine sorted_ordT SrtO.swo_int hl (by rw [← rv.length]; exact hz) (fun h2 h₁ a' _ _ => SrtO.ints_sortable hi h2) fun out h1 h2 => ?_
  obtain ⟨k1, k2, k3⟩ := SrtO.ints_out hi h1 h2
  obtain ⟨ep, he'⟩ := PyProof.Rows.sortedAll_at s.heap its out.toArray
  have hlen : ((out.map SrtO.iv).map V.int).length ≤ sizeLine := by
    rw [List.length_map, k2.length_eq]
    rw [List.length_map] at hz
    exact hz
  exact ⟨.ref _, upd H (s.heap.objs.size + 1) (.lst ((out.map SrtO.iv).map V.int)), I.laid (t' := s.toks) (fun _ _ => PyProof.Rows.sortedAll_old) (Nat.le_succ _) ⟨hlen, out, ep, vals_of_ints k1, he'⟩, rfl, q _ _ k2 k3 (I.hok.fresh (Nat.le_succ _))⟩
end
section
variable {K : PySem.W.Frag} {ρ : List Sl} {te ta tb tc tv : TE} {tx ty : TA} {d d' x y : D} {ds es : List D} {i j k : Int} {n : Nat} {m : M} {ts tu tw : TS} {Z : Zs}
theorem eo_sortIT {ns us : List Int} (ha : ED K ta ρ (.tup (ns.map .int))) (hp : us.Perm ns) (hs : us.Pairwise (· ≤ ·)) : EO K (tCB (rSortedIT K) (tCons ta tNil)) ρ (.lst (us.map .int)) := fun H0 S G ow σ H g Q q => ha H0 S G ow σ H g _ fun v H1 e1 r1 => by
  obtain ⟨a, xs, rfl, hq, hr⟩ := r1.tup_inv
  have hx := ints_of hr
  subst hx
  refine ⟨a, ns, rfl, ex_t hid_sub hq, fun ns' p hp' hs' hn => ?_⟩
  have e : ns' = us := rising_one (hp'.trans hp.symm) hs' hs
  subst e
  refine q p _ (fresh_back e1 hn) (e1.trans (Ex.new hn)) (by rw [upd_same]; exact fun z => nomatch z) (eo_of_new hn ((g.ext e1).fresh hn) ⟨by rw [List.length_map, List.length_map], fun i v d h1 h2 => ?_⟩)
  rw [List.getElem?_map] at h1 h2
  obtain ⟨x, hx, rfl⟩ := Option.map_eq_some_iff.mp h1
  rw [hx] at h2
  cases h2
  exact .int x
end
end BV
end
section
open PySem PySem.Spec PyProof.Rows L2 Evl
namespace BV
section
variable {X : Cx}
theorem depth_ints : ∀ ns : List Int, PyData.depthAll (ns.map .int) = 0
  | [] => rfl
  | n :: ns => by
    show max (PyData.depth (.int n)) (PyData.depthAll (ns.map .int)) = 0
    rw [depth_ints ns]
    rfl
end
end BV
end
section
open PySem PySem.Spec PyProof.Rows L2 Evl
namespace BV
end BV
end
section
open PySem PySem.Spec PyProof.Rows L2 Evl
namespace BV
end BV
end
section
namespace PySem
open Sem
end PySem
end
section
set_option maxHeartbeats 2000000
namespace PySem
namespace SX
open PySem.W PySem.Calls PyProof.Rows PySem.HandSPX
def s1 (f m : Str) (j : Nat) (q : Nat → Pos) : Stmt := .Expr (.Call (.Attribute (.Call (.Name "super" (q 0)) [] [] (q 1)) "__init__" (q 2)) [.JoinedStr [.Constant (.str m) j (q 3), .FormattedValue (.Name f (q 4)) (-1) none (q 5)] (q 6)] [] (q 7)) (q 8)
def s2 (f : Str) (q : Nat → Pos) : Stmt := .Assign [.Attribute (.Name "self" (q 9)) f (q 10)] (.Name f (q 11)) (q 12)
end SX
end PySem
namespace L2
open PySem PySem.Spec PyProof.Rows PySem.SX
end L2
end
section
set_option maxHeartbeats 1000000
namespace BV
open PySem PySem.Spec PyProof.Rows L2
end BV
end
section
open PySem PySem.Spec PyProof.Rows L2 Evl
namespace BV
theorem PS.nox {X : Cx} {st : Stmt} {t : TS} (h : PS X.nox st t) : PS X st t := ⟨fun pins s σ H D I hw =>
  wpAny_mono (h.run pins s σ H D (I.wish _) hw) (fun _ _ q => q.unwish) fun _ _ z => False.elim z⟩
structure XD where (C : Addr) (ns : List Str) (ds : List D)
def XRep (K : PySem.W.Frag) (G : Hp) (cls : Value) (dd : Option Addr) (x : XD) : Prop := cls = .ref x.C ∧ ∃ fs, XdAt G dd fs ∧ fs.map (·.1) = x.ns ∧ Reps K G (fs.map (·.2)) x.ds
theorem XdAt.mono {G G' : Hp} {dd : Option Addr} {fs : List (Str × V)} (h : XdAt G dd fs) (e : Ex G G') : XdAt G' dd fs := h.elim .inl fun ⟨d, a, b⟩ => .inr ⟨d, a, e _ _ b⟩
theorem XRep.mono {K : PySem.W.Frag} {G G' : Hp} {cls : Value} {dd : Option Addr} {x : XD} (h : XRep K G cls dd x) (e : Ex G G') : XRep K G' cls dd x := by
  obtain ⟨h1, fs, h2, h3, h4⟩ := h
  exact ⟨h1, fs, h2.mono e, h3, h4.mono e⟩
theorem XRep.rep {K : PySem.W.Frag} {G : Hp} {cls : Value} {dd : Option Addr} {x : XD} {a : Addr} (h : XRep K G cls dd x) (ha : G a = some (ExH cls dd a)) : Rep K G (.ref a) (.exc x.C x.ns x.ds) := by
  obtain ⟨rfl, fs, h2, h3, h4⟩ := h
  exact .exc ha h2 h3 h4.1 h4.2
section
variable {K : PySem.W.Frag} {ρ : List Sl} {te ta tb tc : TE} {tt : TT} {tx ty : TA} {d : D} {ds : List D} {n : Nat} {m : M} {ts tu tw : TS} {Z : Zs} {g : TG} {R : Hp → (Addr → Prop) → Prop} {x : XD} {E : XK} {sp : Sp} {dvs : List V}
/-- behind the first statement what Mid tells of the slots -/
theorem sd_mid (Mid : List Sl → Prop) (h1 : SD K ts ρ { Z with nx := Mid }) (h2 : ∀ ρ', Mid ρ' → SD K tu ρ' Z) : SD K (tSeq ts tu) ρ Z := fun H0 S G ow σ H E g hn hb hc hr =>
  h1 H0 S G ow σ H { E with nx := tu E } g (fun ρ' ow' σ' H' q g' => h2 ρ' q H0 S G ow' σ' H' E g' hn hb hc hr) hb hc hr
end
/-- the def at the global name x, which may raise, keeps sp -/
structure CalX (P : Program) (w : World) (K : PySem.W.Frag) (mg : Str → Option Value) (base : Heap) (k : Nat) (x : Str) (sp : Sp) : Prop where
  ex : ∃ (f : Addr) (fd : FuncData) (ps : List Str), FnOk P w K mg base (L2.CX P w) k f fd ps sp ∧ mg x = some (.ref f) ∧ PySem.W.keepIn K (.ref f) = true ∧ Binds K fd ps []
end BV
end
section
open PySem PySem.Spec PyProof.Rows L2 Evl
namespace BV
open PySem.W PySem.SX
end BV
end
section
open PySem PySem.Spec PyProof.Rows L2 Evl
namespace BV
end BV
namespace BV
end BV
namespace BV
section
variable {K : PySem.W.Frag} {ρ : List Sl} {ta tb : TE} {x y : Str} {ys : List Str}
/-- texts one behind the other -/
theorem ed_catS (ha : ED K ta ρ (.str x)) (hb : ED K tb ρ (.str y)) (hl : x.length + y.length ≤ 100000) : ED K (tOp (fun x y H Q => ∃ i j, x = .str i ∧ y = .str j ∧ i.length + j.length ≤ sizeLine ∧ Q (.str (i ++ j)) H) ta tb) ρ (.str (x ++ y)) := fun H0 S G ow σ H g Q q =>
  ha H0 S G ow σ H g _ fun v H1 e1 r1 => hb H0 S G ow σ H1 (g.ext e1) _ fun u H2 e2 r2 => ⟨x, y, r1.str_inv, r2.str_inv, Nat.le_trans hl (by rw [sizeLine_eq]; decide), q _ H2 (e1.trans e2) (.str _)⟩
theorem strs_of {G : Hp} : ∀ {xs : List V} {ys : List Str}, Reps K G xs (ys.map .str) → xs = ys.map V.str
  | xs, [], r => r.un_nil
  | xs, y :: ys, r => by
    obtain ⟨u, us, rfl, ru, rr⟩ := All2.un_cons r
    rw [ru.str_inv, strs_of rr]
    rfl
end
end BV
end
section
open PySem PySem.Spec PyProof.Rows L2 Evl
namespace BV
end BV
end
section
open PySem PySem.Spec PyProof.Rows L2 Evl
namespace BV
section
variable {K : PySem.W.Frag} {ρ : List Sl} {te ta tb tc tv : TE} {tx ty : TA} {d d' x y : D} {ds es : List D} {C : Addr} {ns : List Str}
theorem any_py : ∀ ds : List D, ((D.pys ds).any fun z => PyData.eqv z d.py) = ds.any fun y => PyData.eqv y.py d.py
  | [] => rfl
  | y :: ds => by
    unfold D.pys
    rw [List.any_cons, List.any_cons, any_py ds]
theorem ed_inD (ha : ER K ta ρ d) (hb : ER K tb ρ (.lst ds)) (h : Flt 60 d) (h' : Flt 60 (.lst ds)) : ED K (tOp (rInD K) ta tb) ρ (.bl (ds.any fun y => PyData.eqv y.py d.py)) := fun H0 S G ow σ H g Q q =>
  ha H0 S G ow σ H g _ fun v H1 e1 r1 => hb H0 S G ow σ H1 (g.ext e1) _ fun u H2 e2 r2 => by
    refine ⟨d.py, D.pys ds, dp_of h.ok (r1.mono e2), dp_of h'.ok r2, h.shaped, h'.shaped, ?_⟩
    rw [any_py]
    exact q _ H2 (e1.trans e2) (.bl _)
end
end BV
end
section
open PySem PySem.Spec PyProof.Rows L2 Evl
namespace BV
theorem nodup_at {α : Type} {l : List α} (h : l.Nodup) : ∀ {i j : Nat} {x : α}, l[i]? = some x → l[j]? = some x → i = j := by
  induction l with
  | nil => intro i j x a; simp at a
  | cons a l ih =>
    have hc := List.nodup_cons.mp h
    intro i j x hi hj
    cases i with
    | zero =>
      cases j with
      | zero => rfl
      | succ j =>
        simp at hi hj
        subst hi
        exact absurd (List.mem_of_getElem? hj) hc.1
    | succ i =>
      cases j with
      | zero =>
        simp at hi hj
        subst hj
        exact absurd (List.mem_of_getElem? hi) hc.1
      | succ j =>
        simp at hi hj
        rw [ih hc.2 hi hj]
section
variable {K : PySem.W.Frag} {H0 H H' G G' : Hp} {S : Addr → Prop} {ow : Nat → Option Addr} {σ : L2.St} {ρ : List Sl} {p q : Addr} {m m0 : M} {v : V} {d : D} {i n z l : Nat} {qs es : List (Addr × M)}
/-- what a phantom owns lies in no other -/
theorem Good.phz (g : Good K H0 S G ow σ H ρ) (h1 : ρ[i]? = some (.ph qs)) (h2 : ρ[z]? = some (.ph es)) : i = z := by
  have a := (g.at_ i _ h1).1
  have b := (g.at_ z _ h2).1
  omega
/-- what is owned namelessly is written -/
theorem Good.writeP (g : Good K H0 S G ow σ H ρ) (hz : ρ[z]? = some (.ph qs)) (hq : qs[l]? = some (q, m0)) (o : HO) (m : M) (h : MRep K (hid (Hid S ow) H) (upd H q o) q m) (nt : Nb (some o) := by exact fun z => nomatch z) : Good K H0 S G ow σ (upd H q o) (ρ.set z (.ph (qs.set l (q, m)))) := by
  obtain ⟨z1, z2, z3⟩ := g.at_ z _ hz
  have lz := (List.getElem?_eq_some_iff.mp hz).1
  obtain ⟨⟨t, hi⟩, _⟩ := z3 _ (List.mem_of_getElem? hq)
  have gl := g.len
  have eh : hid (Hid S ow) (upd H q o) = hid (Hid S ow) H := hid_upd (.inr ⟨_, hi⟩)
  have ll := (List.getElem?_eq_some_iff.mp hq).1
  have efst : (qs.set l (q, m)).map (·.1) = qs.map (·.1) := by
    rw [List.map_set]
    refine List.ext_getElem? fun j => ?_
    by_cases hj : l = j
    · subst hj
      rw [List.getElem?_set_self (by rw [List.length_map]; exact ll), List.getElem?_map, hq]
      rfl
    · rw [List.getElem?_set_ne hj]
  refine { len := by rw [List.length_set]; exact gl, ex := g.ex.mut (g.new _ q hi), sd := g.sd, new := g.new, on := fun j u a b => ?_, inj := g.inj, kb := by rw [eh]; exact g.kb, fin := g.fin, at_ := fun j s' e => ?_ }
  · by_cases e : u = q
    · rw [e, upd_same] at b; exact nt b
    · rw [upd_ne e] at b; exact g.on j u a b
  · by_cases hj : z = j
    · subst hj
      rw [List.getElem?_set_self lz] at e
      cases e
      refine ⟨z1, by rw [efst]; exact z2, fun e' he => ?_⟩
      obtain ⟨j, hj⟩ := List.mem_iff_getElem?.mp he
      by_cases hl : l = j
      · subst hl
        rw [List.getElem?_set_self ll] at hj
        cases hj
        exact ⟨⟨t, hi⟩, by rw [eh]; exact h⟩
      · rw [List.getElem?_set_ne hl] at hj
        obtain ⟨⟨t', ht'⟩, c⟩ := z3 e' (List.mem_of_getElem? hj)
        have ne : e'.1 ≠ q := fun w => hl (nodup_at z2 (by rw [List.getElem?_map, hq]; rfl) (by rw [List.getElem?_map, hj]; show some e'.1 = some q; rw [w]))
        refine ⟨⟨t', ht'⟩, ?_⟩
        rw [eh]
        exact c.mono (Ex.refl _) fun o' w => by rw [upd_ne ne]; exact w
    · rw [List.getElem?_set_ne hj] at e
      have w := g.at_ j s' e
      cases s' with
      | no => trivial
      | pr _ _ => trivial
      | sh d => obtain ⟨v, a, b⟩ := w; exact ⟨v, a, by rw [eh]; exact b⟩
      | rd d => exact w
      | own m' =>
        obtain ⟨p', a, b, c⟩ := w
        have lj := (List.getElem?_eq_some_iff.mp e).1
        have hne : p' ≠ q := fun w => by
          have := g.inj j (σ.length + 2 * t) q (w ▸ b) hi
          omega
        refine ⟨p', a, b, ?_⟩
        rw [eh]
        exact c.mono (Ex.refl _) fun o' z => by rw [upd_ne hne]; exact z
      | ph es => exact absurd (g.phz e hz).symm hj
/-- new things, owned namelessly from now on -/
theorem Good.adopt (g : Good K H0 S G ow σ H ρ) (hz : ρ[z]? = some (.ph es)) (e : Ex H H') {ps : List Addr} {ms : List M} (hd : ps.Nodup) (hn : ∀ q, q ∈ ps → H q = none ∧ Nb (H' q)) (hl : ps.length = ms.length)
    (hm : All2 (fun q m => MRep K (hid (fun b => Hid S ow b ∨ b ∈ ps) H') H' q m) ps ms) :
    ∃ ow', Good K H0 S G ow' σ H' (ρ.set z (.ph (ps.zip ms ++ es))) ∧ (∀ b, Hid S ow' b ↔ (Hid S ow b ∨ b ∈ ps)) ∧ (∀ q, q ∈ ps → q ∉ es.map (·.1)) := by
  obtain ⟨z1, z2, z3⟩ := g.at_ z _ hz
  obtain ⟨N, hN⟩ := g.fin
  have gl := g.len
  have g' := g.ext e
  have lz := (List.getElem?_eq_some_iff.mp hz).1
  let ow' : Nat → Option Addr := fun j => if σ.length + 2 * N ≤ j ∧ (j - σ.length) % 2 = 0 then ps[(j - σ.length) / 2 - N]? else ow j
  have e1 : ∀ k u, ps[k]? = some u → ow' (σ.length + 2 * (N + k)) = some u := fun k u h => by
    show (if _ then _ else _) = _
    rw [if_pos ⟨by omega, by omega⟩, show (σ.length + 2 * (N + k) - σ.length) / 2 - N = k by omega]
    exact h
  have e2 : ∀ j u, ow j = some u → ow' j = some u := fun j u h => by
    have : j < N := Nat.lt_of_not_le fun w => by rw [hN j w] at h; cases h
    show (if _ then _ else _) = _
    rw [if_neg (by omega)]
    exact h
  have back : ∀ j u, ow' j = some u → (∃ k, j = σ.length + 2 * (N + k) ∧ ps[k]? = some u) ∨ ow j = some u := fun j u h => by
    have h : (if σ.length + 2 * N ≤ j ∧ (j - σ.length) % 2 = 0 then ps[(j - σ.length) / 2 - N]? else ow j) = some u := h
    split at h
    · exact .inl ⟨(j - σ.length) / 2 - N, by omega, h⟩
    · exact .inr h
  have hh : ∀ b, Hid S ow' b ↔ (Hid S ow b ∨ b ∈ ps) := fun b => by
    constructor
    · rintro (w | ⟨j, w⟩)
      · exact .inl (.inl w)
      · rcases back j b w with ⟨k, _, w⟩ | w
        · exact .inr (List.mem_of_getElem? w)
        · exact .inl (.inr ⟨j, w⟩)
    · rintro ((w | ⟨j, w⟩) | w)
      · exact .inl w
      · exact .inr ⟨j, e2 j b w⟩
      · obtain ⟨k, hk⟩ := List.mem_iff_getElem?.mp w
        exact .inr ⟨_, e1 k b hk⟩
  have hhf : Hid S ow' = fun b => Hid S ow b ∨ b ∈ ps := funext fun b => propext (hh b)
  have np : ∀ j u, ow j = some u → u ∉ ps := fun j u h w => (g.on j u h).ne (hn u w).1
  have ge : Ex (hid (Hid S ow) H) (hid (Hid S ow') H') := fun b o w => by
    obtain ⟨w1, w2⟩ := hid_some w
    rw [hid_no fun w => ((hh b).1 w).elim w1 fun w => by rw [(hn b w).1] at w2; cases w2]
    exact e b o w2
  have h0 : ∀ q, q ∈ ps → H0 q = none := fun q hq => by
    cases w : H0 q with
    | none => rfl
    | some o => have := (hn q hq).1; rw [g.ex q o w] at this; cases this
  refine ⟨ow', { len := by rw [List.length_set]; exact gl, ex := g'.ex, sd := g.sd, new := fun j u h => ?_, on := fun j u h => ?_, inj := fun i j u h1 h2 => ?_, kb := g.kb.trans ge, fin := ⟨σ.length + 2 * (N + ps.length), fun j hj => ?_⟩, at_ := fun j sl h => ?_ }, hh, fun q hq w => ?_⟩
  · rcases back j u h with ⟨k, _, h⟩ | h
    · exact h0 u (List.mem_of_getElem? h)
    · exact g.new j u h
  · rcases back j u h with ⟨k, _, h⟩ | h
    · exact (hn u (List.mem_of_getElem? h)).2
    · exact g'.on j u h
  · rcases back i u h1 with ⟨k, a1, a2⟩ | a2 <;> rcases back j u h2 with ⟨k', b1, b2⟩ | b2
    · rw [a1, b1, nodup_at hd a2 b2]
    · exact absurd (List.mem_of_getElem? a2) (np j u b2)
    · exact absurd (List.mem_of_getElem? b2) (np i u a2)
    · exact g.inj i j u a2 b2
  · cases w : ow' j with
    | none => rfl
    | some u =>
      rcases back j u w with ⟨k, a1, a2⟩ | a2
      · have := (List.getElem?_eq_some_iff.mp a2).1
        omega
      · rw [hN j (by omega)] at a2; cases a2
  · by_cases jz : z = j
    · subst jz
      rw [List.getElem?_set_self lz] at h
      cases h
      refine ⟨z1, ?_, fun x hx => ?_⟩
      · rw [List.map_append, List.map_fst_zip (by omega)]
        refine List.nodup_append.mpr ⟨hd, z2, fun a ha b hb w => ?_⟩
        subst w
        obtain ⟨x, hx, rfl⟩ := List.mem_map.mp hb
        obtain ⟨⟨t, ht⟩, _⟩ := z3 x hx
        exact np _ _ ht ha
      · rcases List.mem_append.mp hx with hx | hx
        · obtain ⟨k, hk⟩ := List.mem_iff_getElem?.mp hx
          obtain ⟨x1, x2⟩ := x
          obtain ⟨k1, k2⟩ := List.getElem?_zip_eq_some.mp hk
          refine ⟨⟨N + k, e1 k _ k1⟩, ?_⟩
          rw [hhf]
          exact hm.2 k _ _ k1 k2
        · obtain ⟨⟨t, ht⟩, c⟩ := z3 x hx
          exact ⟨⟨t, e2 _ _ ht⟩, c.mono ge fun o w => e _ _ w⟩
    · rw [List.getElem?_set_ne jz] at h
      have w := g.at_ j sl h
      cases sl with
      | no => trivial
      | pr _ _ => trivial
      | sh d => obtain ⟨v, a, b⟩ := w; exact ⟨v, a, b.mono ge⟩
      | rd d => exact w
      | own m' =>
        obtain ⟨p', a, b, c⟩ := w
        exact ⟨p', a, e2 _ _ b, c.mono ge fun o w => e _ _ w⟩
      | ph qs => exact absurd (g.phz h hz).symm jz
  · obtain ⟨x, hx, rfl⟩ := List.mem_map.mp w
    obtain ⟨⟨t, ht⟩, _⟩ := z3 x hx
    exact np _ _ ht hq
end
/-- a datum with what stands at its addresses -/
inductive Fill (qs : List (Addr × M)) : D → D → Prop
  | refl (d : D) : Fill qs d d
  | at {q : Addr} {ds es : List D} (h : (q, M.lst ds) ∈ qs) (hl : ds.length = es.length) (hr : ∀ (i : Nat) (d e : D), ds[i]? = some d → es[i]? = some e → Fill qs d e) : Fill qs (.at q) (.lst es)
  | tup {ds es : List D} (hl : ds.length = es.length) (hr : ∀ (i : Nat) (d e : D), ds[i]? = some d → es[i]? = some e → Fill qs d e) : Fill qs (.tup ds) (.tup es)
  | lst {ds es : List D} (hl : ds.length = es.length) (hr : ∀ (i : Nat) (d e : D), ds[i]? = some d → es[i]? = some e → Fill qs d e) : Fill qs (.lst ds) (.lst es)
theorem Fill.rep {K : PySem.W.Frag} {H G : Hp} {qs : List (Addr × M)} (eg : Ex G H) (hq : ∀ q ds, (q, M.lst ds) ∈ qs → ∃ xs, H q = some (.lst xs) ∧ Reps K G xs ds) {d e : D} (f : Fill qs d e) : ∀ {v : V}, Rep K G v d → Rep K H v e := by
  induction f with
  | refl d => exact fun r => r.mono eg
  | «at» h hl hr ih =>
    intro v r
    obtain ⟨xs, h1, h2⟩ := hq _ _ h
    cases r
    refine .of_lst (sq_of h1) ⟨h2.1.trans hl, fun i v e a b => ?_⟩
    obtain ⟨d, hd, rd⟩ := h2.getL a
    exact ih i d e hd b rd
  | tup hl hr ih =>
    intro v r
    obtain ⟨a, xs, rfl, h1, h2⟩ := r.tup_inv
    refine .of_tup (ex_t eg h1) ⟨h2.1.trans hl, fun i v e a b => ?_⟩
    obtain ⟨d, hd, rd⟩ := h2.getL a
    exact ih i d e hd b rd
  | lst hl hr ih =>
    intro v r
    obtain ⟨a, xs, rfl, h1, h2⟩ := r.lst_inv
    refine .of_lst (ex_l eg h1) ⟨h2.1.trans hl, fun i v e a b => ?_⟩
    obtain ⟨d, hd, rd⟩ := h2.getL a
    exact ih i d e hd b rd
section
variable {K : PySem.W.Frag} {ρ : List Sl} {te ta tb tc : TE} {tt t u : TT} {tx ty : TA} {d d' x y : D} {ds : List D} {i j k : Int} {n z l : Nat} {m : M} {ts tu tw : TS} {Z : Zs} {g : TG} {vs : List Nat} {wi : TI} {q : Addr} {qs es : List (Addr × M)}
/-- the first use of the nameless slot -/
theorem sd_ph (hz : z + 1 = ρ.length) (h : ρ[z]? = some .no) (k : SD K ts (ρ.set z (.ph [])) Z) : SD K ts ρ Z := fun H0 S G ow σ H E g hn hb hc hr => by
  refine k H0 S G ow σ H E ?_ hn hb hc hr
  have gl := g.len
  have lz : z < σ.length := by omega
  have q := g.putK z σ[z] (.ph []) (.inl ⟨by rw [List.length_set]; omega, List.nodup_nil, fun e he => by simp at he⟩)
  rw [List.set_getElem_self lz] at q
  exact q
theorem Rep.at_inv {H : Hp} {v : V} (r : Rep K H v (.at q)) : v = .ref q := by cases r; rfl
def RPh (K : PySem.W.Frag) (n : Nat) (d : List Addr → D) (ms : List Addr → List M) : Hp → (Addr → Prop) → V → Hp → Prop := fun H0 S v H' => ∃ ps : List Addr, ps.length = n ∧ ps.length = (ms ps).length ∧ ps.Nodup ∧ (∀ q, q ∈ ps → H0 q = none ∧ Nb (H' q)) ∧ Ex H0 H' ∧
  Rep K (hid (fun b => S b ∨ b ∈ ps) H') v (d ps) ∧ All2 (fun q m => MRep K (hid (fun b => S b ∨ b ∈ ps) H') H' q m) ps (ms ps)
def PPh (K : PySem.W.Frag) (as : List (Bool × D)) (n : Nat) (d : List Addr → D) (ms : List Addr → List M) (vs : List V) (H : Hp) (Q : VK) : Prop := ∃ T : Addr → Prop, (∀ b, T b → Nb (H b)) ∧ Args K (hid T H) H vs as ∧ ∀ v H', RPh K n d ms H T v H' → Q v H'
def spPh {α : Type} (K : PySem.W.Frag) (pre : α → Prop) (args : α → List (Bool × D)) (n : α → Nat) (d : α → List Addr → D) (ms : α → List Addr → List M) : Sp := fun vs H Q _ => ∃ x, pre x ∧ PPh K (args x) (n x) (d x) (ms x) vs H Q
/-- what an expression tells, new things within -/
def EN (K : PySem.W.Frag) (te : TE) (ρ : List Sl) (n : Nat) (d : List Addr → D) (ms : List Addr → List M) : Prop := ∀ H0 S G ow σ H, Good K H0 S G ow σ H ρ → ∀ Q : VK, (∀ v H', RPh K n d ms H (Hid S ow) v H' → Q v H') → te σ H Q
end
section
variable {P : Program} {w : World} {mg : Str → Option Value} {base : Heap} {K : PySem.W.Frag} {ts : TS}
theorem body_ph {T : Addr → Prop} {H : Hp} {as : List (Bool × D)} {us : List V} {N : List Str} {Q : VK} {ρ0 : List Sl} {n : Nat} {d : List Addr → D} {ms : List Addr → List M} (h : PPh K as n d ms us H Q) (hN : as.length ≤ N.length) (hρ : slots as ++ List.replicate (N.length - as.length) .no = ρ0)
    (sd : SD K ts ρ0 { nx := fun _ => False, rt := RPh K n d ms }) : ts { nx := fun _ H' => Q .non H', rt := Q } (L2.start N us) H := by
  obtain ⟨T, hT, ha, q⟩ := h
  subst hρ
  exact sd H T _ _ _ H _ (good_start hT ha hN) (fun ρ' ow' σ' H' e g => e.elim) (fun _ _ _ _ z => z.elim) (fun _ _ _ _ z => z.elim) ⟨fun v H' r => q v H' r, trivial⟩
theorem fun_ph {α : Type} {pre : α → Prop} {args : α → List (Bool × D)} {nn : α → Nat} {dd : α → List Addr → D} {mm : α → List Addr → List M} {x qual : Str} {st : Stmt} {f : Addr} {fd : FuncData} {N ps : List Str} {k : Nat} (F : Fun K x qual st f fd) (S : FnScope N ps (defScope st)) (hl : ∀ x, (args x).length = ps.length)
    (hN : ps.length ≤ N.length)
    (hb : ∀ (cdv : Value) (A : Around) (outer : List Env) (s : Shared) (H : Hp) (E : XK), Room k (A.deeper (envOfC qual (defScope st) s.heap.objs.size f cdv)) → ∀ x, pre x →
      ∃ t, PSs (cxOf CX0 P w K mg base N qual (defScope st) f cdv A outer s H E).nox (defBody st) t ∧ SD K t (slots (args x) ++ List.replicate (N.length - (args x).length) .no) { nx := fun _ => False, rt := RPh K (nn x) (dd x) (mm x) }) :
    FnOk P w K mg base CX0 (k + 1) f fd ps (spPh K pre args nn dd mm) := by
  refine F.ok S (fun vs H Q E h => ?_) (fun cdv A outer s H vs Q E hr h => ?_)
  · obtain ⟨x, _, T, _, ha, _⟩ := h
    rw [ha.1]
    exact hl x
  · obtain ⟨x, hx, h⟩ := h
    obtain ⟨t, h1, h2⟩ := hb cdv A outer s H E hr x hx
    exact ⟨t, h1, body_ph (T := fun _ => False) h (by rw [hl]; exact hN) rfl h2⟩
theorem Dfn.ph {α : Type} {pre : α → Prop} {args : α → List (Bool × D)} {nn : α → Nat} {dd : α → List Addr → D} {mm : α → List Addr → List M} {x : Str} {st : Stmt} {N ps : List Str} {k : Nat} (F : Dfn K mg x st) (S : FnScope N ps (defScope st)) (hl : ∀ x, (args x).length = ps.length)
    (hN : ps.length ≤ N.length) (hB : ∀ (kV doc pm : Value) (an : Option Addr) (cdv ct : Value) (us : List Value), us.length = ps.length → bindArgs (PySem.W.fnOf x x (defArgs st) (defBody st) (defScope st) .none kV doc pm an cdv ct) ⟨us, []⟩ = pure (ps.zip us))
    (hb : ∀ (f : Addr) (cdv : Value) (A : Around) (outer : List Env) (s : Shared) (H : Hp) (E : XK), Room k (A.deeper (envOfC x (defScope st) s.heap.objs.size f cdv)) → ∀ y, pre y →
      ∃ t, PSs (cxOf CX0 P w K mg base N x (defScope st) f cdv A outer s H E).nox (defBody st) t ∧ SD K t (slots (args y) ++ List.replicate (N.length - (args y).length) .no) { nx := fun _ => False, rt := RPh K (nn y) (dd y) (mm y) }) :
    Cal P w K mg base (k + 1) x (spPh K pre args nn dd mm) := by
  obtain ⟨f, fd, F, hm⟩ := F.ex
  exact ⟨f, fd, ps, fun_ph F S hl hN (hb f), hm, F.kp, F.binds hB⟩
end
section
variable {K : PySem.W.Frag} {ρ : List Sl} {tx ta tb : TA} {ds es : List D}
def rCatS (K : PySem.W.Frag) : R2 := fun x y H Q => ∃ a b xs ys, x = .ref a ∧ y = .ref b ∧ SqL K H a xs ∧ SqL K H b ys ∧ xs.length + ys.length ≤ sizeLine ∧ ∀ p, H p = none → Q (.ref p) (upd H p (.lst (xs ++ ys)))
theorem op_catS {X : Cx} : OpR X (binaryOp .Add) (rCatS X.K) := by
  intro pins s σ H x y v u Q I rx ry h
  obtain ⟨a, b, xs, ys, rfl, rfl, ha, hb, hz, q⟩ := h
  cases rx
  cases ry
  obtain ⟨its, r1, p1, _⟩ := I.list ha
  obtain ⟨its2, r2, p2, _⟩ := I.list hb
  obtain ⟨⟨cls, dd, data, sl⟩, ho, hc, n, hd⟩ := id p1.isList
  obtain ⟨⟨cls2, dd2, data2, sl2⟩, ho2, hc2, n2, hd2⟩ := id p2.isList
  simp only at hc hd hc2 hd2
  subst hc hd hc2 hd2
  have e : its.toArray ++ its2.toArray = (its ++ its2).toArray := by simp
  have l1 := r1.length
  have l2 := r2.length
  refine concat_meets ⟨_, ho, rfl⟩ ⟨_, ho2, rfl⟩ noFill_list_add seq_list_add PySem.F.slot_list_add PySem.F.entry_list_add (PySem.F.args_list_add_2 _ _) (list_addW a b its.toArray its2.toArray n n2 dd dd2 sl sl2 (by rw [List.size_toArray, List.size_toArray]; omega)) ⟨ho, ho2, ?_⟩
  rw [e]
  exact ⟨.ref _, _, I.lnew (t' := s.toks) (r1.append r2) (by rw [List.length_append]; omega), rfl, q _ I.fresh⟩
/-- xs + ys, both shared -/
theorem eo_catS {te tf : TE} (ha : ED K te ρ (.lst ds)) (hb : ED K tf ρ (.lst es)) (hl : ds.length + es.length ≤ 100000) : EO K (tOp (rCatS K) te tf) ρ (.lst (ds ++ es)) := fun H0 S G ow σ H g Q q => ha H0 S G ow σ H g _ fun v H1 e1 r1 =>
  hb H0 S G ow σ H1 (g.ext e1) _ fun u H2 e2 r2 => by
    have e := e1.trans e2
    obtain ⟨a, xs, rfl, hs, ra⟩ := (r1.mono (hid_ext e2)).lst_inv
    obtain ⟨b, ys, rfl, hs2, rb⟩ := r2.lst_inv
    exact ⟨a, b, xs, ys, rfl, rfl, ex_l hid_sub hs, ex_l hid_sub hs2, sz_of (by rw [ra.1, rb.1]; exact hl), fun l hl => q l _ (fresh_back e hl) (e.trans (Ex.new hl)) (by rw [upd_same]; exact fun z => nomatch z) (eo_of_new hl ((g.ext e).fresh hl) (All2.app ra rb))⟩
end
end BV
end
section
open PySem PySem.Spec PyProof.Rows L2 Evl
namespace BV
section
variable {X : Cx} (K : PySem.W.Frag) (h : X.K = K)
include h
theorem op_neDK (hu : X.A.units + 64 < cLine) : OpR X (compareOp .NotEq) (rNeD K) := by subst h; exact op_neD hu
end
def spE {α : Type} (K : PySem.W.Frag) (pre : α → Prop) (args : α → List (Bool × D)) (R : α → D → Prop) : Sp := fun vs H Q _ => ∃ x, pre x ∧ ∃ T : Addr → Prop, (∀ b, T b → Nb (H b)) ∧ Args K (hid T H) H vs (args x) ∧ ∀ d v H', R x d → Ex H H' → Rep K (hid T H') v d → Q v H'
def RE (K : PySem.W.Frag) (R : D → Prop) : Hp → (Addr → Prop) → V → Hp → Prop := fun H0 S v H' => ∃ d, R d ∧ Ex H0 H' ∧ Rep K (hid S H') v d
section
variable {P : Program} {w : World} {mg : Str → Option Value} {base : Heap} {K : PySem.W.Frag} {ts : TS} {ρ : List Sl} {te : TE} {tx : TA} {d : D} {Z : Zs} {n : Nat}
theorem sd_retE {R : D → Prop} (h : ED K te ρ d) (hd : R d) (k : ∀ H0 S v H', RE K R H0 S v H' → Z.rt H0 S v H') : SD K (tRet te) ρ Z := fun H0 S G ow σ H E g _ _ _ hr => h H0 S G ow σ H g _ fun v H' e r => hr.1 v H' (k H0 S v H' ⟨d, hd, g.ex.trans e, rep_out r⟩)
theorem sd_asgE {α : Type} {pre : α → Prop} {args : α → List (Bool × D)} {R : α → D → Prop} {E : XK} (x : α) (hp : pre x) (ha : EA K tx ρ (args x)) (k : ∀ d, R x d → Z.nx (ρ.set n (.sh d))) : SD K (tAsg (tCall (spE K pre args R) [] E tx) (gName n)) ρ Z := fun H0 S G ow σ H E' g hn _ _ _ =>
  ha H0 S G ow σ H g _ fun us H1 e r => by
    rw [List.append_nil]
    exact ⟨x, hp, Hid S ow, (g.ext e).there, r, fun d v H' hd e' r' => hn _ _ _ H' (k d hd) (((g.ext e).ext e').putSh n r')⟩
theorem Dfn.e {α : Type} {pre : α → Prop} {args : α → List (Bool × D)} {R : α → D → Prop} {x : Str} {st : Stmt} {N ps : List Str} {k : Nat} (F : Dfn K mg x st) (S : FnScope N ps (defScope st)) (hl : ∀ x, (args x).length = ps.length)
    (hN : ps.length ≤ N.length) (hB : ∀ (kV doc pm : Value) (an : Option Addr) (cdv ct : Value) (us : List Value), us.length = ps.length → bindArgs (PySem.W.fnOf x x (defArgs st) (defBody st) (defScope st) .none kV doc pm an cdv ct) ⟨us, []⟩ = pure (ps.zip us))
    (hb : ∀ (f : Addr) (cdv : Value) (A : Around) (outer : List Env) (s : Shared) (H : Hp) (E : XK), Room k (A.deeper (envOfC x (defScope st) s.heap.objs.size f cdv)) → ∀ y, pre y →
      ∃ t, PSs (cxOf CX0 P w K mg base N x (defScope st) f cdv A outer s H E).nox (defBody st) t ∧ SD K t (slots (args y) ++ List.replicate (N.length - (args y).length) .no) { nx := fun _ => False, rt := RE K (R y) }) :
    Cal P w K mg base (k + 1) x (spE K pre args R) := by
  obtain ⟨f, fd, F, hm⟩ := F.ex
  refine ⟨f, fd, ps, F.ok S (fun vs H Q E h => ?_) (fun cdv A outer s H vs Q E hr h => ?_), hm, F.kp, F.binds hB⟩
  · obtain ⟨x, _, T, _, ha, _⟩ := h
    exact ha.1.trans (hl x)
  · obtain ⟨x, hx, T, hT, ha, q⟩ := h
    obtain ⟨t, h1, h2⟩ := hb f cdv A outer s H E hr x hx
    refine ⟨t, h1, ?_⟩
    exact h2 H T _ _ _ H _ (good_start hT ha (by rw [hl]; exact hN)) (fun ρ' ow' σ' H' e g => e.elim) (fun _ _ _ _ z => z.elim) (fun _ _ _ _ z => z.elim) ⟨fun v H' r => by
      obtain ⟨d, hd, e, r⟩ := r
      exact q d v H' hd e r, trivial⟩
end
end BV
end
section
open PySem PySem.Spec PyProof.Rows L2 Evl
namespace BV
/-- what a zip has out -/
def ZOut (h : Heap) (z p q : Addr) : Option Addr → Prop
  | none => IsZip h z p q .none
  | some T => ∃ f, PySem.IsZipHeld h z p q T f
/-- a zip of the lists at a and b ahead of its turn i -/
structure ZAt (h : Heap) (z p q i1 i2 a b : Addr) (t : Option Addr) (i : Nat) : Prop where
  out : ZOut h z p q t
  ins : IsPair h p (.ref i1) (.ref i2)
  res : ∃ x y, IsPair h q x y
  one : h.IsListIter i1 a i
  two : h.IsListIter i2 b i
section
variable {h h' : Heap} {z p q i1 i2 a b : Addr} {t : Option Addr} {i : Nat}
abbrev zFp (z p q i1 i2 : Addr) : List Addr := [z, p, q, i1, i2]
theorem zfp_cases {c : Addr} (hc : c ∈ zFp z p q i1 i2) : c = z ∨ c = p ∨ c = q ∨ c = i1 ∨ c = i2 := by
  simp only [List.mem_cons, List.not_mem_nil, or_false] at hc
  exact hc
theorem ZOut.obj (s : ZOut h z p q t) : ∃ o, h.get? z = some o ∧ ∀ v, o.data ≠ .cell v := by
  cases t with
  | none => exact ⟨_, s, fun v e => nomatch e⟩
  | some T =>
    obtain ⟨f, s⟩ := s
    exact ⟨_, s, fun v e => nomatch e⟩
theorem iter_obj {l : Addr} (s : h.IsListIter i1 l i) : ∃ o, h.get? i1 = some o ∧ ∀ v, o.data ≠ .cell v := by
  obtain ⟨o, e, _, d⟩ := s
  exact ⟨o, e, fun v y => by rw [d] at y; cases y⟩
theorem ZAt.obj (s : ZAt h z p q i1 i2 a b t i) : ∀ c ∈ zFp z p q i1 i2, ∃ o, h.get? c = some o ∧ ∀ v, o.data ≠ .cell v := fun c hc => by
  obtain ⟨x, y, s3⟩ := s.res
  rcases zfp_cases hc with e | e | e | e | e <;> rw [e]
  · exact s.out.obj
  · exact ⟨_, s.ins, fun v e => nomatch e⟩
  · exact ⟨_, s3, fun v e => nomatch e⟩
  · exact iter_obj s.one
  · exact iter_obj s.two
end
end BV
end
section
open PySem PySem.Spec PyProof.Rows L2 Evl
namespace BV
section
variable {K : PySem.W.Frag} {ρ : List Sl} {te ta tb : TE} {ds es : List D} {Z : Zs} {n z : Nat} {m : M} {qs : List (Addr × M)} {i : Int}
/-- xs.insert(i, e), xs built here; what the method does is handed in -/
theorem sd_insAt {R : V → List V → Hp → VK → Prop} {tf : TE} {l : Nat} {d : D} (hR : ∀ (p : Addr) (xs : List V) (i : Int) (y : V) (H : Hp) (Q : VK), H p = some (.lst xs) → xs.length < sizeLine → 0 ≤ i → i < 2 ^ 63 → Q .non (upd H p (.lst (xs.take i.toNat ++ [y] ++ xs.drop i.toNat))) → R (.ref p) [.int i, y] H Q)
    (h : ρ[n]? = some (.own (.lst ds))) (hi : ED K te ρ (.int i)) (he : ED K tf ρ d) (e1 : i = (l : Int)) (hl : ds.length < 100000) (hb : l ≤ ds.length) (k : Z.nx (ρ.set n (.own (.lst (ds.take l ++ [d] ++ ds.drop l))))) :
    SD K (tDrop (tBM K "list" R (tVar n) (tCons te (tCons tf tNil)))) ρ Z := fun H0 S G ow σ H E g hn _ _ _ => by
  obtain ⟨p, a, b, xs, c, r⟩ := g.at_ n _ h
  refine ⟨.ref p, a, Or.inl ⟨rfl, xs, sq_of c⟩, hi H0 S G ow σ H g _ fun u H1 x1 ru => he H0 S G ow σ H1 (g.ext x1) _ fun v H2 x2 rv => ?_⟩
  have e := x1.trans x2
  have lx := r.1
  rw [ru.int_inv]
  have it : i.toNat = l := by omega
  have put := ((r.mono (hid_ext e)).take l).app (((All2.nil (R := Rep K (hid (Hid S ow) H2))).cons (rv)).app ((r.mono (hid_ext e)).drop l))
  refine hR p xs i v H2 _ (e _ _ c) (sz_lt (by rw [lx]; exact hl)) (by omega) (by omega) ?_
  rw [it]
  refine hn _ _ _ _ k ((g.ext e).write b _ _ ⟨_, upd_same, ?_⟩ (fun _ => a) (.inl (List.getElem?_eq_some_iff.mp h).1))
  rw [List.append_assoc, List.append_assoc]
  exact put
end
end BV
end
section
open PySem PySem.Spec PyProof.Rows L2 Evl
namespace BV
end BV
end
section
open PySem PySem.Spec PyProof.Rows L2 Evl
namespace BV
end BV
end
section
open PySem PySem.Spec PyProof.Rows L2 Evl
namespace L2
end L2
namespace BV
section
variable {K : PySem.W.Frag} {ρ : List Sl} {te td tv tk : TE} {tx : TA} {d : D} {tb ts : TS} {Z : Zs} {n ia ib iw : Nat} {ks : List (List Key)} {ds : List D}
def hasK (ks : List (List Key)) (q : List Key) : Bool := ks.any fun k => decide (k = q)
def putKs (ks : List (List Key)) (q : List Key) : List (List Key) := if hasK ks q = true then ks else ks ++ [q]
def repL : List (List Key) → List D → List Key → D → List D
  | k :: ks, d :: ds, q, x => (if k = q then x else d) :: repL ks ds q x
  | _, _, _, _ => []
def putL (ks : List (List Key)) (ds : List D) (q : List Key) (d : D) : List D := if hasK ks q = true then repL ks ds q d else ds ++ [d]
theorem repL_len {q : List Key} {x : D} : ∀ {ks : List (List Key)} {ds : List D}, ks.length = ds.length → (repL ks ds q x).length = ks.length
  | [], [], _ => rfl
  | [], _ :: _, h => absurd h (by simp)
  | _ :: _, [], h => absurd h (by simp)
  | k :: ks, d :: ds, h => congrArg (· + 1) (repL_len (ks := ks) (ds := ds) (by simpa using h))
theorem put_len {q : List Key} {x : D} (h : ks.length = ds.length) : (putKs ks q).length = (putL ks ds q x).length ∧ (putKs ks q).length ≤ ks.length + 1 := by
  unfold putKs putL
  split
  · exact ⟨(repL_len h).symm, Nat.le_succ _⟩
  · rw [List.length_append, List.length_append, h]
    exact ⟨rfl, Nat.le_refl _⟩
theorem look_rep2 {q j : List Key} {x : D} : ∀ {ks : List (List Key)} {ds : List D}, ks.length = ds.length → lookD ks (repL ks ds q x) j = if j = q then (lookD ks ds j).map fun _ => x else lookD ks ds j
  | [], [], _ => by split <;> rfl
  | [], _ :: _, h => absurd h (by simp)
  | _ :: _, [], h => absurd h (by simp)
  | k :: ks, d :: ds, h => by
    have ih := look_rep2 (q := q) (j := j) (x := x) (ks := ks) (ds := ds) (by simpa using h)
    unfold lookD at ih ⊢
    show (((k, if k = q then x else d) :: ks.zip (repL ks ds q x)).find? _).map _ = if j = q then ((((k, d) :: ks.zip ds).find? _).map _).map _ else (((k, d) :: ks.zip ds).find? _).map _
    by_cases hk : k = j
    · rw [find_pos hk, find_pos hk]
      by_cases hj : j = q
      · rw [if_pos hj, if_pos (hk.trans hj)]; rfl
      · rw [if_neg hj, if_neg (fun z => hj (hk.symm.trans z))]
    · rw [find_neg hk, find_neg hk]
      exact ih
theorem look_app {q j : List Key} {x : D} : ∀ {ks : List (List Key)} {ds : List D}, ks.length = ds.length → q ∉ ks → lookD (ks ++ [q]) (ds ++ [x]) j = if j = q then some x else lookD ks ds j
  | [], [], _, _ => by
    show (((q, x) :: []).find? _).map _ = _
    by_cases h : q = j
    · rw [find_pos h, if_pos h.symm]; rfl
    · rw [find_neg h, if_neg fun z => h z.symm]; rfl
  | [], _ :: _, h, _ => absurd h (by simp)
  | _ :: _, [], h, _ => absurd h (by simp)
  | k :: ks, d :: ds, h, hn => by
    have ih := look_app (q := q) (j := j) (x := x) (ks := ks) (ds := ds) (by simpa using h) fun z => hn (List.mem_cons_of_mem _ z)
    unfold lookD at ih ⊢
    show (((k, d) :: (ks ++ [q]).zip (ds ++ [x])).find? _).map _ = if j = q then _ else (((k, d) :: ks.zip ds).find? _).map _
    by_cases hk : k = j
    · rw [find_pos hk, find_pos hk, if_neg fun z => hn (by rw [← z, ← hk]; exact List.mem_cons_self)]
    · rw [find_neg hk, find_neg hk]
      exact ih
theorem hasK_mem {q : List Key} : hasK ks q = true ↔ q ∈ ks := by
  unfold hasK
  rw [List.any_eq_true]
  exact ⟨fun ⟨k, h, e⟩ => of_decide_eq_true e ▸ h, fun h => ⟨q, h, decide_eq_true rfl⟩⟩
theorem look_put {q j : List Key} {x : D} (h : ks.length = ds.length) : lookD (putKs ks q) (putL ks ds q x) j = if j = q then some x else lookD ks ds j := by
  unfold putKs putL
  by_cases hq : hasK ks q = true
  · rw [if_pos hq, if_pos hq, look_rep2 h]
    by_cases e : j = q
    · subst e
      rw [if_pos rfl, if_pos rfl]
      have := (lookD_isSome (k := j) h).2 (hasK_mem.1 hq)
      cases z : lookD ks ds j with
      | none => rw [z] at this; cases this
      | some y => rfl
    · rw [if_neg e, if_neg e]
  · rw [if_neg hq, if_neg hq]
    exact look_app h fun z => hq (hasK_mem.2 z)
theorem putK_keys {q : List Key} {v : V} {kvs : List (List Key × V)} : (putK kvs q v).map (·.1) = putKs (kvs.map (·.1)) q := by
  have e : (kvs.any fun kv => decide (kv.1 = q)) = hasK (kvs.map (·.1)) q := by
    unfold hasK
    rw [List.any_map]
    rfl
  unfold putK putKs
  rw [e]
  split
  · rw [List.map_map]
    refine List.map_congr_left fun p _ => ?_
    show (if p.1 = q then (p.1, v) else p).1 = p.1
    split <;> rfl
  · rw [List.map_append]
    rfl
theorem putK_reps {H : Hp} {q : List Key} {v : V} {d : D} (r : Rep K H v d) : ∀ {kvs : List (List Key × V)} {ds : List D}, Reps K H (kvs.map (·.2)) ds → Reps K H ((kvs.map fun kv => if kv.1 = q then (kv.1, v) else kv).map (·.2)) (repL (kvs.map (·.1)) ds q d)
  | [], [], _ => All2.nil
  | [], _ :: _, h => absurd h.1 (by simp)
  | _ :: _, [], h => absurd h.1 (by simp)
  | (k, v1) :: kvs, d1 :: ds, h => by
    have ih := putK_reps r (q := q) (kvs := kvs) (ds := ds) (All2.tail h)
    have h1 : Rep K H v1 d1 := All2.head h
    show All2 _ ((if k = q then (k, v) else (k, v1)).2 :: _) ((if k = q then d else d1) :: _)
    refine All2.cons ?_ ih
    by_cases e : k = q
    · rw [if_pos e, if_pos e]; exact r
    · rw [if_neg e, if_neg e]; exact h1
theorem sd_dputU {is : List Int} (h : ρ[n]? = some (.own (.dct ks ds))) (hv : ED K tv ρ d) (hk : EB K tx ρ (is.map .int)) (hz : is.length ≤ 100000 := by first | decide | simp) (hl : ks.length < 100000)
    (k : Z.nx (ρ.set n (.own (.dct (putKs ks (intK is)) (putL ks ds (intK is) d))))) : SD K (sDPut (tVar n) (tTup tx) tv) ρ Z := fun H0 S G ow σ H E g hnx _ _ _ => hv H0 S G ow σ H g _ fun v H1 e1 r1 => by
  obtain ⟨p, a, b, kvs, c, e, hr⟩ := (g.ext e1).at_ n _ h
  refine ⟨.ref p, a, hk H0 S G ow σ H1 (g.ext e1) _ fun us H2 e2 r2 => ⟨sz_of (by rw [r2.1, List.length_map]; exact hz), fun q hq => ?_⟩⟩
  rw [ints_of r2]
  have e3 : Ex H2 (upd H2 q (.tup (is.map V.int))) := Ex.new hq
  have hlen : kvs.length < 100000 := by
    have := congrArg List.length e
    rw [List.length_map] at this
    omega
  refine ⟨p, _, rfl, DPut.t (k := intK is) (e3 _ _ (e2 _ _ c)) (by rw [kV_ints]; exact upd_same) (sz_lt hlen), ?_⟩
  refine hnx _ _ _ _ k (((g.ext e1).ext (e2.trans e3)).write b _ _ ⟨_, upd_same, by rw [putK_keys, e], ?_⟩ (fun _ => a) (.inl (List.getElem?_eq_some_iff.mp h).1))
  have ea : (kvs.any fun kv => decide (kv.1 = intK is)) = hasK ks (intK is) := by
    rw [← e]
    unfold hasK
    rw [List.any_map]
    rfl
  have hr' := hr.mono (hid_ext (e2.trans e3))
  have r1' := r1.mono (hid_ext (e2.trans e3))
  unfold putK putL
  rw [ea]
  split
  · have z := putK_reps (q := intK is) r1' hr'
    rw [e] at z
    exact z
  · rw [List.map_append]
    exact hr'.snoc r1'
theorem er_ownD (h : ρ[n]? = some (.own (.dct ks ds))) : ER K (tVar n) ρ (.dct ks ds) := fun H0 S G ow σ H g Q q => by
  obtain ⟨p, a, b, kvs, c, e, r⟩ := g.at_ n _ h
  exact ⟨.ref p, a, q _ H (Ex.refl H) (.dct (.inl c) e r.1 fun i v d h1 h2 => (r.2 i v d h1 h2).mono hid_sub)⟩
end
end BV
namespace BV
open PySem.W
end BV
namespace BV
end BV
namespace BV
end BV
namespace BV
end BV
namespace BV
end BV
namespace BV
end BV
namespace BV
end BV
end
section
open PySem PySem.Spec PyProof.Rows L2 Evl
namespace BV
section
variable {K : PySem.W.Frag} {ρ : List Sl} {ta : TE} {H0 H G : Hp} {S : Addr → Prop} {ow : Nat → Option Addr} {σ : L2.St}
theorem Good.sees (g : Good K H0 S G ow σ H ρ) {b : Addr} {vs : List V} (h : H b = some (.tup vs)) : hid (Hid S ow) H b = some (.tup vs) := by
  rw [hid_no fun z => g.there b z (by rw [h]; exact .tup vs)]
  exact h
def tupK (is : List Int) : D := .tup (is.map .int)
theorem reps_ints (is : List Int) : Reps K G (is.map V.int) (is.map D.int) := by
  induction is with
  | nil => exact All2.nil
  | cons i is ih => exact All2.cons (.int i) ih
end
end BV
namespace BV
open PySem.W
theorem reads_ints {h : Heap} : ∀ {k : List Int} {its : List Value}, Vals (k.map V.int) its → ReadsAll h its (k.map .int) []
  | [], _, .nil => .nil
  | i :: k, _, .cons r t => by
    obtain ⟨t', rfl⟩ := r
    exact ReadsAll.cons (Reads.int i t') (reads_ints t)
theorem each_refs {P : Value → Addr × List Int → Prop} : ∀ {as : List Addr} {kks : List (List Int)}, as.length = kks.length → (∀ b, b ∈ as.zip kks → P (.ref b.1) b) → EachIs P (as.map Value.ref) (as.zip kks)
  | [], [], _, _ => .nil
  | [], _ :: _, h, _ => absurd h (by simp)
  | _ :: _, [], h, _ => absurd h (by simp)
  | a :: as, k :: kks, h, f => .cons (f (a, k) (by simp)) (each_refs (by simpa using h) fun b hb => f b (List.mem_cons_of_mem _ hb))
theorem keys_zip {H : Hp} : ∀ {kvs : List (List Key × V)} {bs : List Addr} {kks : List (List Int)}, IsKeys H kvs bs → kvs.map (·.1) = kks.map intK → bs.length = kks.length ∧ ∀ b, b ∈ bs.zip kks → H b.1 = some (.tup (b.2.map V.int))
  | [], _, [], h, _ => by cases h; exact ⟨rfl, fun b hb => by cases hb⟩
  | [], _, _ :: _, _, e => nomatch e
  | _ :: _, _, [], _, e => nomatch e
  | kv :: kvs, _, k :: kks, h, e => by
    obtain ⟨e1, e2⟩ := List.cons.inj e
    cases h with
    | cons h t =>
      have e1 : kv.1 = intK k := e1
      rw [e1, kV_ints] at h
      obtain ⟨i1, i2⟩ := keys_zip t e2
      refine ⟨by rw [List.length_cons, List.length_cons, i1], fun b hb => ?_⟩
      rcases List.mem_cons.mp hb with rfl | hb
      · exact h
      · exact i2 b hb
theorem vals_refs2 : ∀ {out : List Value} {bs : List (Addr × List Int)}, EachIs (fun v b => v = Value.ref b.1) out bs → Vals (bs.map fun b => V.ref b.1) out
  | _, _, .nil => .nil
  | _, _, .cons r rs => .cons r (vals_refs2 rs)
def sortKs (ks : List (List Int)) : List (List Int) := ks.mergeSort (dataLe false fun k => PyData.tuple (k.map .int))
def rSortT : List V → Hp → VK → Prop := fun xs H Q => ∃ d kvs, ∃ kks : List (List Int), xs = [V.ref d] ∧ Rd H d (.dT kvs) ∧ kvs.map (·.1) = kks.map intK ∧ AllAlike (kks.map fun k => PyData.tuple (k.map .int)) ∧ Sortable (kks.map fun k => PyData.tuple (k.map .int)) ∧
  ∀ (p : Addr) (bs : List (Addr × List Int)), H p = none → (∀ b, b ∈ bs → H b.1 = some (.tup (b.2.map V.int))) → bs.map Prod.snd = sortKs kks → Q (.ref p) (upd H p (.lst (bs.map fun b => V.ref b.1)))
theorem cr_sortT {X : Cx} (hc : X.calm = true) (hu : X.A.units + 64 < cLine) : CallR X (.builtin "sorted") rSortT := by
  intro pins s σ H xs us Q I r h
  obtain ⟨d, kvs, kks, rfl, hd, hkk, hal, hk, q⟩ := h
  obtain ⟨u, rfl, rx⟩ := r.one
  cases rx
  obtain ⟨z, hs, ks, pr, o, es, ep, ho, hx, hdt, he, hn⟩ := (show ObjOk X.prog X.w H s.heap d (.dT kvs) from hd.ok I.hok)
  have l1 : es.size = ks.length := size_of_entries he
  have l2 : kvs.length = ks.length := Paired.length pr
  obtain ⟨lz, mz⟩ := keys_zip (isKeys_of pr) hkk
  generalize hbs : (ks.map fun x => x.2.1) = as at lz mz
  refine Calls.call_function_entry PyProof.Rows.kind_sorted PyProof.Rows.plain_sorted PyProof.Rows.entry_sorted (PyProof.Rows.args_sorted1 _) ?_
  unfold Builtin.«sorted»
  refine wpAny_bind (m := checkCount "sorted" 1 1 _) (wpAny_pure ?_)
  refine wpAny_bind (PySem.W.kdu_collect (A := X.A.in1) (kdl_raw hs hx hdt) (I.ok.hd hc) ho (by omega) fun h' tk acc hkp it => ?_)
  have ea : acc.toList = as.map Value.ref := by
    rw [← hbs, List.map_map]
    have hl : acc.toList.length = ks.length := by rw [Array.length_toList, it.1]; exact l1
    apply List.ext_getElem?
    intro j
    rw [List.getElem?_map]
    cases hj : acc.toList[j]? with
    | none =>
      have h1 := List.getElem?_eq_none_iff.mp hj
      rw [List.getElem?_eq_none (by omega)]
      all_goals rfl
    | some v =>
      obtain ⟨en, hen, hv⟩ := it.2 j v (by rw [← Array.getElem?_toList]; exact hj)
      have qe := entry_at he j
      rw [hen] at qe
      cases hb : ks[j]? with
      | none =>
        rw [hb] at qe
        exact nomatch (show some en = none from qe)
      | some b =>
        rw [hb] at qe
        have e2 : en = entryOfKey (tupleKind (mixKind X.prog X.w)) b := Option.some.inj qe
        rw [hv, e2]
        all_goals rfl
  have la : as.length = ks.length := by rw [← hbs, List.length_map]
  have I1 : Inv X pins σ H { s with heap := h', toks := tk } := I.kept hkp
  rw [ea]
  refine wpAny_bind (wpAny_newList ?_ (by rw [List.length_map]; omega))
  have hoL : (h'.push (seqObj "list" (as.map Value.ref).toArray 0)).get? h'.objs.size = some (seqObj "list" (as.map Value.ref).toArray 0) := Heap.get?_push_size _ rfl
  show wpAny _ _ _ _ _ { s with heap := h'.push (seqObj "list" (as.map Value.ref).toArray 0), toks := tk }
  have em : (as.zip kks).map Prod.snd = kks := List.map_snd_zip (by omega)
  have enc : (as.zip kks).map (fun b => PyData.tuple (b.2.map .int)) = kks.map fun k => PyData.tuple (k.map .int) := by
    conv => rhs; rw [← em, List.map_map]
    rfl
  have rd : ∀ b : Addr × List Int, b ∈ as.zip kks → ∃ rs, Reads (h'.push (seqObj "list" (as.map Value.ref).toArray 0)) (Value.ref b.1) (PyData.tuple (b.2.map .int)) rs ∧ h'.objs.size ∉ rs := fun b hb => by
    obtain ⟨its, rv, ⟨o', ho', hc', n', hd'⟩, _⟩ := I1.tuple (a := b.1) (xs := b.2.map V.int) (st_of (mz b hb))
    exact ⟨[], Reads.tuple (Heap.get?_push_of_some _ ho') hc' hd' (reads_ints rv), by simp⟩
  refine wpAny_bind (wpAny_holding (PySem.W.list_sort_data (s := { s with heap := h'.push (seqObj "list" (as.map Value.ref).toArray 0), toks := tk }) (bs := as.zip kks) (enc := fun b => PyData.tuple (b.2.map .int)) (R := fun v b => v = Value.ref b.1) hoL (each_refs lz fun _ _ => rfl) (each_refs lz rd) (by rw [enc]; exact hal) (by rw [enc]; exact hk) (by rw [List.length_zip]; omega) (fun b _ => ?_) fun out hol er => ?_))
  · have : (PyData.tuple (b.2.map .int)).depth = 1 := by
      show PyData.depthAll _ + 1 = 1
      rw [PySem.W.depth_ints]
    have e2 : X.A.in1.units = X.A.units + 1 := rfl
    rw [this]
    omega
  · obtain ⟨e', he'⟩ := PyProof.Rows.sortedHeap_at (vs := as.map Value.ref) (out := out.toArray) hoL
    have hlen : (((as.zip kks).mergeSort (dataLe false fun b => PyData.tuple (b.2.map .int))).map fun b => V.ref b.1).length ≤ sizeLine := by
      rw [List.length_map, List.length_mergeSort, List.length_zip]
      omega
    refine wpAny_pure ⟨_, rfl, .ref h'.objs.size, upd H h'.objs.size (.lst (((as.zip kks).mergeSort (dataLe false fun b => PyData.tuple (b.2.map .int))).map fun b => V.ref b.1)), I1.laid (t' := tk) (fun b u e => ?_) (Nat.le_refl _)
      (show ObjOk X.prog X.w _ _ _ (.lst _) from ⟨hlen, out, e', vals_refs2 er, he'⟩), rfl, q _ _ (I1.hok.fresh (Nat.le_refl _)) (fun b hb => mz b ((List.mergeSort_perm _ _).mem_iff.mp hb)) ?_⟩
    · have hb : b < h'.objs.size := Heap.lt_size e
      rw [PyProof.Rows.sortedHeap_old (Nat.ne_of_lt hb) (by rw [size_push']; exact Nat.lt_succ_of_lt hb)]
      exact Heap.get?_push_of_some _ e
    · have t := sort_maps (r := dataLe false fun b : Addr × List Int => PyData.tuple (b.2.map .int)) (s := dataLe false fun k : List Int => PyData.tuple (k.map .int)) Prod.snd (l := as.zip kks) fun _ _ _ _ => rfl
      rw [em] at t
      exact t
section
variable {K : PySem.W.Frag} {ρ : List Sl} {ta : TE} {G : Hp}
theorem reps_sorted {H T : Hp} (hs : ∀ b vs, H b = some (.tup vs) → T b = some (.tup vs)) : ∀ {bs : List (Addr × List Int)}, (∀ b, b ∈ bs → H b.1 = some (.tup (b.2.map V.int))) → Reps K T (bs.map fun b => V.ref b.1) ((bs.map Prod.snd).map tupK)
  | [], _ => All2.nil
  | b :: bs, h => All2.cons (Rep.of_tup (xs := b.2.map V.int) (st_of (hs _ _ (h b List.mem_cons_self))) (reps_ints b.2)) (reps_sorted hs fun c hc => h c (List.mem_cons_of_mem _ hc))
theorem eo_sortT {ks : List (List Int)} {ds : List D} (ha : ED K ta ρ (.dct (ks.map intK) ds)) (hal : AllAlike (ks.map fun k => PyData.tuple (k.map .int))) (hk : Sortable (ks.map fun k => PyData.tuple (k.map .int))) : EO K (tCB rSortT (tCons ta tNil)) ρ (.lst ((sortKs ks).map tupK)) := fun H0 S G ow σ H g Q q => ha H0 S G ow σ H g _ fun v H1 e1 r1 => by
  obtain ⟨a, kvs, rfl, hd, hkk, _⟩ := r1.dct_inv
  refine ⟨a, kvs, ks, rfl, ?_, hkk, hal, hk, fun p bs hp hb e => ?_⟩
  · rcases hd with z | ⟨o, z⟩
    · exact .inl (hid_sub _ _ z)
    · exact .inr ⟨o, hid_sub _ _ z⟩
  · rw [← e] at q
    exact q p _ (fresh_back e1 hp) (e1.trans (Ex.new hp)) (by rw [upd_same]; exact fun z => nomatch z) (eo_of_new hp ((g.ext e1).fresh hp) (reps_sorted (fun b vs h => (g.ext e1).sees h) hb))
end
end BV
namespace BV
end BV
namespace BV
open PySem.W
end BV
namespace BV
open PySem.W
end BV
namespace BV
open PySem.W
end BV
end
section
open PySem PySem.Spec PyProof.Rows L2 Evl
namespace BV
end BV
namespace BV
end BV
namespace BV
section
variable {K : PySem.W.Frag} {ρ : List Sl} {ta : TE} {ds : List D}
/-- list(a tuple) -/
theorem eo_listTp (ha : ED K ta ρ (.tup ds)) : EO K (tCB (rListS K) (tCons ta tNil)) ρ (.lst ds) := fun H0 S G ow σ H g Q q => ha H0 S G ow σ H g _ fun v H1 e1 r1 => by
  obtain ⟨p, xs, rfl, hs, ra⟩ := r1.tup_inv
  exact ⟨p, xs, rfl, Or.inr (ex_t hid_sub hs), fun l hl => q l _ (fresh_back e1 hl) (e1.trans (Ex.new hl)) (by rw [upd_same]; exact fun z => nomatch z) (eo_of_new hl ((g.ext e1).fresh hl) ra)⟩
end
end BV
namespace BV
end BV
namespace BV
end BV
namespace L2
open PySem PySem.Spec PyProof.Rows
end L2
namespace BV
section
variable {K : PySem.W.Frag} {ρ : List Sl} {tx : TA} {C : Addr} {ns : List Str} {ts : TS}
theorem good_new {self dx : Addr} {H1 : Hp} {us : List V} {as : List (Bool × D)} {T : Addr → Prop} {N : List Str} (hs : H1 self = none) (hd : H1 dx = none) (hT : ∀ b, T b → Nb (H1 b)) (ha : Args K (hid T H1) H1 us as) (hNx : as.length + 1 ≤ N.length) :
    Good K H1 T (fun _ => none) (pt (fun _ => none) 0 self) (L2.start N (.ref self :: us)) (upd (upd H1 dx (.own self)) self (.ins C dx [])) (.own (.ins self C [] []) :: slots as ++ List.replicate (N.length - (as.length + 1)) .no) := by
  have e1 : Ex H1 (upd (upd H1 dx (.own self)) self (.ins C dx [])) := fun b o z => by
    rw [upd_ne (ne_of_none z hs), upd_ne (ne_of_none z hd)]
    exact z
  have hh : ∀ b, Hid T (pt (fun _ => none) 0 self) b ↔ (T b ∨ b = self) := fun b => by
    constructor
    · rintro (z | ⟨i, z⟩)
      · exact .inl z
      · unfold pt at z
        split at z
        · cases z; exact .inr rfl
        · cases z
    · rintro (z | z)
      · exact .inl z
      · exact .inr ⟨0, by rw [z]; rfl⟩
  have em : Ex (hid T H1) (hid (Hid T (pt (fun _ => none) 0 self)) (upd (upd H1 dx (.own self)) self (.ins C dx []))) := fun b o z => by
    obtain ⟨z1, z2⟩ := hid_some z
    rw [hid_no fun w => ((hh b).1 w).elim z1 (ne_of_none z2 hs)]
    exact e1 b o z2
  have pe : ∀ {i p}, pt (fun _ => none) 0 self i = some p → i = 0 ∧ p = self := fun {i p} z => by
    unfold pt at z
    split at z
    · cases z; exact ⟨by assumption, rfl⟩
    · cases z
  have ul := ha.1
  refine { len := ?_, ex := e1, sd := hT, new := fun i p z => by rw [(pe z).2]; exact hs, on := fun i p z => by rw [(pe z).2, upd_same]; exact fun w => (nomatch w), inj := fun i j p a b => by rw [(pe a).1, (pe b).1], kb := fun b o z => (nomatch z), fin := ⟨1, fun i hi => ?_⟩, at_ := fun i sl z => ?_ }
  · unfold L2.start
    simp only [List.length_append, List.length_map, List.length_replicate, List.length_cons, slots_len]
    omega
  · unfold pt
    rw [if_neg (by omega)]
  · cases i with
    | zero =>
      have e : sl = .own (.ins self C [] []) := (Option.some.inj z).symm
      subst e
      exact ⟨self, rfl, rfl, rfl, dx, [], upd_same, rfl, All2.nil⟩
    | succ i =>
      have z' : (slots as ++ List.replicate (N.length - (as.length + 1)) Sl.no)[i]? = some sl := z
      by_cases hi : i < as.length
      · rw [List.getElem?_append_left (by rw [slots_len]; exact hi)] at z'
        obtain ⟨v, h1, h2⟩ := slots_at ha z'
        have es : (L2.start N (.ref self :: us))[i + 1]? = some (some v) := by
          unfold L2.start
          rw [List.map_cons, List.cons_append, List.getElem?_cons_succ, List.getElem?_append_left (by rw [List.length_map, ul]; exact hi), List.getElem?_map, h1]
          rfl
        cases sl with
        | no => trivial
        | pr _ _ => trivial
        | sh d => exact ⟨v, es, Rep.mono h2 em⟩
        | rd d => exact ⟨v, es, h2⟩
        | own m => exact h2.elim
        | ph _ => exact h2.elim
      · rw [List.getElem?_append_right (by rw [slots_len]; omega), List.getElem?_replicate] at z'
        split at z'
        · cases z'; trivial
        · cases z'
variable {P : Program} {w : World} {mg : Str → Option Value} {base : Heap}
end
end BV
namespace BV
section
variable {K : PySem.W.Frag} {ρ : List Sl} {ta : TE} {ts : List TE} {y : Str} {ys : List Str} {i : Int}
theorem ed_fmtI (ha : ED K ta ρ (.int i)) (hl : i.natAbs.log2 < 1920) : ED K (tFmt ta) ρ (.str (toString i)) := fun H0 S G ow σ H g Q q =>
  ha H0 S G ow σ H g _ fun v H1 e1 r1 => .inr ⟨i, r1.int_inv, hl, q _ H1 e1 (.str _)⟩
/-- an f-string's parts -/
def JSJ (K : PySem.W.Frag) (ts : List TE) (ρ : List Sl) (ys : List Str) : Prop := ∀ (acc : Str) H0 S G ow σ H, Good K H0 S G ow σ H ρ → ∀ Q : Str → Hp → Prop, acc.length + (ys.map (·.length)).sum ≤ 100000 → (∀ H1, Ex H H1 → Q (ys.foldl (· ++ ·) acc) H1) → tJs ts acc σ H Q
theorem js_nil : JSJ K [] ρ [] := fun acc H0 S G ow σ H g Q _ q => q H (Ex.refl _)
theorem js_cons (ha : ED K ta ρ (.str y)) (h : JSJ K ts ρ ys) : JSJ K (ta :: ts) ρ (y :: ys) := fun acc H0 S G ow σ H g Q hl q => ha H0 S G ow σ H g _ fun v H1 e1 r1 => by
  have ez : ∀ a b : Str, (a ++ b).length = a.length + b.length := fun a b => by simp [Str.length, Str.cps_append]
  rw [List.map_cons, List.sum_cons] at hl
  exact ⟨y, r1.str_inv, by rw [ez, sizeLine_eq]; omega, h (acc ++ y) H0 S G ow σ H1 (g.ext e1) Q (by rw [ez]; omega) fun H2 e2 => q H2 (e1.trans e2)⟩
theorem ed_jsN (h : JSJ K ts ρ ys) (hl : (ys.map (·.length)).sum ≤ 100000) : ED K (fun σ H Q => tJs ts Str.empty σ H fun out H1 => Q (.str out) H1) ρ (.str (ys.foldl (· ++ ·) Str.empty)) := fun H0 S G ow σ H g Q q =>
  h Str.empty H0 S G ow σ H g _ (by show 0 + _ ≤ _; omega) fun H1 e1 => q _ H1 e1 (.str _)
end
end BV
end
section
open PySem PySem.Spec PyProof.Rows L2 Evl
namespace BV
end BV
namespace BV
section
variable {X : Cx}
theorem key_sq {P : Program} {w : World} {σ : L2.St} {H : Hp} {s : Shared} {pins : List (Addr × Obj)} {b : Addr} {k : List Key} (I : Inv X pins σ H s) (h : SqT X.K H b (k.map kV)) : (tupleKind (mixKind X.prog X.w)).is s.heap k b := by
  obtain ⟨its, r', pl, hz⟩ := I.tuple h
  obtain ⟨o, ho, hc, n, hd⟩ := pl
  exact ⟨o, its.toArray, n, ho, hc, hd, by simpa using items_are r'⟩
end
end BV
end
section
open PySem PySem.Spec PyProof.Rows L2 Evl
namespace BV
noncomputable def offH (ps : List Addr) (H : Hp) : Hp := hid (fun b => b ∈ ps) H
theorem offH_no {ps : List Addr} {H : Hp} {b : Addr} (h : b ∉ ps) : offH ps H b = H b := hid_no h
theorem offH_yes {ps : List Addr} {H : Hp} {b : Addr} (h : b ∈ ps) : offH ps H b = none := hid_yes h
theorem offH_sub {ps : List Addr} {H : Hp} : Ex (offH ps H) H := hid_sub
section
variable {K : PySem.W.Frag} {H0 H H' G : Hp} {S : Addr → Prop} {ow : Nat → Option Addr} {σ : L2.St} {ρ : List Sl} {z : Nat} {ls rs : List (Addr × M)}
open Classical in
/-- what is lent out is there no more -/
theorem Good.out (g : Good K H0 S G ow σ H ρ) (hz : ρ[z]? = some (.ph (ls ++ rs))) :
    ∃ ow', Good K H0 S G ow' σ (offH (ls.map (·.1)) H) (ρ.set z (.ph rs)) ∧ (∀ q, q ∈ ls.map (·.1) → H0 q = none ∧ Nb (H q)) ∧ hid (Hid S ow') (offH (ls.map (·.1)) H) = hid (Hid S ow) H ∧ (ls.map (·.1)).Nodup ∧ ∀ e, e ∈ ls → MRep K (hid (Hid S ow) H) H e.1 e.2 := by
  obtain ⟨z1, z2, z3⟩ := g.at_ z _ hz
  have gl := g.len
  have lz := (List.getElem?_eq_some_iff.mp hz).1
  obtain ⟨ps, eps⟩ : ∃ ps, ps = ls.map (·.1) := ⟨_, rfl⟩
  rw [← eps]
  rw [List.map_append, ← eps, List.nodup_append] at z2
  obtain ⟨nd1, nd2, nd3⟩ := z2
  have own : ∀ q, q ∈ ps → ∃ t, ow (σ.length + 2 * t) = some q := fun q hq => by
    rw [eps] at hq
    obtain ⟨e, he, rfl⟩ := List.mem_map.mp hq
    exact (z3 e (List.mem_append_left _ he)).1
  have h0 : ∀ q, q ∈ ps → H0 q = none := fun q hq => by
    obtain ⟨t, ht⟩ := own q hq
    exact g.new _ _ ht
  let ow' : Nat → Option Addr := fun i => if (∃ p, ow i = some p ∧ p ∈ ps) then none else ow i
  have old : ∀ i p, ow' i = some p → ow i = some p ∧ p ∉ ps := fun i p h => by
    have h : (if (∃ p, ow i = some p ∧ p ∈ ps) then none else ow i) = some p := h
    split at h
    · cases h
    · rename_i w
      exact ⟨h, fun w2 => w ⟨p, h, w2⟩⟩
  have back : ∀ i p, ow i = some p → p ∉ ps → ow' i = some p := fun i p h n => by
    show (if (∃ p, ow i = some p ∧ p ∈ ps) then none else ow i) = some p
    rw [if_neg fun ⟨u, hu, w⟩ => by rw [h] at hu; cases hu; exact n w]
    exact h
  have hh : ∀ b, Hid S ow b ↔ (Hid S ow' b ∨ b ∈ ps) := fun b => by
    constructor
    · rintro (w | ⟨i, w⟩)
      · exact .inl (.inl w)
      · by_cases q : b ∈ ps
        · exact .inr q
        · exact .inl (.inr ⟨i, back i b w q⟩)
    · rintro ((w | ⟨i, w⟩) | w)
      · exact .inl w
      · exact .inr ⟨i, (old i b w).1⟩
      · obtain ⟨t, ht⟩ := own b w
        exact .inr ⟨_, ht⟩
  have heq : hid (Hid S ow') (offH ps H) = hid (Hid S ow) H := funext fun b => by
    by_cases q : Hid S ow b
    · rw [hid_yes q]
      by_cases q1 : Hid S ow' b
      · rw [hid_yes q1]
      · rw [hid_no q1]
        exact offH_yes (((hh b).1 q).resolve_left q1)
    · rw [hid_no q, hid_no fun w => q ((hh b).2 (.inl w))]
      exact offH_no fun w => q ((hh b).2 (.inr w))
  have ee : Ex (hid (Hid S ow) H) (hid (Hid S ow') (offH ps H)) := by rw [heq]; exact Ex.refl _
  have keep : ∀ p, p ∉ ps → ∀ o, H p = some o → offH ps H p = some o := fun p hp o h => by rw [offH_no hp]; exact h
  refine ⟨ow', { len := by rw [List.length_set]; exact gl, ex := fun b o w => ?_, sd := g.sd, new := fun i p h => g.new i p (old i p h).1, on := fun i p h => ?_, inj := fun i j p h1 h2 => g.inj i j p (old i p h1).1 (old j p h2).1, kb := by rw [heq]; exact g.kb, fin := ?_, at_ := fun i sl hs => ?_ }, fun q hq => ⟨h0 q hq, ?_⟩, heq, nd1, fun e he => (z3 e (List.mem_append_left _ he)).2⟩
  · have nb : b ∉ ps := fun m => by rw [h0 b m] at w; cases w
    rw [offH_no nb]
    exact g.ex b o w
  · rw [offH_no (old i p h).2]
    exact g.on i p (old i p h).1
  · obtain ⟨n, hn⟩ := g.fin
    refine ⟨n, fun i hi => ?_⟩
    show (if (∃ p, ow i = some p ∧ p ∈ ps) then none else ow i) = none
    rw [hn i hi]
    split <;> rfl
  · by_cases q : z = i
    · subst q
      rw [List.getElem?_set_self lz] at hs
      cases hs
      refine ⟨z1, nd2, fun e he => ?_⟩
      obtain ⟨⟨t, ht⟩, r⟩ := z3 e (List.mem_append_right _ he)
      have ne : e.1 ∉ ps := fun w => nd3 _ w _ (List.mem_map.mpr ⟨e, he, rfl⟩) rfl
      exact ⟨⟨t, back _ _ ht ne⟩, r.mono ee (keep _ ne)⟩
    · rw [List.getElem?_set_ne q] at hs
      have w := g.at_ i sl hs
      have il : i < σ.length := by rw [gl]; exact (List.getElem?_eq_some_iff.mp hs).1
      cases sl with
      | no => trivial
      | sh d =>
        obtain ⟨v, a, r⟩ := w
        exact ⟨v, a, r.mono ee⟩
      | rd d => exact w
      | own m =>
        obtain ⟨p, a, b, r⟩ := w
        have ne : p ∉ ps := fun w => by
          obtain ⟨t, ht⟩ := own p w
          have := g.inj _ _ _ b ht
          omega
        exact ⟨p, a, back i p b ne, r.mono ee (keep p ne)⟩
      | pr _ _ => trivial
      | ph qs =>
        obtain ⟨a, _⟩ := w
        omega
  · obtain ⟨t, ht⟩ := own q hq
    exact g.on _ _ ht
end
/-- what was told, and these things as they are now -/
def RPhB (K : PySem.W.Frag) (qs : List Addr) (d : D) (ms : List M) : Hp → (Addr → Prop) → V → Hp → Prop := fun H0 S v H' => qs.length = ms.length ∧ qs.Nodup ∧ (∀ q, q ∈ qs → H0 q = none ∧ Nb (H' q)) ∧ Ex H0 H' ∧
  Rep K (hid (fun b => S b ∨ b ∈ qs) H') v d ∧ All2 (fun q m => MRep K (hid (fun b => S b ∨ b ∈ qs) H') H' q m) qs ms
def RMt {β : Type} (K : PySem.W.Frag) (R : β → Prop) (ps : List Addr) (nn : β → Nat) (dd : β → List Addr → D) (mm : β → List Addr → List M) : Hp → (Addr → Prop) → V → Hp → Prop := fun H0 S v H' =>
  ∃ (y : β) (new : List Addr), R y ∧ new.length = nn y ∧ RPhB K (new ++ ps) (dd y (new ++ ps)) (mm y (new ++ ps)) H0 S v H'
/-- a call that is handed things at ps, may change them, and tells with new ones -/
def spMt {α β : Type} (K : PySem.W.Frag) (pre : α → Prop) (args : α → List Addr → List (Bool × D)) (ms : α → List Addr → List M) (R : α → β → Prop) (nn : β → Nat) (dd : β → List Addr → D) (mm : β → List Addr → List M) : Sp := fun vs H Q _ =>
  ∃ x, pre x ∧ ∃ ps : List Addr, ps.length = (ms x ps).length ∧ ps.Nodup ∧ ∃ T : Addr → Prop, (∀ b, T b → Nb (offH ps H b)) ∧ (∀ q, q ∈ ps → Nb (H q)) ∧ Args K (hid T (offH ps H)) (offH ps H) vs (args x ps) ∧ All2 (fun q m => MRep K (hid T (offH ps H)) H q m) ps (ms x ps) ∧
    ∀ v H', RMt K (R x) ps nn dd mm (offH ps H) T v H' → Q v H'
/-- an expression that changes what is there -/
def EM (K : PySem.W.Frag) (te : TE) (ρ : List Sl) (P : List Sl → D → Prop) : Prop := ∀ H0 S G ow σ H, Good K H0 S G ow σ H ρ → ∀ Q : VK, (∀ v H' ow' ρ' d, P ρ' d → Good K H0 S G ow' σ H' ρ' → Ex (hid (Hid S ow) H) (hid (Hid S ow') H') → Rep K (hid (Hid S ow') H') v d → Q v H') → te σ H Q
section
variable {P : Program} {w : World} {mg : Str → Option Value} {base : Heap} {K : PySem.W.Frag} {ρ : List Sl} {te : TE} {z : Nat} {es : List (Addr × M)} {Z : Zs}
/-- return e, where things were handed in -/
theorem sd_retM {β : Type} {R : β → Prop} {ps : List Addr} {nn : β → Nat} {dd : β → List Addr → D} {mm : β → List Addr → List M} {d : D} {new : List Addr} (y : β) (hy : R y) (h : ED K te ρ d) (hz : ρ[z]? = some (.ph es)) (e1 : es.map (·.1) = new ++ ps) (hn : new.length = nn y) (ed : d = dd y (new ++ ps)) (e2 : es.map (·.2) = mm y (new ++ ps))
    (k : ∀ H0 S v H', RMt K R ps nn dd mm H0 S v H' → Z.rt H0 S v H') : SD K (tRet te) ρ Z := fun H0 S G ow σ H E g _ _ _ hr => h H0 S G ow σ H g _ fun v H' e r => hr.1 v H' (k H0 S v H' (by
  have g' := g.ext e
  obtain ⟨z1, z2, z3⟩ := g'.at_ z _ hz
  have len : (new ++ ps).length = (mm y (new ++ ps)).length := (congrArg List.length e1).symm.trans (by rw [List.length_map, ← e2, List.length_map])
  have less : Ex (hid (Hid S ow) H') (hid (fun b => S b ∨ b ∈ new ++ ps) H') := hid_less fun b w => by
    rcases w with w | w
    · exact .inl w
    · rw [← e1] at w
      obtain ⟨c, hc, rfl⟩ := List.mem_map.mp w
      obtain ⟨t, ht⟩ := (z3 c hc).1
      exact .inr ⟨_, ht⟩
  refine ⟨y, new, hy, hn, len, by rw [← e1]; exact z2, fun q hq => ?_, g'.ex, by rw [← ed]; exact r.mono less, len, fun i q m a b => ?_⟩
  · rw [← e1] at hq
    obtain ⟨c, hc, rfl⟩ := List.mem_map.mp hq
    obtain ⟨t, ht⟩ := (z3 c hc).1
    exact ⟨g'.new _ _ ht, g'.on _ _ ht⟩
  · rw [← e1, List.getElem?_map] at a
    rw [← e2, List.getElem?_map] at b
    obtain ⟨c, hc, rfl⟩ := Option.map_eq_some_iff.mp a
    obtain ⟨c2, hc2, rfl⟩ := Option.map_eq_some_iff.mp b
    rw [hc] at hc2
    cases hc2
    exact (z3 c (List.mem_of_getElem? hc)).2.mono less fun _ z => z))
end
end BV
namespace BV
section
variable {X : Cx} {o i : Expr} {td ty : TE} {pos : Pos}
/-- d[y], y a tuple that was told -/
def tDGetT (K : PySem.W.Frag) (td ty : TE) : TE := fun σ H Q => td σ H fun x H1 => ty σ H1 fun y H2 => ∃ a b kvs k v, x = .ref a ∧ y = .ref b ∧ Rd H2 a (.dT kvs) ∧ SqT K H2 b (k.map kV) ∧ valV kvs k = some v ∧ Q v H2
theorem pe_dgetT (hu : X.A.units + 1 < cLine) (ho : PE X o td) (hi : PE X i ty) (hs : NoSl i) : PE X (.Subscript o i pos) (tDGetT X.K td ty) := by
  refine ⟨fun pins s σ H Q I h => ?_⟩
  refine subD_of PySem.F.slot_dict_getitem.lookup hs (thn (ho.run pins s σ H _ I h) fun ov s1 ⟨x, H1, I1, rx, q1⟩ => thn (hi.run pins s1 σ H1 _ I1 q1) fun iv s2 ⟨y, H2, I2, ry, a, b, kvs, k, v, ex, ey, e, eb, l, q⟩ => ?_)
  subst ex ey
  obtain rfl : ov = Value.ref a := rx
  obtain rfl : iv = Value.ref b := ry
  obtain ⟨z, hd, xs, rel, dd⟩ := dt_rd I2.hok e
  obtain ⟨w', hw, rw'⟩ := RelO.some_of (v := v) (o := (atKey xs k).map (·.2)) (by rw [← l]; exact rel.val k)
  obtain ⟨p, hp, hp2⟩ := Option.map_eq_some_iff.mp hw
  refine ⟨?_, wpAny_getItem_heap (tupleKind_room_in1 hu) (key_sq (P := X.prog) (w := X.w) I2 eb) dd hp ?_⟩
  · exact dd.typeIs
  · rw [hp2]
    exact ⟨v, H2, I2.tok _, rw', q⟩
end
end BV
namespace BV
end BV
namespace BV
section
variable {K : PySem.W.Frag} {ρ : List Sl} {te ta tb : TE} {d : D} {ds : List D} {z l n : Nat} {q : Addr} {qs : List (Addr × M)} {P P1 : List Sl → D → Prop} {Z : Zs} {tu tw : TS} {tb2 : TS}
theorem em_ed (h : ED K te ρ d) (k : P ρ d) : EM K te ρ P := fun H0 S G ow σ H g Q qq => h H0 S G ow σ H g _ fun v H' e r => qq v H' ow ρ d k (g.ext e) (hid_ext e) r
end
end BV
end
section
open PySem PySem.Spec PyProof.Rows L2 Evl
namespace BV
/-- arguments that change what is there -/
def EMA (K : PySem.W.Frag) (tx : TA) (ρ : List Sl) (P : List Sl → List D → Prop) : Prop := ∀ H0 S G ow σ H, Good K H0 S G ow σ H ρ → ∀ Q : List V → Hp → Prop, (∀ vs H' ow' ρ' ds, P ρ' ds → Good K H0 S G ow' σ H' ρ' → Ex (hid (Hid S ow) H) (hid (Hid S ow') H') → Reps K (hid (Hid S ow') H') vs ds → Q vs H') → tx σ H Q
/-- a test that changes what is there -/
def EMT (K : PySem.W.Frag) (tt : TT) (ρ : List Sl) (P : List Sl → Bool → Prop) : Prop := ∀ H0 S G ow σ H, Good K H0 S G ow σ H ρ → ∀ Q : Bool → Hp → Prop, (∀ b H' ow' ρ', P ρ' b → Good K H0 S G ow' σ H' ρ' → Ex (hid (Hid S ow) H) (hid (Hid S ow') H') → Q b H') → tt σ H Q
/-- an operation that only reads -/
def OpOk (K : PySem.W.Frag) (r : R2) (x y d : D) : Prop := ∀ (T : Addr → Prop) (H : Hp) (v u : V), Rep K (hid T H) v x → Rep K (hid T H) u y → ∀ Q : VK, (∀ z, Rep K (hid T H) z d → Q z H) → r v u H Q
section
variable {K : PySem.W.Frag} {ρ : List Sl} {te ta tb tc : TE} {tx : TA} {tt uu : TT} {r : R2} {d x y : D} {ds : List D} {z n l : Nat} {q : Addr} {qs es : List (Addr × M)} {P : List Sl → D → Prop} {PA : List Sl → List D → Prop} {PT : List Sl → Bool → Prop} {Z : Zs} {tu tw : TS} {m : M} {i j : Int}
theorem em_op (h : EM K ta ρ fun r1 x => EM K tb r1 fun r2 y => ∃ d, OpOk K r x y d ∧ P r2 d) : EM K (tOp r ta tb) ρ P := fun H0 S G ow σ H g Q qq =>
  h H0 S G ow σ H g _ fun v H1 ow1 ρ1 x hp g1 e1 r1 => hp H0 S G ow1 σ H1 g1 _ fun u H2 ow2 ρ2 y ⟨d, ok, p2⟩ g2 e2 r2 =>
    ok _ H2 v u (r1.mono e2) r2 _ fun z rz => qq z H2 ow2 ρ2 d p2 g2 (e1.trans e2) rz
theorem ema_nil (k : PA ρ []) : EMA K tNil ρ PA := fun H0 S G ow σ H g Q qq => qq [] H ow ρ [] k g (Ex.refl _) All2.nil
theorem ema_cons (h : EM K te ρ fun r1 d => EMA K tx r1 fun r2 ds => PA r2 (d :: ds)) : EMA K (tCons te tx) ρ PA := fun H0 S G ow σ H g Q qq =>
  h H0 S G ow σ H g _ fun v H1 ow1 ρ1 d hp g1 e1 r1 => hp H0 S G ow1 σ H1 g1 _ fun vs H2 ow2 ρ2 ds p2 g2 e2 r2 => qq _ H2 ow2 ρ2 _ p2 g2 (e1.trans e2) (All2.cons (r1.mono e2) r2)
theorem ema_eb (h : EB K tx ρ ds) (k : PA ρ ds) : EMA K tx ρ PA := fun H0 S G ow σ H g Q qq => h H0 S G ow σ H g _ fun vs H1 e r => qq vs H1 ow ρ ds k (g.ext e) (hid_ext e) r
theorem em_tup (h : EMA K tx ρ fun r1 ds => ds.length ≤ 100000 ∧ P r1 (.tup ds)) : EM K (tTup tx) ρ P := fun H0 S G ow σ H g Q qq =>
  h H0 S G ow σ H g _ fun vs H1 ow1 ρ1 ds ⟨hl, p1⟩ g1 e1 r1 => ⟨sz_of (by rw [r1.1]; exact hl), fun p hp => by
    refine qq _ _ ow1 ρ1 _ p1 (g1.ext (Ex.new hp)) (e1.trans (hid_ext (Ex.new hp))) (.of_tup (st_of ?_) (r1.mono (hid_ext (Ex.new hp))))
    rw [hid_no (g1.fresh hp)]
    exact upd_same⟩
/-- a new list, kept by the nameless slot -/
theorem em_eo (h : EO K te ρ m) (hz : ρ[z]? = some (.ph es)) (k : ∀ q, q ∉ es.map (·.1) → P (ρ.set z (.ph ((q, m) :: es))) (.at q)) : EM K te ρ P := fun H0 S G ow σ H g Q qq =>
  h H0 S G ow σ H g _ fun p H1 hp e nn r => by
    have eS : (fun b => Hid S ow b ∨ b = p) = fun b => Hid S ow b ∨ b ∈ [p] := funext fun b => by rw [List.mem_singleton]
    rw [eS] at r
    obtain ⟨ow', g', hh, hne⟩ := g.adopt hz e (ps := [p]) (ms := [m]) (List.nodup_cons.mpr ⟨fun z => by simp at z, List.nodup_nil⟩) (fun q hq => by rw [List.mem_singleton.mp hq]; exact ⟨hp, nn⟩) rfl (All2.cons r All2.nil)
    refine qq _ H1 ow' _ _ (k p (hne p List.mem_cons_self)) g' (fun b o w => ?_) (.at p)
    obtain ⟨w1, w2⟩ := hid_some w
    rw [hid_no fun w => ((hh b).1 w).elim w1 fun w => by rw [List.mem_singleton.mp w, hp] at w2; cases w2]
    exact e b o w2
theorem args_sh {H T : Hp} {vs : List V} (r : Reps K T vs ds) : Args K T H vs (ds.map fun d => (true, d)) := by
  refine ⟨by rw [List.length_map]; exact r.1, fun i v a h1 h2 => ?_⟩
  rw [List.getElem?_map] at h2
  obtain ⟨d, hd, rfl⟩ := Option.map_eq_some_iff.mp h2
  unfold Arg
  rw [if_pos rfl]
  exact r.2 i v d h1 hd
theorem em_callE {α : Type} {pre : α → Prop} {args : α → List (Bool × D)} {R : α → D → Prop} {E : XK} (h : EMA K tx ρ fun r1 ds => ∃ x, pre x ∧ args x = ds.map (fun d => (true, d)) ∧ ∀ d, R x d → P r1 d) : EM K (tCall (spE K pre args R) [] E tx) ρ P := fun H0 S G ow σ H g Q qq =>
  h H0 S G ow σ H g _ fun us H1 ow1 ρ1 ds ⟨x, hp, ea, p1⟩ g1 e1 r1 => by
    rw [List.append_nil]
    exact ⟨x, hp, Hid S ow1, g1.there, by rw [ea]; exact args_sh r1, fun d v H' hd e' r' => qq v H' ow1 ρ1 _ (p1 d hd) (g1.ext e') (e1.trans (hid_ext e')) r'⟩
/-- a call that may change what it is handed -/
theorem em_callM {α β : Type} {pre : α → Prop} {args : α → List Addr → List (Bool × D)} {ms : α → List Addr → List M} {R : α → β → Prop} {nn : β → Nat} {dd : β → List Addr → D} {mm : β → List Addr → List M} {E : XK}
    (h : EMA K tx ρ fun r1 ds => ∃ x ls rs, pre x ∧ r1[z]? = some (.ph (ls ++ rs)) ∧ ls.map (·.2) = ms x (ls.map (·.1)) ∧ args x (ls.map (·.1)) = ds.map (fun d => (true, d)) ∧
      ∀ y new, R x y → new.length = nn y → P (r1.set z (.ph ((new ++ ls.map (·.1)).zip (mm y (new ++ ls.map (·.1))) ++ rs))) (dd y (new ++ ls.map (·.1)))) : EM K (tCall (spMt K pre args ms R nn dd mm) [] E tx) ρ P := fun H0 S G ow σ H g Q qq =>
  h H0 S G ow σ H g _ fun us H1 ow1 ρ1 ds ⟨x, ls, rs, hp, hz, hm, ea, k⟩ g1 e1 r1 => by
    rw [List.append_nil]
    obtain ⟨ow', g', hq, heq, nd, hr⟩ := g1.out hz
    have lz := (List.getElem?_eq_some_iff.mp hz).1
    refine ⟨x, hp, ls.map (·.1), by rw [← hm, List.length_map, List.length_map], nd, Hid S ow', g'.there, fun q h => (hq q h).2, ?_, ?_, fun v H' ⟨y, new, hy, hn, a2, a3, a4, a5, a6, a7⟩ => ?_⟩
    · rw [heq, ea]
      exact args_sh r1
    · rw [heq, ← hm]
      refine ⟨by rw [List.length_map, List.length_map], fun i q m h1 h2 => ?_⟩
      rw [List.getElem?_map] at h1 h2
      obtain ⟨c1, he, rfl⟩ := Option.map_eq_some_iff.mp h1
      obtain ⟨c2, he2, rfl⟩ := Option.map_eq_some_iff.mp h2
      rw [he] at he2
      cases he2
      exact hr _ (List.mem_of_getElem? he)
    · obtain ⟨ow2, g2, hh2, _⟩ := g'.adopt (List.getElem?_set_self lz) a5 a3 a4 a2 a7
      rw [List.set_set] at g2
      refine qq v H' ow2 _ _ (k y new hy hn) g2 (fun b o w => ?_) (a6.mono (hid_less fun b w => (hh2 b).1 w))
      have w1 := e1 b o w
      rw [← heq] at w1
      obtain ⟨w2, w3⟩ := hid_some w1
      rw [hid_no fun w => ((hh2 b).1 w).elim w2 fun w => by rw [(a4 b w).1] at w3; cases w3]
      exact a5 b o w3
theorem emt_test (h : EM K te ρ fun r1 d => ∃ b, d = .bl b ∧ PT r1 b) : EMT K (tTest te) ρ PT := fun H0 S G ow σ H g Q qq => h H0 S G ow σ H g _ fun v H1 ow1 ρ1 d ⟨b, hb, p1⟩ g1 e1 r1 => by
  subst hb
  exact ⟨b, r1.bl_inv, qq b H1 ow1 ρ1 p1 g1 e1⟩
theorem sd_asgW (h : EM K te ρ fun r1 d => Z.nx (r1.set n (.sh d))) : SD K (tAsg te (gName n)) ρ Z := fun H0 S G ow σ H E g hn _ _ _ =>
  h H0 S G ow σ H g _ fun v H' ow' ρ' d hp g' _ r => hn _ _ _ _ hp (g'.putSh n r)
theorem sd_dropW (h : EM K te ρ fun r1 _ => Z.nx r1) : SD K (tDrop te) ρ Z := fun H0 S G ow σ H E g hn _ _ _ =>
  h H0 S G ow σ H g _ fun v H' ow' ρ' d hp g' _ r => hn ρ' _ _ _ hp g'
theorem sd_ifW (h : EMT K tt ρ fun r1 b => (b = true → SD K tu r1 Z) ∧ (b = false → SD K tw r1 Z)) : SD K (tIfS tt tu tw) ρ Z := fun H0 S G ow σ H E g hn hb hc hr =>
  h H0 S G ow σ H g _ fun b H' ow' ρ' ⟨k1, k2⟩ g' _ => by
    cases b with
    | true => rw [if_pos rfl]; exact k1 rfl H0 S G ow' σ H' E g' hn hb hc hr
    | false => rw [if_neg (by decide)]; exact k2 rfl H0 S G ow' σ H' E g' hn hb hc hr
theorem sd_retW (h : EM K te ρ fun _ d => ∀ H0 S v H', RSh K d H0 S v H' → Z.rt H0 S v H') : SD K (tRet te) ρ Z := fun H0 S G ow σ H E g _ _ _ hr =>
  h H0 S G ow σ H g _ fun v H' ow' ρ' d hp g' _ r => hr.1 v H' (hp H0 S v H' ⟨g'.ex, rep_out r⟩)
end
end BV
end
section
open PySem PySem.Spec PyProof.Rows L2 Evl
namespace BV
end BV
namespace BV
end BV
namespace BV
section
variable {K : PySem.W.Frag} {ρ : List Sl} {te : TE} {tx : TA} {ds : List D} {n : Nat} {i j c : Int}
theorem All2.reverse {α β : Type} {R : α → β → Prop} {xs : List α} {ys : List β} (h : All2 R xs ys) : All2 R xs.reverse ys.reverse := ⟨by rw [List.length_reverse, List.length_reverse]; exact h.1, fun i u v a b => by
  have l1 : i < xs.length := by have := (List.getElem?_eq_some_iff.mp a).1; rw [List.length_reverse] at this; exact this
  have l2 : i < ys.length := by rw [← h.1]; exact l1
  rw [List.getElem?_reverse l1] at a
  rw [List.getElem?_reverse l2] at b
  exact h.2 _ _ _ a (by rw [h.1]; exact b)⟩
end
end BV
namespace BV
end BV
namespace BV
end BV
namespace BV
end BV
namespace BV
end BV
end
section
open PySem PySem.Spec PyProof.Rows L2 Evl
namespace BV
end BV
namespace BV
section
variable {K : PySem.W.Frag} {H0 H G : Hp} {S : Addr → Prop} {ow : Nat → Option Addr} {σ : L2.St} {ρ : List Sl} {i n : Nat} {ks : List (List Key)} {ds : List D} {ts : TS} {Z : Zs} {tt uu : TT} {te : TE} {PT : List Sl → Bool → Prop}
theorem Good.shareD (g : Good K H0 S G ow σ H ρ) (hi : ρ[i]? = some (.own (.dct ks ds))) : Good K H0 S G (clr ow i) σ H (ρ.set i (.sh (.dct ks ds))) := by
  obtain ⟨p, a, b, kvs, c, e, r⟩ := g.at_ i _ hi
  have hlt := (List.getElem?_eq_some_iff.mp hi).1
  have np : ¬ Hid S (clr ow i) p := fun z => by
    rcases z with z | ⟨j, z⟩
    · exact (g.sd p z).ne (g.new i p b)
    · obtain ⟨z1, z2⟩ := clr_some z
      exact z1 (g.inj j i p z2 b)
  have less := hid_less (H := H) fun (b : Addr) (z : Hid S (clr ow i) b) => Hid_clr z
  have q := g.put i (some (V.ref p)) (.sh (.dct ks ds)) (.inl ⟨.ref p, List.getElem?_set_self (by rw [g.len]; exact hlt), .dct (.inl (by rw [hid_no np]; exact c)) e r.1 fun i v d h1 h2 => (r.2 i v d h1 h2).mono less⟩)
  have es : σ.set i (some (V.ref p)) = σ := by
    have hs : i < σ.length := by rw [g.len]; exact hlt
    rw [List.getElem?_eq_getElem hs] at a
    rw [← Option.some.inj a]
    exact List.set_getElem_self hs
  rw [es, clrL_lt hlt] at q
  exact q
theorem sd_shareD (h : ρ[n]? = some (.own (.dct ks ds))) (k : SD K ts (ρ.set n (.sh (.dct ks ds))) Z) : SD K ts ρ Z := fun H0 S G ow σ H E g hn hb hc hr => k H0 S G _ σ H E (g.shareD h) hn hb hc hr
end
end BV
namespace BV
end BV
end
section
open PySem PySem.Spec PyProof.Rows L2 Evl
namespace BV
end BV
namespace BV
end BV
namespace BV
end BV
namespace BV
end BV
end
section
set_option maxHeartbeats 4000000
open PySem PySem.Spec PyProof.Rows L2 Evl
namespace BV
/-- set(xs) -/
def rSetL (K : PySem.W.Frag) (w : World) : List V → Hp → VK → Prop := fun vs H Q => ∃ (l : Addr) (ns : List Int), vs = [.ref l] ∧ SqL K H l (ns.map .int) ∧ ns.length ≤ 60 ∧ ∀ m p, m ≤ ns.length → H p = none → Q (.ref p) (upd H p (SetO w p (fun i => decide (i ∈ ns)) m))
end BV
end
section
open PySem PySem.Spec PyProof.Rows L2 Evl
namespace BV
end BV
namespace BV
end BV
namespace BV
end BV
namespace BV
end BV
namespace BV
end BV
namespace BV
end BV
end
section
namespace Er
abbrev Ps := List (Option Nat)
def par (P : Ps) (h : Nat) : Option Nat := P.getD h none
inductive Wy (P : Ps) (t : Nat) : Nat → List Nat → Prop
  | top : Wy P t t [t]
  | step {h q : Nat} {l : List Nat} (ht : h ≠ t) (hq : par P h = some q) (w : Wy P t q l) : Wy P t h (h :: l)
section
variable {P P' : Ps} {t h q x : Nat} {l l' : List Nat}
theorem Wy.det (w : Wy P t h l) : ∀ {l'}, Wy P t h l' → l = l' := by
  induction w with
  | top =>
    intro l' w'
    cases w' with
    | top => rfl
    | step ht _ _ => exact absurd rfl ht
  | step ht hq w ih =>
    intro l' w'
    cases w' with
    | top => exact absurd rfl ht
    | step _ hq' w' =>
      rw [hq] at hq'
      cases hq'
      rw [ih w']
theorem Wy.head (w : Wy P t h l) : h ∈ l := by cases w <;> exact List.mem_cons_self
theorem Wy.imp (w : Wy P t h l) (e : ∀ z, z ∈ l → par P' z = par P z) : Wy P' t h l := by
  induction w with
  | top => exact .top
  | step ht hq w ih => exact .step ht ((e _ List.mem_cons_self).trans hq) (ih fun z hz => e z (List.mem_cons_of_mem _ hz))
/-- what comes behind z on a way -/
theorem Wy.on (w : Wy P t h l) {z u : Nat} (hz : z ∈ l) (hp : par P z = some u) (ht : par P t = none) : u ∈ l := by
  induction w with
  | top =>
    rw [List.mem_singleton.mp hz] at hp
    rw [ht] at hp
    cases hp
  | step h1 hq w ih =>
    rcases List.mem_cons.mp hz with rfl | hz
    · rw [hq] at hp
      cases hp
      exact List.mem_cons_of_mem _ w.head
    · exact List.mem_cons_of_mem _ (ih hz)
end
/-- two ties are the same, whichever way about -/
def Same (x q z u : Nat) : Prop := (z = x ∧ u = q) ∨ (z = q ∧ u = x)
/-- two trees put together so far, in an order -/
structure Inv (hs : Prop) (tied : Nat → Nat → Prop) (n t : Nat) (ord : List Nat) (one other : Ps) : Prop where
  nd : ord.Nodup
  lt : ∀ h, h ∈ ord → h < n
  hd : ∃ r, ord = t :: r
  l1 : one.length = n
  l2 : other.length = n
  o1 : ∀ h, h ∉ ord → par one h = none
  o2 : ∀ h, h ∉ ord → par other h = none
  t1 : par one t = none
  t2 : par other t = none
  up1 : ∀ h, h ∈ ord → h ≠ t → ∃ q, par one h = some q ∧ q ∈ ord ∧ ord.idxOf q < ord.idxOf h ∧ tied h q
  up2 : ∀ h, h ∈ ord → ∃ l, Wy other t h l ∧ ∀ z, z ∈ l → z ∈ ord
  td2 : ∀ h, h ∈ ord → h ≠ t → ∃ q, par other h = some q ∧ tied h q
  pE : ∀ x q, x ∈ ord → par one x = some q → ∀ y, y ∈ ord → ord.idxOf x ≤ ord.idxOf y → ∀ l, Wy other t y l → ∀ z, z ∈ l → ∀ u, par other z = some u → ¬ Same x q z u
  pH : hs → ∀ x, x ∈ ord → x ≠ t → ∀ y, y ∈ ord → ord.idxOf x < ord.idxOf y → ∀ l, Wy other t y l → x ∉ l
/-- an ear: g 0 = s, then k new houses, then g (k + 1) -/
structure Ear (hs : Prop) (tied : Nat → Nat → Prop) (n t : Nat) (ord : List Nat) (k : Nat) (g : Nat → Nat) : Prop where
  s0 : g 0 ∈ ord
  e0 : g (k + 1) ∈ ord
  k1 : 1 ≤ k
  se : ord.idxOf (g 0) ≤ ord.idxOf (g (k + 1))
  nw : ∀ j, 1 ≤ j → j ≤ k → g j ∉ ord ∧ g j < n
  inj : ∀ i j, 1 ≤ i → i < j → j ≤ k → g i ≠ g j
  td : ∀ j, j ≤ k → tied (g j) (g (j + 1)) ∧ tied (g (j + 1)) (g j)
  one : k = 1 → g (k + 1) ≠ g 0
  hse : hs → g (k + 1) = g 0 → g 0 = t
/-- the order with new houses put in behind one -/
structure Put (ord ord' : List Nat) (k : Nat) (g : Nat → Nat) : Prop where
  nd : ord'.Nodup
  hd : ∀ t r, ord = t :: r → ∃ r', ord' = t :: r'
  mem : ∀ h, h ∈ ord' ↔ h ∈ ord ∨ ∃ j, 1 ≤ j ∧ j ≤ k ∧ h = g j
  oo : ∀ x y, x ∈ ord → y ∈ ord → (ord'.idxOf x < ord'.idxOf y ↔ ord.idxOf x < ord.idxOf y)
  on : ∀ x j, x ∈ ord → 1 ≤ j → j ≤ k → (ord'.idxOf x < ord'.idxOf (g j) ↔ ord.idxOf x ≤ ord.idxOf (g 0))
  nn : ∀ i j, 1 ≤ i → i ≤ k → 1 ≤ j → j ≤ k → (ord'.idxOf (g i) < ord'.idxOf (g j) ↔ i < j)
theorem idx_inj {l : List Nat} {a b : Nat} (ha : a ∈ l) (hb : b ∈ l) (h : l.idxOf a = l.idxOf b) : a = b := by
  have h1 := List.getElem_idxOf (List.idxOf_lt_length_of_mem ha)
  have h2 := List.getElem_idxOf (List.idxOf_lt_length_of_mem hb)
  rw [← h1, ← h2]
  congr 1
section
variable {hs : Prop} {tied : Nat → Nat → Prop} {n t k : Nat} {ord ord' : List Nat} {one other one' other' : Ps} {g : Nat → Nat}
theorem Inv.old2 (I : Inv hs tied n t ord one other) (h0 : ∀ h, (∀ j, 1 ≤ j → j ≤ k → h ≠ g j) → par other' h = par other h) (E : Ear hs tied n t ord k g) {y : Nat} (hy : y ∈ ord) : ∃ l, Wy other t y l ∧ Wy other' t y l ∧ ∀ z, z ∈ l → z ∈ ord := by
  obtain ⟨l, w, hl⟩ := I.up2 y hy
  exact ⟨l, w, w.imp fun z hz => h0 z fun j j1 j2 e => (E.nw j j1 j2).1 (e ▸ hl z hz), hl⟩
theorem new_way (I : Inv hs tied n t ord one other) (E : Ear hs tied n t ord k g) (h0 : ∀ h, (∀ j, 1 ≤ j → j ≤ k → h ≠ g j) → par other' h = par other h) (h2 : ∀ j, 1 ≤ j → j ≤ k → par other' (g j) = some (g (j + 1))) {le : List Nat} (we : Wy other' t (g (k + 1)) le) :
    ∀ d j, j + d = k + 1 → 1 ≤ j → ∃ l, Wy other' t (g j) l ∧ ∀ z, z ∈ l → (∃ i, j ≤ i ∧ i ≤ k ∧ z = g i) ∨ z ∈ le := by
  have tm : t ∈ ord := by obtain ⟨r, e⟩ := I.hd; rw [e]; exact List.mem_cons_self
  intro d
  induction d with
  | zero =>
    intro j hj h1
    obtain rfl : j = k + 1 := by omega
    exact ⟨le, we, fun z hz => .inr hz⟩
  | succ d ih =>
    intro j hj h1
    obtain ⟨l, w, hl⟩ := ih (j + 1) (by omega) (by omega)
    have nj := E.nw j h1 (by omega)
    refine ⟨g j :: l, .step (fun z => nj.1 (z ▸ tm)) (h2 j h1 (by omega)) w, fun z hz => ?_⟩
    rcases List.mem_cons.mp hz with rfl | hz
    · exact .inl ⟨j, Nat.le_refl _, by omega, rfl⟩
    · rcases hl z hz with ⟨i, i1, i2, e⟩ | q
      · exact .inl ⟨i, by omega, i2, e⟩
      · exact .inr q
theorem Inv.put (I : Inv hs tied n t ord one other) (E : Ear hs tied n t ord k g) (U : Put ord ord' k g)
    (q1 : one'.length = n) (q2 : other'.length = n)
    (a0 : ∀ h, (∀ j, 1 ≤ j → j ≤ k → h ≠ g j) → par one' h = par one h) (a1 : ∀ j, 1 ≤ j → j ≤ k → par one' (g j) = some (g (j - 1)))
    (b0 : ∀ h, (∀ j, 1 ≤ j → j ≤ k → h ≠ g j) → par other' h = par other h) (b1 : ∀ j, 1 ≤ j → j ≤ k → par other' (g j) = some (g (j + 1))) : Inv hs tied n t ord' one' other' := by
  have tm : t ∈ ord := by obtain ⟨r, e⟩ := I.hd; rw [e]; exact List.mem_cons_self
  have old : ∀ {h}, h ∈ ord → ∀ j, 1 ≤ j → j ≤ k → h ≠ g j := fun {h} hh j j1 j2 e => (E.nw j j1 j2).1 (e ▸ hh)
  have O := fun {y} (hy : y ∈ ord) => I.old2 b0 E hy
  obtain ⟨le, we, we', hle⟩ := O E.e0
  have NW := new_way I E b0 b1 we'
  have pm : ∀ j, j ≤ k + 1 → g j ∈ ord' := fun j hj => by
    rcases Nat.eq_zero_or_pos j with rfl | h
    · exact (U.mem _).2 (.inl E.s0)
    · by_cases e : j = k + 1
      · rw [e]; exact (U.mem _).2 (.inl E.e0)
      · exact (U.mem _).2 (.inr ⟨j, h, by omega, rfl⟩)
  have prev : ∀ j, 1 ≤ j → j ≤ k → ord'.idxOf (g (j - 1)) < ord'.idxOf (g j) := fun j j1 j2 => by
    by_cases e : j = 1
    · subst e
      exact (U.on _ 1 E.s0 (Nat.le_refl _) j2).2 (Nat.le_refl _)
    · exact (U.nn (j - 1) j (by omega) (by omega) j1 j2).2 (by omega)
  -- an old house's parents are old
  have onOld : ∀ {y}, y ∈ ord → ∀ l, Wy other' t y l → Wy other t y l ∧ ∀ z, z ∈ l → z ∈ ord := fun {y} hy l w => by
    obtain ⟨l0, w0, w0', hl⟩ := O hy
    rw [w.det w0']
    exact ⟨w0, hl⟩
  have t2' : par other' t = none := (b0 t (old tm)).trans I.t2
  refine ⟨U.nd, fun h hh => ?_, ?_, q1, q2, fun h hh => ?_, fun h hh => ?_, (a0 t (old tm)).trans I.t1, t2', fun h hh ht => ?_, fun h hh => ?_, fun h hh ht => ?_, ?_, ?_⟩
  · rcases (U.mem h).1 hh with q | ⟨j, j1, j2, rfl⟩
    · exact I.lt h q
    · exact (E.nw j j1 j2).2
  · obtain ⟨r, e⟩ := I.hd
    exact U.hd t r e
  · rw [a0 h fun j j1 j2 e => hh ((U.mem h).2 (.inr ⟨j, j1, j2, e⟩))]
    exact I.o1 h fun z => hh ((U.mem h).2 (.inl z))
  · rw [b0 h fun j j1 j2 e => hh ((U.mem h).2 (.inr ⟨j, j1, j2, e⟩))]
    exact I.o2 h fun z => hh ((U.mem h).2 (.inl z))
  · rcases (U.mem h).1 hh with q | ⟨j, j1, j2, rfl⟩
    · obtain ⟨p, p1, p2, p3, p4⟩ := I.up1 h q ht
      exact ⟨p, (a0 h (old q)).trans p1, (U.mem p).2 (.inl p2), (U.oo p h p2 q).2 p3, p4⟩
    · refine ⟨g (j - 1), a1 j j1 j2, pm _ (by omega), prev j j1 j2, ?_⟩
      have := (E.td (j - 1) (by omega)).2
      rw [show j - 1 + 1 = j by omega] at this
      exact this
  · rcases (U.mem h).1 hh with q | ⟨j, j1, j2, rfl⟩
    · obtain ⟨l, _, w, hl⟩ := O q
      exact ⟨l, w, fun z hz => (U.mem z).2 (.inl (hl z hz))⟩
    · obtain ⟨l, w, hl⟩ := NW (k + 1 - j) j (by omega) j1
      refine ⟨l, w, fun z hz => ?_⟩
      rcases hl z hz with ⟨i, i1, i2, rfl⟩ | q
      · exact pm i (by omega)
      · exact (U.mem z).2 (.inl (hle z q))
  · rcases (U.mem h).1 hh with q | ⟨j, j1, j2, rfl⟩
    · obtain ⟨p, p1, p2⟩ := I.td2 h q ht
      exact ⟨p, (b0 h (old q)).trans p1, p2⟩
    · exact ⟨g (j + 1), b1 j j1 j2, (E.td j j2).1⟩
  · intro x q hx hq y hy hxy l w z hz u hu
    rcases (U.mem y).1 hy with yo | ⟨j, j1, j2, rfl⟩
    · obtain ⟨w0, hl⟩ := onOld yo l w
      have zo := hl z hz
      rw [b0 z (old zo)] at hu
      have uo := hl u (w0.on hz hu I.t2)
      rcases (U.mem x).1 hx with xo | ⟨m, m1, m2, rfl⟩
      · rw [a0 x (old xo)] at hq
        refine I.pE x q xo hq y yo ?_ l w0 z hz u hu
        have := (U.oo y x yo xo)
        omega
      · rintro (⟨e, _⟩ | ⟨_, e⟩)
        · exact (E.nw m m1 m2).1 (e ▸ zo)
        · exact (E.nw m m1 m2).1 (e ▸ uo)
    · obtain ⟨l0, w0, hl⟩ := NW (k + 1 - j) j (by omega) j1
      rw [w.det w0] at hz
      rcases (U.mem x).1 hx with xo | ⟨m, m1, m2, rfl⟩
      · rw [a0 x (old xo)] at hq
        have qo : q ∈ ord := by
          by_cases e : x = t
          · rw [e, I.t1] at hq
            cases hq
          · obtain ⟨p, p1, p2, _⟩ := I.up1 x xo e
            rw [hq] at p1
            cases p1
            exact p2
        have xs : ord.idxOf x ≤ ord.idxOf (g 0) := by
          refine (U.on x j xo j1 j2).1 (Nat.lt_of_le_of_ne hxy fun e => ?_)
          have := idx_inj hx hy e
          exact (E.nw j j1 j2).1 (this ▸ xo)
        rcases hl z hz with ⟨i, i1, i2, rfl⟩ | zl
        · have no := (E.nw i (by omega) i2).1
          rintro (⟨e, _⟩ | ⟨e, _⟩)
          · exact no (e ▸ xo)
          · exact no (e ▸ qo)
        · have zo := hle z zl
          rw [b0 z (old zo)] at hu
          exact I.pE x q xo hq (g (k + 1)) E.e0 (Nat.le_trans xs E.se) le we z zl u hu
      · have mj : m ≤ j := by
          have := U.nn j m j1 j2 m1 m2
          omega
        rw [a1 m m1 m2] at hq
        cases hq
        rcases hl z hz with ⟨i, i1, i2, rfl⟩ | zl
        · rw [b1 i (by omega) i2] at hu
          cases hu
          rintro (⟨e1, e2⟩ | ⟨e1, _⟩)
          · have im : i = m := by
              rcases Nat.lt_trichotomy i m with q | q | q
              · omega
              · exact q
              · exact absurd e1.symm (E.inj m i m1 q i2)
            subst im
            by_cases c1 : i = 1
            · subst c1
              by_cases c2 : k = 1
              · refine E.one c2 ?_
                rw [c2]
                exact e2
              · exact (E.nw 2 (by omega) (by omega)).1 (by rw [show (2 : Nat) = 1 + 1 from rfl, e2]; exact E.s0)
            · by_cases c2 : i = k
              · refine (E.nw (i - 1) (by omega) (by omega)).1 ?_
                rw [← e2, c2]
                exact E.e0
              · exact E.inj (i - 1) (i + 1) (by omega) (by omega) (by omega) e2.symm
          · by_cases c1 : m = 1
            · subst c1
              exact (E.nw i (by omega) i2).1 (by rw [e1]; exact E.s0)
            · exact E.inj (m - 1) i (by omega) (by omega) i2 e1.symm
        · have zo := hle z zl
          rw [b0 z (old zo)] at hu
          have uo := hle u (we.on zl hu I.t2)
          rintro (⟨e, _⟩ | ⟨_, e⟩)
          · exact (E.nw m m1 m2).1 (e ▸ zo)
          · exact (E.nw m m1 m2).1 (e ▸ uo)
  · intro hh x hx xt y hy hxy l w
    rcases (U.mem y).1 hy with yo | ⟨j, j1, j2, rfl⟩
    · obtain ⟨w0, hl⟩ := onOld yo l w
      rcases (U.mem x).1 hx with xo | ⟨m, m1, m2, rfl⟩
      · exact I.pH hh x xo xt y yo ((U.oo x y xo yo).1 hxy) l w0
      · exact fun z => (E.nw m m1 m2).1 (hl _ z)
    · obtain ⟨l0, w0, hl⟩ := NW (k + 1 - j) j (by omega) j1
      rw [w.det w0]
      intro xl
      rcases (U.mem x).1 hx with xo | ⟨m, m1, m2, rfl⟩
      · have xs := (U.on x j xo j1 j2).1 hxy
        rcases hl x xl with ⟨i, i1, i2, e⟩ | q
        · exact (E.nw i (by omega) i2).1 (e ▸ xo)
        · by_cases c : ord.idxOf x < ord.idxOf (g (k + 1))
          · exact I.pH hh x xo xt (g (k + 1)) E.e0 c le we q
          · have se := E.se
            have e1 := idx_inj xo E.s0 (by omega)
            have e2 := idx_inj xo E.e0 (by omega)
            exact xt (e1.trans (E.hse hh (e2.symm.trans e1)))
      · have mj := (U.nn m j m1 m2 j1 j2).1 hxy
        rcases hl _ xl with ⟨i, i1, i2, e⟩ | q
        · exact E.inj m i m1 (by omega) i2 e
        · exact (E.nw m m1 m2).1 (hle _ q)
theorem Inv.start (hn : t < n) : Inv hs tied n t [t] (List.replicate n none) (List.replicate n none) := by
  have pn : ∀ h, par (List.replicate n none) h = none := fun h => by
    unfold par
    rw [List.getD_eq_getElem?_getD, List.getElem?_replicate]
    split <;> rfl
  refine ⟨by simp, fun h hh => by rw [List.mem_singleton.mp hh]; exact hn, ⟨[], rfl⟩, List.length_replicate, List.length_replicate, fun h _ => pn h, fun h _ => pn h, pn t, pn t, fun h hh ht => absurd (List.mem_singleton.mp hh) ht, fun h hh => ?_, fun h hh ht => absurd (List.mem_singleton.mp hh) ht, fun x q _ hq => ?_, fun _ x hx xt => absurd (List.mem_singleton.mp hx) xt⟩
  · rw [List.mem_singleton.mp hh]
    exact ⟨[t], .top, fun z hz => hz⟩
  · rw [pn] at hq
    cases hq
end
theorem nd_inj {l : List Nat} (nd : l.Nodup) {i j : Nat} (hi : i < l.length) (hj : j < l.length) (h : l[i] = l[j]) : i = j := by
  rcases Nat.lt_trichotomy i j with q | q | q
  · exact absurd h (List.pairwise_iff_getElem.mp nd i j hi hj q)
  · exact q
  · exact absurd h.symm (List.pairwise_iff_getElem.mp nd j i hj hi q)
/-- an ear as a list -/
structure EarL (hs : Prop) (tied : Nat → Nat → Prop) (n t : Nat) (ord ear : List Nat) (s e : Nat) (ms : List Nat) : Prop where
  is : ear = s :: (ms ++ [e])
  s0 : s ∈ ord
  e0 : e ∈ ord
  k1 : ms ≠ []
  se : ord.idxOf s ≤ ord.idxOf e
  nw : ∀ x, x ∈ ms → x ∉ ord ∧ x < n
  nd : ms.Nodup
  td : ∀ j, j + 1 < ear.length → tied (ear.getD j 0) (ear.getD (j + 1) 0) ∧ tied (ear.getD (j + 1) 0) (ear.getD j 0)
  one : ms.length = 1 → e ≠ s
  hse : hs → e = s → s = t
section
variable {hs : Prop} {tied : Nat → Nat → Prop} {n t s e : Nat} {ord ear ms : List Nat} {one other : Ps}
theorem EarL.out (E : EarL hs tied n t ord ear s e ms) : Ear hs tied n t ord ms.length (fun j => ear.getD j 0) ∧ (∀ j (h : j < ms.length), ms[j] = ear.getD (j + 1) 0) ∧ ear.length = ms.length + 2 := by
  have hm : ∀ j (h : j < ms.length), ms[j] = ear.getD (j + 1) 0 := fun j h => by
    rw [E.is, List.getD_eq_getElem?_getD, List.getElem?_cons_succ, List.getElem?_append_left h, List.getElem?_eq_getElem h]
    rfl
  have he : ear.getD (ms.length + 1) 0 = e := by
    rw [E.is, List.getD_eq_getElem?_getD, List.getElem?_cons_succ, List.getElem?_append_right (Nat.le_refl _), Nat.sub_self]
    rfl
  have h0 : ear.getD 0 0 = s := by rw [E.is]; rfl
  have el : ear.length = ms.length + 2 := by rw [E.is, List.length_cons, List.length_append]; rfl
  have mm : ∀ j, 1 ≤ j → j ≤ ms.length → ear.getD j 0 ∈ ms := fun j j1 j2 => by
    have := hm (j - 1) (by omega)
    rw [show j - 1 + 1 = j by omega] at this
    rw [← this]
    exact List.getElem_mem _
  refine ⟨⟨by rw [h0]; exact E.s0, by rw [he]; exact E.e0, List.length_pos_iff.mpr E.k1, by rw [h0, he]; exact E.se, fun j j1 j2 => E.nw _ (mm j j1 j2), fun i j i1 ij j2 z => ?_, fun j hj => E.td j (by omega), fun h z => ?_, fun h z => ?_⟩, hm, el⟩
  · have a := hm (i - 1) (by omega)
    have b := hm (j - 1) (by omega)
    rw [show i - 1 + 1 = i by omega] at a
    rw [show j - 1 + 1 = j by omega] at b
    have := nd_inj E.nd (by omega) (by omega) ((a.trans z).trans b.symm)
    omega
  · have z : ear.getD (ms.length + 1) 0 = ear.getD 0 0 := z
    rw [he, h0] at z
    exact E.one h z
  · have z : ear.getD (ms.length + 1) 0 = ear.getD 0 0 := z
    rw [he, h0] at z
    show ear.getD 0 0 = t
    rw [h0]
    exact E.hse h z
end
end Er
end
section
open PySem PySem.Spec PyProof.Rows L2 Evl
namespace BV
section
variable {K : PySem.W.Frag} {ρ : List Sl} {te ta tb : TE} {d d' : D} {ds es : List D} {z l n : Nat} {q : Addr} {qs : List (Addr × M)} {Z : Zs} {tl th : TO} {m : M}
theorem ei_is {K : PySem.W.Frag} {ρ : List Sl} {wi : TI} {a b : List Sl} (h : EI K wi ρ a) (e : a = b) : EI K wi ρ b := e ▸ h
end
section
variable {P : Program} {w : World} {mg : Str → Option Value} {base : Heap} {K : PySem.W.Frag} {ρ : List Sl} {te : TE} {z : Nat} {es : List (Addr × M)} {Z : Zs}
/-- a def that changes what it is handed and tells nothing: spMt with None told -/
theorem Dfn.mtN {α : Type} {pre : α → Prop} {args : α → List Addr → List (Bool × D)} {ms mm : α → List Addr → List M} {x : Str} {st : Stmt} {N ps : List Str} {k : Nat} (F : Dfn K mg x st) (S : FnScope N ps (defScope st)) (hl : ∀ x qs, (args x qs).length = ps.length)
    (hN : ps.length < N.length) (hB : ∀ (kV doc pm : Value) (an : Option Addr) (cdv ct : Value) (us : List Value), us.length = ps.length → bindArgs (PySem.W.fnOf x x (defArgs st) (defBody st) (defScope st) .none kV doc pm an cdv ct) ⟨us, []⟩ = pure (ps.zip us))
    (hm2 : ∀ x qs, qs.length = (ms x qs).length → qs.length = (mm x qs).length)
    (hb : ∀ (f : Addr) (cdv : Value) (A : Around) (outer : List Env) (s : Shared) (H : Hp) (E : XK), Room k (A.deeper (envOfC x (defScope st) s.heap.objs.size f cdv)) → ∀ y, pre y →
      ∃ t, PSs (cxOf CX0 P w K mg base N x (defScope st) f cdv A outer s H E).nox (defBody st) t ∧ ∀ qs : List Addr, qs.length = (ms y qs).length → SD K t ((slots (args y qs) ++ List.replicate (N.length - (args y qs).length) Sl.no).set (N.length - 1) (.ph (qs.zip (ms y qs)))) { nx := fun ρ' => ρ'[N.length - 1]? = some (.ph (qs.zip (mm y qs))), rt := fun _ _ _ _ => False }) :
    Cal P w K mg base (k + 1) x (spMt K pre args ms (fun y y' => y' = y) (fun _ => 0) (fun _ _ => .non) mm) := by
  obtain ⟨f, fd, F, hm⟩ := F.ex
  refine ⟨f, fd, ps, F.ok S (fun vs H Q E h => ?_) (fun cdv A outer s H vs Q E hr h => ?_), hm, F.kp, F.binds hB⟩
  · obtain ⟨x, _, qs, _, _, T, _, _, ha, _⟩ := h
    rw [ha.1]
    exact hl x qs
  · obtain ⟨x, hx, qs, lq, nd, T, hT, hn, ha, hm, q⟩ := h
    obtain ⟨t, h1, h2⟩ := hb f cdv A outer s H E hr x hx
    refine ⟨t, h1, ?_⟩
    have g0 := good_start hT ha (N := N) (by rw [hl]; exact Nat.le_of_lt hN)
    have lρ : (slots (args x qs) ++ List.replicate (N.length - (args x qs).length) Sl.no).length = N.length := by
      rw [List.length_append, slots_len, List.length_replicate, hl]
      omega
    have gl := g0.len
    have lz : N.length - 1 < (slots (args x qs) ++ List.replicate (N.length - (args x qs).length) Sl.no).length := by rw [lρ]; omega
    have g1 := g0.putK (N.length - 1) ((L2.start N vs)[N.length - 1]'(by rw [gl]; exact lz)) (.ph []) (.inl ⟨by rw [List.length_set, gl, lρ]; omega, List.nodup_nil, fun e he => by simp at he⟩)
    rw [List.set_getElem_self] at g1
    have eT : ∀ b : Addr, (Hid T (fun _ => none) b ↔ T b) := fun b => ⟨fun w => w.elim id fun ⟨_, w⟩ => (nomatch w), fun w => Or.inl w⟩
    obtain ⟨ow', g2, _, _⟩ := g1.adopt (List.getElem?_set_self lz) offH_sub nd (fun q hq => ⟨offH_yes hq, hn q hq⟩) lq (ps := qs) (ms := ms x qs) (by
      refine ⟨lq, fun i q m a b => (hm.2 i q m a b).mono (fun c o w => ?_) fun _ z => z⟩
      obtain ⟨w1, w2⟩ := hid_some w
      have nq : c ∉ qs := fun h => by rw [offH_yes h] at w2; cases w2
      rw [offH_no nq] at w2
      rw [hid_no fun h => h.elim (fun h => w1 ((eT c).1 h)) nq]
      exact w2)
    rw [List.set_set, List.append_nil] at g2
    refine h2 qs lq (offH qs H) T _ _ _ H _ g2 (fun ρ' ow' σ' H' e g' => ?_) (fun _ _ _ _ z => z.elim) (fun _ _ _ _ z => z.elim) ⟨fun v H' r => r.elim, trivial⟩
    obtain ⟨z1, z2, z3⟩ := g'.at_ _ _ e
    have lq2 := hm2 x qs lq
    have e1 : (qs.zip (mm x qs)).map (·.1) = qs := List.map_fst_zip (by omega)
    have less : Ex (hid (Hid T ow') H') (hid (fun b => T b ∨ b ∈ qs) H') := hid_less fun b w => by
      rcases w with w | w
      · exact .inl w
      · rw [← e1] at w
        obtain ⟨c, hc, rfl⟩ := List.mem_map.mp w
        obtain ⟨t, ht⟩ := (z3 c hc).1
        exact .inr ⟨_, ht⟩
    refine q .non H' ⟨x, [], rfl, rfl, lq2, nd, fun p hp => ?_, g'.ex, .non, lq2, fun i p m a b => ?_⟩
    · rw [← e1] at hp
      obtain ⟨c, hc, rfl⟩ := List.mem_map.mp hp
      obtain ⟨t, ht⟩ := (z3 c hc).1
      exact ⟨g'.new _ _ ht, g'.on _ _ ht⟩
    · have a : qs[i]? = some p := a
      have b : (mm x qs)[i]? = some m := b
      have hc : (qs.zip (mm x qs))[i]? = some (p, m) := List.getElem?_zip_eq_some.mpr ⟨a, b⟩
      exact (z3 _ (List.mem_of_getElem? hc)).2.mono less fun _ z => z
end
end BV
end
section
set_option maxHeartbeats 4000000
open PySem PySem.Spec PyProof.Rows L2 Evl
namespace BV
end BV
end
section
set_option maxHeartbeats 4000000
open PySem PySem.Spec PyProof.Rows L2 Evl
namespace BV
end BV
end
section
open PySem PySem.Spec PyProof.Rows L2 Evl
namespace BV
end BV
end
section
open PySem PySem.Spec PyProof.Rows L2 Evl
namespace BV
/-- the same but at d, where the one is locked and the other isn't -/
structure SwK (d : Addr) (A B : Hp) : Prop where
  off : ∀ b, b ≠ d → A b = B b
  at_ : (A d = none ∧ B d = none) ∨ ∃ (kvs : List (Key × V)) (od : Obj), (A d = some (.dK kvs) ∧ B d = some (.frz od (.dK kvs))) ∨ (A d = some (.frz od (.dK kvs)) ∧ B d = some (.dK kvs))
section
variable {K : PySem.W.Frag} {d p : Addr} {A B H0 H H0' H' G G' : Hp} {S T : Addr → Prop} {ow : Nat → Option Addr} {σ : L2.St} {ρ : List Sl} {v : V} {dt : D} {m : M}
theorem SwK.none (s : SwK d A B) {b : Addr} (h : Nb (A b)) : Nb (B b) := by
  by_cases e : b = d
  · subst e
    rcases s.at_ with ⟨h1, _⟩ | ⟨kvs, od, ⟨_, h2⟩ | ⟨_, h2⟩⟩
    · exact absurd h1 h.ne
    · rw [h2]; exact fun z => nomatch z
    · rw [h2]; exact fun z => nomatch z
  · rw [← s.off b e]; exact h
theorem SwK.rd (s : SwK d A B) {b : Addr} {u : HO} (hu : ∀ o t, u ≠ .frz o t) (r : Rd A b u) : Rd B b u := by
  by_cases e : b = d
  · subst e
    rcases s.at_ with ⟨h1, _⟩ | ⟨kvs, od, ⟨h1, h2⟩ | ⟨h1, h2⟩⟩
    · rcases r with r | ⟨o, r⟩
      · rw [h1] at r; cases r
      · rw [h1] at r; cases r
    · rcases r with r | ⟨o, r⟩
      · rw [h1] at r; cases r; exact .inr ⟨od, h2⟩
      · rw [h1] at r; cases r
    · rcases r with r | ⟨o, r⟩
      · rw [h1] at r; cases r; exact absurd rfl (hu _ _)
      · rw [h1] at r; cases r; exact .inl h2
  · rcases r with r | ⟨o, r⟩
    · exact .inl (by rw [← s.off b e]; exact r)
    · exact .inr ⟨o, by rw [← s.off b e]; exact r⟩
theorem SwK.off' (s : SwK d A B) {b : Addr} {u : HO} (h : A b = some u) (h1 : ∀ kvs, u ≠ .dK kvs) (h2 : ∀ o t, u ≠ .frz o t) : B b = some u := by
  have e : b ≠ d := fun z => by
    rw [z] at h
    rcases s.at_ with ⟨q, _⟩ | ⟨kvs, od, ⟨q, _⟩ | ⟨q, _⟩⟩
    · rw [q] at h; cases h
    · rw [q] at h; exact h1 _ (Option.some.inj h).symm
    · rw [q] at h; exact h2 _ _ (Option.some.inj h).symm
  rw [← s.off b e]
  exact h
theorem SwK.rep (s : SwK d A B) (r : Rep K A v dt) : Rep K B v dt := r.swap (fun a u hu h => s.rd hu h) (fun a C dx fs h => s.off' h (fun _ z => nomatch z) fun _ _ z => nomatch z) (fun a φ h => s.off' h (fun _ z => nomatch z) fun _ _ z => nomatch z) (fun a fs h => s.off' h (fun _ z => nomatch z) fun _ _ z => nomatch z) (fun a vs h => s.off' h (fun _ z => nomatch z) fun _ _ z => nomatch z)
end
section
variable {K : PySem.W.Frag} {ρ : List Sl} {te td tv tk : TE} {tx : TA} {tt : TT} {d : D} {tb ts : TS} {Z : Zs} {n m ia : Nat} {ks : List Key} {ds : List D} {vs : List Nat} {i : Int}
theorem valV_in (k : Key) : ∀ kvs : List (Key × V), (valV kvs k).isSome = true ↔ k ∈ kvs.map (fun kv => kv.1)
  | [] => ⟨(fun z => nomatch z), (fun z => nomatch z)⟩
  | (k1, v) :: kvs => by
    have ih := valV_in k kvs
    unfold valV at ih ⊢
    rw [List.find?_cons]
    by_cases h : k1 = k
    · rw [decide_eq_true (show (k1, v).1 = k from h)]
      exact ⟨fun _ => by rw [h]; exact List.mem_cons_self, fun _ => rfl⟩
    · rw [decide_eq_false (show ¬ (k1, v).1 = k from h)]
      refine ih.trans ?_
      rw [List.map_cons, List.mem_cons]
      exact ⟨.inr, fun z => z.resolve_left fun w => h w.symm⟩
theorem lookK_in (k : Key) : ∀ (ks : List Key) (ds : List D), ks.length = ds.length → ((lookK ks ds k).isSome = true ↔ k ∈ ks)
  | [], _, _ => ⟨(fun z => nomatch z), (fun z => nomatch z)⟩
  | k1 :: ks, [], h => by cases h
  | k1 :: ks, d1 :: ds, h => by
    have ih := lookK_in k ks ds (by simpa using h)
    unfold lookK at ih ⊢
    rw [List.zip_cons_cons, List.find?_cons]
    by_cases e : k1 = k
    · rw [decide_eq_true (show (k1, d1).1 = k from e)]
      exact ⟨fun _ => by rw [e]; exact List.mem_cons_self, fun _ => rfl⟩
    · rw [decide_eq_false (show ¬ (k1, d1).1 = k from e)]
      refine ih.trans ?_
      rw [List.mem_cons]
      exact ⟨.inr, fun z => z.resolve_left fun w => e w.symm⟩
theorem lookK_map (f : Key → D) (k : Key) : ∀ ks : List Key, k ∈ ks → lookK ks (ks.map f) k = some (f k)
  | [], h => nomatch h
  | k1 :: ks, h => by
    have ih := lookK_map f k ks
    unfold lookK at ih ⊢
    rw [List.map_cons, List.zip_cons_cons, List.find?_cons]
    by_cases e : k1 = k
    · rw [decide_eq_true (show (k1, f k1).1 = k from e), ← e]
      rfl
    · rw [decide_eq_false (show ¬ (k1, f k1).1 = k from e)]
      exact ih ((List.mem_cons.mp h).resolve_left fun w => e w.symm)
theorem opt_same {α β : Type} {x : Option α} {y : Option β} {p : Prop} (h1 : x.isSome = true ↔ p) (h2 : y.isSome = true ↔ p) : x.isSome = y.isSome := by
  rw [Bool.eq_iff_iff, h1, h2]
/-- what stands under k in such a dict -/
theorem dki_at {H : Hp} {v : V} {k : Key} (r : Rep K H v (.dki ks ds)) : ∃ a kvs, v = .ref a ∧ Rd H a (.dK kvs) ∧ (valV kvs k).isSome = (lookK ks ds k).isSome ∧ ∀ d, lookK ks ds k = some d → ∃ u, valV kvs k = some u ∧ Rep K H u d := by
  obtain ⟨a, kvs, rfl, rd, e, hl, hr⟩ := r.dki_inv
  have q : (valV kvs k).isSome = (lookK ks ds k).isSome := opt_same (valV_in k kvs) (by rw [show kvs.map (fun kv => kv.1) = ks from e]; exact lookK_in k ks ds hl)
  refine ⟨a, kvs, rfl, rd, q, fun d h => ?_⟩
  rw [h] at q
  obtain ⟨u, hu⟩ := Option.isSome_iff_exists.mp q
  exact ⟨u, hu, hr k u d hu h⟩
theorem ed_dgetI (hd : ED K td ρ (.dki ks ds)) (hk : ED K tk ρ (.int i)) (h : lookK ks ds (.inl i) = some d) : ED K (tDGet td tk) ρ d := fun H0 S G ow σ H g Q q =>
  hd H0 S G ow σ H g _ fun v H1 e1 r1 => hk H0 S G ow σ H1 (g.ext e1) _ fun u H2 e2 r2 => by
    obtain ⟨a, kvs, rfl, rd, _, k2⟩ := dki_at (k := .inl i) (r1.mono (hid_ext e2))
    obtain ⟨x, hx, rx⟩ := k2 d h
    exact ⟨a, x, rfl, .inl ⟨kvs, .inl i, rd_ex rd hid_sub, by rw [r2.int_inv]; rfl, hx.symm⟩, q x H2 (e1.trans e2) rx⟩
theorem ed_dinI (hk : ED K tk ρ (.int i)) (hd : ED K td ρ (.dki ks ds)) : ED K (tDIn tk td) ρ (.bl (lookK ks ds (.inl i)).isSome) := fun H0 S G ow σ H g Q q =>
  hk H0 S G ow σ H g _ fun u H1 e1 r1 => hd H0 S G ow σ H1 (g.ext e1) _ fun v H2 e2 r2 => by
    obtain ⟨a, kvs, rfl, rd, k1, _⟩ := dki_at (k := .inl i) r2
    exact ⟨a, _, rfl, .inl ⟨kvs, .inl i, rd_ex rd hid_sub, by rw [r1.int_inv]; rfl, rfl⟩, by rw [k1]; exact q _ H2 (e1.trans e2) (.bl _)⟩
theorem ed_dninI (hk : ED K tk ρ (.int i)) (hd : ED K td ρ (.dki ks ds)) : ED K (tDNotIn tk td) ρ (.bl (!(lookK ks ds (.inl i)).isSome)) := fun H0 S G ow σ H g Q q =>
  hk H0 S G ow σ H g _ fun u H1 e1 r1 => hd H0 S G ow σ H1 (g.ext e1) _ fun v H2 e2 r2 => by
    obtain ⟨a, kvs, rfl, rd, k1, _⟩ := dki_at (k := .inl i) r2
    exact ⟨a, _, rfl, .inl ⟨kvs, .inl i, rd_ex rd hid_sub, by rw [r1.int_inv]; rfl, rfl⟩, by rw [k1]; exact q _ H2 (e1.trans e2) (.bl _)⟩
/-- what was filled here is shared -/
theorem sd_shareK {f : Key → Option D} {mx : Nat} (h : ρ[n]? = some (.own (.dk f mx))) (hi : ∀ k, (f k).isSome = true → ∃ i, k = .inl i)
    (k : ∀ (xs : List Int) (ds : List D), xs.length ≤ mx → (∀ i, i ∈ xs ↔ (f (.inl i)).isSome = true) → (∀ i, lookK (xs.map Sum.inl) ds (.inl i) = f (.inl i)) → SD K ts (ρ.set n (.sh (.dki (xs.map Sum.inl) ds))) Z) : SD K ts ρ Z := fun H0 S G ow σ H E g hn hb hc hr => by
  obtain ⟨p, a, b, kvs, c, hl, hk⟩ := g.at_ n _ h
  have key : ∀ x, x ∈ kvs.map (·.1) → (f x).isSome = true := fun x hx => by
    have q := (valV_in x kvs).mpr hx
    cases e : f x with
    | none => rw [(hk x).1 e] at q; cases q
    | some d => rfl
  obtain ⟨xs, hxs⟩ : ∃ xs : List Int, kvs.map (·.1) = xs.map Sum.inl := by
    have : ∀ L : List Key, (∀ x, x ∈ L → ∃ i : Int, x = .inl i) → ∃ xs : List Int, L = xs.map Sum.inl := fun L => by
      induction L with
      | nil => exact fun _ => ⟨[], rfl⟩
      | cons x L ih =>
        intro h
        obtain ⟨i, rfl⟩ := h x List.mem_cons_self
        obtain ⟨xs, e⟩ := ih fun y hy => h y (List.mem_cons_of_mem _ hy)
        exact ⟨i :: xs, by rw [e]; rfl⟩
    exact this _ fun x hx => hi x (key x hx)
  have hlk : ∀ k, lookK (xs.map Sum.inl) ((xs.map Sum.inl).map fun k => (f k).getD .non) k = f k := fun k => by
    rw [← hxs]
    by_cases q : k ∈ kvs.map (·.1)
    · rw [lookK_map _ _ _ q]
      obtain ⟨d, hd⟩ := Option.isSome_iff_exists.mp (key k q)
      rw [hd]
      rfl
    · cases e : f k with
      | none =>
        cases w : lookK (kvs.map (·.1)) ((kvs.map (·.1)).map fun k => (f k).getD .non) k with
        | none => rfl
        | some d => exact absurd ((lookK_in k (kvs.map (·.1)) ((kvs.map (·.1)).map fun k => (f k).getD .non) (List.length_map _).symm).mp (by rw [w]; rfl)) q
      | some d =>
        obtain ⟨v, hv, _⟩ := (hk k).2 d e
        exact absurd ((valV_in k kvs).mp (by rw [hv]; rfl)) q
  have lx : xs.length ≤ mx := by
    have := congrArg List.length hxs
    rw [List.length_map, List.length_map] at this
    omega
  have hlt := (List.getElem?_eq_some_iff.mp h).1
  have np : ¬ Hid S (clr ow n) p := fun z => by
    rcases z with z | ⟨j, z⟩
    · exact (g.sd p z).ne (g.new n p b)
    · obtain ⟨z1, z2⟩ := clr_some z
      exact z1 (g.inj j n p z2 b)
  have less := hid_less (H := H) fun (b : Addr) (z : Hid S (clr ow n) b) => Hid_clr z
  have q := g.put n (some (V.ref p)) (.sh (.dki (xs.map Sum.inl) ((xs.map Sum.inl).map fun k => (f k).getD .non))) (.inl ⟨.ref p, List.getElem?_set_self (by rw [g.len]; exact hlt), .dki (.inl (by rw [hid_no np]; exact c)) hxs (List.length_map _).symm fun k v d h1 h2 => by
    rw [hlk] at h2
    obtain ⟨v', hv', rv⟩ := (hk k).2 d h2
    rw [h1] at hv'
    rw [Option.some.inj hv']
    exact rv.mono less⟩)
  have es : σ.set n (some (V.ref p)) = σ := by
    have hs : n < σ.length := by rw [g.len]; exact hlt
    rw [List.getElem?_eq_getElem hs] at a
    rw [← Option.some.inj a]
    exact List.set_getElem_self hs
  rw [es, clrL_lt hlt] at q
  have mem : ∀ i, i ∈ xs ↔ (f (.inl i)).isSome = true := fun i => by
    have e1 : i ∈ xs ↔ (Sum.inl i : Key) ∈ kvs.map (·.1) := by
      rw [hxs, List.mem_map]
      exact ⟨fun h => ⟨i, h, rfl⟩, fun ⟨j, h, e⟩ => by rw [← Sum.inl.inj e]; exact h⟩
    refine e1.trans ⟨key _, fun h => ?_⟩
    obtain ⟨d, hd⟩ := Option.isSome_iff_exists.mp h
    obtain ⟨v, hv, _⟩ := (hk (.inl i)).2 d hd
    exact (valV_in _ kvs).mp (by rw [hv]; rfl)
  exact k xs _ lx mem (fun i => hlk (.inl i)) H0 S G _ σ H E q hn hb hc hr
end
end BV
namespace BV
end BV
namespace BV
theorem putK_new {kvs : List (Key × V)} {k : Key} {v : V} (h : k ∉ kvs.map (fun kv => kv.1)) : (putK kvs k v).map (fun kv => kv.1) = kvs.map (fun kv => kv.1) ++ [k] := by
  unfold putK
  have : (kvs.any fun kv => decide (kv.1 = k)) = false := List.any_eq_false.mpr fun kv hm z => h (List.mem_map.mpr ⟨kv, hm, of_decide_eq_true z⟩)
  rw [this, if_neg Bool.false_ne_true, List.map_append]
  rfl
end BV
namespace BV
end BV
end
section
open PySem PySem.Spec PyProof.Rows L2 Evl
namespace BV
section
variable {K : PySem.W.Frag} {ρ : List Sl} {ta tb te : TE} {x y : Str} {ys : List Str} {i : Int}
/-- a text of one sign -/
abbrev sgn (c : Nat) : Str := ⟨#[c]⟩
/-- str(i) -/
def rStrI : List V → Hp → VK → Prop := fun xs H Q => ∃ i, xs = [.int i] ∧ i.natAbs.log2 < 1920 ∧ Q (.str (toString i)) H
theorem ed_strI (ha : ED K ta ρ (.int i)) (hl : i.natAbs.log2 < 1920) : ED K (tCB rStrI (tCons ta tNil)) ρ (.str (toString i)) := fun H0 S G ow σ H g Q q =>
  ha H0 S G ow σ H g _ fun v H1 e1 r1 => ⟨i, by rw [r1.int_inv], hl, q _ H1 e1 (.str _)⟩
/-- int(text) -/
def rIntS : List V → Hp → VK → Prop := fun xs H Q => ∃ a n, xs = [.str a] ∧ PySem.intText? a = some n ∧ a.length ≤ 640 ∧ Q (.int n) H
theorem ed_intS (ha : ED K ta ρ (.str x)) (hx : PySem.intText? x = some i) (hl : x.length ≤ 640) : ED K (tCB rIntS (tCons ta tNil)) ρ (.int i) := fun H0 S G ow σ H g Q q =>
  ha H0 S G ow σ H g _ fun v H1 e1 r1 => ⟨x, i, by rw [r1.str_inv], hx, hl, q _ H1 e1 (.int _)⟩
/-- text[l] -/
theorem ed_ixS {l c : Nat} (ha : ED K ta ρ (.str x)) (hb : ED K tb ρ (.int i)) (hi : i = (l : Int)) (hc : x.cps.toList[l]? = some c) (hl : x.length ≤ 100000) : ED K (tOp rIxS ta tb) ρ (.str (sgn c)) := fun H0 S G ow σ H g Q q =>
  ha H0 S G ow σ H g _ fun v H1 e1 r1 => hb H0 S G ow σ H1 (g.ext e1) _ fun u H2 e2 r2 => ⟨x, i, c, r1.str_inv, r2.int_inv, Nat.le_trans hl (by rw [sizeLine_eq]; decide), by rw [hi]; exact atI_nat hc, q _ H2 (e1.trans e2) (.str _)⟩
/-- one sign in a text -/
def rInSg : V → V → Hp → VK → Prop := fun x y H Q => ∃ (c : Nat) (z : Str), x = .str ⟨#[c]⟩ ∧ y = .str z ∧ Q (.bl (decide (c ∈ z.cps.toList))) H
theorem ed_inSg {c : Nat} (ha : ED K ta ρ (.str (sgn c))) (hb : ED K tb ρ (.str x)) : ED K (tOp rInSg ta tb) ρ (.bl (decide (c ∈ x.cps.toList))) := fun H0 S G ow σ H g Q q =>
  ha H0 S G ow σ H g _ fun v H1 e1 r1 => hb H0 S G ow σ H1 (g.ext e1) _ fun u H2 e2 r2 => ⟨c, x, r1.str_inv, r2.str_inv, q _ H2 (e1.trans e2) (.bl _)⟩
/-- a text as a test -/
theorem et_truS (h : ED K ta ρ (.str x)) (hl : x.length ≤ 100000) : ET K (fun σ H Q => ta σ H fun x H' => ∃ k, TruV K x H' k ∧ Q k H') ρ (!decide (x.length = 0)) := fun H0 S G ow σ H g _ q => h H0 S G ow σ H g _ fun v H1 e1 r1 => by
  rw [r1.str_inv]
  refine ⟨_, ⟨Nat.le_trans hl (by rw [sizeLine_eq]; decide), ?_⟩, q H1 e1⟩
  show (!decide (x.length = 0)) = ((x.length : Int) != 0)
  by_cases e : x.length = 0
  · rw [e]; rfl
  · rw [decide_eq_false e]
    have : ((x.length : Int) == 0) = false := by rw [beq_eq_false_iff_ne]; omega
    show _ = !((x.length : Int) == 0)
    rw [this]
/-- for sign in text -/
theorem ei_s (h : ED K te ρ (.str x)) : EI K (iStr te) ρ (x.cps.toList.map fun c => Sl.sh (.str (sgn c))) := fun H0 S G ow σ H g R q => h H0 S G ow σ H g _ fun v H1 e r => ⟨x, r.str_inv, q _ H1 e fun T H' e1 _ _ => by
  refine ⟨fun l hl => ?_, fun l hl => ?_⟩
  · rw [List.length_map] at hl
    refine ⟨by show l < x.cps.size; simpa using hl, fun u H2 z => ?_⟩
    obtain ⟨rfl, c, hc, rfl⟩ := z
    refine ⟨Ex.refl _, .sh (.str (sgn c)), ?_, .str _⟩
    rw [List.getElem?_map, Array.getElem?_toList, hc]
    rfl
  · rw [List.length_map] at hl
    show x.cps.size ≤ l
    simpa using hl⟩
/-- text.split(sep) -/
def rSplit : V → List V → Hp → VK → Prop := fun x xs H Q => ∃ a b, x = .str a ∧ xs = [.str b] ∧ (b.length == 0) = false ∧ a.length + 2 ≤ sizeLine ∧ rNewStrs (Txt.split a b) H Q
theorem strs_reps {G : Hp} : ∀ ys : List Str, Reps K G (ys.map V.str) (ys.map D.str)
  | [] => All2.nil
  | y :: ys => All2.cons (.str y) (strs_reps ys)
theorem eo_split (ha : ED K ta ρ (.str x)) (hb : ED K tb ρ (.str y)) (hy : (y.length == 0) = false) (hl : x.length ≤ 100000) : EO K (tM1 rSplit ta tb) ρ (.lst ((Txt.split x y).map D.str)) := fun H0 S G ow σ H g Q q =>
  ha H0 S G ow σ H g _ fun v H1 e1 r1 => ⟨⟨x, r1.str_inv⟩, hb H0 S G ow σ H1 (g.ext e1) _ fun u H2 e2 r2 => ⟨x, y, r1.str_inv, by rw [r2.str_inv], hy, by rw [sizeLine_eq]; omega, fun p hp => by
    have e := e1.trans e2
    refine q p _ (fresh_back e hp) (e.trans (Ex.new hp)) (by rw [upd_same]; exact fun z => nomatch z) ?_
    exact ⟨_, upd_same, strs_reps _⟩⟩⟩
/-- text.partition(sep) -/
def rPart : V → List V → Hp → VK → Prop := fun x xs H Q => ∃ a b, x = .str a ∧ xs = [.str b] ∧ (b.length == 0) = false ∧ a.length ≤ sizeLine ∧
      ∀ p, H p = none → Q (.ref p) (upd H p (.tup [.str (Txt.partition a b).1, .str (Txt.partition a b).2.1, .str (Txt.partition a b).2.2]))
theorem ed_part (ha : ED K ta ρ (.str x)) (hb : ED K tb ρ (.str y)) (hy : (y.length == 0) = false) (hl : x.length ≤ 100000) : ED K (tM1 rPart ta tb) ρ (.tup [.str (Txt.partition x y).1, .str (Txt.partition x y).2.1, .str (Txt.partition x y).2.2]) := fun H0 S G ow σ H g Q q =>
  ha H0 S G ow σ H g _ fun v H1 e1 r1 => ⟨⟨x, r1.str_inv⟩, hb H0 S G ow σ H1 (g.ext e1) _ fun u H2 e2 r2 => ⟨x, y, r1.str_inv, by rw [r2.str_inv], hy, by rw [sizeLine_eq]; omega, fun p hp => by
    have e := e1.trans e2
    refine q _ _ (e.trans (Ex.new hp)) (.of_tup (st_of ?_) (All2.cons (.str _) (All2.cons (.str _) (All2.cons (.str _) All2.nil))))
    rw [hid_no (((g.ext e1).ext e2).fresh hp)]
    exact upd_same⟩⟩
/-- sep.join(a list) -/
theorem ed_joinL (ha : ED K ta ρ (.str x)) (hb : ER K tb ρ (.lst (ys.map .str))) (hl : (ys.map (·.length)).sum + ys.length * x.length ≤ 16777216) :
    ED K (tM1 (fun x xs H Q => ∃ a p, ∃ ys : List Str, x = .str a ∧ xs = [.ref p] ∧ (SqL K H p (ys.map V.str) ∨ SqT K H p (ys.map V.str)) ∧ (ys.map (·.length)).sum + ys.length * a.length ≤ 16777216 ∧ Q (.str (Txt.join a ys)) H) ta tb) ρ (.str (Txt.join x ys)) := fun H0 S G ow σ H g Q q =>
  ha H0 S G ow σ H g _ fun v H1 e1 r1 => ⟨⟨x, r1.str_inv⟩, hb H0 S G ow σ H1 (g.ext e1) _ fun u H2 e2 r2 => by
    obtain ⟨p, xs, rfl, hs, hr⟩ := r2.lst_inv
    have ex := strs_of hr
    subst ex
    exact ⟨x, p, ys, r1.str_inv, rfl, .inl hs, hl, q _ H2 (e1.trans e2) (.str _)⟩⟩
end
end BV
namespace BV
theorem pe_gstr {X : Cx} {x : Str} {z : Str} {pos : Pos} (hg : Gl X x) (h : ∃ t, X.mg x = some (.str z t)) (hd : (x == ("__debug__" : Str)) = false := by decide) : PE X (.Name x pos) (tC (.str z)) := by
  obtain ⟨t, h⟩ := h
  exact pe_glob hg h ⟨t, rfl⟩ hd
end BV
namespace BV
section
variable {prog : Program} {w : World} {A : Around} {E : Value → Shared → Prop} {s : Shared}
theorem str_of_non {Q : Value → Shared → Prop} (h : Q (.str "None" s.toks) { s with toks := s.toks + 1 }) : wpAny (model prog w) A (call (.type "str") [.none]) Q E s :=
  callType_new F.called_str (by decide) (F.typeCall_str_1 _) (F.newCall_str_1 _) (fun obj => F.args_object_init_2 obj _) F.entry_str_new
    (meets_str_new (S := fun _ R s => R (.ok (.ret (.str "None" s.toks))) { s with toks := s.toks + 1 }) fun _ _ _ _ s hq =>
      wpAny_strOf_gives rfl (typeIs_none s) F.slot_NoneType_str F.slot_NoneType_repr F.entry_NoneType_repr (F.args_NoneType_repr_1 _) gives_none_repr hq (hsz := by decide)) ⟨typeIs_str _ _ _, h⟩
end
end BV
namespace BV
/-- str(i), str(None) -/
def rStrO : List V → Hp → VK → Prop := fun xs H Q => (∃ i, xs = [.int i] ∧ i.natAbs.log2 < 1920 ∧ Q (.str (toString i)) H) ∨ xs = [.non] ∧ Q (.str "None") H
theorem cr_strO {X : Cx} : CallR X (.type "str") rStrO := by
  intro pins s σ H xs us Q I r h
  rcases h with h | ⟨rfl, q⟩
  · exact call_str_int pins s σ H xs us Q I r h
  · obtain ⟨u, rfl, e⟩ := vals1 r
    cases e
    exact str_of_non ⟨.str _, H, I.tok _, ⟨_, rfl⟩, q⟩
section
variable {K : PySem.W.Frag} {ρ : List Sl} {ta : TE}
theorem ed_strO (o : Option Int) (ha : ED K ta ρ (optI o)) (hl : ∀ i, o = some i → i.natAbs.log2 < 1920) : ED K (tCB rStrO (tCons ta tNil)) ρ (.str (match o with | none => "None" | some i => toString i)) := fun H0 S G ow σ H g Q q =>
  ha H0 S G ow σ H g _ fun v H1 e1 r1 => by
    cases o with
    | none => exact .inr ⟨by rw [show v = .non from r1.non_inv], q _ H1 e1 (.str _)⟩
    | some i => exact .inl ⟨i, by rw [show v = .int i from r1.int_inv], hl i rfl, q _ H1 e1 (.str _)⟩
end
end BV
namespace BV
end BV
namespace BV
section
variable {K : PySem.W.Frag} {ρ : List Sl} {te td : TE} {ks : List (List Key)} {ds : List D} {is : List Int} {d : D}
/-- d[pair], a shared dict -/
theorem ed_dgetTS (hd : ED K td ρ (.dct ks ds)) (hk : ED K te ρ (.tup (is.map .int))) (hv : lookD ks ds (intK is) = some d) : ED K (tDGetT K td te) ρ d := fun H0 S G ow σ H g Q q =>
  hd H0 S G ow σ H g _ fun v H1 e1 r2 => hk H0 S G ow σ H1 (g.ext e1) _ fun p H2 e2 rp => by
    obtain ⟨b, xs, rfl, hs, ra⟩ := rp.tup_inv
    obtain ⟨a, kvs, rfl, ha, e, hr⟩ := (r2.mono (hid_ext e2)).dct_inv
    obtain ⟨u, hu, ru⟩ := (look_rep (k := intK is) e hr).2 _ hv
    refine ⟨a, b, kvs, intK is, u, rfl, rfl, rd_ex ha hid_sub, ?_, hu, q u H2 (e1.trans e2) ru⟩
    rw [kV_ints, ← ints_of ra]
    exact ex_t hid_sub hs
end
end BV
namespace BV
end BV
end
section
open PySem PySem.Spec PyProof.Rows L2 Evl
namespace BV
section
variable {K : PySem.W.Frag} {ρ : List Sl} {ta tb te : TE} {x y : Str} {i : Int} {P : List Sl → D → Prop}
/-- len(text) -/
def rLenTx : List V → Hp → VK → Prop := fun xs H Q => ∃ z : Str, xs = [.str z] ∧ z.length ≤ sizeLine ∧ Q (.int z.length) H
theorem ed_lenS (ha : ED K ta ρ (.str x)) (hl : x.length ≤ 100000) : ED K (tCB rLenTx (tCons ta tNil)) ρ (.int (x.length : Int)) := fun H0 S G ow σ H g Q q =>
  ha H0 S G ow σ H g _ fun v H1 e1 r1 => ⟨x, by rw [r1.str_inv], Nat.le_trans hl (by rw [sizeLine_eq]; decide), q _ H1 e1 (.int _)⟩
/-- text[lo:hi] -/
theorem ed_slS {tl th : TO} {lo hi : Option Int} (ha : ED K ta ρ (.str x)) (h1 : EP K tl ρ lo) (h2 : EP K th ρ hi) (hl : x.length ≤ 100000) : ED K (tSl rSlS ta tl th) ρ (.str (cutS x lo hi)) := fun H0 S G ow σ H g Q q => ha H0 S G ow σ H g _ fun v H1 e1 r1 =>
  h1 H0 S G ow σ H1 (g.ext e1) _ fun H2 e2 => h2 H0 S G ow σ H2 (g.ext (e1.trans e2)) _ fun H3 e3 =>
    ⟨x, r1.str_inv, Nat.le_trans hl (by rw [sizeLine_eq]; decide), q _ H3 ((e1.trans e2).trans e3) (.str _)⟩
end
end BV
namespace BV
end BV
namespace BV
end BV
end
section
section
open PySem PySem.Spec PyProof.Rows
namespace Cmb
end Cmb
end
section
open PySem PySem.Spec PyProof.Rows BV
namespace Cmb
/-- a walk over the choices of r out of a pool: st 0 at its begin, 1 amid it, 2 at its end -/
def IsCmb (h : Heap) (z p : Addr) (st : Int) (js : List Nat) : Prop := ∃ v, h.get? z = some { cls := .type "itertools.combinations", dict := none, data := .fields (.ref p :: rawInt st :: v :: js.map fun (n : Nat) => rawInt n).toArray, slots := #[] }
abbrev IsPool (h : Heap) (p : Addr) (items : Array Value) : Prop := h.get? p = some { cls := .type "tuple", dict := none, data := .seq items 0, slots := #[] }
end Cmb
end
section
open PySem PySem.Spec PyProof.Rows BV
namespace Cmb
section
variable {prog : Program} {w : World} {A : Around} {E : Value → Shared → Prop} {s : Shared}
abbrev cObj (p : Addr) (st : Int) (v : Value) (js : List Nat) : Obj := { cls := .type "itertools.combinations", dict := none, data := .fields (.ref p :: rawInt st :: v :: js.map fun (n : Nat) => rawInt n).toArray, slots := #[] }
/-- the last steps of a turn: a new tuple of what was chosen, kept by the walk -/
theorem up1 {h : Heap} {z p : Addr} {st : Int} {v : Value} {js : List Nat} (hv : h.get? z = some (cObj p st v js)) (x : Int) : (h.update z (Obj.mapFields (·.setIfInBounds 1 (rawInt x)))).get? z = some (cObj p x v js) :=
  (Heap.get?_update_self _ hv rfl).trans (by simp [Obj.mapFields, cObj])
theorem up2 {h : Heap} {z p : Addr} {st : Int} {v : Value} {js : List Nat} (hv : h.get? z = some (cObj p st v js)) (x : Value) : (h.update z (Obj.mapFields (·.setIfInBounds 2 x))).get? z = some (cObj p st x js) :=
  (Heap.get?_update_self _ hv rfl).trans (by simp [Obj.mapFields, cObj])
end
end Cmb
end
section
open PySem PySem.Spec PyProof.Rows L2 Evl Cmb
namespace BV
section
variable {X : Cx}
/-- a walk ahead of its turn i -/
structure CAt (h : Heap) (z p : Addr) (us : Array Value) (n r : Nat) (L : List (List Nat)) (i : Nat) : Prop where
  pool : IsPool h p us
  ne : p ≠ z
  at_ : (i = 0 ∧ IsCmb h z p (if r > n then 2 else 0) (List.range r)) ∨ ∃ js, 0 < i ∧ L[i - 1]? = some js ∧ IsCmb h z p 1 js
theorem CAt.obj {h : Heap} {z p : Addr} {us : Array Value} {n r : Nat} {L : List (List Nat)} {i : Nat} (s : CAt h z p us n r L i) : ∀ c ∈ [z, p], ∃ o, h.get? c = some o ∧ ∀ v, o.data ≠ .cell v := fun c hc => by
  simp only [List.mem_cons, List.not_mem_nil, or_false] at hc
  rcases hc with rfl | rfl
  · rcases s.at_ with ⟨_, v, e⟩ | ⟨js, _, _, v, e⟩ <;> exact ⟨_, e, fun v e => nomatch e⟩
  · exact ⟨_, s.pool, fun v e => nomatch e⟩
end
end BV
end
end
section
open PySem PySem.Spec PyProof.Rows L2 Evl
namespace BV
end BV
namespace BV
end BV
namespace BV
end BV
namespace BV
end BV
end
section
open PySem PySem.Spec PyProof.Rows L2 Evl
namespace BV
def hasS (ks : List Key) (k : Key) : Bool := ks.any fun x => decide (x = k)
theorem hasS_iff {ks : List Key} {k : Key} : hasS ks k = true ↔ k ∈ ks := by
  unfold hasS
  rw [List.any_eq_true]
  exact ⟨fun ⟨x, h, e⟩ => of_decide_eq_true e ▸ h, fun h => ⟨k, h, decide_eq_true rfl⟩⟩
def putSk (ks : List Key) (k : Key) : List Key := if hasS ks k = true then ks else ks ++ [k]
def putSd (ks : List Key) (ds : List D) (k : Key) (d : D) : List D := if hasS ks k = true then (ks.zip ds).map (fun p => if p.1 = k then d else p.2) else ds ++ [d]
theorem any_key (kvs : List (Key × V)) (k : Key) : (kvs.any fun kv => decide (kv.1 = k)) = hasS (kvs.map (·.1)) k := by
  unfold hasS
  rw [List.any_map]
  rfl
theorem putSk_keys (kvs : List (Key × V)) (k : Key) (v : V) : (putK kvs k v).map (·.1) = putSk (kvs.map (·.1)) k := by
  unfold putK putSk
  rw [any_key]
  by_cases h : hasS (kvs.map (·.1)) k = true
  · rw [if_pos h, if_pos h, List.map_map]
    refine List.map_congr_left fun p _ => ?_
    show (if p.1 = k then (p.1, v) else p).1 = p.1
    split <;> rfl
  · rw [if_neg h, if_neg h, List.map_append]
    rfl
section
variable {K : PySem.W.Frag} {G H : Hp} {ρ : List Sl} {te ta tb tc tv td tk : TE} {tx ty : TA} {d d' x y : D} {ds es : List D} {i j k : Int} {n z l mx : Nat} {m : M} {ts tu tw : TS} {Z : Zs} {ks : List Key} {q : Addr} {qs : List (Addr × M)}
theorem putK_vals {kvs : List (Key × V)} {q : Key} {v : V} (h : Reps K G (kvs.map (·.2)) ds) (r : Rep K G v d) : Reps K G ((putK kvs q v).map (·.2)) (putSd (kvs.map (·.1)) ds q d) := by
  unfold putK putSd
  rw [any_key]
  by_cases w : hasS (kvs.map (·.1)) q = true
  · rw [if_pos w, if_pos w, List.map_map]
    have hl := h.1
    rw [List.length_map] at hl
    refine ⟨by rw [List.length_map, List.length_map, List.length_zip, List.length_map]; omega, fun i u e h1 h2 => ?_⟩
    rw [List.getElem?_map] at h1 h2
    obtain ⟨p, hp, e1⟩ := Option.map_eq_some_iff.mp h1
    obtain ⟨p2, hp2, e2⟩ := Option.map_eq_some_iff.mp h2
    obtain ⟨a1, a2⟩ := List.getElem?_zip_eq_some.mp hp2
    rw [List.getElem?_map, hp] at a1
    have a1 : p.1 = p2.1 := Option.some.inj a1
    have rp : Rep K G p.2 p2.2 := h.2 i _ _ (by rw [List.getElem?_map, hp]; rfl) a2
    have e1 : (if p.1 = q then (p.1, v) else p).2 = u := e1
    rw [← a1] at e2
    rw [← e1, ← e2]
    by_cases c : p.1 = q
    · rw [if_pos c, if_pos c]; exact r
    · rw [if_neg c, if_neg c]; exact rp
  · rw [if_neg w, if_neg w, List.map_append]
    exact All2.snoc h r
/-- the first under k -/
theorem val_look : ∀ {kvs : List (Key × V)} {ds : List D} {k : Key} {v : V} {d : D}, Reps K G (kvs.map (·.2)) ds → valV kvs k = some v → lookK (kvs.map (·.1)) ds k = some d → Rep K G v d
  | [], _, k, v, d, _, h, _ => by cases h
  | p :: l, [], k, v, d, r, _, _ => absurd r.1 (by simp)
  | p :: l, e :: ds, k, v, d, r, h1, h2 => by
    have h1 : (((p :: l).find? fun kv => decide (kv.1 = k)).map (·.2)) = some v := h1
    have h2 : ((((p.1, e) :: (l.map (·.1)).zip ds).find? fun p => decide (p.1 = k)).map (·.2)) = some d := h2
    rw [List.find?_cons] at h1 h2
    have h2 : Option.map (·.2) (match decide (p.1 = k) with | true => some (p.1, e) | false => ((l.map (·.1)).zip ds).find? fun p => decide (p.1 = k)) = some d := h2
    by_cases c : p.1 = k
    · rw [decide_eq_true c] at h1 h2
      have h1 : some p.2 = some v := h1
      have h2 : some e = some d := h2
      rw [← Option.some.inj h1, ← Option.some.inj h2]
      exact r.head
    · rw [decide_eq_false c] at h1 h2
      exact val_look r.tail h1 h2
theorem dks_dki {a : Addr} {kvs : List (Key × V)} (h : Rd H a (.dK kvs)) (e : kvs.map (·.1) = ks) (r : Reps K H (kvs.map (·.2)) ds) : Rep K H (.ref a) (.dki ks ds) := by
  subst e
  refine .dki h rfl (by have := r.1; rw [List.length_map] at this; rw [List.length_map]; exact this) fun k v d h1 h2 => val_look r h1 h2
theorem eo_dnewS : EO K tDNewK ρ (.dks [] []) := fun H0 S G ow σ H g Q q => fun p hp => q p _ hp (Ex.new hp) (by rw [upd_same]; exact fun z => nomatch z) ⟨[], upd_same, rfl, All2.nil⟩
theorem at_dks {H0 H G : Hp} {S : Addr → Prop} {ow : Nat → Option Addr} {σ : L2.St} (g : Good K H0 S G ow σ H ρ) (hz : ρ[z]? = some (.ph qs)) (hq : (q, M.dks ks ds) ∈ qs) : ∃ kvs, H q = some (.dK kvs) ∧ kvs.map (·.1) = ks ∧ Reps K (hid (Hid S ow) H) (kvs.map (·.2)) ds := ((g.at_ z _ hz).2.2 _ hq).2
theorem er_atS (h : ED K te ρ (.at q)) (hz : ρ[z]? = some (.ph qs)) (hq : (q, M.dks ks ds) ∈ qs) : ER K te ρ (.dki ks ds) := fun H0 S G ow σ H g Q qq => h H0 S G ow σ H g _ fun v H1 e1 r1 => by
  obtain ⟨kvs, c, e, r⟩ := at_dks (g.ext e1) hz hq
  rw [r1.at_inv]
  exact qq _ H1 e1 (dks_dki (.inl c) e (r.mono hid_sub))
/-- d[x], a shared d -/
theorem ed_dgetSs {x : Str} (hd : ED K td ρ (.dki ks ds)) (hk : ED K tk ρ (.str x)) (h : lookK ks ds (.inr x) = some d) : ED K (tDGet td tk) ρ d := fun H0 S G ow σ H g Q q =>
  hd H0 S G ow σ H g _ fun v H1 e1 r1 => hk H0 S G ow σ H1 (g.ext e1) _ fun u H2 e2 r2 => by
    obtain ⟨a, kvs, rfl, rd, _, k2⟩ := dki_at (k := .inr x) (r1.mono (hid_ext e2))
    obtain ⟨x', hx, rx⟩ := k2 d h
    exact ⟨a, x', rfl, .inl ⟨kvs, .inr x, rd_ex rd hid_sub, by rw [r2.str_inv]; rfl, hx.symm⟩, q x' H2 (e1.trans e2) rx⟩
/-- d[x], d at a place -/
theorem ed_dgetSP {x : Str} (hd : ED K td ρ (.at q)) (hz : ρ[z]? = some (.ph qs)) (hq : (q, M.dks ks ds) ∈ qs) (hk : ED K tk ρ (.str x)) (h : lookK ks ds (.inr x) = some d) : ED K (tDGet td tk) ρ d := fun H0 S G ow σ H g Q qq =>
  hd H0 S G ow σ H g _ fun v H1 e1 r1 => hk H0 S G ow σ H1 (g.ext e1) _ fun u H2 e2 r2 => by
    have e := e1.trans e2
    obtain ⟨kvs, c, ek, r⟩ := at_dks (g.ext e) hz hq
    rw [r1.at_inv]
    have qq2 : (valV kvs (.inr x)).isSome = (lookK ks ds (.inr x)).isSome := opt_same (valV_in _ kvs) (by rw [show kvs.map (fun kv => kv.1) = ks from ek]; exact lookK_in _ ks ds (by rw [← ek, List.length_map, ← List.length_map (f := (·.2)), r.1]))
    rw [h] at qq2
    obtain ⟨u', hu⟩ := Option.isSome_iff_exists.mp qq2
    exact ⟨q, u', rfl, .inl ⟨kvs, .inr x, .inl c, by rw [r2.str_inv]; rfl, hu.symm⟩, qq u' H2 e (val_look r hu (by rw [ek]; exact h))⟩
theorem ed_dninS {x : Str} (hk : ED K tk ρ (.str x)) (hd : ER K td ρ (.dki ks ds)) : ED K (tDNotIn tk td) ρ (.bl (!(lookK ks ds (.inr x)).isSome)) := fun H0 S G ow σ H g Q q =>
  hk H0 S G ow σ H g _ fun u H1 e1 r1 => hd H0 S G ow σ H1 (g.ext e1) _ fun v H2 e2 r2 => by
    obtain ⟨a, kvs, rfl, rd, k1, _⟩ := dki_at (k := .inr x) r2
    exact ⟨a, _, rfl, .inl ⟨kvs, .inr x, rd, by rw [r1.str_inv]; rfl, rfl⟩, by rw [k1]; exact q _ H2 (e1.trans e2) (.bl _)⟩
/-- d[x] = v, d at a place -/
theorem sd_dputSP {x : Str} (hv : ED K tv ρ d) (hd : ED K td ρ (.at q)) (hk : ED K tk ρ (.str x)) (hz : ρ[z]? = some (.ph qs)) (hq : qs[l]? = some (q, M.dks ks ds)) (hl : ks.length < 100000) (k : Z.nx (ρ.set z (.ph (qs.set l (q, .dks (putSk ks (.inr x)) (putSd ks ds (.inr x) d)))))) : SD K (sDPut td tk tv) ρ Z := fun H0 S G ow σ H E g hn _ _ _ =>
  hv H0 S G ow σ H g _ fun v H1 e1 r1 => hd H0 S G ow σ H1 (g.ext e1) _ fun u H2 e2 r2 => hk H0 S G ow σ H2 (g.ext (e1.trans e2)) _ fun w H3 e3 r3 => by
    have e := (e1.trans e2).trans e3
    obtain ⟨kvs, c, ek, r⟩ := at_dks (g.ext e) hz (List.mem_of_getElem? hq)
    rw [r2.at_inv, r3.str_inv]
    have kl : kvs.length = ks.length := by rw [← ek, List.length_map]
    refine ⟨q, _, rfl, DPut.k (k := Sum.inr x) c (sz_lt (by omega)), ?_⟩
    exact hn _ _ _ _ k ((g.ext e).writeP hz hq _ _ ⟨_, upd_same, by rw [putSk_keys, ek], by rw [← ek]; exact putK_vals r ((r1.mono (hid_ext (e2.trans e3))))⟩)
def dropSk (ks : List Key) (k : Key) : List Key := ks.filter fun x => decide (x ≠ k)
def dropSd (ks : List Key) (ds : List D) (k : Key) : List D := ((ks.zip ds).filter fun p => decide (p.1 ≠ k)).map (·.2)
theorem dropK_keys (kvs : List (Key × V)) (k : Key) : (dropK kvs k).map (·.1) = dropSk (kvs.map (·.1)) k := by
  unfold dropK dropSk
  rw [List.filter_map]
  rfl
theorem dropK_vals : ∀ {kvs : List (Key × V)} {ds : List D} {k : Key}, Reps K G (kvs.map (·.2)) ds → Reps K G ((dropK kvs k).map (·.2)) (dropSd (kvs.map (·.1)) ds k)
  | [], [], k, h => All2.nil
  | [], _ :: _, k, h => absurd h.1 (by simp)
  | p :: l, [], k, h => absurd h.1 (by simp)
  | p :: l, e :: ds, k, h => by
    have ih := dropK_vals (k := k) (kvs := l) h.tail
    unfold dropK dropSd at ih ⊢
    have e2 : ((p :: l).map (·.1)).zip (e :: ds) = (p.1, e) :: (l.map (·.1)).zip ds := rfl
    rw [e2, List.filter_cons, List.filter_cons]
    by_cases c : p.1 = k
    · rw [if_neg (by rw [decide_eq_false (fun z => z c)]; exact Bool.false_ne_true), if_neg (by rw [decide_eq_false (fun z => z c)]; exact Bool.false_ne_true)]
      exact ih
    · rw [if_pos (decide_eq_true c), if_pos (decide_eq_true c), List.map_cons, List.map_cons]
      exact All2.cons h.head ih
theorem dks_has {kvs : List (Key × V)} {k : Key} (ek : kvs.map (·.1) = ks) (h : hasS ks k = true) : ∃ v, valV kvs k = some v := by
  have := (valV_in k kvs).mpr (by rw [show kvs.map (fun kv => kv.1) = ks from ek]; exact hasS_iff.mp h)
  exact Option.isSome_iff_exists.mp this
/-- del d[x], d at a place -/
theorem sd_ddelSP {x : Str} (hd : ED K td ρ (.at q)) (hk : ED K tk ρ (.str x)) (hz : ρ[z]? = some (.ph qs)) (hq : qs[l]? = some (q, M.dks ks ds)) (hh : hasS ks (.inr x) = true) (k : Z.nx (ρ.set z (.ph (qs.set l (q, .dks (dropSk ks (.inr x)) (dropSd ks ds (.inr x))))))) : SD K (sDDel td tk) ρ Z := fun H0 S G ow σ H E g hn _ _ _ =>
  hd H0 S G ow σ H g _ fun u H2 e2 r2 => hk H0 S G ow σ H2 (g.ext e2) _ fun w H3 e3 r3 => by
    have e := e2.trans e3
    obtain ⟨kvs, c, ek, r⟩ := at_dks (g.ext e) hz (List.mem_of_getElem? hq)
    obtain ⟨v, hv⟩ := dks_has ek hh
    rw [r2.at_inv, r3.str_inv]
    refine ⟨q, kvs, .inr x, rfl, c, rfl, by rw [hv]; rfl, ?_⟩
    exact hn _ _ _ _ k ((g.ext e).writeP hz hq _ _ ⟨_, upd_same, by rw [dropK_keys, ek], by rw [← ek]; exact dropK_vals r⟩)
/-- d.pop(x) as a statement, d at a place -/
theorem sd_dpopSP {x : Str} (hd : ED K td ρ (.at q)) (hk : ED K tk ρ (.str x)) (hz : ρ[z]? = some (.ph qs)) (hq : qs[l]? = some (q, M.dks ks ds)) (hh : hasS ks (.inr x) = true) (k : Z.nx (ρ.set z (.ph (qs.set l (q, .dks (dropSk ks (.inr x)) (dropSd ks ds (.inr x))))))) : SD K (tDrop (tDPop1 td tk)) ρ Z := fun H0 S G ow σ H E g hn _ _ _ =>
  hd H0 S G ow σ H g _ fun u H2 e2 r2 => by
    obtain ⟨kvs0, c0, _, _⟩ := at_dks (g.ext e2) hz (List.mem_of_getElem? hq)
    refine ⟨q, r2.at_inv, .inl ⟨_, .inl c0⟩, hk H0 S G ow σ H2 (g.ext e2) _ fun w H3 e3 r3 => ?_⟩
    have e := e2.trans e3
    obtain ⟨kvs, c, ek, r⟩ := at_dks (g.ext e) hz (List.mem_of_getElem? hq)
    obtain ⟨v, hv⟩ := dks_has ek hh
    rw [r3.str_inv]
    refine ⟨kvs, .inr x, v, c, rfl, hv, ?_⟩
    exact hn _ _ _ _ k ((g.ext e).writeP hz hq _ _ ⟨_, upd_same, by rw [dropK_keys, ek], by rw [← ek]; exact dropK_vals r⟩)
end
end BV
end
section
open PySem PySem.Spec PyProof.Rows L2 Evl
namespace BV
def tCallLS (K : PySem.W.Frag) (i : Nat) (f : Addr) (sp : Sp) (dvs : List V) (E : XK) (te : TE) : TE := fun σ H Q => σ[i]? = some (some (V.ref f)) ∧ te σ H fun y H1 => ∃ a xs, y = V.ref a ∧ (SqT K H1 a xs ∨ SqL K H1 a xs) ∧ sp (xs ++ dvs) H1 Q E
theorem pe_callLS {X : Cx} {CX : CXT} {k i : Nat} {f : Addr} {fd : FuncData} {ps : List Str} {sp : Sp} {dvs : List V} {ds : List Value} {E : XK} {x : Str} {p sp_ pos : Pos} {e : Expr} {te : TE}
    (F : FnOk X.prog X.w X.K X.mg X.base CX k f fd ps sp) (hr : Room k X.A) (hN : X.N[i]? = some x) (hv : Vis X.env.scope x) (hk : PySem.W.keepIn X.K (.ref f) = true) (hb : L2.Binds X.K fd ps ds) (hd : Vals dvs ds) (hx : Passes CX X E) (he : PE X e te)
    (hdb : (x == ("__debug__" : Str)) = false := by decide) (hcd : (x == ("__classdict__" : Str)) = false := by decide) (hst : starEach [Expr.Starred e sp_] X.env = [(true, eval e X.env)] := by rfl) :
    PE X (.Call (.Name x p) [.Starred e sp_] [] pos) (tCallLS X.K i f sp dvs E te) := ⟨fun pins s σ H Q I h => by
  obtain ⟨hs, ht⟩ := h
  refine wpAny_Call_Name_kw (thn ((pe_var hN hv hdb hcd).run pins s σ H (fun v H1 => v = V.ref f ∧ H1 = H) I ⟨V.ref f, hs, rfl, rfl⟩) ?_)
  rintro u s1 ⟨v, H1, I1, r1, rfl, rfl⟩
  have r1 : u = Value.ref f := r1
  subst r1
  refine PySem.W.callWith_S I.ok.mod.kin hk (thn (he.run pins s1 σ H1 (fun y H1 => ∃ a xs, y = V.ref a ∧ (SqT X.K H1 a xs ∨ SqL X.K H1 a xs) ∧ sp (xs ++ dvs) H1 Q E) I1 ht) ?_) hst
  rintro u s2 ⟨y, H2, I2, ry, a, xs, rfl, hxs, q⟩
  have ry : u = Value.ref a := ry
  subst ry
  exact StX.star_any I2 hxs fun us s3 I3 rv => ⟨Inv.kIn I3, run_fn F hr hb hd hx I3 rv q⟩⟩
section
variable {K : PySem.W.Frag} {ρ : List Sl} {te : TE} {ks : List (List Key)} {kk : List Key} {ds : List D} {n z : Nat} {q : Addr} {qs : List (Addr × M)}
/-- len of an own dict, of one at a place -/
theorem ed_lenO (h : ρ[n]? = some (.own (.dct ks ds))) : ED K (tCB rLenT (tCons (tVar n) tNil)) ρ (.int (ks.length : Int)) := fun H0 S G ow σ H g Q qq => by
  obtain ⟨p, a, b, kvs, c, e, r⟩ := g.at_ n _ h
  exact ⟨.ref p, a, p, kvs, rfl, c, by rw [show kvs.length = ks.length by rw [← e, List.length_map]]; exact qq _ H (Ex.refl H) (.int _)⟩
end
end BV
end
section
open PySem PySem.Spec PyProof.Rows L2 Evl
namespace BV
/-- an entry: a text and what stands under it -/
structure EntIs (w : World) (e : DictEntry) (p : Str × Value) : Prop where
  hash : e.hash = keyH w (.inr p.1)
  key : ∃ t, e.key = .str p.1 t
  val : e.val = p.2
inductive EntsOf (w : World) : List DictEntry → List (Str × Value) → Prop
  | nil : EntsOf w [] []
  | cons {e : DictEntry} {p : Str × Value} {es : List DictEntry} {kvs : List (Str × Value)} (h : EntIs w e p) (r : EntsOf w es kvs) : EntsOf w (e :: es) (p :: kvs)
/-- a dict of texts that the module keeps -/
structure KDct (w : World) (K : PySem.W.Frag) (d : Addr) (kvs : List (Str × Value)) : Prop where
  lk : ∃ (es : Array DictEntry) (ep : Nat), K.lookup d = some ⟨.type "dict", none, .dict es ep, #[]⟩ ∧ EntsOf w es.toList kvs
  nd : (kvs.map (·.1)).Nodup
  low : (d == sysModules) = false
def kdK (kvs : List (Str × Value)) : List (Key × Value) := kvs.map fun p => (Sum.inr p.1, p.2)
theorem EntsOf.keys {P : Program} {w : World} {es : List DictEntry} {kvs : List (Str × Value)} (h : EntsOf w es kvs) : ∀ e, e ∈ es → ∃ k, (mixKind P w).is k e.key = true ∧ e.hash = (mixKind P w).hash k := by
  induction h with
  | nil => intro e he; cases he
  | cons h r ih =>
    intro e he
    rcases List.mem_cons.mp he with rfl | he
    · obtain ⟨t, ht⟩ := h.key
      exact ⟨.inr _, kV_is (P := P) (w := w) (k := .inr _) (show RelV (V.str _) _ from ⟨t, ht⟩), h.hash⟩
    · exact ih e he
theorem EntsOf.pairs {P : Program} {w : World} {es : List DictEntry} {kvs : List (Str × Value)} (h : EntsOf w es kvs) : PySem.Pairs (mixKind P w) es (kdK kvs) := by
  induction h with
  | nil => exact .nil
  | cons h r ih =>
    obtain ⟨t, ht⟩ := h.key
    exact .cons (kV_is (P := P) (w := w) (k := .inr _) (show RelV (V.str _) _ from ⟨t, ht⟩)) h.val ih
theorem KDct.of {P : Program} {w : World} {K : PySem.W.Frag} {d : Addr} {kvs : List (Str × Value)} {hp : Heap} (h : KDct w K d kvs) (i : K.In hp) : Heap.DictOf (mixKind P w) hp d (kdK kvs) := by
  obtain ⟨es, ep, l, e⟩ := h.lk
  refine ⟨_, es, ep, i _ _ l, ⟨rfl, rfl, rfl⟩, rfl, fun e' he => e.keys e' (by simpa using he), e.pairs, ?_⟩
  unfold kdK
  rw [List.map_map]
  have := h.nd
  rw [show ((fun x : Key × Value => x.1) ∘ fun p : Str × Value => ((Sum.inr p.1 : Key), p.2)) = (fun x : Str => (Sum.inr x : Key)) ∘ fun p : Str × Value => p.1 from rfl, ← List.map_map]
  exact List.pairwise_map.mpr (this.imp fun q z => q (by injection z))
def tKGet (kvs : List (Str × Value)) (ty : TE) : TE := fun σ H Q => ty σ H fun y H1 => ∃ (x : Str) (u : Value) (v : V), y = .str x ∧ valueAt (kdK kvs) (.inr x) = some u ∧ RelV v u ∧ Q v H1
theorem pe_kget {X : Cx} {o i : Expr} {pos : Pos} {d : Addr} {kvs : List (Str × Value)} {ty : TE} (hd : KDct X.w X.K d kvs) (ho : PE X o (tC (.ref d))) (hi : PE X i ty) (hs : NoSl i) : PE X (.Subscript o i pos) (tKGet kvs ty) := ⟨fun pins s σ H Q I h => by
  refine subD_of F.slot_dict_getitem.lookup hs (thn (ho.run pins s σ H (fun x H1 => x = V.ref d ∧ H1 = H) I ⟨rfl, rfl⟩) ?_)
  rintro u s1 ⟨x, H1, I1, rx, rfl, rfl⟩
  have rx : u = Value.ref d := rx
  subst rx
  refine thn (hi.run pins s1 σ H1 _ I1 h) ?_
  rintro iv s2 ⟨y, H2, I2, ry, x, u, v, rfl, hv, rv, q⟩
  have dd := hd.of (P := X.prog) (Inv.kIn I2)
  exact ⟨Heap.DictOf.typeIs dd, wpAny_getItem_of (kV_is (k := .inr x) ry) (Heap.DictOf.mapOf dd) hv ⟨v, H2, Inv.tok I2 _, rv, q⟩⟩⟩
def tKIn (b : Bool) (kvs : List (Str × Value)) (ty : TE) : TE := fun σ H Q => ty σ H fun y H1 => ∃ x : Str, y = .str x ∧ Q (.bl (b ^^ (valueAt (kdK kvs) (.inr x)).isSome)) H1
theorem pc_kin {X : Cx} {o i : Expr} {d : Addr} {kvs : List (Str × Value)} {ty : TE} (hd : KDct X.w X.K d kvs) (hi : PE X i ty) (ho : PE X o (tC (.ref d))) : PC X .In i o (tKIn false kvs ty) := ⟨fun pins s σ H Q I h => by
  refine thn (hi.run pins s σ H _ I h) ?_
  rintro iv s1 ⟨y, H1, I1, ry, x, rfl, q⟩
  refine thn (ho.run pins s1 σ H1 (fun v H2 => v = V.ref d ∧ H2 = H1) I1 ⟨rfl, rfl⟩) ?_
  rintro u s2 ⟨v, H2, I2, rx, rfl, rfl⟩
  have rx : u = Value.ref d := rx
  subst rx
  have dd := hd.of (P := X.prog) (Inv.kIn I2)
  rw [Bool.false_xor] at q
  exact wpAny_in_of (kV_is (k := .inr x) ry) hd.low (Heap.DictOf.mapOf dd) ⟨V.bl (valueAt (kdK kvs) (.inr x)).isSome, H2, Inv.tok I2 _, rfl, q⟩⟩
theorem pc_knin {X : Cx} {o i : Expr} {d : Addr} {kvs : List (Str × Value)} {ty : TE} (hd : KDct X.w X.K d kvs) (hi : PE X i ty) (ho : PE X o (tC (.ref d))) : PC X .NotIn i o (tKIn true kvs ty) := ⟨fun pins s σ H Q I h => by
  refine thn (hi.run pins s σ H _ I h) ?_
  rintro iv s1 ⟨y, H1, I1, ry, x, rfl, q⟩
  refine thn (ho.run pins s1 σ H1 (fun v H2 => v = V.ref d ∧ H2 = H1) I1 ⟨rfl, rfl⟩) ?_
  rintro u s2 ⟨v, H2, I2, rx, rfl, rfl⟩
  have rx : u = Value.ref d := rx
  subst rx
  have dd := hd.of (P := X.prog) (Inv.kIn I2)
  rw [Bool.true_xor] at q
  exact wpAny_notIn_of (kV_is (k := .inr x) ry) hd.low (Heap.DictOf.mapOf dd) ⟨V.bl (!(valueAt (kdK kvs) (.inr x)).isSome), H2, Inv.tok I2 _, rfl, q⟩⟩
def kdAt (kvs : List (Str × Value)) (x : Str) : Option Value := (kvs.find? fun p => decide (p.1 = x)).map (·.2)
theorem kd_look (kvs : List (Str × Value)) (x : Str) : valueAt (kdK kvs) (.inr x) = kdAt kvs x := by
  induction kvs with
  | nil => rfl
  | cons p l ih =>
    show Option.map _ (List.find? _ (((Sum.inr p.1 : Key), p.2) :: kdK l)) = Option.map _ (List.find? _ (p :: l))
    rw [List.find?_cons, List.find?_cons]
    by_cases c : p.1 = x
    · rw [decide_eq_true c, decide_eq_true (by rw [c] : (Sum.inr p.1 : Key) = Sum.inr x)]
      rfl
    · rw [decide_eq_false c, decide_eq_false (fun z => c (by injection z))]
      exact ih
section
variable {K : PySem.W.Frag} {ρ : List Sl} {te ta tb tc tv td tk : TE} {tx ty : TA} {d : D} {kvs : List (Str × Value)}
/-- what a module's dict holds under x, told -/
theorem ed_kget {x : Str} {u : Value} (hk : ED K tk ρ (.str x)) (h : kdAt kvs x = some u) (hv : ∀ H : Hp, ∃ v, RelV v u ∧ Rep K H v d) : ED K (tKGet kvs tk) ρ d := fun H0 S G ow σ H g Q q => hk H0 S G ow σ H g _ fun w H1 e1 r1 => by
  obtain ⟨v, h1, h2⟩ := hv (hid (Hid S ow) H1)
  exact ⟨x, u, v, r1.str_inv, by rw [kd_look]; exact h, h1, q v H1 e1 h2⟩
theorem ed_kin {x : Str} {b : Bool} (hk : ED K tk ρ (.str x)) : ED K (tKIn b kvs tk) ρ (.bl (b ^^ (kdAt kvs x).isSome)) := fun H0 S G ow σ H g Q q => hk H0 S G ow σ H g _ fun w H1 e1 r1 => ⟨x, r1.str_inv, by rw [kd_look]; exact q _ H1 e1 (.bl _)⟩
end
end BV
end
section
open PySem PySem.Spec PyProof.Rows L2 Evl
namespace BV
open PySem.W
section
variable {K : PySem.W.Frag} {G H : Hp} {ρ : List Sl} {te ta tv ty : TE} {v : V} {d : D} {ds : List D} {is : List Int} {ks : List (List Key)} {n : Nat} {Z : Zs}
theorem Rep.tph_inv (r : Rep K H v (.tph is)) : ∃ a, v = .ref a ∧ H a = some (.tup (is.map V.int)) := by
  cases r with
  | tph h => exact ⟨_, rfl, h⟩
theorem Rep.tph_tup (r : Rep K H v (.tph is)) : Rep K H v (tupK is) := by
  obtain ⟨a, rfl, h⟩ := r.tph_inv
  exact Rep.of_tup (xs := is.map V.int) (st_of h) (reps_ints is)
theorem ed_tphT (h : ED K te ρ (.tph is)) : ED K te ρ (tupK is) := fun H0 S G ow σ H g Q q => h H0 S G ow σ H g _ fun v H1 e1 r1 => q v H1 e1 r1.tph_tup
theorem reps_tph {H T : Hp} (hs : ∀ b vs, H b = some (.tup vs) → T b = some (.tup vs)) : ∀ {bs : List (Addr × List Int)}, (∀ b, b ∈ bs → H b.1 = some (.tup (b.2.map V.int))) → Reps K T (bs.map fun b => V.ref b.1) ((bs.map Prod.snd).map D.tph)
  | [], _ => All2.nil
  | b :: bs, h => All2.cons (Rep.tph (hs _ _ (h b List.mem_cons_self))) (reps_tph hs fun c hc => h c (List.mem_cons_of_mem _ hc))
theorem eo_sortTH {ks : List (List Int)} {ds : List D} (ha : ED K ta ρ (.dct (ks.map intK) ds)) (hal : AllAlike (ks.map fun k => PyData.tuple (k.map .int))) (hk : Sortable (ks.map fun k => PyData.tuple (k.map .int))) : EO K (tCB rSortT (tCons ta tNil)) ρ (.lst ((sortKs ks).map D.tph)) := fun H0 S G ow σ H g Q q => ha H0 S G ow σ H g _ fun v H1 e1 r1 => by
  obtain ⟨a, kvs, rfl, hd, hkk, _⟩ := r1.dct_inv
  refine ⟨a, kvs, ks, rfl, ?_, hkk, hal, hk, fun p bs hp hb e => ?_⟩
  · rcases hd with z | ⟨o, z⟩
    · exact .inl (hid_sub _ _ z)
    · exact .inr ⟨o, hid_sub _ _ z⟩
  · rw [← e] at q
    exact q p _ (fresh_back e1 hp) (e1.trans (Ex.new hp)) (by rw [upd_same]; exact fun z => nomatch z) (eo_of_new hp ((g.ext e1).fresh hp) (reps_tph (fun b vs h => (g.ext e1).sees h) hb))
end
end BV
namespace BV
section
variable {K : PySem.W.Frag} {ρ : List Sl} {tv ty : TE} {d : D} {ds : List D} {is : List Int} {ks : List (List Key)} {n : Nat} {Z : Zs}
/-- d[pair] = v, the pair told, a new key -/
theorem sd_dputTH (h : ρ[n]? = some (.own (.dct ks ds))) (hv : ED K tv ρ d) (hk : ED K ty ρ (.tph is)) (hn : intK is ∉ ks) (hl : ks.length < 100000)
    (k : Z.nx (ρ.set n (.own (.dct (ks ++ [intK is]) (ds ++ [d]))))) : SD K (sDPut (tVar n) ty tv) ρ Z := fun H0 S G ow σ H E g hnx _ _ _ => hv H0 S G ow σ H g _ fun v H1 e1 r1 => by
  obtain ⟨p, a, b, kvs, c, e, hr⟩ := (g.ext e1).at_ n _ h
  refine ⟨.ref p, a, hk H0 S G ow σ H1 (g.ext e1) _ fun u H2 e2 r2 => ?_⟩
  obtain ⟨q, rfl, hq⟩ := r2.tph_inv
  have hlen : kvs.length < 100000 := by
    have := congrArg List.length e
    rw [List.length_map] at this
    omega
  have hkn : valV kvs (intK is) = none := valV_none (by rw [e]; exact hn)
  refine ⟨p, _, rfl, DPut.t (k := intK is) (e2 _ _ c) (by rw [kV_ints]; exact hid_sub _ _ hq) (sz_lt hlen), ?_⟩
  rw [L2.putK_new _ hkn]
  refine hnx _ _ _ _ k (((g.ext e1).ext e2).write b _ _ ⟨_, upd_same, by rw [List.map_append, e]; rfl, ?_⟩ (fun _ => a) (.inl (List.getElem?_eq_some_iff.mp h).1))
  rw [List.map_append]
  exact (hr.mono (hid_ext e2)).snoc (r1.mono (hid_ext e2))
end
end BV
end
section
open PySem PySem.Spec PyProof.Rows L2 Evl
namespace BV
/-- a datum with what stands at its addresses, dicts of texts -/
inductive FlD (qs : List (Addr × M)) : D → D → Prop
  | refl (d : D) : FlD qs d d
  | at {q : Addr} {ks : List Key} {ds : List D} (h : (q, M.dks ks ds) ∈ qs) : FlD qs (.at q) (.dki ks ds)
  | obj {C : Addr} {ns : List Str} {ds es : List D} (hl : ds.length = es.length) (hr : ∀ (i : Nat) (d e : D), ds[i]? = some d → es[i]? = some e → FlD qs d e) : FlD qs (.obj C ns ds) (.obj C ns es)
  | lst {ds es : List D} (hl : ds.length = es.length) (hr : ∀ (i : Nat) (d e : D), ds[i]? = some d → es[i]? = some e → FlD qs d e) : FlD qs (.lst ds) (.lst es)
theorem FlD.obj1 {qs : List (Addr × M)} {C : Addr} {f : Str} {d e : D} (h : FlD qs d e) : FlD qs (.obj C [f] [d]) (.obj C [f] [e]) := .obj rfl fun i a b h1 h2 => by
  cases i with
  | zero => cases h1; cases h2; exact h
  | succ i => simp at h1
theorem FlD.rep {K : PySem.W.Frag} {H G : Hp} {qs : List (Addr × M)} (eg : Ex G H) (hq : ∀ q ks ds, (q, M.dks ks ds) ∈ qs → ∃ kvs, H q = some (.dK kvs) ∧ kvs.map (·.1) = ks ∧ Reps K G (kvs.map (·.2)) ds) {d e : D} (f : FlD qs d e) : ∀ {v : V}, Rep K G v d → Rep K H v e := by
  induction f with
  | refl d => exact fun r => r.mono eg
  | «at» h =>
    intro v r
    obtain ⟨kvs, h1, h2, h3⟩ := hq _ _ _ h
    cases r
    exact dks_dki (.inl h1) h2 (h3.mono eg)
  | obj hl hr ih =>
    intro v r
    obtain ⟨a, dx, fs, rfl, h1, h2, h3⟩ := r.obj_inv
    refine .obj (eg _ _ h1) h2 (h3.1.trans hl) fun i v e a b => ?_
    obtain ⟨d, hd, rd⟩ := h3.getL a
    exact ih i d e hd b rd
  | lst hl hr ih =>
    intro v r
    obtain ⟨a, xs, rfl, h1, h2⟩ := r.lst_inv
    refine .of_lst (ex_l eg h1) ⟨h2.1.trans hl, fun i v e a b => ?_⟩
    obtain ⟨d, hd, rd⟩ := h2.getL a
    exact ih i d e hd b rd
/-- no dict of texts within -/
inductive NoK : D → Prop
  | non : NoK .non
  | bl (b : Bool) : NoK (.bl b)
  | int (i : Int) : NoK (.int i)
  | str (x : Str) : NoK (.str x)
  | tup {ds : List D} (h : ∀ d, d ∈ ds → NoK d) : NoK (.tup ds)
  | lst {ds : List D} (h : ∀ d, d ∈ ds → NoK d) : NoK (.lst ds)
  | dct {ks : List (List Key)} {ds : List D} (h : ∀ d, d ∈ ds → NoK d) : NoK (.dct ks ds)
  | obj {C : Addr} {ns : List Str} {ds : List D} (h : ∀ d, d ∈ ds → NoK d) : NoK (.obj C ns ds)
  | tph (is : List Int) : NoK (.tph is)
/-- H' tells all of H but dicts with texts as keys -/
def ExK (H H' : Hp) : Prop := ∀ a o, H a = some o → (∀ kvs, o ≠ .dK kvs) → H' a = some o
theorem rd_k {H H' : Hp} (e : ExK H H') {a : Addr} {u : HO} (h : Rd H a u) (n : ∀ kvs, u ≠ .dK kvs) : Rd H' a u := h.elim (fun z => .inl (e _ _ z n)) fun ⟨o, z⟩ => .inr ⟨o, e _ _ z fun _ w => nomatch w⟩
theorem Rep.nok {K : PySem.W.Frag} {G : Hp} {v : V} {d : D} (r : Rep K G v d) : NoK d → ∀ {G' : Hp}, ExK G G' → Rep K G' v d := by
  induction r with
  | non => exact fun _ _ _ => .non
  | bl b => exact fun _ _ _ => .bl b
  | int i => exact fun _ _ _ => .int i
  | str x => exact fun _ _ _ => .str x
  | tup h hl hr ih =>
    intro n G' e
    cases n with
    | tup n => exact .tup (h.elim (fun z => .inl (rd_k e z fun _ w => nomatch w)) .inr) hl fun i v d a b => ih i v d a b (n d (List.mem_of_getElem? b)) e
  | lst h hl hr ih =>
    intro n G' e
    cases n with
    | lst n => exact .lst (h.elim (fun z => .inl (rd_k e z fun _ w => nomatch w)) .inr) hl fun i v d a b => ih i v d a b (n d (List.mem_of_getElem? b)) e
  | dct h hk hl hr ih =>
    intro n G' e
    cases n with
    | dct n => exact .dct (rd_k e h fun _ w => nomatch w) hk hl fun i v d a b => ih i v d a b (n d (List.mem_of_getElem? b)) e
  | obj h hk hl hr ih =>
    intro n G' e
    cases n with
    | obj n => exact .obj (e _ _ h fun _ w => nomatch w) hk hl fun i v d a b => ih i v d a b (n d (List.mem_of_getElem? b)) e
  | exc h hx hk hl hr ih => intro n; cases n
  | dki h hk hl hr ih => intro n; cases n
  | «at» q => intro n; cases n
  | tph h =>
    intro n G' e
    exact .tph (e _ _ h fun _ w => nomatch w)
theorem Reps.nok {K : PySem.W.Frag} {G G' : Hp} {vs : List V} {ds : List D} (r : Reps K G vs ds) (n : ∀ d, d ∈ ds → NoK d) (e : ExK G G') : Reps K G' vs ds := ⟨r.1, fun i v d a b => (r.2 i v d a b).nok (n d (List.mem_of_getElem? b)) e⟩
/-- a dict of texts stands at b -/
def DkAt (es : List (Addr × M)) (b : Addr) : Prop := ∃ ks ds, (b, M.dks ks ds) ∈ es
/-- these arguments with what stands at their addresses -/
def Fls (es : List (Addr × M)) (as cs : List (Bool × D)) : Prop := All2 (fun a c : Bool × D => a.1 = true ∧ c.1 = true ∧ FlD es a.2 c.2) as cs
theorem fls_nil {es : List (Addr × M)} : Fls es [] [] := All2.nil
theorem fls_cons {es : List (Addr × M)} {d e : D} {as cs : List (Bool × D)} (h : FlD es d e) (r : Fls es as cs) : Fls es ((true, d) :: as) ((true, e) :: cs) := All2.cons ⟨rfl, rfl, h⟩ r
theorem fls_eq {es : List (Addr × M)} {d : D} {as cs : List (Bool × D)} (r : Fls es as cs) : Fls es ((true, d) :: as) ((true, d) :: cs) := All2.cons ⟨rfl, rfl, .refl d⟩ r
section
variable {K : PySem.W.Frag} {H0 H H' G : Hp} {S : Addr → Prop} {ow : Nat → Option Addr} {σ : L2.St} {ρ : List Sl} {es : List (Addr × M)} {z : Nat}
/-- what is hidden but for the dicts of texts in the nameless slot -/
def HidK (S : Addr → Prop) (ow : Nat → Option Addr) (es : List (Addr × M)) (b : Addr) : Prop := Hid S ow b ∧ ¬ DkAt es b
theorem Good.args (g : Good K H0 S G ow σ H ρ) (hz : ρ[z]? = some (.ph es)) {us : List V} {as cs : List (Bool × D)} (r : Args K (hid (Hid S ow) H) H us as) (f : Fls es as cs) : Args K (hid (HidK S ow es) H) H us cs := by
  have less : Ex (hid (Hid S ow) H) (hid (HidK S ow es) H) := hid_less fun b w => w.1
  refine ⟨r.1.trans f.1, fun i u c h1 h2 => ?_⟩
  obtain ⟨a, h3⟩ : ∃ a, as[i]? = some a := ⟨_, List.getElem?_eq_getElem (by rw [f.1]; exact (List.getElem?_eq_some_iff.mp h2).1)⟩
  obtain ⟨f1, f2, f3⟩ := f.2 i a c h3 h2
  have w := r.2 i u a h1 h3
  unfold Arg at w ⊢
  rw [if_pos f1] at w
  rw [if_pos f2]
  refine f3.rep less (fun q ks ds hq => ?_) w
  obtain ⟨kvs, c1, c2, c3⟩ := at_dks g hz hq
  exact ⟨kvs, by rw [hid_no fun w => w.2 ⟨ks, ds, hq⟩]; exact c1, c2, c3⟩
theorem Good.thereK (g : Good K H0 S G ow σ H ρ) : ∀ b, HidK S ow es b → Nb (H b) := fun b w => g.there b w.1
theorem Good.exk (g : Good K H0 S G ow σ H ρ) (hz : ρ[z]? = some (.ph es)) (e : Ex H H') {A : Addr → Prop} : ExK (hid (fun b => HidK S ow es b ∨ A b) H') (hid (fun b => Hid S ow b ∨ A b) H') := fun b o h n => by
  obtain ⟨h1, h2⟩ := hid_some h
  rw [hid_no fun w => ?_]
  · exact h2
  · rcases w with w | w
    · by_cases q : DkAt es b
      · obtain ⟨ks, ds, hq⟩ := q
        obtain ⟨kvs, c1, _, _⟩ := at_dks g hz hq
        have := e _ _ c1
        rw [h2] at this
        exact n kvs (Option.some.inj this)
      · exact h1 (.inl ⟨w, q⟩)
    · exact h1 (.inr w)
theorem hid_orF {T : Addr → Prop} : hid (fun b => T b ∨ False) H = hid T H := by
  have : (fun b => T b ∨ False) = T := funext fun b => propext ⟨fun w => w.elim id False.elim, .inl⟩
  rw [this]
theorem Good.exk0 (g : Good K H0 S G ow σ H ρ) (hz : ρ[z]? = some (.ph es)) (e : Ex H H') : ExK (hid (HidK S ow es) H') (hid (Hid S ow) H') := by
  have := g.exk hz e (A := fun _ => False)
  rw [hid_orF, hid_orF] at this
  exact this
end
section
variable {K : PySem.W.Frag} {ρ : List Sl} {te : TE} {tx : TA} {es : List (Addr × M)} {z : Nat} {C : Addr} {ns : List Str} {ds : List D} {as : List (Bool × D)} {E : XK}
/-- a call that only looks -/
theorem ed_callD {α : Type} {pre : α → Prop} {args : α → List (Bool × D)} {res : α → D} (x : α) (hp : pre x) (ha : EA K tx ρ as) (hz : ρ[z]? = some (.ph es)) (hf : Fls es as (args x)) (hn : NoK (res x)) : ED K (tCall (spSh K pre args res) [] E tx) ρ (res x) := fun H0 S G ow σ H g Q q =>
  ha H0 S G ow σ H g _ fun us H1 e r => by
    rw [List.append_nil]
    have g1 := g.ext e
    exact ⟨x, hp, HidK S ow es, g1.thereK, g1.args hz r hf, fun v H' e' rv => q v H' (e.trans e') (rv.nok hn (g1.exk0 hz e'))⟩
theorem ed_methD {α : Type} {pre : α → Prop} {args : α → List (Bool × D)} {res : α → D} {mn : Str} (x : α) (hp : pre x) (ho : ED K te ρ (.obj C ns ds)) (hm : mn ∉ ns) (ha : EA K tx ρ as) (hz : ρ[z]? = some (.ph es)) (hf : Fls es ((true, .obj C ns ds) :: as) (args x)) (hn : NoK (res x)) : ED K (tMeth C mn (spSh K pre args res) [] E te tx) ρ (res x) := fun H0 S G ow σ H g Q q =>
  ho H0 S G ow σ H g _ fun v H1 e1 r1 => by
    obtain ⟨a, dx, fs, rfl, h1, h2, h3⟩ := id r1.obj_inv
    refine ⟨a, dx, fs, rfl, (hid_some h1).2, fld_none (by rw [h2]; exact hm), ha H0 S G ow σ H1 (g.ext e1) _ fun us H2 e2 r2 => ?_⟩
    rw [List.append_nil]
    have g2 := g.ext (e1.trans e2)
    have ra : Args K (hid (Hid S ow) H2) H2 (.ref a :: us) ((true, .obj C ns ds) :: as) := All2.cons (by unfold Arg; rw [if_pos rfl]; exact r1.mono (hid_ext e2)) r2
    exact ⟨x, hp, HidK S ow es, g2.thereK, g2.args hz ra hf, fun v H' e' rv => q v H' ((e1.trans e2).trans e') (rv.nok hn (g2.exk0 hz e'))⟩
theorem eo_methD {α : Type} {pre : α → Prop} {args : α → List (Bool × D)} {res : α → List D} {mn : Str} (x : α) (hp : pre x) (ho : ED K te ρ (.obj C ns ds)) (hm : mn ∉ ns) (ha : EA K tx ρ as) (hz : ρ[z]? = some (.ph es)) (hf : Fls es ((true, .obj C ns ds) :: as) (args x)) (hn : ∀ d, d ∈ res x → NoK d) : EO K (tMeth C mn (spOw K pre args fun x => .lst (res x)) [] E te tx) ρ (.lst (res x)) := fun H0 S G ow σ H g Q q =>
  ho H0 S G ow σ H g _ fun v H1 e1 r1 => by
    obtain ⟨a, dx, fs, rfl, h1, h2, h3⟩ := id r1.obj_inv
    refine ⟨a, dx, fs, rfl, (hid_some h1).2, fld_none (by rw [h2]; exact hm), ha H0 S G ow σ H1 (g.ext e1) _ fun us H2 e2 r2 => ?_⟩
    rw [List.append_nil]
    have g2 := g.ext (e1.trans e2)
    have ra : Args K (hid (Hid S ow) H2) H2 (.ref a :: us) ((true, .obj C ns ds) :: as) := All2.cons (by unfold Arg; rw [if_pos rfl]; exact r1.mono (hid_ext e2)) r2
    exact ⟨x, hp, HidK S ow es, g2.thereK, g2.args hz ra hf, fun p H' hp e' nn ⟨xs, m1, m2⟩ => q p H' (fresh_back (e1.trans e2) hp) ((e1.trans e2).trans e') nn ⟨xs, m1, m2.nok hn (g2.exk hz e')⟩⟩
/-- some datum of a kind -/
theorem em_callED {α : Type} {pre : α → Prop} {args : α → List (Bool × D)} {R : α → D → Prop} {P : List Sl → D → Prop} (x : α) (hp : pre x) (ha : EA K tx ρ as) (hz : ρ[z]? = some (.ph es)) (hf : Fls es as (args x)) (hn : ∀ d, R x d → NoK d) (k : ∀ d, R x d → P ρ d) : EM K (tCall (spE K pre args R) [] E tx) ρ P := fun H0 S G ow σ H g Q q =>
  ha H0 S G ow σ H g _ fun us H1 e r => by
    rw [List.append_nil]
    have g1 := g.ext e
    exact ⟨x, hp, HidK S ow es, g1.thereK, g1.args hz r hf, fun d v H' hd e' rv => q v H' ow ρ d (k d hd) (g1.ext e') (hid_ext (e.trans e')) (rv.nok (hn d hd) (g1.exk0 hz e'))⟩
/-- a method that may change what it is handed -/
theorem em_methM {α β : Type} {pre : α → Prop} {args : α → List Addr → List (Bool × D)} {ms : α → List Addr → List M} {R : α → β → Prop} {nn : β → Nat} {dd : β → List Addr → D} {mm : β → List Addr → List M} {P : List Sl → D → Prop} {mn : Str} {ls rs : List (Addr × M)} (x : α) (hp : pre x) (ho : ED K te ρ (.obj C ns ds)) (hm : mn ∉ ns) (hz : ρ[z]? = some (.ph (ls ++ rs))) (hl : ls.map (·.2) = ms x (ls.map (·.1)))
    (ha : EA K tx ρ as) (hs : ∀ a, a ∈ as → a.1 = true) (ea : args x (ls.map (·.1)) = (true, .obj C ns ds) :: as)
    (k : ∀ y new, R x y → new.length = nn y → P (ρ.set z (.ph ((new ++ ls.map (·.1)).zip (mm y (new ++ ls.map (·.1))) ++ rs))) (dd y (new ++ ls.map (·.1)))) : EM K (tMeth C mn (spMt K pre args ms R nn dd mm) [] E te tx) ρ P := fun H0 S G ow σ H g Q q =>
  ho H0 S G ow σ H g _ fun v H1 e1 r1 => by
    obtain ⟨a, dx, fs, rfl, h1, h2, h3⟩ := id r1.obj_inv
    refine ⟨a, dx, fs, rfl, (hid_some h1).2, fld_none (by rw [h2]; exact hm), ha H0 S G ow σ H1 (g.ext e1) _ fun us H2 e2 r2 => ?_⟩
    rw [List.append_nil]
    have e := e1.trans e2
    obtain ⟨ow', g', hq, heq, nd, hr⟩ := (g.ext e).out hz
    have lz := (List.getElem?_eq_some_iff.mp hz).1
    have ra : Args K (hid (Hid S ow) H2) H2 (.ref a :: us) ((true, .obj C ns ds) :: as) := All2.cons (by unfold Arg; rw [if_pos rfl]; exact r1.mono (hid_ext e2)) r2
    refine ⟨x, hp, ls.map (·.1), by rw [← hl, List.length_map, List.length_map], nd, Hid S ow', g'.there, fun q h => (hq q h).2, ?_, ?_, fun v H' ⟨y, new, hy, hn, a2, a3, a4, a5, a6, a7⟩ => ?_⟩
    · rw [heq, ea]
      refine ⟨ra.1, fun i u c h1 h2 => ?_⟩
      have w := ra.2 i u c h1 h2
      have s : c.1 = true := by
        rcases List.mem_cons.mp (List.mem_of_getElem? h2) with rfl | h
        · rfl
        · exact hs c h
      obtain ⟨b, d⟩ := c
      cases s
      exact w
    · rw [heq, ← hl]
      refine ⟨by rw [List.length_map, List.length_map], fun i q m h1 h2 => ?_⟩
      rw [List.getElem?_map] at h1 h2
      obtain ⟨c1, he, rfl⟩ := Option.map_eq_some_iff.mp h1
      obtain ⟨c2, he2, rfl⟩ := Option.map_eq_some_iff.mp h2
      rw [he] at he2
      cases he2
      exact hr _ (List.mem_of_getElem? he)
    · obtain ⟨ow2, g2, hh2, _⟩ := g'.adopt (List.getElem?_set_self lz) a5 a3 a4 a2 a7
      rw [List.set_set] at g2
      refine q v H' ow2 _ _ (k y new hy hn) g2 (fun b o w => ?_) (a6.mono (hid_less fun b w => (hh2 b).1 w))
      have w1 := hid_ext e b o w
      rw [← heq] at w1
      obtain ⟨w2, w3⟩ := hid_some w1
      rw [hid_no fun w => ((hh2 b).1 w).elim w2 fun w => by rw [(a4 b w).1] at w3; cases w3]
      exact a5 b o w3
/-- new things within, told on -/
theorem em_en {c : Nat} {dd : List Addr → D} {mm : List Addr → List M} {P : List Sl → D → Prop} (h : EN K te ρ c dd mm) (hz : ρ[z]? = some (.ph es)) (k : ∀ ps, ps.length = c → ps.Nodup → (∀ q, q ∈ ps → q ∉ es.map (·.1)) → P (ρ.set z (.ph (ps.zip (mm ps) ++ es))) (dd ps)) : EM K te ρ P := fun H0 S G ow σ H g Q q =>
  h H0 S G ow σ H g _ fun v H' ⟨ps, a1, a2, a3, a4, a5, a6, a7⟩ => by
    obtain ⟨ow', g', hh, hne⟩ := g.adopt hz a5 a3 a4 a2 a7
    refine q v H' ow' _ _ (k ps a1 a3 hne) g' (fun b o w => ?_) (a6.mono (hid_less fun b w => (hh b).1 w))
    obtain ⟨w1, w2⟩ := hid_some w
    rw [hid_no fun w => ((hh b).1 w).elim w1 fun w => by rw [(a4 b w).1] at w2; cases w2]
    exact a5 b o w2
end
section
variable {K : PySem.W.Frag} {H0 H H' G : Hp} {S : Addr → Prop} {ow : Nat → Option Addr} {σ : L2.St} {ρ : List Sl} {es fs : List (Addr × M)} {z : Nat} {te : TE} {ts : TS} {P : List Sl → D → Prop} {Z : Zs}
theorem Good.perm (g : Good K H0 S G ow σ H ρ) (hz : ρ[z]? = some (.ph es)) (h : es.Perm fs) : Good K H0 S G ow σ H (ρ.set z (.ph fs)) := by
  obtain ⟨z1, z2, z3⟩ := g.at_ z _ hz
  have gl := g.len
  have lz : z < σ.length := by have := (List.getElem?_eq_some_iff.mp hz).1; omega
  have q := g.putK z σ[z] (.ph fs) (.inl ⟨by rw [List.length_set]; omega, (h.map _).nodup_iff.mp z2, fun e he => by rw [List.length_set]; exact z3 e (h.mem_iff.mpr he)⟩)
  rw [List.set_getElem_self lz] at q
  exact q
theorem sd_perm (hz : ρ[z]? = some (.ph es)) (h : es.Perm fs) (k : SD K ts (ρ.set z (.ph fs)) Z) : SD K ts ρ Z := fun H0 S G ow σ H E g hn hb hc hr => k H0 S G ow σ H E (g.perm hz h) hn hb hc hr
end
end BV
end
section
open PySem PySem.Spec PyProof.Rows L2 Evl
namespace BV
/-- the tuple at a and the list at b as they stand at each turn -/
def ItzM (K : PySem.W.Frag) (a b : Addr) : It :=
  ⟨fun i H => ∃ (us vs : List V) (p q : V), SqT K H a us ∧ SqL K H b vs ∧ us[i]? = some p ∧ vs[i]? = some q,
    fun i H v H' => ∃ T p q, v = .ref T ∧ H T = none ∧ H' = upd H T (.tup [p, q]) ∧ (∀ us, SqT K H a us → us[i]? = some p) ∧ ∀ vs, SqL K H b vs → vs[i]? = some q,
    fun i H => ∃ us vs : List V, SqT K H a us ∧ SqL K H b vs ∧ (us.length ≤ i ∨ vs.length ≤ i)⟩
theorem zsep {z TI TO i1 i2 l1 l2 : Addr} (D : ZipApart z TI TO i1 i2 l1 l2) : ZipSep2 z TI TO i1 i2 [i1, l1] [i2, l2] where
  TIz := D.TIz
  TOz := D.TOz
  TITO := D.TITO
  TIi1 := D.TIi1
  mem1 := List.mem_cons_self
  zf1 := fun h => by
    simp only [List.mem_cons, List.not_mem_nil, or_false] at h
    rcases h with h | h
    · exact D.i1z h.symm
    · exact D.l1z h.symm
  Tf1 := fun h => by
    simp only [List.mem_cons, List.not_mem_nil, or_false] at h
    rcases h with h | h
    · exact D.TOi1 h
    · exact D.l1TO h.symm
  TIi2 := D.TIi2
  mem2 := List.mem_cons_self
  zf2 := fun h => by
    simp only [List.mem_cons, List.not_mem_nil, or_false] at h
    rcases h with h | h
    · exact D.i2z h.symm
    · exact D.l2z h.symm
  Tf2 := fun h => by
    simp only [List.mem_cons, List.not_mem_nil, or_false] at h
    rcases h with h | h
    · exact D.TOi2 h
    · exact D.l2TO h.symm
  sep1_2 := fun h => by
    simp only [List.mem_cons, List.not_mem_nil, or_false] at h
    rcases h with h | h
    · exact D.i12 h
    · exact D.l2i1 h.symm
  sep2_1 := fun h => by
    simp only [List.mem_cons, List.not_mem_nil, or_false] at h
    rcases h with h | h
    · exact D.i12 h.symm
    · exact D.l1i2 h.symm
section
variable {P : Program} {w : World} {A : Around} {I c : Addr} {j : Nat} {vs : Array Value}
/-- a tuple's iterator that has no more to tell -/
theorem endT (hh : A.handled = none) (hx : vs[j]? = none) : Draws P w A I [I, c] j (fun _ _ => True) (fun l g => l = j ∧ g.IsTupleIter I c l ∧ g.IsTuple c vs) where
  live := fun _ _ ⟨_, ⟨o, ho, _⟩, _⟩ => ⟨o, ho⟩
  frame := fun _ _ _ ⟨e, a, b⟩ k => ⟨e, a.at fun o q => k I (by simp) o q, b.at fun o q => k c (by simp) o q⟩
  item := fun l _ _ _ lt ⟨e, _, _⟩ _ => absurd e (Nat.ne_of_lt lt)
  done := fun _ _ _ ⟨_, a, b⟩ q => wpAny_nextOf_tuple_end hh a b hx q
/-- a list's -/
theorem endL (hh : A.handled = none) (hx : vs[j]? = none) : Draws P w A I [I, c] j (fun _ _ => True) (fun l g => l = j ∧ g.IsListIter I c l ∧ g.IsList c vs) where
  live := fun _ _ ⟨_, ⟨o, ho, _⟩, _⟩ => ⟨o, ho⟩
  frame := fun _ _ _ ⟨e, a, b⟩ k => ⟨e, a.at fun o q => k I (by simp) o q, b.at fun o q => k c (by simp) o q⟩
  item := fun l _ _ _ lt ⟨e, _, _⟩ _ => absurd e (Nat.ne_of_lt lt)
  done := fun _ _ _ ⟨_, a, b⟩ q => wpAny_nextOf_list_end hh a b hx q
end
/-- the cells of a zip -/
abbrev zfp (z TI TO i1 i2 : Addr) : List Addr := [z, TI, TO, i1, i2]
theorem zfp_mem {z TI TO i1 i2 c : Addr} (h : c ∈ zfp z TI TO i1 i2) : c = z ∨ c = TI ∨ c = TO ∨ c = i1 ∨ c = i2 := by simpa [zfp] using h
def zst (z TI TO i1 i2 a b : Addr) (i : Nat) (h : Heap) : Prop := IsZip h z TI TO .none ∧ IsTupOf2 h TI (.ref i1) (.ref i2) ∧ (∃ p q, IsTupOf2 h TO p q) ∧ h.IsTupleIter i1 a i ∧ h.IsListIter i2 b i
theorem turn_zipM {P : Program} {w : World} {K : PySem.W.Frag} {es : List Expr} {k : Nat} {pos : Pos} {a b z TI TO i1 i2 : Addr} (D : ZipApart z TI TO i1 i2 a b) :
    Turn P w K (.Tuple es k pos) (ItzM K a b) (zfp z TI TO i1 i2) z (zst z TI TO i1 i2 a b) where
  mem := List.mem_cons_self
  obj := fun i h ⟨c1, c2, ⟨p, q, c3⟩, ⟨o1, e1, _, d1⟩, ⟨o2, e2, _, d2⟩⟩ c hc => by
    rcases zfp_mem hc with rfl | rfl | rfl | rfl | rfl
    · exact ⟨_, c1, fun v w => nomatch w⟩
    · exact ⟨_, c2, fun v w => nomatch w⟩
    · exact ⟨_, c3, fun v w => nomatch w⟩
    · exact ⟨o1, e1, fun v w => by rw [d1] at w; cases w⟩
    · exact ⟨o2, e2, fun v w => by rw [d2] at w; cases w⟩
  keep := fun i h h' ⟨c1, c2, ⟨p, q, c3⟩, c4, c5⟩ kp =>
    ⟨kp z (by simp) _ c1, kp TI (by simp) _ c2, ⟨p, q, kp TO (by simp) _ c3⟩, c4.at fun o e => kp i1 (by simp) o e, c5.at fun o e => kp i2 (by simp) o e⟩
  item := by
    rintro X rfl rfl rfl hcalm i pins s σ H E I hf ⟨c1, c2, ⟨p0, q0, c3⟩, c4, c5⟩ ⟨us, vs, p, q, hu, hv, hp, hq⟩
    have hd := I.ok.hd hcalm
    obtain ⟨its, rv, t1, _⟩ := I.tuple hu
    obtain ⟨its2, rv2, t2, _⟩ := I.list hv
    obtain ⟨x, hx, rx⟩ := rv.get hp
    obtain ⟨y, hy, ry⟩ := rv2.get hq
    have lx := (List.getElem?_eq_some_iff.mp hx).1
    have ly := (List.getElem?_eq_some_iff.mp hy).1
    have zl : z < s.heap.objs.size := Heap.lt_size c1
    have S := zsep D
    refine wpAny_pyNext_zipD2_item S (Draws.tuple (A := X.A.in1) hd i1 a D.l1i1 its.toArray) (Draws.list (A := X.A.in1) hd i2 b D.l2i2 its2.toArray) c1 c2 c3 ⟨c4, t1⟩ ⟨c5, t2.isList⟩ (by simpa using lx) (by simpa using ly)
      fun x' y' h' tk e1 e2 d1 d2 d3 d4 d5 _ hk => ?_
    have ex : x' = x := by
      have e1 : its[i]? = some x' := by simpa using e1
      rw [hx] at e1; cases e1; rfl
    have ey : y' = y := by
      have e2 : its2[i]? = some y' := by simpa using e2
      rw [hy] at e2; cases e2; rfl
    subst ex
    subst ey
    refine ⟨_, rfl, wpAny_letOwnedTupleGo_zip (s := { s with heap := h', toks := tk }) d1 fun h2 g1 sb => ?_⟩
    have hT : h2.get? s.heap.objs.size = some { cls := .type "tuple", data := .seq #[x', y'] } := (sb.2 _ (Nat.ne_of_gt zl)).trans d5
    have new : ObjOk X.prog X.w (upd H s.heap.objs.size (.tup [p, q])) h2 s.heap.objs.size (.tup [p, q]) := ⟨show 2 ≤ sizeLine by decide, [x', y'], .cons rx (.cons ry .nil), ⟨_, hT, rfl, _, rfl⟩⟩
    have far : ∀ {c : Addr}, c ∉ zfp z TI TO i1 i2 → c ≠ z ∧ c ≠ TO ∧ c ≠ i1 ∧ c ≠ i2 := fun {c} hc => ⟨fun w => hc (by simp [w]), fun w => hc (by simp [w]), fun w => hc (by simp [w]), fun w => hc (by simp [w])⟩
    have I1 : Inv X pins σ (upd H s.heap.objs.size (.tup [p, q])) { s with heap := h2, toks := tk } :=
      I.turnedNew (t' := tk) (ch := zfp z TI TO i1 i2) (fun c o hb w => by
        obtain ⟨f1, f2, f3, f4⟩ := far hb
        exact (sb.2 c f1).trans (hk c o f1 f2 f3 f4 w)) hf (Nat.le_refl _) new
    refine ⟨.ref s.heap.objs.size, _, I1, rfl, ⟨_, p, q, rfl, I.hok.fresh (Nat.le_refl _), rfl, fun l hl => by rw [I.tuple_inj hl hu]; exact hp, fun l hl => by rw [I.list_inj hl hv]; exact hq⟩, ⟨g1, (sb.2 _ D.TIz).trans (hk _ _ D.TIz D.TITO D.TIi1 D.TIi2 c2), ⟨x', y', (sb.2 _ D.TOz).trans d2⟩, d3.1.at fun o w => (sb.2 _ D.i1z).trans w, d4.1.at fun o w => (sb.2 _ D.i2z).trans w⟩, fun c hc => ?_⟩
    have cl : c < s.heap.objs.size := by
      rcases zfp_mem hc with rfl | rfl | rfl | rfl | rfl
      · exact zl
      · exact Heap.lt_size c2
      · exact Heap.lt_size c3
      · obtain ⟨_, w, _⟩ := c4; exact Heap.lt_size w
      · obtain ⟨_, w, _⟩ := c5; exact Heap.lt_size w
    rw [upd_ne (Nat.ne_of_lt cl)]
    exact (hf c hc).1
  done := by
    rintro X rfl rfl rfl hcalm i pins s σ H E I hf ⟨c1, c2, ⟨p0, q0, c3⟩, c4, c5⟩ ⟨us, vs, hu, hv, hend⟩
    have hd := I.ok.hd hcalm
    obtain ⟨its, rv, t1, _⟩ := I.tuple hu
    obtain ⟨its2, rv2, t2, _⟩ := I.list hv
    have l1 := rv.length
    have l2 := rv2.length
    have S := zsep D
    have fin : ∀ (h' : Heap) (tk : Nat), (∀ c o, c ≠ z → c ≠ TO → c ≠ i1 → c ≠ i2 → s.heap.get? c = some o → h'.get? c = some o) → (none : Option Value) = none ∧ Inv X pins σ H { s with heap := h', toks := tk } := fun h' tk hk =>
      ⟨rfl, I.turnedL (t' := tk) (ch := zfp z TI TO i1 i2) (fun c o hb w => hk c o (fun w => hb (by simp [w])) (fun w => hb (by simp [w])) (fun w => hb (by simp [w])) (fun w => hb (by simp [w])) w) hf⟩
    by_cases a1 : i < its.length
    · have a2 : its2.length ≤ i := by omega
      exact wpAny_pyNext_zipD2_end S (Draws.tuple (A := X.A.in1) hd i1 a D.l1i1 its.toArray) (endL (A := X.A.in1) (I := i2) (c := b) (vs := its2.toArray) hd (by simp; omega)) c1 c2 c3 ⟨c4, t1⟩ ⟨rfl, c5, t2.isList⟩ (by simp; omega) (Nat.le_refl _) (.inr rfl) fin
    · by_cases a2 : i < its2.length
      · exact wpAny_pyNext_zipD2_end S (endT (A := X.A.in1) (I := i1) (c := a) (vs := its.toArray) hd (by simp; omega)) (Draws.list (A := X.A.in1) hd i2 b D.l2i2 its2.toArray) c1 c2 c3 ⟨rfl, c4, t1⟩ ⟨c5, t2.isList⟩ (Nat.le_refl _) (by simp; omega) (.inl rfl) fin
      · exact wpAny_pyNext_zipD2_end S (endT (A := X.A.in1) (I := i1) (c := a) (vs := its.toArray) hd (by simp; omega)) (endL (A := X.A.in1) (I := i2) (c := b) (vs := its2.toArray) hd (by simp; omega)) c1 c2 c3 ⟨rfl, c4, t1⟩ ⟨rfl, c5, t2.isList⟩ (Nat.le_refl _) (Nat.le_refl _) (.inl rfl) fin
  self := fun _ _ _ _ _ ⟨c, _⟩ q => wpAny_pyIter_zip c q
def iZipM (K : PySem.W.Frag) (tx : TA) : TI := fun σ H R => tx σ H fun vs H1 => ∃ a b us ws, vs = [.ref a, .ref b] ∧ SqT K H1 a us ∧ SqL K H1 b ws ∧ R (ItzM K a b) H1
theorem pi_zipM {X : Cx} {e e2 : Expr} {tx : TA} {p pos tp : Pos} {es : List Expr} {k : Nat} (hg : Gl X "zip") (hm : X.mg "zip" = none) (ha : PA X [e, e2] tx)
    (hs : starEach [e, e2] X.env = (false, eval e X.env) :: starEach [e2] X.env := by rfl) (hpl : (backTo pos (starEach [e2] X.env)).any (·.1) = false := by rfl) :
    PI X (.Tuple es k tp) (.Call (.Name "zip" p) [e, e2] [] pos) (iZipM X.K tx) := ⟨fun pins s σ H R I h => by
  refine Call_ (ld_blt I hg hm PyProof.Rows.boot_zip (PyProof.Rows.callWith_type1 (thn (ha.run pos pins s σ H _ I h) ?_) hs hpl))
  rintro us s1 ⟨vs, H1, I1, r1, a, b, xs, ys, rfl, hx, hy, q⟩
  cases r1 with
  | cons ra rr =>
    cases rr with
    | cons rb rr =>
      cases rr
      cases ra
      cases rb
      obtain ⟨its, rv, t1, _⟩ := I1.tuple hx
      obtain ⟨its2, rv2, t2, _⟩ := I1.list hy
      obtain ⟨o1, ho1, _⟩ := id t1
      have D : ZipApart (s1.heap.objs.size + 4) (s1.heap.objs.size + 2) (s1.heap.objs.size + 3) s1.heap.objs.size (s1.heap.objs.size + 1) a b := PySem.W.ktu_apart s1.heap.objs.size a b (Heap.lt_size ho1) t2.lt
      refine zip_begins2 (begins_tuple a its.toArray) (begins_list b its2.toArray) t1 t2.isList fun h' c1 c2 c3 g1 g2 _ hk => wpAny_pyIter_zip c1 ?_
      have I2 : Inv X pins σ H1 { s1 with heap := h' } := I1.kept (t' := s1.toks) hk
      refine ⟨_, zfp (s1.heap.objs.size + 4) (s1.heap.objs.size + 2) (s1.heap.objs.size + 3) s1.heap.objs.size (s1.heap.objs.size + 1), _, _, H1, rfl, I2, turn_zipM D, ⟨c1, c2, ⟨_, _, c3⟩, ?_, ?_⟩, fun c hc => ?_, q⟩
      · exact ⟨_, g1, rfl, rfl⟩
      · exact ⟨_, g2, rfl, rfl⟩
      · have le : s1.heap.objs.size ≤ c := by rcases zfp_mem hc with rfl | rfl | rfl | rfl | rfl <;> omega
        exact I1.fpOk le (I1.hok.fresh le)⟩
section
variable {K : PySem.W.Frag} {ρ : List Sl} {tx : TA} {ds es : List D}
theorem walks_zM {H0 H : Hp} {T : Addr → Prop} {a b : Addr} {xs ys : List V} (hs : SqT K H a xs) (hs2 : SqL K H b ys) (hT : ∀ b, T b → Nb (H b)) (hr : Reps K (hid T H) xs ds) (hr2 : Reps K (hid T H) ys es) :
    Walks K (ItzM K a b) H0 ((ds.zip es).map fun p => .sh (.tup [p.1, p.2])) T H := by
  have l1 := hr.1
  have l2 := hr2.1
  refine ⟨fun l h => ?_, fun l h => ?_⟩
  · rw [List.length_map, List.length_zip] at h
    have h1 : l < xs.length := by omega
    have h2 : l < ys.length := by omega
    refine ⟨⟨xs, ys, xs[l], ys[l], hs, hs2, List.getElem?_eq_getElem h1, List.getElem?_eq_getElem h2⟩, fun x H' y => ?_⟩
    obtain ⟨P, u, v, rfl, hP, rfl, y1, y2⟩ := y
    have nP : ¬ T P := fun z => (hT P z).ne hP
    have d1 : ds[l]? = some (ds[l]'(by omega)) := List.getElem?_eq_getElem _
    have e1 : es[l]? = some (es[l]'(by omega)) := List.getElem?_eq_getElem _
    refine ⟨Ex.new hP, .sh (.tup [ds[l]'(by omega), es[l]'(by omega)]), ?_, ?_⟩
    · rw [List.getElem?_map, (List.getElem?_zip_eq_some (z := (ds[l]'(by omega), es[l]'(by omega)))).mpr ⟨d1, e1⟩]
      rfl
    · refine Rep.of_tup (xs := [u, v]) (st_of (by rw [hid_no nP]; exact upd_same)) (All2.cons ?_ (All2.cons ?_ All2.nil))
      · exact (hr.2 l u _ (y1 xs hs) d1).mono (hid_ext (Ex.new hP))
      · exact (hr2.2 l v _ (y2 ys hs2) e1).mono (hid_ext (Ex.new hP))
  · rw [List.length_map, List.length_zip] at h
    exact ⟨xs, ys, hs, hs2, by omega⟩
theorem ei_zM (h : EB K tx ρ [.tup ds, .lst es]) : EI K (iZipM K tx) ρ ((ds.zip es).map fun p => .sh (.tup [p.1, p.2])) := fun H0 S G ow σ H g R q => h H0 S G ow σ H g _ fun us H1 e r => by
  obtain ⟨u, us', rfl, ru, rr⟩ := r.un_cons
  obtain ⟨a, xs, rfl, hs, hr⟩ := ru.tup_inv
  obtain ⟨u2, us2, rfl, ru2, rr2⟩ := rr.un_cons
  obtain ⟨b, ys, rfl, hs2, hr2⟩ := ru2.lst_inv
  have hn : us2 = [] := All2.un_nil rr2
  subst hn
  exact ⟨a, b, xs, ys, rfl, ex_t hid_sub hs, ex_l hid_sub hs2, q _ H1 e fun T H' e1 _ hT => walks_zM (ex_t (e1.trans hid_sub) hs) (ex_l (e1.trans hid_sub) hs2) hT (hr.mono e1) (hr2.mono e1)⟩
end
end BV
end
section
open PySem PySem.Spec PyProof.Rows L2 Evl
namespace BV
section
variable {P : Program} {w : World} {J : Type} [DecidableEq J] {knd : HeapKind P w J} {A : Around} {E : Value → Shared → Prop} {s : Shared}
theorem call_dictH {o : Addr} {xs : List (J × Addr × Value)} {Q : Value → Shared → Prop} (hu : knd.room A.in1.in1) (lo : (o == sysModules) = false) (ho : s.heap.DictOfH knd o xs) (hty : ∀ x ∈ xs, s.TypeIs (.ref x.2.1) "tuple") (hap : (xs.map fun x => knd.hash x.1).Nodup) (hsz : xs.length ≤ sizeLine)
    (keepK : ∀ (k : J) (a : Addr) (h : Heap) (q : Obj), knd.is h k a → knd.is (h.push q) k a)
    (h : ∀ h', h'.DictOfH knd s.heap.objs.size xs → Heap.SameBut s.heap.objs.size (s.heap.push { cls := .type "dict", data := .dict #[] }) h' → Q (.ref s.heap.objs.size) { s with heap := h' }) :
    wpAny (model P w) A (call (.type "dict") [.ref o]) Q E s := by
  refine callType_codes (Q₁ := fun b s₁ => b = .ref s.heap.objs.size ∧ s₁ = { s with heap := s.heap.push { cls := .type "dict", data := .dict #[] } }) F.kt_called_dict (F.kt_typeCall_dict_1 _) F.entry_dict_init (kt_code_dict_new _ ⟨rfl, rfl⟩) ?_
  rintro _ _ ⟨rfl, rfl⟩
  have new : (s.heap.push { cls := .type "dict", data := .dict #[] }).DictOfH knd s.heap.objs.size [] := ⟨_, #[], 0, Heap.get?_push_size _ rfl, ⟨rfl, rfl, rfl⟩, rfl, rfl, (fun x hx => by cases hx), List.nodup_nil⟩
  obtain ⟨oo, es, ep, g1, g2, g3, g4, g5, g6⟩ := id ho
  have old : (s.heap.push { cls := .type "dict", data := .dict #[] }).DictOfH knd o xs := ⟨oo, es, ep, Heap.get?_push_of_some _ g1, g2, g3, g4, fun x hx => keepK _ _ _ _ (g5 x hx), g6⟩
  have ne : s.heap.objs.size ≠ o := fun e => absurd (Heap.lt_size g1) (by rw [e]; exact Nat.lt_irrefl _)
  refine ⟨new.typeIs, F.args_dict_init_2 _ _, ?_⟩
  unfold Builtin.«dict.__init__»
  refine wpAny_bind ?_
  unfold Builtin.Dict.selfAndRest
  refine wpAny_bind (wpAny_notOrdered_dict new.typeIs (wpAny_pure ?_))
  refine updateFrom_dictH (s := { s with heap := s.heap.push { cls := .type "dict", data := .dict #[] } }) .none hu ne lo new old (.inr ⟨fun x hx => ?_, hap⟩) (by simpa using hsz) fun h' hd' _ hs' => ?_
  · obtain ⟨q, hq, hc⟩ := hty x hx
    exact ⟨q, Heap.get?_push_of_some _ hq, hc⟩
  · rw [storedAllH_nil_of_nodup xs g6] at hd'
    exact ⟨rfl, h h' hd' hs'⟩
end
theorem tk_push {P : Program} {w : World} {J : Type} [DecidableEq J] {knd : KeyKind P w J} (k : List J) (a : Addr) (h : Heap) (q : Obj) (x : (tupleKind knd).is h k a) : (tupleKind knd).is (h.push q) k a := by
  obtain ⟨o, its, n, g1, g2, g3, g4⟩ := x
  exact ⟨o, its, n, Heap.get?_push_of_some _ g1, g2, g3, g4⟩
/-- the hashes of a dict's keys lie apart -/
def Hashed (w : World) (ks : List (List Key)) : Prop := (ks.map fun k => reduceHash (Builtin.Tuple.tupleHashOf (k.map (keyH w)))).Nodup
def rDictT (w : World) : List V → Hp → VK → Prop := fun xs H Q => ∃ a kvs, xs = [V.ref a] ∧ Rd H a (.dT kvs) ∧ Hashed w (kvs.map (·.1)) ∧ ∀ p, H p = none → Q (.ref p) (upd H p (.dT kvs))
theorem cr_dictT {X : Cx} (hu : X.A.units + 64 < cLine) : CallR X (.type "dict") (rDictT X.w) := by
  intro pins s σ H xs us Q I r h
  obtain ⟨a, kvs, rfl, hd, hh, q⟩ := h
  rw [Vals.ref1 r]
  obtain ⟨z, lo, ys, rel, dd⟩ := dt_rd I.hok hd
  have hl : ys.length ≤ sizeLine := by rw [← rel.length]; exact z
  have hk : kvs.map (·.1) = ys.map (·.1) := by
    clear dd hd q z hl hh
    induction rel with
    | nil => rfl
    | cons h _ ih => rw [List.map_cons, List.map_cons, h.1, ih]
  have old : ∀ {b : Addr}, s.heap.objs.size ≤ b → H b = none := fun {b} hb => I.hok.fresh hb
  refine call_dictH (knd := tupleKind (mixKind X.prog X.w)) (by show X.A.units + 1 + 1 < cLine; omega) lo dd (fun x hx => ?_) ?_ hl tk_push fun h' d' hs => ?_
  · obtain ⟨oo, es, ep, _, _, _, _, g5, _⟩ := dd
    exact (g5 x hx).typeIs
  · unfold Hashed at hh
    rw [hk, List.map_map] at hh
    exact hh
  · have hm : (s.heap.objs.size == sysModules) = false := beq_eq_false_iff_ne.mpr (Nat.ne_of_gt I.big)
    obtain ⟨oo, es, ep, g1, g2, g3, g4, g5, g6⟩ := d'
    refine ⟨.ref s.heap.objs.size, upd H s.heap.objs.size (.dT kvs), I.laid (t' := s.toks) (fun b u e => (hs.2 b (Nat.ne_of_lt (Heap.lt_size e))).trans (Heap.get?_push_of_some _ e)) (Nat.le_refl _) ?_, rfl, q _ (old (Nat.le_refl _))⟩
    refine ⟨z, hm, ys, ?_, oo, es, ep, g1, g2, g3, g4, g6⟩
    generalize HO.dT kvs = ho
    clear hk hh g4 g5 g6 hl dd hd q z
    induction rel with
    | nil => exact .nil
    | cons h _ ih =>
      refine .cons ⟨h.1, ?_, h.2.2⟩ ih
      rw [upd_ne (ne_of_none h.2.1 (old (Nat.le_refl _)))]
      exact h.2.1
section
variable {K : PySem.W.Frag} {ρ : List Sl} {ta : TE} {ks : List (List Key)} {ds : List D} {w : World}
/-- dict(d), a copy -/
theorem eo_dictT (ha : ED K ta ρ (.dct ks ds)) (hh : Hashed w ks) : EO K (tCB (rDictT w) (tCons ta tNil)) ρ (.dct ks ds) := fun H0 S G ow σ H g Q q => ha H0 S G ow σ H g _ fun v H1 e1 r1 => by
  obtain ⟨a, kvs, rfl, hd, hk, hr⟩ := r1.dct_inv
  refine ⟨a, kvs, rfl, rd_ex hd hid_sub, by rw [hk]; exact hh, fun p hp => ?_⟩
  refine q p _ (fresh_back e1 hp) (e1.trans (Ex.new hp)) (by rw [upd_same]; exact fun z => nomatch z) ⟨kvs, upd_same, hk, hr.mono fun b o z => ?_⟩
  obtain ⟨z1, z2⟩ := hid_some z
  have hb : b ≠ p := ne_of_none z2 hp
  rw [hid_no (fun w => w.elim z1 hb), upd_ne hb]
  exact z2
end
/-- the hash of a pair of houses -/
def hashP (p : Nat × Nat) : Int := reduceHash (Builtin.Tuple.tupleHashOf [hashInt (p.1 : Int), hashInt (p.2 : Int)])
theorem hashP_few : (((List.range 12).flatMap fun a => (List.range 12).map fun b => (a, b)).map hashP).Nodup := by decide +kernel
end BV
end
section
open PySem PySem.Spec PyProof.Rows L2 Evl
namespace BV
section
variable {P : Program} {w : World} {A : Around} {E : Value → Shared → Prop} {s : Shared}
/-- a dict's entries, whatever its keys are -/
def RawD (h : Heap) (a : Addr) (n : Nat) : Prop := (a == sysModules) = false ∧ ∃ o es ep, h.get? a = some o ∧ o.ExactDict ∧ o.data = .dict es ep ∧ es.size = n
theorem RawD.ty {h : Heap} {a : Addr} {n : Nat} (r : RawD h a n) {s : Shared} (e : s.heap = h) : s.TypeIs (.ref a) "dict" := by
  obtain ⟨_, o, es, ep, g, x, _⟩ := r
  exact ⟨o, by rw [e]; exact g, x.1⟩
theorem same_none {nm : String} {a b : Addr} {n : Nat} {Q : Bool → Shared → Prop} (ha : RawD s.heap a n) (hb : RawD s.heap b 0) (q : Q (n == 0) s) : wpAny (model P w) A (Builtin.Dict.samePairs nm a b) Q E s := by
  obtain ⟨la, oa, es, ep, g1, g2, g3, g4⟩ := ha
  obtain ⟨lb, ob, fs, ep', f1, f2, f3, f4⟩ := hb
  unfold Builtin.Dict.samePairs Builtin.Dict.showsAll
  rw [if_neg (by rw [la]; exact Bool.false_ne_true), if_neg (by rw [lb]; exact Bool.false_ne_true)]
  refine wpAny_bind (wpAny_pure (wpAny_bind (wpAny_pure (wpAny_bind (wpAny_dictEntries g1 g3 ?_)))))
  dsimp only
  refine wpAny_bind (wpAny_dictEntries f1 f3 ?_)
  by_cases e : n = 0
  · have e1 : es.size = fs.size := by rw [g4, f4, e]
    have e2 : es.size = 0 := by rw [g4, e]
    rw [if_neg (by rw [e1]; simp)]
    refine wpAny_bind (wpAny_dictEpoch g1 g3 (wpAny_bind ?_))
    rw [Std.Legacy.Range.forIn_eq_forIn_range']
    simp only [Std.Legacy.Range.size, Nat.sub_zero, Nat.add_sub_cancel, Nat.div_one, e2, List.range'_zero, List.forIn_nil]
    refine wpAny_pure (wpAny_pure ?_)
    rw [e] at q
    exact q
  · rw [if_pos (by rw [g4, f4]; simpa using e)]
    rw [show (n == 0) = false by simpa using e] at q
    exact wpAny_bind (wpAny_rule (wpAny_pure q))
theorem eq_none {a b : Addr} {n : Nat} {Q : Value → Shared → Prop} (ha : RawD s.heap a n) (hb : RawD s.heap b 0) (hu : A.units < cLine) (q : Q (.bool (n == 0)) s) : wpAny (model P w) A (compareOp .Eq (.ref a) (.ref b)) Q E s := by
  refine wpAny_richCompare_same_room (op := .Eq) (ha.ty rfl) (hb.ty rfl) PySem.F.slot_dict_eq (wpAny_call_entry PySem.F.slot_dict_eq (ha.ty rfl) PySem.F.entry_dict_eq ?_ (PySem.F.args_dict_eq_2 _ _)) hu
  refine wpAny_bind (m := Builtin.Dict.dictSlotArgs "__eq__" ⟨[.ref a, .ref b], []⟩) ?_
  unfold Builtin.Dict.dictSlotArgs
  refine wpAny_bind (wpAny_notOrdered_dict (ha.ty rfl) (wpAny_pure (wpAny_bind (wpAny_isInstance (T := "dict") (hb.ty rfl) PySem.F.sub_dict_dict ?_))))
  simp only [Bool.not_true, Bool.false_eq_true, if_false]
  refine wpAny_bind (wpAny_pure (wpAny_bind (wpAny_pure (wpAny_bind (same_none ha hb (wpAny_pure ⟨_, rfl, (fun z => nomatch z), by revert q; cases n == 0 <;> exact id⟩))))))
theorem ne_none {a b : Addr} {n : Nat} {Q : Value → Shared → Prop} (ha : RawD s.heap a n) (hb : RawD s.heap b 0) (hu : A.units < cLine) (q : Q (.bool (!(n == 0))) s) : wpAny (model P w) A (compareOp .NotEq (.ref a) (.ref b)) Q E s := by
  refine wpAny_richCompare_same_room (op := .NotEq) (ha.ty rfl) (hb.ty rfl) PySem.F.slot_dict_ne (wpAny_call_entry PySem.F.slot_dict_ne (ha.ty rfl) PySem.F.entry_dict_ne ?_ (PySem.F.args_dict_ne_2 _ _)) hu
  refine wpAny_bind (m := Builtin.Dict.dictSlotArgs "__ne__" ⟨[.ref a, .ref b], []⟩) ?_
  unfold Builtin.Dict.dictSlotArgs
  refine wpAny_bind (wpAny_notOrdered_dict (ha.ty rfl) (wpAny_pure (wpAny_bind (wpAny_isInstance (T := "dict") (hb.ty rfl) PySem.F.sub_dict_dict ?_))))
  simp only [Bool.not_true, Bool.false_eq_true, if_false]
  refine wpAny_bind (wpAny_pure (wpAny_bind (wpAny_pure (wpAny_bind (same_none ha hb (wpAny_pure ⟨_, rfl, (fun z => nomatch z), by revert q; cases n == 0 <;> exact id⟩))))))
end
/-- how many entries a tracked dict has -/
def LenD (H : Hp) (a : Addr) (n : Nat) : Prop := (∃ kvs, Rd H a (.dK kvs) ∧ kvs.length = n) ∨ ∃ kvs, Rd H a (.dT kvs) ∧ kvs.length = n
def rDE (b : Bool) : R2 := fun x y H Q => ∃ p q n, x = .ref p ∧ y = .ref q ∧ LenD H p n ∧ LenD H q 0 ∧ Q (.bl (b ^^ (n == 0))) H
theorem raw_of {X : Cx} {pins : List (Addr × Obj)} {σ : L2.St} {H : Hp} {s : Shared} {a : Addr} {n : Nat} (I : Inv X pins σ H s) (h : LenD H a n) : RawD s.heap a n := by
  rcases h with ⟨kvs, h, rfl⟩ | ⟨kvs, h, rfl⟩
  · obtain ⟨_, lo, vs, r, o, es, ep, g1, g2, g3, _, g5, _⟩ := dk_rd I.hok h
    exact ⟨lo, o, es, ep, g1, g2, g3, by have := g5.length; rw [Array.length_toList] at this; rw [this, r.length]⟩
  · obtain ⟨_, lo, xs, r, o, es, ep, g1, g2, g3, g4, _⟩ := dt_rd I.hok h
    exact ⟨lo, o, es, ep, g1, g2, g3, by have := congrArg List.length g4; rw [Array.length_toList, List.length_map] at this; rw [this, r.length]⟩
theorem op_eqE {X : Cx} (hu : X.A.units + 64 < cLine) : OpR X (compareOp .Eq) (rDE false) := by
  intro pins s σ H x y v u Q I rx ry h
  obtain ⟨p, q, n, rfl, rfl, hp, hq, k⟩ := h
  cases rx
  cases ry
  rw [Bool.false_xor] at k
  exact eq_none (raw_of I hp) (raw_of I hq) (by omega) ⟨.bl _, H, I, rfl, k⟩
theorem op_neE {X : Cx} (hu : X.A.units + 64 < cLine) : OpR X (compareOp .NotEq) (rDE true) := by
  intro pins s σ H x y v u Q I rx ry h
  obtain ⟨p, q, n, rfl, rfl, hp, hq, k⟩ := h
  cases rx
  cases ry
  rw [Bool.true_xor] at k
  exact ne_none (raw_of I hp) (raw_of I hq) (by omega) ⟨.bl _, H, I, rfl, k⟩
section
variable {K : PySem.W.Frag} {ρ : List Sl} {ta : TE} {kk : List Key} {ks : List (List Key)} {ds : List D} {b : Bool}
/-- a dict of texts and {} -/
theorem ed_emK (ha : ER K ta ρ (.dki kk ds)) : ED K (tOp (rDE b) ta tDNewK) ρ (.bl (b ^^ (kk.length == 0))) := fun H0 S G ow σ H g Q q => ha H0 S G ow σ H g _ fun v H1 e1 r1 => fun p hp => by
  obtain ⟨a, kvs, rfl, h, hk, _⟩ := r1.dki_inv
  refine ⟨a, p, kk.length, rfl, rfl, .inl ⟨kvs, rd_ex h (Ex.new hp), by rw [← hk, List.length_map]⟩, .inl ⟨[], .inl upd_same, rfl⟩, q _ _ (e1.trans (Ex.new hp)) (.bl _)⟩
end
end BV
end
section
open PySem PySem.Spec PyProof.Rows L2 Evl
namespace BV
def leS (a b : Str) : Bool := !ltCps b.cps.toList a.cps.toList
theorem leS_iff {a b : Str} : leS a b = true ↔ a.cps.toList ≤ b.cps.toList := by
  unfold leS
  rw [ltCps_eq, Bool.not_eq_true', decide_eq_false_iff_not]
  exact Iff.rfl
theorem leS_trans (a b c : Str) (h1 : leS a b = true) (h2 : leS b c = true) : leS a c = true := leS_iff.mpr (List.le_trans (leS_iff.mp h1) (leS_iff.mp h2))
theorem leS_total (a b : Str) : (leS a b || leS b a) = true := by
  rw [Bool.or_eq_true, leS_iff, leS_iff]
  exact List.le_total _ _
theorem leS_anti {a b : Str} (h1 : leS a b = true) (h2 : leS b a = true) : a = b := by
  have e := List.le_antisymm (leS_iff.mp h1) (leS_iff.mp h2)
  exact TL.ext_tl e
def srtS (xs : List Str) : List Str := xs.mergeSort leS
theorem rising_pw : ∀ (l : List Str) (p : Str), risingS p l = true → (p :: l).Pairwise (fun a b => leS a b = true)
  | [], p, _ => List.pairwise_cons.mpr ⟨(fun _ h => by cases h), List.Pairwise.nil⟩
  | x :: r, p, h => by
    unfold risingS at h
    rw [Bool.and_eq_true] at h
    have ih := rising_pw r x h.2
    have px : leS p x = true := h.1
    refine List.pairwise_cons.mpr ⟨fun y hy => ?_, ih⟩
    rcases List.mem_cons.mp hy with rfl | hy
    · exact px
    · exact leS_trans _ _ _ px ((List.pairwise_cons.mp ih).1 y hy)
theorem sorted_is {xs ys : List Str} (h : ys.Perm xs) (s : sortedS ys = true) : ys = srtS xs := by
  have p1 : ys.Pairwise (fun a b => leS a b = true) := by
    cases ys with
    | nil => exact List.Pairwise.nil
    | cons x r => exact rising_pw r x s
  have p2 : (srtS xs).Pairwise (fun a b => leS a b = true) := List.pairwise_mergeSort leS_trans leS_total xs
  exact List.Perm.eq_of_pairwise (le := fun a b => leS a b = true) (fun _ _ _ _ a b => leS_anti a b) p1 p2 (h.trans (List.mergeSort_perm xs leS).symm)
def rSplitM : V → List V → Hp → VK → Prop := fun x xs H Q => ∃ (a b : Str) (k : Int), x = .str a ∧ xs = [.str b, .int k] ∧ (b.length == 0) = false ∧ -(2 ^ 63) ≤ k ∧ k < 2 ^ 63 ∧ a.length + 2 ≤ sizeLine ∧ rNewStrs (Txt.splitMax a b k) H Q
def rFind : V → List V → Hp → VK → Prop := fun x xs H Q => ∃ a b, x = .str a ∧ xs = [.str b] ∧ Q (.int (Txt.find a b)) H
def rListK : List V → Hp → VK → Prop := fun xs H Q => ∃ (a : Addr) (kvs : List (Key × V)), xs = [.ref a] ∧ Rd H a (.dK kvs) ∧ ∀ p, H p = none → Q (.ref p) (upd H p (.lst (kvs.map fun kv => kV kv.1)))
def rSortK : List V → Hp → VK → Prop := fun xs H Q => ∃ (a : Addr) (kvs : List (Key × V)) (ks : List Str), xs = [.ref a] ∧ Rd H a (.dK kvs) ∧ kvs.map (·.1) = ks.map Sum.inr ∧ ks.length < 64 ∧
    ∀ ys p, ys.Perm ks → sortedS ys = true → H p = none → Q (.ref p) (upd H p (.lst (ys.map V.str)))
def rStrS : List V → Hp → VK → Prop := fun xs H Q => ∃ a, xs = [.str a] ∧ Q (.str a) H
section
variable {X : Cx} {o a1 a2 : Expr} {to t1 t2 : TE} {apos pos : Pos}
theorem cr_listK (hc : X.calm = true) : CallR X (.type "list") rListK := call_listD hc
theorem cr_sortK (hc : X.calm = true) : CallR X (.builtin "sorted") rSortK := call_sortedD hc
theorem cr_strS : CallR X (.type "str") rStrS := SkE.call_str_str
theorem mt_splitM : MtR X "str.split" rSplitM := mt_splitMax
theorem mt_findS : MtR X "str.find" rFind := mt_find
end
section
variable {K : PySem.W.Frag} {ρ : List Sl} {te ta tb tc : TE} {x y : Str} {k : Int} {kk : List Key} {ds : List D} {ks : List Str}
theorem eo_splitM (ha : ED K ta ρ (.str x)) (hb : ED K tb ρ (.str y)) (hc : ED K tc ρ (.int k)) (hy : (y.length == 0) = false) (hk : -(2 ^ 63) ≤ k ∧ k < 2 ^ 63) (hl : x.length ≤ 100000) : EO K (tBM K "str" rSplitM ta (tCons tb (tCons tc tNil))) ρ (.lst ((Txt.splitMax x y k).map D.str)) := fun H0 S G ow σ H g Q q =>
  ha H0 S G ow σ H g _ fun v H1 e1 r1 => ⟨by rw [r1.str_inv]; rfl, hb H0 S G ow σ H1 (g.ext e1) _ fun u H2 e2 r2 => hc H0 S G ow σ H2 (g.ext (e1.trans e2)) _ fun t H3 e3 r3 => ⟨x, y, k, r1.str_inv, by rw [r2.str_inv, r3.int_inv], hy, hk.1, hk.2, by rw [sizeLine_eq]; omega, fun p hp => by
    have e := (e1.trans e2).trans e3
    exact q p _ (fresh_back e hp) (e.trans (Ex.new hp)) (by rw [upd_same]; exact fun z => nomatch z) ⟨_, upd_same, strs_reps _⟩⟩⟩
theorem ed_findS (ha : ED K ta ρ (.str x)) (hb : ED K tb ρ (.str y)) : ED K (tBM K "str" rFind ta (tCons tb tNil)) ρ (.int (Txt.find x y)) := fun H0 S G ow σ H g Q q =>
  ha H0 S G ow σ H g _ fun v H1 e1 r1 => ⟨by rw [r1.str_inv]; rfl, hb H0 S G ow σ H1 (g.ext e1) _ fun u H2 e2 r2 => ⟨x, y, r1.str_inv, by rw [r2.str_inv], q _ H2 (e1.trans e2) (.int _)⟩⟩
theorem keys_strs {kvs : List (Key × V)} (h : kvs.map (·.1) = ks.map Sum.inr) : (kvs.map fun kv => kV kv.1) = ks.map V.str := by
  have e := congrArg (List.map kV) h
  rw [List.map_map, List.map_map] at e
  exact e
/-- list(d), a dict of texts -/
theorem eo_listK (ha : ER K ta ρ (.dki (ks.map Sum.inr) ds)) : EO K (tCB rListK (tCons ta tNil)) ρ (.lst (ks.map D.str)) := fun H0 S G ow σ H g Q q => ha H0 S G ow σ H g _ fun v H1 e1 r1 => by
  obtain ⟨a, kvs, rfl, h, hk, _⟩ := r1.dki_inv
  refine ⟨a, kvs, rfl, h, fun p hp => ?_⟩
  rw [keys_strs hk]
  exact q p _ (fresh_back e1 hp) (e1.trans (Ex.new hp)) (by rw [upd_same]; exact fun z => nomatch z) ⟨_, upd_same, strs_reps _⟩
/-- sorted(d) -/
theorem eo_sortK (ha : ER K ta ρ (.dki (ks.map Sum.inr) ds)) (hl : ks.length < 64) : EO K (tCB rSortK (tCons ta tNil)) ρ (.lst ((srtS ks).map D.str)) := fun H0 S G ow σ H g Q q => ha H0 S G ow σ H g _ fun v H1 e1 r1 => by
  obtain ⟨a, kvs, rfl, h, hk, _⟩ := r1.dki_inv
  refine ⟨a, kvs, ks, rfl, h, hk, hl, fun ys p h1 h2 hp => ?_⟩
  rw [sorted_is h1 h2]
  exact q p _ (fresh_back e1 hp) (e1.trans (Ex.new hp)) (by rw [upd_same]; exact fun z => nomatch z) ⟨_, upd_same, strs_reps _⟩
/-- sorted(texts) -/
theorem eo_sortSS (ha : ER K ta ρ (.lst (ks.map D.str))) (hl : ks.length < 64) : EO K (tCB (rSortedS K) (tCons ta tNil)) ρ (.lst ((srtS ks).map D.str)) := fun H0 S G ow σ H g Q q => ha H0 S G ow σ H g _ fun v H1 e1 r1 => by
  obtain ⟨a, xs, rfl, h, hr⟩ := r1.lst_inv
  have hx := strs_of hr
  subst hx
  refine ⟨a, ks, rfl, h, hl, fun ys p h1 h2 hp => ?_⟩
  rw [sorted_is h1 h2]
  exact q p _ (fresh_back e1 hp) (e1.trans (Ex.new hp)) (by rw [upd_same]; exact fun z => nomatch z) ⟨_, upd_same, strs_reps _⟩
end
end BV
end
section
open PySem PySem.Spec PyProof.Rows L2 Evl
namespace BV
/-- a new instance, told with new things within -/
def spNewP (K : PySem.W.Frag) (C : Addr) (ns : List Str) (dd : List Addr → List D) (mm : List M) : Sp := fun vs H Q _ => ∃ (self dx : Addr) (H1 : Hp) (T : Addr → Prop), vs = [.ref self] ∧ H1 self = none ∧ H1 dx = none ∧ dx ≠ self ∧
  H = upd (upd H1 dx (.own self)) self (.ins C dx []) ∧ (∀ b, T b → Nb (H1 b)) ∧ ∀ H', RPh K mm.length (fun ps => .obj C ns (dd ps)) (fun _ => mm) H1 T (.ref self) H' → Q .non H'
section
variable {K : PySem.W.Frag} {ρ : List Sl} {C : Addr} {ns : List Str} {ds : List D} {dd : List Addr → List D} {mm : List M} {m : M} {ts : TS} {tv te : TE} {E : XK} {n z : Nat} {f : Str} {es : List (Addr × M)} {Z : Zs}
theorem en_make0 : EN K (tMake C (spNewP K C ns dd mm) [] E tNil) ρ mm.length (fun ps => .obj C ns (dd ps)) (fun _ => mm) := fun H0 S G ow σ H g Q q => fun self dx hs hd hne =>
  ⟨self, dx, H, Hid S ow, rfl, hs, hd, hne, rfl, g.there, fun H' r => ⟨rfl, q _ H' r⟩⟩
/-- self.f = a new thing -/
theorem sd_fldN {p : Addr} (h : ρ[n]? = some (.own (.ins p C ns ds))) (he : EO K tv ρ m) (hz : ρ[z]? = some (.ph es)) (hC : Cls K C) (hno : NoAttr K C f) (hf : f ∉ ns) (hl : ns.length < 100) (k : ∀ q, q ∉ es.map (·.1) → Z.nx ((ρ.set z (.ph ((q, m) :: es))).set n (.own (.ins p C (ns ++ [f]) (ds ++ [.at q]))))) : SD K (sFld K (tVar n) tv f) ρ Z :=
  fun H0 S G ow σ H E g hn _ _ _ => he H0 S G ow σ H g _ fun q H1 hq e1 nn r => by
    have nz : z ≠ n := fun e => by rw [e, h] at hz; cases hz
    have eS : (fun b => Hid S ow b ∨ b = q) = fun b => Hid S ow b ∨ b ∈ [q] := funext fun b => by rw [List.mem_singleton]
    rw [eS] at r
    obtain ⟨ow', g', hh, hne⟩ := g.adopt hz e1 (ps := [q]) (ms := [m]) (List.nodup_cons.mpr ⟨fun z => by simp at z, List.nodup_nil⟩) (fun u hu => by rw [List.mem_singleton.mp hu]; exact ⟨hq, nn⟩) rfl (All2.cons r All2.nil)
    have h' : (ρ.set z (.ph ([q].zip [m] ++ es)))[n]? = some (.own (.ins p C ns ds)) := by rw [List.getElem?_set_ne nz]; exact h
    obtain ⟨p', a, b, e, dx, fs, c, hk, hr⟩ := g'.at_ n _ h'
    refine ⟨.ref p', a, p', C, dx, fs, rfl, c, hC, hno, by have := congrArg List.length hk; rw [List.length_map] at this; omega, ?_⟩
    refine hn _ _ _ _ (k q (hne q List.mem_cons_self)) (g'.write b _ _ ⟨e, dx, _, upd_same, ?_, ?_⟩ (fun _ => a) (.inl (List.getElem?_eq_some_iff.mp h').1))
    · rw [putF_new (by rw [hk]; exact hf), List.map_append, hk]
      rfl
    · rw [putF_new (by rw [hk]; exact hf), List.map_append]
      exact hr.snoc (.at q)
theorem body_newP {vs : List V} {H : Hp} {N : List Str} {Q : VK} (h : spNewP K C ns dd mm vs H Q E) (hN : 1 ≤ N.length)
    (hb : ∀ self, SD K ts (.own (.ins self C [] []) :: List.replicate (N.length - 1) .no) { nx := fun ρ' => ∃ (es : List (Addr × M)) (z : Nat), ρ'[0]? = some (.own (.ins self C ns (dd (es.map (·.1))))) ∧ ρ'[z]? = some (.ph es) ∧ es.map (·.2) = mm, rt := fun _ _ _ _ => False }) : ts { nx := fun _ H' => Q .non H', rt := Q } (L2.start N vs) H := by
  obtain ⟨self, dx, H1, T, rfl, hs, hd, hne, rfl, hT, q⟩ := h
  have g := good_new (K := K) (C := C) (N := N) (us := []) (as := []) hs hd hT All2.nil hN
  refine hb self H1 T _ _ _ _ _ g (fun ρ' ow' σ' H' ⟨es, z, e1, e2, e3⟩ g' => ?_) (fun _ _ _ _ z => z.elim) (fun _ _ _ _ z => z.elim) ⟨fun _ _ z => z.elim, trivial⟩
  obtain ⟨p, a, b, c⟩ := g'.at_ 0 _ e1
  obtain ⟨rfl, dx', fs, c1, c2, c3⟩ := id c
  obtain ⟨z1, z2, z3⟩ := g'.at_ z _ e2
  have lz := (List.getElem?_eq_some_iff.mp e1).1
  have gl := g'.len
  have own : ∀ u, u ∈ es.map (·.1) → ∃ t, ow' (σ'.length + 2 * t) = some u := fun u hu => by
    obtain ⟨x, hx, rfl⟩ := List.mem_map.mp hu
    exact (z3 x hx).1
  have np : p ∉ es.map (·.1) := fun w => by
    obtain ⟨t, ht⟩ := own p w
    have := g'.inj _ _ _ b ht
    omega
  have less : Ex (hid (Hid T ow') H') (hid (fun b => T b ∨ b ∈ es.map (·.1)) H') := hid_less fun u w => w.elim .inl fun w => by
    obtain ⟨t, ht⟩ := own u w
    exact .inr ⟨_, ht⟩
  have nT : ¬ T p := fun w => (hT p w).ne (g'.new 0 p b)
  refine q H' ⟨es.map (·.1), by rw [← e3, List.length_map, List.length_map], by rw [← e3, List.length_map, List.length_map], z2, fun u hu => ?_, g'.ex, ?_, ?_⟩
  · obtain ⟨t, ht⟩ := own u hu
    exact ⟨g'.new _ _ ht, g'.on _ _ ht⟩
  · exact .obj (by rw [hid_no (T := fun b => T b ∨ b ∈ es.map (·.1)) (fun w => w.elim nT np)]; exact c1) c2 c3.1 fun i v d h1 h2 => (c3.2 i v d h1 h2).mono less
  · rw [← e3]
    refine ⟨by rw [List.length_map, List.length_map], fun i u m' h1 h2 => ?_⟩
    rw [List.getElem?_map] at h1 h2
    obtain ⟨x, hx, rfl⟩ := Option.map_eq_some_iff.mp h1
    obtain ⟨y, hy, rfl⟩ := Option.map_eq_some_iff.mp h2
    rw [hx] at hy
    cases hy
    exact (z3 x (List.mem_of_getElem? hx)).2.mono less fun _ w => w
end
section
variable {P : Program} {w : World} {K : PySem.W.Frag} {mg : Str → Option Value} {base : Heap}
theorem mak_P {C fI : Addr} {ns : List Str} {dd : List Addr → List D} {mm : List M} {x qual : Str} {st : Stmt} {fd : FuncData} {N ps : List Str} {k : Nat} (Mk : Mk K C fI) (hm : mg x = some (.ref C)) (F : Fun K "__init__" qual st fI fd) (S : FnScope N ps (defScope st)) (hl : ps.length = 1) (hN : 1 ≤ N.length)
    (hB : ∀ (kV doc pm : Value) (an : Option Addr) (cdv ct : Value) (us : List Value), us.length = ps.length → bindArgs (PySem.W.fnOf "__init__" qual (defArgs st) (defBody st) (defScope st) .none kV doc pm an cdv ct) ⟨us, []⟩ = pure (ps.zip us))
    (hb : ∀ (cdv : Value) (A : Around) (outer : List Env) (s : Shared) (H : Hp) (E : XK), Room k (A.deeper (envOfC qual (defScope st) s.heap.objs.size fI cdv)) →
      ∃ t, PSs (cxOf CX0 P w K mg base N qual (defScope st) fI cdv A outer s H E).nox (defBody st) t ∧ ∀ self, SD K t (.own (.ins self C [] []) :: List.replicate (N.length - 1) .no) { nx := fun ρ' => ∃ (es : List (Addr × M)) (z : Nat), ρ'[0]? = some (.own (.ins self C ns (dd (es.map (·.1))))) ∧ ρ'[z]? = some (.ph es) ∧ es.map (·.2) = mm, rt := fun _ _ _ _ => False }) :
    Mak P w K mg base (k + 1) x C (spNewP K C ns dd mm) := by
  refine ⟨fI, fd, ps, Mk, F.ok S (fun vs H Q E h => ?_) (fun cdv A outer s H vs Q E hr h => ?_), hm, F.binds hB⟩
  · obtain ⟨self, dx, H1, T, rfl, _⟩ := h
    rw [hl]
    rfl
  · obtain ⟨t, h1, h2⟩ := hb cdv A outer s H E hr
    exact ⟨t, h1, body_newP h hN h2⟩
end
section
variable {X : Cx} {k j i : Nat} {C f : Addr} {x : Str} {sp : Sp} {p pos sp_ : Pos} {e : Expr} {te : TE} {dvs : List V}
theorem pe_mak0 (c : Mak X.prog X.w X.K X.mg X.base k x C sp) (hr : Room j X.A) (hk : k + 1 ≤ j) (hg : Gl X x) (hdb : (x == ("__debug__" : Str)) = false := by decide) : PE X (.Call (.Name x p) [] [] pos) (tMake C sp [] E0 tNil) := by
  obtain ⟨f, fd, ps, M, F, hm, b⟩ := c.ex
  exact pe_make0 M F (hr.mono hk) hg hm b .nil pass0 hdb
/-- the def at f keeps sp, dvs fill up -/
structure CalF (P : Program) (w : World) (K : PySem.W.Frag) (mg : Str → Option Value) (base : Heap) (k : Nat) (f : Addr) (sp : Sp) (dvs : List V) : Prop where
  ex : ∃ (fd : FuncData) (ps : List Str) (ds : List Value), FnOk P w K mg base CX0 k f fd ps sp ∧ PySem.W.keepIn K (.ref f) = true ∧ Binds K fd ps ds ∧ Vals dvs ds
theorem Cal.toF {P : Program} {w : World} {K : PySem.W.Frag} {mg : Str → Option Value} {base : Heap} (c : Cal P w K mg base k x sp) (h : mg x = some (.ref f)) : CalF P w K mg base k f sp [] := by
  obtain ⟨f', fd, ps, F, hm, kp, b⟩ := c.ex
  rw [h] at hm
  cases hm
  exact ⟨fd, ps, [], F, kp, b, .nil⟩
theorem pe_callF (c : CalF X.prog X.w X.K X.mg X.base k f sp dvs) (hr : Room j X.A) (hk : k ≤ j) (hN : X.N[i]? = some x) (hv : Vis X.env.scope x) (he : PE X e te)
    (hdb : (x == ("__debug__" : Str)) = false := by decide) (hcd : (x == ("__classdict__" : Str)) = false := by decide) (hst : starEach [Expr.Starred e sp_] X.env = [(true, eval e X.env)] := by rfl) :
    PE X (.Call (.Name x p) [.Starred e sp_] [] pos) (tCallLS X.K i f sp dvs E0 te) := by
  obtain ⟨fd, ps, ds, F, kp, b, hd⟩ := c.ex
  exact pe_callLS F (hr.mono hk) hN hv kp b hd pass0 he hdb hcd hst
/-- the same where f may raise -/
structure CalFX (P : Program) (w : World) (K : PySem.W.Frag) (mg : Str → Option Value) (base : Heap) (k : Nat) (f : Addr) (sp : Sp) (dvs : List V) : Prop where
  ex : ∃ (fd : FuncData) (ps : List Str) (ds : List Value), FnOk P w K mg base (L2.CX P w) k f fd ps sp ∧ PySem.W.keepIn K (.ref f) = true ∧ Binds K fd ps ds ∧ Vals dvs ds
theorem CalX.toF {P : Program} {w : World} {K : PySem.W.Frag} {mg : Str → Option Value} {base : Heap} (c : CalX P w K mg base k x sp) (h : mg x = some (.ref f)) : CalFX P w K mg base k f sp [] := by
  obtain ⟨f', fd, ps, F, hm, kp, b⟩ := c.ex
  rw [h] at hm
  cases hm
  exact ⟨fd, ps, [], F, kp, b, .nil⟩
end
section
variable {K : PySem.W.Frag} {ρ : List Sl} {te : TE} {i : Nat} {f : Addr} {dvs : List V} {ds dds : List D} {E : XK}
theorem args_all {G H : Hp} {us : List V} {ds : List D} (r : Reps K G us ds) : Args K G H us (ds.map fun d => (true, d)) := by
  refine ⟨by rw [List.length_map]; exact r.1, fun i u a h1 h2 => ?_⟩
  rw [List.getElem?_map] at h2
  obtain ⟨d, hd, rfl⟩ := Option.map_eq_some_iff.mp h2
  unfold Arg
  rw [if_pos rfl]
  exact r.2 i u d h1 hd
/-- f(*xs), f in a slot -/
theorem ed_callLS {α : Type} {pre : α → Prop} {args : α → List (Bool × D)} {res : α → D} (x : α) (hp : pre x) (hf : ρ[i]? = some (.sh (.at f))) (ha : ED K te ρ (.lst ds)) (e : args x = (ds ++ dds).map fun d => (true, d)) (hd : ∀ G, Reps K G dvs dds) : ED K (tCallLS K i f (spSh K pre args res) dvs E te) ρ (res x) := fun H0 S G ow σ H g Q q => by
  obtain ⟨v, hv, rv⟩ := g.at_ i _ hf
  refine ⟨by rw [hv, rv.at_inv], ha H0 S G ow σ H g _ fun y H1 e1 r1 => ?_⟩
  obtain ⟨a, xs, rfl, hs, hr⟩ := r1.lst_inv
  refine ⟨a, xs, rfl, .inr (ex_l hid_sub hs), x, hp, Hid S ow, (g.ext e1).there, ?_, fun u H' e' r' => q u H' (e1.trans e') r'⟩
  rw [e]
  exact args_all (hr.app (hd _))
end
structure DfnD (K : PySem.W.Frag) (mg : Str → Option Value) (x : Str) (st : Stmt) (dvs : List V) : Prop where
  ex : ∃ f fd, FunD K x x (defArgs st) (defBody st) (defScope st) dvs [] f fd ∧ mg x = some (.ref f)
section
variable {P : Program} {w : World} {K : PySem.W.Frag} {mg : Str → Option Value} {base : Heap}
theorem DfnD.sh {α : Type} {pre : α → Prop} {args : α → List (Bool × D)} {res : α → D} {x : Str} {st : Stmt} {N ps : List Str} {k : Nat} {dvs : List V} {f : Addr} (F : DfnD K mg x st dvs) (hf : mg x = some (.ref f)) (S : FnScope N ps (defScope st)) (hl : ∀ x, (args x).length = ps.length)
    (hN : ps.length ≤ N.length) (n j : Nat) (hd : dvs ≠ []) (hn : n + (dvs.length - j) = ps.length)
    (hB : ∀ (T : Addr) (kV doc pm : Value) (an : Option Addr) (cdv ct : Value) (us its : List Value), us.length = n → its.length = dvs.length →
      ∃ k, bindArgs (PySem.W.fnOf x x (defArgs st) (defBody st) (defScope st) (.ref T) kV doc pm an cdv ct) ⟨us, []⟩ = seqItems? (.ref T) >>= k ∧ k (some its.toArray) = pure (ps.zip (us ++ its.drop j)))
    (hb : ∀ (cdv : Value) (A : Around) (outer : List Env) (s : Shared) (H : Hp) (E : XK), Room k (A.deeper (envOfC x (defScope st) s.heap.objs.size f cdv)) → ∀ y, pre y →
      ∃ t, PSs (cxOf CX0 P w K mg base N x (defScope st) f cdv A outer s H E).nox (defBody st) t ∧ SD K t (slots (args y) ++ List.replicate (N.length - (args y).length) .no) { nx := fun _ => res y = .non, rt := RSh K (res y) }) :
    CalF P w K mg base (k + 1) f (spSh K pre args res) (dvs.drop j) := by
  obtain ⟨f', fd, F, hm⟩ := F.ex
  rw [hf] at hm
  cases hm
  obtain ⟨ds, hv, b⟩ := F.binds1 n j hd hn hB
  refine ⟨fd, ps, ds, F.ok S (fun vs H Q E h => ?_) (fun cdv A outer s H vs Q E hr h => ?_), F.kp, b, hv⟩
  · obtain ⟨y, _, T, _, ha, _⟩ := h
    rw [ha.1]
    exact hl y
  · obtain ⟨y, hy, h⟩ := h
    obtain ⟨t, h1, h2⟩ := hb cdv A outer s H E hr y hy
    exact ⟨t, h1.nox, body_sh (T := fun _ => False) h (by rw [hl]; exact hN) rfl h2⟩
end
end BV
end
section
open PySem PySem.Spec PyProof.Rows L2 Evl
namespace BV
open PySem.Builtin PySem.Builtin.Str PySem.StrLaws
/-- a search that stops early sees the first of what is there -/
theorem scan_few (x y : PySem.Str) (hi L M : Nat) (hLM : L ≤ M) : ∀ (l : List Nat) (a b : Array Nat × Nat), (a = b ∨ (a.fst.size = L ∧ b.fst.toList.take L = a.fst.toList)) →
    a.fst.size ≤ L → (forIn l a (occBody x y hi L)).run.fst.toList = (forIn l b (occBody x y hi M)).run.fst.toList.take L
  | [], a, b, h, hs => by
    show a.fst.toList = b.fst.toList.take L
    rcases h with rfl | h
    · rw [List.take_of_length_le (by rw [Array.length_toList]; exact hs)]
    · exact h.2.symm
  | i :: l, a, b, h, hs => by
    rw [List.forIn_cons, List.forIn_cons]
    unfold occBody
    by_cases ca : ((a.fst.size < L ∧ a.snd ≤ i) ∧ i + y.length ≤ hi) ∧ subAt x y i = true
    · have e : a = b := h.resolve_right fun z => by have := ca.1.1.1; omega
      subst e
      have cb : ((a.fst.size < M ∧ a.snd ≤ i) ∧ i + y.length ≤ hi) ∧ subAt x y i = true := ⟨⟨⟨by have := ca.1.1.1; omega, ca.1.1.2⟩, ca.1.2⟩, ca.2⟩
      rw [if_pos ca, if_pos cb]
      exact scan_few x y hi L M hLM l _ _ (.inl rfl) (by show (a.fst.push i).size ≤ L; rw [Array.size_push]; have := ca.1.1.1; omega)
    · rw [if_neg ca]
      by_cases cb : ((b.fst.size < M ∧ b.snd ≤ i) ∧ i + y.length ≤ hi) ∧ subAt x y i = true
      · rw [if_pos cb]
        have full : a.fst.size = L ∧ b.fst.toList.take L = a.fst.toList := by
          rcases h with rfl | h
          · have : a.fst.size = L := by
              refine Nat.le_antisymm hs (Nat.le_of_not_lt fun z => ca ⟨⟨⟨z, cb.1.1.2⟩, cb.1.2⟩, cb.2⟩)
            exact ⟨this, List.take_of_length_le (by rw [Array.length_toList]; omega)⟩
          · exact h
        refine scan_few x y hi L M hLM l _ _ (.inr ⟨full.1, ?_⟩) hs
        show (b.fst.push i).toList.take L = a.fst.toList
        have lb : L ≤ b.fst.toList.length := by
          have := congrArg List.length full.2
          rw [List.length_take, Array.length_toList, Array.length_toList] at this
          rw [Array.length_toList]
          omega
        rw [Array.toList_push, List.take_append_of_le_length lb]
        exact full.2
      · rw [if_neg cb]
        exact scan_few x y hi L M hLM l _ _ h hs
theorem occ_few (x y : PySem.Str) (L : Nat) (h : L ≤ x.length + 1) : occurrences x y 0 x.length L = (occurrences x y 0 x.length (x.length + 1)).take L := by
  rw [occ_eq, occ_eq]
  exact scan_few x y x.length L (x.length + 1) h _ _ _ (.inl rfl) (Nat.zero_le _)
/-- signs parted at s, joined again -/
theorem joinL_cons (S p : List Nat) {ps : List (List Nat)} (h : ps ≠ []) : TL.joinL S (p :: ps) = p ++ (S ++ TL.joinL S ps) := by
  cases ps with
  | nil => exact absurd rfl h
  | cons q r => rfl
theorem spl_ne (S : List Nat) : ∀ (l : List Nat) (j : Nat) (acc : List Nat), TL.spl S j acc l ≠ []
  | [], j, acc => by rw [TL.spl_nil]; exact List.cons_ne_nil _ _
  | c :: r, 0, acc => by
    by_cases h : TL.pre S (c :: r) = true
    · rw [TL.spl_hit h]; exact List.cons_ne_nil _ _
    · rw [TL.spl_miss (by simpa using h)]; exact spl_ne S r 0 _
  | c :: r, j + 1, acc => by
    show TL.spl S j acc r ≠ []
    exact spl_ne S r j acc
theorem one_pre (s c : Nat) (r : List Nat) : TL.pre [s] (c :: r) = decide (c = s) := by
  show (([c] : List Nat) == [s]) = decide (c = s)
  by_cases h : c = s
  · rw [h, decide_eq_true rfl]; exact beq_self_eq_true _
  · rw [decide_eq_false h]
    refine beq_eq_false_iff_ne.mpr fun z => h ?_
    injection z
theorem join_spl (s : Nat) : ∀ (l acc : List Nat), TL.joinL [s] (TL.spl [s] 0 acc l) = acc ++ l
  | [], acc => by rw [TL.spl_nil, List.append_nil]; rfl
  | c :: r, acc => by
    by_cases e : c = s
    · subst e
      rw [TL.spl_hit (by rw [one_pre]; exact decide_eq_true rfl)]
      have : TL.spl [c] ([c].length - 1) [] r = TL.spl [c] 0 [] r := rfl
      rw [this, joinL_cons _ _ (spl_ne _ _ _ _), join_spl c r [], List.nil_append]
      rfl
    · rw [TL.spl_miss (by rw [one_pre]; exact decide_eq_false e), join_spl s r, List.append_assoc]
      rfl
/-- the first two parts, and the others joined -/
def twoOf (sep : PySem.Str) : List PySem.Str → List PySem.Str
  | a :: b :: c :: r => [a, b, Txt.join sep (c :: r)]
  | l => l
theorem splitMax_two {x y : PySem.Str} {s : Nat} (ey : TL.tl y = [s]) (hk : y.cps.all (· < 256) = true) (hx : 1 ≤ x.length) : Txt.splitMax x y 2 = twoOf y (Txt.split x y) := by
  have ly : y.length = 1 := by rw [TL.len_tl, ey]; rfl
  have ney : TL.tl y ≠ [] := by rw [ey]; exact List.cons_ne_nil _ _
  obtain ⟨f, g, hn⟩ := occ_tight x y (by omega)
  have lim : PySem.limitOf x 2 = 2 := rfl
  have joined : ∀ (cuts : List Nat) (a : Nat), a ≤ (TL.tl x).length → ChainG x y x.length a cuts f → Txt.join y (partsFrom x y.length a cuts) = strSub x a x.length := fun cuts a ha h => by
    refine TL.ext_tl ?_
    rw [TL.join_eq, TL.tl_join, TL.parts_spl ney cuts a f ha h hn, ey, join_spl, List.nil_append, TL.tl_strSub_end]
  unfold Txt.splitMax Txt.split
  by_cases h1 : (decide (x.length < y.length) || decide (Builtin.Str.strKind x < Builtin.Str.strKind y)) = true
  · rw [if_pos h1, if_pos h1]
    rfl
  rw [if_neg h1, if_neg h1, lim, occ_few x y 2 (by omega)]
  generalize occurrences x y 0 x.length (x.length + 1) = cuts at g
  match cuts, g with
  | [], _ => rfl
  | [c], _ => rfl
  | [c, d], _ => rfl
  | c :: d :: e :: r, g =>
    rw [if_neg (by rw [List.take_succ_cons]; exact Bool.false_ne_true), if_neg (by exact Bool.false_ne_true), partsBetween_eq, partsBetween_eq]
    obtain ⟨g1, g2, g3, g4, g5, g6, g7⟩ := g
    have lx := TL.len_tl x
    have := g5.1
    have j := joined (e :: r) (d + y.length) (by omega) g7
    show [strSub x 0 c, strSub x (c + y.length) d, strSub x (d + y.length) x.length] = twoOf y (strSub x 0 c :: strSub x (c + y.length) d :: partsFrom x y.length (d + y.length) (e :: r))
    rw [← j]
    rfl
end BV
end
section
open PySem PySem.Spec PyProof.Rows L2 Evl
namespace BV
def rStrIS : List V → Hp → VK → Prop := fun xs H Q => (∃ a, xs = [.str a] ∧ Q (.str a) H) ∨ ∃ i : Int, xs = [.int i] ∧ i.natAbs.log2 < 1920 ∧ Q (.str (toString i)) H
theorem cr_strIS {X : Cx} : CallR X (.type "str") rStrIS := by
  intro pins s σ H xs us Q I r h
  rcases h with h | h
  · exact cr_strS pins s σ H xs us Q I r h
  · exact call_str_int pins s σ H xs us Q I r h
section
variable {K : PySem.W.Frag} {ρ : List Sl} {ta tk : TE} {x : Str} {i : Int} {kvs : List (Str × Value)} {a : Addr} {ws : List Str}
theorem ed_strISs (ha : ED K ta ρ (.str x)) : ED K (tCB rStrIS (tCons ta tNil)) ρ (.str x) := fun H0 S G ow σ H g Q q => ha H0 S G ow σ H g _ fun v H1 e1 r1 => .inl ⟨x, by rw [r1.str_inv], q _ H1 e1 (.str x)⟩
theorem ed_strISi (ha : ED K ta ρ (.int i)) (hl : i.natAbs.log2 < 1920) : ED K (tCB rStrIS (tCons ta tNil)) ρ (.str (toString i)) := fun H0 S G ow σ H g Q q => ha H0 S G ow σ H g _ fun v H1 e1 r1 => .inr ⟨i, by rw [r1.int_inv], hl, q _ H1 e1 (.str _)⟩
theorem ktup_rep {H : Hp} (h : KTup K a ws) : Rep K H (.ref a) (.tup (ws.map .str)) := .tup (.inr h) (by rw [List.length_map, List.length_map]) fun i v d h1 h2 => by
  rw [List.getElem?_map] at h1 h2
  obtain ⟨x, hx, rfl⟩ := Option.map_eq_some_iff.mp h1
  rw [hx] at h2
  cases h2
  exact .str x
theorem ed_kgetT (hk : ED K tk ρ (.str x)) (h : kdAt kvs x = some (.ref a)) (ht : KTup K a ws) : ED K (tKGet kvs tk) ρ (.tup (ws.map .str)) := ed_kget hk h fun H => ⟨.ref a, rfl, ktup_rep ht⟩
theorem ed_kgetF (hk : ED K tk ρ (.str x)) (h : kdAt kvs x = some (.ref a)) : ED K (tKGet kvs tk) ρ (.at a) := ed_kget hk h fun H => ⟨.ref a, rfl, .at a⟩
end
end BV
end
section
open PySem PySem.Spec PyProof.Rows L2 Evl
namespace BV
section
variable {P : Program} {w : World} {K : PySem.W.Frag} {mg : Str → Option Value} {base : Heap} {C : Addr}
theorem met_mt {α β : Type} {pre : α → Prop} {args : α → List Addr → List (Bool × D)} {ms : α → List Addr → List M} {R : α → β → Prop} {nn : β → Nat} {dd : β → List Addr → D} {mm : β → List Addr → List M} {x qual : Str} {st : Stmt} {N ps : List Str} {k : Nat} (F : ∃ f fd, Fun K x qual st f fd ∧ Meth K C x f) (S : FnScope N ps (defScope st)) (hl : ∀ x qs, (args x qs).length = ps.length)
    (hN : ps.length < N.length) (hB : ∀ (kV doc pm : Value) (an : Option Addr) (cdv ct : Value) (us : List Value), us.length = ps.length → bindArgs (PySem.W.fnOf x qual (defArgs st) (defBody st) (defScope st) .none kV doc pm an cdv ct) ⟨us, []⟩ = pure (ps.zip us))
    (hb : ∀ (f : Addr) (cdv : Value) (A : Around) (outer : List Env) (s : Shared) (H : Hp) (E : XK), Room k (A.deeper (envOfC qual (defScope st) s.heap.objs.size f cdv)) → ∀ y, pre y →
      ∃ t, PSs (cxOf CX0 P w K mg base N qual (defScope st) f cdv A outer s H E).nox (defBody st) t ∧ ∀ qs : List Addr, qs.length = (ms y qs).length → SD K t ((slots (args y qs) ++ List.replicate (N.length - (args y qs).length) Sl.no).set (N.length - 1) (.ph (qs.zip (ms y qs)))) { nx := fun _ => False, rt := RMt K (R y) qs nn dd mm }) :
    Met P w K mg base (k + 1) C x (spMt K pre args ms R nn dd mm) := by
  obtain ⟨f, fd, F, hm⟩ := F
  refine ⟨f, fd, ps, F.ok S (fun vs H Q E h => ?_) (fun cdv A outer s H vs Q E hr h => ?_), hm, F.binds hB⟩
  · obtain ⟨x, _, qs, _, _, T, _, _, ha, _⟩ := h
    rw [ha.1]
    exact hl x qs
  · obtain ⟨x, hx, qs, lq, nd, T, hT, hn, ha, hm, q⟩ := h
    obtain ⟨t, h1, h2⟩ := hb f cdv A outer s H E hr x hx
    refine ⟨t, h1, ?_⟩
    have g0 := good_start hT ha (N := N) (by rw [hl]; exact Nat.le_of_lt hN)
    have lρ : (slots (args x qs) ++ List.replicate (N.length - (args x qs).length) Sl.no).length = N.length := by
      rw [List.length_append, slots_len, List.length_replicate, hl]
      omega
    have gl := g0.len
    have lz : N.length - 1 < (slots (args x qs) ++ List.replicate (N.length - (args x qs).length) Sl.no).length := by rw [lρ]; omega
    have g1 := g0.putK (N.length - 1) ((L2.start N vs)[N.length - 1]'(by rw [gl]; exact lz)) (.ph []) (.inl ⟨by rw [List.length_set, gl, lρ]; omega, List.nodup_nil, fun e he => by simp at he⟩)
    rw [List.set_getElem_self] at g1
    have eT : ∀ b : Addr, (Hid T (fun _ => none) b ↔ T b) := fun b => ⟨fun w => w.elim id fun ⟨_, w⟩ => (nomatch w), fun w => Or.inl w⟩
    obtain ⟨ow', g2, _, _⟩ := g1.adopt (List.getElem?_set_self lz) offH_sub nd (fun q hq => ⟨offH_yes hq, hn q hq⟩) lq (ps := qs) (ms := ms x qs) (by
      refine ⟨lq, fun i q m a b => (hm.2 i q m a b).mono (fun c o w => ?_) fun _ z => z⟩
      obtain ⟨w1, w2⟩ := hid_some w
      have nq : c ∉ qs := fun h => by rw [offH_yes h] at w2; cases w2
      rw [offH_no nq] at w2
      rw [hid_no fun h => h.elim (fun h => w1 ((eT c).1 h)) nq]
      exact w2)
    rw [List.set_set, List.append_nil] at g2
    exact h2 qs lq (offH qs H) T _ _ _ H _ g2 (fun ρ' ow' σ' H' e g => e.elim) (fun _ _ _ _ z => z.elim) (fun _ _ _ _ z => z.elim) ⟨fun v H' r => q v H' r, trivial⟩
end
section
variable {K : PySem.W.Frag} {ρ : List Sl} {ta tb : TE} {n : Nat} {ds es : List D}
/-- [..] + xs, xs built here -/
theorem eo_catV (ha : EO K ta ρ (.lst ds)) (h : ρ[n]? = some (.own (.lst es))) (hl : ds.length + es.length ≤ 100000) : EO K (tOp rCat ta (tVar n)) ρ (.lst (ds ++ es)) := fun H0 S G ow σ H g Q q =>
  ha H0 S G ow σ H g _ fun p H1 hp e1 _ r1 => by
    obtain ⟨xs, a, b⟩ := r1
    obtain ⟨p', a', _, ys, c, r⟩ := (g.ext e1).at_ n _ h
    refine ⟨.ref p', a', p, p', xs, ys, rfl, rfl, a, c, sz_of (by rw [b.1, r.1]; exact hl), fun l hl => ?_⟩
    refine q l _ (fresh_back e1 hl) (e1.trans (Ex.new hl)) (by rw [upd_same]; exact fun z => nomatch z) (eo_of_new hl ((g.ext e1).fresh hl) ?_)
    exact All2.app (b.mono (hid_less fun _ z => .inl z)) r
/-- len of a dict that is looked at -/
def rLenR : List V → Hp → VK → Prop := fun xs H Q => ∃ a n, xs = [V.ref a] ∧ LenD H a n ∧ Q (.int (n : Int)) H
theorem cr_lenR {X : Cx} : CallR X (.builtin "len") rLenR := by
  intro pins st st' G as bs W inv rel q
  obtain ⟨a, n, rfl, hd, k⟩ := q
  obtain ⟨b, rfl, rb⟩ := vals1 rel
  cases rb
  rcases hd with ⟨kvs, hd, rfl⟩ | ⟨kvs, hd, rfl⟩
  · exact d_len inv hd fun tok next inv' => ⟨.int _, G, inv', ⟨tok, rfl⟩, k⟩
  · obtain ⟨size, nsys, rows, kt, dict⟩ := dt_rd inv.hok hd
    have same : kvs.length = rows.length := Paired.length kt
    rw [same] at k size
    rw [sizeLine_eq] at size
    exact call_len_dictH nsys dict (by omega) ⟨.int _, G, inv.tok _, ⟨_, rfl⟩, k⟩
theorem ed_lenK {kk : List Key} (ha : ER K ta ρ (.dki kk ds)) : ED K (tCB rLenR (tCons ta tNil)) ρ (.int (kk.length : Int)) := fun H0 S G ow σ H g Q q => ha H0 S G ow σ H g _ fun v H1 e1 r1 => by
  obtain ⟨a, kvs, rfl, h, hk, _⟩ := r1.dki_inv
  exact ⟨a, kk.length, rfl, .inl ⟨kvs, h, by rw [← hk, List.length_map]⟩, q _ H1 e1 (.int _)⟩
theorem ed_lenTR {ks : List (List Key)} (ha : ER K ta ρ (.dct ks ds)) : ED K (tCB rLenR (tCons ta tNil)) ρ (.int (ks.length : Int)) := fun H0 S G ow σ H g Q q => ha H0 S G ow σ H g _ fun v H1 e1 r1 => by
  obtain ⟨a, kvs, rfl, h, hk, _⟩ := r1.dct_inv
  exact ⟨a, ks.length, rfl, .inr ⟨kvs, h, by rw [← hk, List.length_map]⟩, q _ H1 e1 (.int _)⟩
/-- a dict of tuples that is not empty, or is -/
theorem ed_emT2 {ks : List (List Key)} {b : Bool} (ha : ER K ta ρ (.dct ks ds)) : ED K (tOp (rDE b) ta tDNewK) ρ (.bl (b ^^ (ks.length == 0))) := fun H0 S G ow σ H g Q q => ha H0 S G ow σ H g _ fun v H1 e1 r1 => fun p hp => by
  obtain ⟨a, kvs, rfl, h, hk, _⟩ := r1.dct_inv
  refine ⟨a, p, ks.length, rfl, rfl, .inr ⟨kvs, rd_ex h (Ex.new hp), by rw [← hk, List.length_map]⟩, .inl ⟨[], .inl upd_same, rfl⟩, q _ _ (e1.trans (Ex.new hp)) (.bl _)⟩
end
end BV
end
section
open PySem PySem.Spec PyProof.Rows L2 Evl BV
namespace Sp
def topS (i : Nat) : Stmt := PySem.Challenge.pw_sparenext_k91_lines_of_a_desk.main.body.getD i (.Pass ⟨0, 0, 0, 0⟩)
abbrev s__law_cell_at : Stmt := topS 119
abbrev N__law_cell_at : List Str := ["_law_script", "_law_k"]
theorem sc__law_cell_at : FnScope N__law_cell_at ["_law_script", "_law_k"] (defScope s__law_cell_at) := ⟨rfl, rfl, rfl, by decide +kernel, rfl, by decide +kernel, by decide +kernel⟩
abbrev s__law_mixed : Stmt := topS 120
abbrev N__law_mixed : List Str := ["_law_cell", "_law_place", "_law_number"]
theorem sc__law_mixed : FnScope N__law_mixed ["_law_cell", "_law_place"] (defScope s__law_mixed) := ⟨rfl, rfl, rfl, by decide +kernel, rfl, by decide +kernel, by decide +kernel⟩
abbrev s_is_house : Stmt := topS 16
abbrev N_is_house : List Str := ["count", "number"]
theorem sc_is_house : FnScope N_is_house ["count", "number"] (defScope s_is_house) := ⟨rfl, rfl, rfl, by decide +kernel, rfl, by decide +kernel, by decide +kernel⟩
abbrev s_refuse_houses : Stmt := topS 17
abbrev N_refuse_houses : List Str := ["count", "numbers", "number"]
theorem sc_refuse_houses : FnScope N_refuse_houses ["count", "numbers"] (defScope s_refuse_houses) := ⟨rfl, rfl, rfl, by decide +kernel, rfl, by decide +kernel, by decide +kernel⟩
abbrev s_pair_of : Stmt := topS 24
abbrev N_pair_of : List Str := ["a", "b"]
theorem sc_pair_of : FnScope N_pair_of ["a", "b"] (defScope s_pair_of) := ⟨rfl, rfl, rfl, by decide +kernel, rfl, by decide +kernel, by decide +kernel⟩
abbrev s__refuse_count : Stmt := topS 25
abbrev N__refuse_count : List Str := ["count"]
theorem sc__refuse_count : FnScope N__refuse_count ["count"] (defScope s__refuse_count) := ⟨rfl, rfl, rfl, by decide +kernel, rfl, by decide +kernel, by decide +kernel⟩
abbrev s__refuse_pairs : Stmt := topS 26
abbrev N__refuse_pairs : List Str := ["ties", "seen", "place", "tie", "pair"]
theorem sc__refuse_pairs : FnScope N__refuse_pairs ["ties"] (defScope s__refuse_pairs) := ⟨rfl, rfl, rfl, by decide +kernel, rfl, by decide +kernel, by decide +kernel⟩
abbrev s__refuse_weights : Stmt := topS 27
abbrev N__refuse_weights : List Str := ["ties", "place", "tie"]
theorem sc__refuse_weights : FnScope N__refuse_weights ["ties"] (defScope s__refuse_weights) := ⟨rfl, rfl, rfl, by decide +kernel, rfl, by decide +kernel, by decide +kernel⟩
abbrev s__refuse_ties : Stmt := topS 28
abbrev N__refuse_ties : List Str := ["count", "ties", "tie", "house"]
theorem sc__refuse_ties : FnScope N__refuse_ties ["count", "ties"] (defScope s__refuse_ties) := ⟨rfl, rfl, rfl, by decide +kernel, rfl, by decide +kernel, by decide +kernel⟩
abbrev s__lesser_first : Stmt := topS 29
abbrev N__lesser_first : List Str := ["tie", "a", "b", "there", "back"]
theorem sc__lesser_first : FnScope N__lesser_first ["tie"] (defScope s__lesser_first) := ⟨rfl, rfl, rfl, by decide +kernel, rfl, by decide +kernel, by decide +kernel⟩
abbrev s__weights_of : Stmt := topS 30
abbrev N__weights_of : List Str := ["ties", "weights", "a", "b", "there", "back"]
theorem sc__weights_of : FnScope N__weights_of ["ties"] (defScope s__weights_of) := ⟨rfl, rfl, rfl, by decide +kernel, rfl, by decide +kernel, by decide +kernel⟩
abbrev s_Net___init__ : Stmt := inClass (topS 31) 0
abbrev N_Net___init__ : List Str := ["self", "count", "ties", "tie"]
theorem sc_Net___init__ : FnScope N_Net___init__ ["self", "count", "ties"] (defScope s_Net___init__) := ⟨rfl, rfl, rfl, by decide +kernel, rfl, by decide +kernel, by decide +kernel⟩
abbrev s_Net_neighbours : Stmt := inClass (topS 31) 1
abbrev N_Net_neighbours : List Str := ["self", "a", "b"]
theorem sc_Net_neighbours : FnScope N_Net_neighbours ["self", "a"] (defScope s_Net_neighbours) := ⟨rfl, rfl, rfl, by decide +kernel, rfl, by decide +kernel, by decide +kernel⟩
abbrev s_Net_weight : Stmt := inClass (topS 31) 2
abbrev N_Net_weight : List Str := ["self", "a", "b"]
theorem sc_Net_weight : FnScope N_Net_weight ["self", "a", "b"] (defScope s_Net_weight) := ⟨rfl, rfl, rfl, by decide +kernel, rfl, by decide +kernel, by decide +kernel⟩
abbrev s__is_nearer_by : Stmt := topS 35
abbrev N__is_nearer_by : List Str := ["sums", "a", "weight", "b"]
theorem sc__is_nearer_by : FnScope N__is_nearer_by ["sums", "a", "weight", "b"] (defScope s__is_nearer_by) := ⟨rfl, rfl, rfl, by decide +kernel, rfl, by decide +kernel, by decide +kernel⟩
abbrev s_distances_to : Stmt := topS 34
abbrev N_distances_to : List Str := ["net", "t", "sums", "changed", "a", "b", "there", "back"]
theorem sc_distances_to : FnScope N_distances_to ["net", "t"] (defScope s_distances_to) := ⟨rfl, rfl, rfl, by decide +kernel, rfl, by decide +kernel, by decide +kernel⟩
abbrev s_steps_on : Stmt := topS 36
abbrev N_steps_on : List Str := ["net", "sums", "a", "n"]
theorem sc_steps_on : FnScope N_steps_on ["net", "sums", "a"] (defScope s_steps_on) := ⟨rfl, rfl, rfl, by decide +kernel, rfl, by decide +kernel, by decide +kernel⟩
abbrev s_step_on : Stmt := topS 37
abbrev N_step_on : List Str := ["net", "sums", "a", "found"]
theorem sc_step_on : FnScope N_step_on ["net", "sums", "a"] (defScope s_step_on) := ⟨rfl, rfl, rfl, by decide +kernel, rfl, by decide +kernel, by decide +kernel⟩
abbrev s_least_way : Stmt := topS 40
abbrev N_least_way : List Str := ["net", "a", "t", "sums", "houses"]
theorem sc_least_way : FnScope N_least_way ["net", "a", "t"] (defScope s_least_way) := ⟨rfl, rfl, rfl, by decide +kernel, rfl, by decide +kernel, by decide +kernel⟩
abbrev s_refuse_table : Stmt := topS 42
abbrev N_refuse_table : List Str := ["table", "house"]
theorem sc_refuse_table : FnScope N_refuse_table ["table"] (defScope s_refuse_table) := ⟨rfl, rfl, rfl, by decide +kernel, rfl, by decide +kernel, by decide +kernel⟩
abbrev s_next_table : Stmt := topS 43
abbrev N_next_table : List Str := ["net", "t", "sums", "a"]
theorem sc_next_table : FnScope N_next_table ["net", "t"] (defScope s_next_table) := ⟨rfl, rfl, rfl, by decide +kernel, rfl, by decide +kernel, by decide +kernel⟩
abbrev s_weighed : Stmt := topS 32
abbrev N_weighed : List Str := ["net", "a", "b", "weight", "others", "tie"]
theorem sc_weighed : FnScope N_weighed ["net", "a", "b", "weight"] (defScope s_weighed) := ⟨rfl, rfl, rfl, by decide +kernel, rfl, by decide +kernel, by decide +kernel⟩
abbrev s_refuse_weight : Stmt := topS 19
abbrev N_refuse_weight : List Str := ["weight"]
theorem sc_refuse_weight : FnScope N_refuse_weight ["weight"] (defScope s_refuse_weight) := ⟨rfl, rfl, rfl, by decide +kernel, rfl, by decide +kernel, by decide +kernel⟩
abbrev s_refuse_untied : Stmt := topS 18
abbrev N_refuse_untied : List Str := ["net", "a", "b"]
theorem sc_refuse_untied : FnScope N_refuse_untied ["net", "a", "b"] (defScope s_refuse_untied) := ⟨rfl, rfl, rfl, by decide +kernel, rfl, by decide +kernel, by decide +kernel⟩
abbrev s_refuse_fall : Stmt := topS 21
abbrev N_refuse_fall : List Str := ["net", "fall"]
theorem sc_refuse_fall : FnScope N_refuse_fall ["net", "fall"] (defScope s_refuse_fall) := ⟨rfl, rfl, rfl, by decide +kernel, rfl, by decide +kernel, by decide +kernel⟩
abbrev s_falls_with : Stmt := topS 22
abbrev N_falls_with : List Str := ["fall", "a", "b"]
theorem sc_falls_with : FnScope N_falls_with ["fall", "a", "b"] (defScope s_falls_with) := ⟨rfl, rfl, rfl, by decide +kernel, rfl, by decide +kernel, by decide +kernel⟩
abbrev s_Net_without : Stmt := inClass (topS 31) 3
abbrev N_Net_without : List Str := ["self", "fall", "tie"]
theorem sc_Net_without : FnScope N_Net_without ["self", "fall"] (defScope s_Net_without) := ⟨rfl, rfl, rfl, by decide +kernel, rfl, by decide +kernel, by decide +kernel⟩
abbrev s_net_text : Stmt := topS 82
abbrev N_net_text : List Str := ["net", "a", "b", "there", "back"]
theorem sc_net_text : FnScope N_net_text ["net"] (defScope s_net_text) := ⟨rfl, rfl, rfl, by decide +kernel, rfl, by decide +kernel, by decide +kernel⟩
abbrev s_table_text : Stmt := topS 84
abbrev N_table_text : List Str := ["table", "house"]
theorem sc_table_text : FnScope N_table_text ["table"] (defScope s_table_text) := ⟨rfl, rfl, rfl, by decide +kernel, rfl, by decide +kernel, by decide +kernel⟩
abbrev s_number_of : Stmt := topS 80
abbrev N_number_of : List Str := ["word", "sign"]
theorem sc_number_of : FnScope N_number_of ["word"] (defScope s_number_of) := ⟨rfl, rfl, rfl, by decide +kernel, rfl, by decide +kernel, by decide +kernel⟩
abbrev s__tie_of : Stmt := topS 81
abbrev N__tie_of : List Str := ["word", "houses", "_", "weights", "a", "b", "there", "back", "tie"]
theorem sc__tie_of : FnScope N__tie_of ["word"] (defScope s__tie_of) := ⟨rfl, rfl, rfl, by decide +kernel, rfl, by decide +kernel, by decide +kernel⟩
abbrev s_read_net : Stmt := topS 83
abbrev N_read_net : List Str := ["text", "words", "count", "ties", "told", "word"]
theorem sc_read_net : FnScope N_read_net ["text"] (defScope s_read_net) := ⟨rfl, rfl, rfl, by decide +kernel, rfl, by decide +kernel, by decide +kernel⟩
abbrev s__law_draws : Stmt := topS 121
abbrev N__law_draws : List Str := ["_law_cell", "_law_many", "_law_found", "_law_left", "_law_k"]
theorem sc__law_draws : FnScope N__law_draws ["_law_cell", "_law_many"] (defScope s__law_draws) := ⟨rfl, rfl, rfl, by decide +kernel, rfl, by decide +kernel, by decide +kernel⟩
abbrev s__law_wide : Stmt := topS 122
abbrev N__law_wide : List Str := ["_law_numbers", "_law_found", "_law_number"]
theorem sc__law_wide : FnScope N__law_wide ["_law_numbers"] (defScope s__law_wide) := ⟨rfl, rfl, rfl, by decide +kernel, rfl, by decide +kernel, by decide +kernel⟩
abbrev s__law_net : Stmt := topS 123
abbrev N__law_net : List Str := ["_law_draws_here", "_law_count", "_law_size", "_law_there", "_law_numbers", "_law_weights", "_law_place", "_law_a", "_law_b", "_law_number"]
theorem sc__law_net : FnScope N__law_net ["_law_draws_here"] (defScope s__law_net) := ⟨rfl, rfl, rfl, by decide +kernel, rfl, by decide +kernel, by decide +kernel⟩
abbrev s__law_tie_word : Stmt := topS 124
abbrev N__law_tie_word : List Str := ["_law_weights", "_law_a", "_law_b"]
theorem sc__law_tie_word : FnScope N__law_tie_word ["_law_weights", "_law_a", "_law_b"] (defScope s__law_tie_word) := ⟨rfl, rfl, rfl, by decide +kernel, rfl, by decide +kernel, by decide +kernel⟩
abbrev s__law_text : Stmt := topS 125
abbrev N__law_text : List Str := ["_law_net_here", "_law_count", "_law_weights", "_law_a", "_law_b"]
theorem sc__law_text : FnScope N__law_text ["_law_net_here"] (defScope s__law_text) := ⟨rfl, rfl, rfl, by decide +kernel, rfl, by decide +kernel, by decide +kernel⟩
abbrev s__law_far : Stmt := topS 127
abbrev N__law_far : List Str := ["_law_net_here", "_law_t", "_law_count", "_law_weights", "_law_found", "_law_again", "_law_a", "_law_b", "_law_through"]
theorem sc__law_far : FnScope N__law_far ["_law_net_here", "_law_t"] (defScope s__law_far) := ⟨rfl, rfl, rfl, by decide +kernel, rfl, by decide +kernel, by decide +kernel⟩
abbrev s__law_next : Stmt := topS 128
abbrev N__law_next : List Str := ["_law_net_here", "_law_far_here", "_law_a", "_law_t", "_law_b"]
theorem sc__law_next : FnScope N__law_next ["_law_net_here", "_law_far_here", "_law_a", "_law_t"] (defScope s__law_next) := ⟨rfl, rfl, rfl, by decide +kernel, rfl, by decide +kernel, by decide +kernel⟩
abbrev s__is_name : Stmt := topS 100
abbrev N__is_name : List Str := ["word", "sign"]
theorem sc__is_name : FnScope N__is_name ["word"] (defScope s__is_name) := ⟨rfl, rfl, rfl, by decide +kernel, rfl, by decide +kernel, by decide +kernel⟩
abbrev s__words_of : Stmt := topS 99
abbrev N__words_of : List Str := ["line", "words", "needed", "lacking"]
theorem sc__words_of : FnScope N__words_of ["line"] (defScope s__words_of) := ⟨rfl, rfl, rfl, by decide +kernel, rfl, by decide +kernel, by decide +kernel⟩
abbrev s__number_at : Stmt := topS 101
abbrev N__number_at : List Str := ["words", "at", "number"]
theorem sc__number_at : FnScope N__number_at ["words", "at"] (defScope s__number_at) := ⟨rfl, rfl, rfl, by decide +kernel, rfl, by decide +kernel, by decide +kernel⟩
abbrev s__fall_of : Stmt := topS 102
abbrev N__fall_of : List Str := ["a", "b"]
theorem sc__fall_of : FnScope N__fall_of ["a", "b"] (defScope s__fall_of) := ⟨rfl, rfl, rfl, by decide +kernel, rfl, by decide +kernel, by decide +kernel⟩
abbrev s__joined : Stmt := topS 103
abbrev N__joined : List Str := ["things", "thing"]
theorem sc__joined : FnScope N__joined ["things"] (defScope s__joined) := ⟨rfl, rfl, rfl, by decide +kernel, rfl, by decide +kernel, by decide +kernel⟩
abbrev s__net : Stmt := topS 104
abbrev N__net : List Str := ["text"]
theorem sc__net : FnScope N__net ["text"] (defScope s__net) := ⟨rfl, rfl, rfl, by decide +kernel, rfl, by decide +kernel, by decide +kernel⟩
abbrev s__weigh : Stmt := topS 105
abbrev N__weigh : List Str := ["net", "a", "b", "weight"]
theorem sc__weigh : FnScope N__weigh ["net", "a", "b", "weight"] (defScope s__weigh) := ⟨rfl, rfl, rfl, by decide +kernel, rfl, by decide +kernel, by decide +kernel⟩
abbrev s__show : Stmt := topS 107
abbrev N__show : List Str := ["net"]
theorem sc__show : FnScope N__show ["net"] (defScope s__show) := ⟨rfl, rfl, rfl, by decide +kernel, rfl, by decide +kernel, by decide +kernel⟩
abbrev s__table : Stmt := topS 108
abbrev N__table : List Str := ["net", "t"]
theorem sc__table : FnScope N__table ["net", "t"] (defScope s__table) := ⟨rfl, rfl, rfl, by decide +kernel, rfl, by decide +kernel, by decide +kernel⟩
abbrev s__way : Stmt := topS 109
abbrev N__way : List Str := ["net", "a", "t", "way"]
theorem sc__way : FnScope N__way ["net", "a", "t"] (defScope s__way) := ⟨rfl, rfl, rfl, by decide +kernel, rfl, by decide +kernel, by decide +kernel⟩
abbrev s__fall : Stmt := topS 106
abbrev N__fall : List Str := ["net", "a", "b"]
theorem sc__fall : FnScope N__fall ["net", "a", "b"] (defScope s__fall) := ⟨rfl, rfl, rfl, by decide +kernel, rfl, by decide +kernel, by decide +kernel⟩
abbrev s_Desk___init__ : Stmt := inClass (topS 117) 0
abbrev N_Desk___init__ : List Str := ["self", "zz_"]
theorem sc_Desk___init__ : FnScope N_Desk___init__ ["self"] (defScope s_Desk___init__) := ⟨rfl, rfl, rfl, by decide +kernel, rfl, by decide +kernel, by decide +kernel⟩
abbrev s_Desk__refuse_names : Stmt := inClass (topS 117) 2
abbrev N_Desk__refuse_names : List Str := ["self", "kinds", "words", "kind", "word"]
theorem sc_Desk__refuse_names : FnScope N_Desk__refuse_names ["self", "kinds", "words"] (defScope s_Desk__refuse_names) := ⟨rfl, rfl, rfl, by decide +kernel, rfl, by decide +kernel, by decide +kernel⟩
abbrev s_Desk__handed : Stmt := inClass (topS 117) 3
abbrev N_Desk__handed : List Str := ["self", "kinds", "words", "handed", "at"]
theorem sc_Desk__handed : FnScope N_Desk__handed ["self", "kinds", "words"] (defScope s_Desk__handed) := ⟨rfl, rfl, rfl, by decide +kernel, rfl, by decide +kernel, by decide +kernel⟩
abbrev s_Desk_tell : Stmt := inClass (topS 117) 1
abbrev N_Desk_tell : List Str := ["self", "line", "words", "kinds", "handed", "maker", "teller", "zz_"]
theorem sc_Desk_tell : FnScope N_Desk_tell ["self", "line"] (defScope s_Desk_tell) := ⟨rfl, rfl, rfl, by decide +kernel, rfl, by decide +kernel, by decide +kernel⟩
abbrev s__law_words : Stmt := topS 129
abbrev N__law_words : List Str := ["_law_draws_here", "_law_many", "_law_letters", "_law_size", "_law_lead", "_law_base", "_law_place", "_law_found", "_law_k", "_law_other", "_law_word", "_law_number"]
theorem sc__law_words : FnScope N__law_words ["_law_draws_here", "_law_many"] (defScope s__law_words) := ⟨rfl, rfl, rfl, by decide +kernel, rfl, by decide +kernel, by decide +kernel⟩
abbrev s__law_spread : Stmt := topS 126
abbrev N__law_spread : List Str := ["_law_net_here", "_law_number", "_law_count", "_law_weights", "_law_found", "_law_k", "_law_a", "_law_b", "_law_pair"]
theorem sc__law_spread : FnScope N__law_spread ["_law_net_here", "_law_number"] (defScope s__law_spread) := ⟨rfl, rfl, rfl, by decide +kernel, rfl, by decide +kernel, by decide +kernel⟩
abbrev s__law_without : Stmt := topS 130
abbrev N__law_without : List Str := ["_law_net_here", "_law_fall", "_law_kept", "_law_pair"]
theorem sc__law_without : FnScope N__law_without ["_law_net_here", "_law_fall"] (defScope s__law_without) := ⟨rfl, rfl, rfl, by decide +kernel, rfl, by decide +kernel, by decide +kernel⟩
abbrev s__law_deed : Stmt := topS 131
abbrev N__law_deed : List Str := ["_law_state", "_law_names", "_law_draws_here", "_law_kind", "_law_name", "_law_net_here", "_law_count", "_law_weights", "_law_a", "_law_b", "_law_number", "_law_weight", "_law_laid", "_law_one", "_law_fall", "_law_pairs", "_law_line", "_law_house"]
theorem sc__law_deed : FnScope N__law_deed ["_law_state", "_law_names", "_law_draws_here"] (defScope s__law_deed) := ⟨rfl, rfl, rfl, by decide +kernel, rfl, by decide +kernel, by decide +kernel⟩
abbrev s__law_done : Stmt := topS 132
abbrev N__law_done : List Str := ["_law_state", "_law_deed_here", "zz_"]
theorem sc__law_done : FnScope N__law_done ["_law_state", "_law_deed_here"] (defScope s__law_done) := ⟨rfl, rfl, rfl, by decide +kernel, rfl, by decide +kernel, by decide +kernel⟩
abbrev s__law_told_well : Stmt := topS 133
abbrev N__law_told_well : List Str := ["_law_desk", "_law_name", "_law_net_here", "_law_a", "_law_t", "_law_far_here", "_law_nexts", "_law_table", "_law_way", "_law_due", "_law_house"]
theorem sc__law_told_well : FnScope N__law_told_well ["_law_desk", "_law_name", "_law_net_here", "_law_a", "_law_t"] (defScope s__law_told_well) := ⟨rfl, rfl, rfl, by decide +kernel, rfl, by decide +kernel, by decide +kernel⟩
abbrev s_law : Stmt := topS 134
abbrev N_law : List Str := ["_law_script", "_law_names", "_law_desk", "_law_state", "_law_cell", "_law_draws_here", "_law_deed_here", "_law_name", "_law_many", "zz_"]
theorem sc_law : FnScope N_law ["_law_script"] (defScope s_law) := ⟨rfl, rfl, rfl, by decide +kernel, rfl, by decide +kernel, by decide +kernel⟩
structure Tx (K : PySem.W.Frag) (mg : Str → Option Value) (C fI : Addr) (CD fD : Addr) : Prop where
  d__law_cell_at : Dfn K mg "_law_cell_at" s__law_cell_at
  d__law_mixed : Dfn K mg "_law_mixed" s__law_mixed
  d_is_house : Dfn K mg "is_house" s_is_house
  d_refuse_houses : Dfn K mg "refuse_houses" s_refuse_houses
  d_pair_of : Dfn K mg "pair_of" s_pair_of
  d__refuse_count : Dfn K mg "_refuse_count" s__refuse_count
  d__refuse_pairs : Dfn K mg "_refuse_pairs" s__refuse_pairs
  d__refuse_weights : Dfn K mg "_refuse_weights" s__refuse_weights
  d__refuse_ties : Dfn K mg "_refuse_ties" s__refuse_ties
  d__lesser_first : Dfn K mg "_lesser_first" s__lesser_first
  d__weights_of : Dfn K mg "_weights_of" s__weights_of
  d_Net___init__ : ∃ fd, Fun K "__init__" "Net.__init__" s_Net___init__ fI fd
  d_Net_neighbours : ∃ f fd, Fun K "neighbours" "Net.neighbours" s_Net_neighbours f fd ∧ Meth K C "neighbours" f
  d_Net_weight : ∃ f fd, Fun K "weight" "Net.weight" s_Net_weight f fd ∧ Meth K C "weight" f
  d__is_nearer_by : Dfn K mg "_is_nearer_by" s__is_nearer_by
  d_distances_to : Dfn K mg "distances_to" s_distances_to
  d_steps_on : Dfn K mg "steps_on" s_steps_on
  d_step_on : Dfn K mg "step_on" s_step_on
  d_least_way : Dfn K mg "least_way" s_least_way
  d_refuse_table : Dfn K mg "refuse_table" s_refuse_table
  d_next_table : Dfn K mg "next_table" s_next_table
  d_weighed : Dfn K mg "weighed" s_weighed
  d_refuse_weight : Dfn K mg "refuse_weight" s_refuse_weight
  d_refuse_untied : Dfn K mg "refuse_untied" s_refuse_untied
  d_refuse_fall : Dfn K mg "refuse_fall" s_refuse_fall
  d_falls_with : Dfn K mg "falls_with" s_falls_with
  d_Net_without : ∃ f fd, Fun K "without" "Net.without" s_Net_without f fd ∧ Meth K C "without" f
  d_net_text : Dfn K mg "net_text" s_net_text
  d_table_text : Dfn K mg "table_text" s_table_text
  d_number_of : Dfn K mg "number_of" s_number_of
  d__tie_of : Dfn K mg "_tie_of" s__tie_of
  d_read_net : Dfn K mg "read_net" s_read_net
  d__law_draws : Dfn K mg "_law_draws" s__law_draws
  d__law_wide : Dfn K mg "_law_wide" s__law_wide
  d__law_net : Dfn K mg "_law_net" s__law_net
  d__law_tie_word : Dfn K mg "_law_tie_word" s__law_tie_word
  d__law_text : Dfn K mg "_law_text" s__law_text
  d__law_far : Dfn K mg "_law_far" s__law_far
  d__law_next : Dfn K mg "_law_next" s__law_next
  d__is_name : Dfn K mg "_is_name" s__is_name
  d__words_of : Dfn K mg "_words_of" s__words_of
  d__number_at : Dfn K mg "_number_at" s__number_at
  d__fall_of : Dfn K mg "_fall_of" s__fall_of
  d__joined : Dfn K mg "_joined" s__joined
  d__net : Dfn K mg "_net" s__net
  d__weigh : Dfn K mg "_weigh" s__weigh
  d__show : Dfn K mg "_show" s__show
  d__table : Dfn K mg "_table" s__table
  d__way : Dfn K mg "_way" s__way
  d__fall : DfnD K mg "_fall" s__fall [.non]
  d_Desk___init__ : ∃ fd, Fun K "__init__" "Desk.__init__" s_Desk___init__ fD fd
  d_Desk__refuse_names : ∃ f fd, Fun K "_refuse_names" "Desk._refuse_names" s_Desk__refuse_names f fd ∧ Meth K CD "_refuse_names" f
  d_Desk__handed : ∃ f fd, Fun K "_handed" "Desk._handed" s_Desk__handed f fd ∧ Meth K CD "_handed" f
  d_Desk_tell : ∃ f fd, Fun K "tell" "Desk.tell" s_Desk_tell f fd ∧ Meth K CD "tell" f
  d__law_words : Dfn K mg "_law_words" s__law_words
  d__law_spread : Dfn K mg "_law_spread" s__law_spread
  d__law_without : Dfn K mg "_law_without" s__law_without
  d__law_deed : Dfn K mg "_law_deed" s__law_deed
  d__law_done : Dfn K mg "_law_done" s__law_done
  d__law_told_well : Dfn K mg "_law_told_well" s__law_told_well
  d_law : Dfn K mg "law" s_law
  z_len : mg "len" = none
  z_min : mg "min" = none
  z_max : mg "max" = none
  z_set : mg "set" = none
  z_enumerate : mg "enumerate" = none
  z_tuple : mg "tuple" = none
  z_sorted : mg "sorted" = none
  z_range : mg "range" = none
  z_str : mg "str" = none
  z_all : mg "all" = none
  z_int : mg "int" = none
  z_zip : mg "zip" = none
  z_list : mg "list" = none
  z_dict : mg "dict" = none
  c_least : ∃ t, mg "LEAST_COUNT" = some (.int 2 t)
  c_greatest : ∃ t, mg "GREATEST_COUNT" = some (.int 12 t)
  c_leastw : ∃ t, mg "LEAST_WEIGHT" = some (.int 1 t)
  c_fig : ∃ t, mg "FIGURES" = some (.str "0123456789" t)
  c_mostl : ∃ t, mg "MOST_LETTERS" = some (.int 8 t)
  c_letters : ∃ t, mg "LETTERS" = some (.str "abcdefghijklmnopqrstuvwxyz" t)
  c_shorter : ∃ a, mg "SHORTER" = some (.ref a) ∧ KTup K a ["fall", "lost"]
  cN : Cls K C
  mkN : Mk K C fI
  mgN : mg "Net" = some (.ref C)
  n_count : NoAttr K C "count"
  n_ties : NoAttr K C "ties"
  n__weights : NoAttr K C "_weights"
  cD : Cls K CD
  mkD : Mk K CD fD
  mgD : mg "Desk" = some (.ref CD)
  n__nets : NoAttr K CD "_nets"
structure Dkx (w : World) (K : PySem.W.Frag) (mg : Str → Option Value) : Prop where
  KINDS : ∃ d k0 k1 k2 k3 k4 k5 k6 k7 k8 k9 k10 k11 k12 : Addr, mg "KINDS" = some (.ref d) ∧ KDct w K d [("net", .ref k0), ("weigh", .ref k1), ("fall", .ref k2), ("drop", .ref k3), ("show", .ref k4), ("table", .ref k5), ("way", .ref k6), ("spare", .ref k7), ("lost", .ref k8), ("hand", .ref k9), ("trees", .ref k10), ("order", .ref k11), ("all", .ref k12)] ∧ KTup K k0 ["new", "word"] ∧ KTup K k1 ["name", "number", "number", "number"] ∧ KTup K k2 ["new", "name", "number", "number"] ∧ KTup K k3 ["name"] ∧ KTup K k4 ["name"] ∧ KTup K k5 ["name", "number"] ∧ KTup K k6 ["name", "number", "number"] ∧ KTup K k7 ["name", "number", "number", "word"] ∧ KTup K k8 ["name", "number", "number", "number"] ∧ KTup K k9 ["name", "number", "number"] ∧ KTup K k10 ["name", "number", "word"] ∧ KTup K k11 ["name", "name", "number"] ∧ KTup K k12 []
  MAKERS : ∃ d k0 k1 k2 : Addr, mg "MAKERS" = some (.ref d) ∧ KDct w K d [("net", .ref k0), ("weigh", .ref k1), ("fall", .ref k2)] ∧ mg "_net" = some (.ref k0) ∧ mg "_weigh" = some (.ref k1) ∧ mg "_fall" = some (.ref k2)
  TELLERS : ∃ d k0 k1 k2 k3 k4 k5 k6 k7 : Addr, mg "TELLERS" = some (.ref d) ∧ KDct w K d [("show", .ref k0), ("table", .ref k1), ("way", .ref k2), ("spare", .ref k3), ("lost", .ref k4), ("hand", .ref k5), ("trees", .ref k6), ("order", .ref k7)] ∧ mg "_show" = some (.ref k0) ∧ mg "_table" = some (.ref k1) ∧ mg "_way" = some (.ref k2) ∧ mg "_spare" = some (.ref k3) ∧ mg "_lost" = some (.ref k4) ∧ mg "_hand" = some (.ref k5) ∧ mg "_trees" = some (.ref k6) ∧ mg "_order" = some (.ref k7)
section
variable {P : Program} {w : World} {K : PySem.W.Frag} {mg : Str → Option Value} {base : Heap} {C fI : Addr} {CD fD : Addr}
theorem cmul_mod {a b m : Int} (h0 : 0 < m) (h : m ≤ 9223372036854775808) : CMul (a % m) b := by
  have h1 := Int.emod_nonneg a (Int.ne_of_gt h0)
  have h2 := Int.emod_lt_of_pos a h0
  exact Or.inl ⟨by omega, by omega⟩
local macro_rules | `(tactic| walk_at "side") => `(tactic| first | exact cmul_mod (by decide) (by decide) | exact Or.inr ⟨by decide, by decide⟩ | exact Or.inl ⟨by decide, by decide⟩ | exact Or.inl ⟨by omega, by omega⟩ | exact ⟨by decide, by decide⟩ | exact ⟨by decide, by decide, by decide⟩ | (show (0 : Int) < _; decide) | omega)
abbrev sp_cell_at (K : PySem.W.Frag) : Sp := spSh K (fun x : List Int × Nat => x.1.length ≤ 63) (fun x => [(true, .lst (x.1.map .int)), (true, .int x.2)]) (fun x => .int (x.1.getD x.2 0))
theorem cal_cell_at (T : Tx K mg C fI CD fD) : Cal P w K mg base 1 "_law_cell_at" (sp_cell_at K) := by
  refine T.d__law_cell_at.sh sc__law_cell_at (fun _ => rfl) (by decide) (fun _ _ _ _ _ _ us hl => match us, hl with | [_, _], _ => rfl) (fun f cdv A outer s H E hr x hx => ?_)
  refine ⟨_, (pss_cons (ps_if (pt_cmpR op_lt (pv 1) (pe_callB call_len_seq (by rfl) T.z_len PySem.boot_len (pa_cons (pv 0) pa_nil)) (nomark _)) (pss_one (ps_ret (pe_ix ix_list (pv 0) (pv 1) (fun _ _ => rfl)))) pss_nil) (pss_one (ps_ret pe_int))), ?_⟩
  obtain ⟨ns, k⟩ := x
  show SD K _ [.sh (.lst (ns.map .int)), .sh (.int k)] _
  refine sd_seq (sd_if (et_test (ed_b0 (ed_var rfl) (ed_len (ed_er (ed_var rfl))))) (fun h => ?_) (fun h => sd_next ?_))
  · have hk : k < ns.length := by
      have := of_decide_eq_true h
      rw [List.length_map] at this
      omega
    refine sd_ret (d := .int (ns.getD k 0)) (ed_ixL (l := k) (ed_var rfl) (ed_var rfl) rfl ?_) fun _ _ _ _ z => z
    rw [List.getElem?_map, List.getElem?_eq_getElem hk, List.getD_eq_getElem?_getD, List.getElem?_eq_getElem hk]
    rfl
  · have hk : ¬ k < ns.length := by
      have := of_decide_eq_false h
      rw [List.length_map] at this
      omega
    refine sd_ret (d := .int 0) ed_int fun _ _ _ _ z => ?_
    show RSh K (.int (ns.getD k 0)) _ _ _ _
    rw [List.getD_eq_getElem?_getD, List.getElem?_eq_none (by omega)]
    exact z
def mixed (c p : Int) : Int := (((c % 2147483629 * 16807 + 69621 * p + 11) % 2147483629 * ((c % 2147483629 * 16807 + 69621 * p + 11) % 2147483629) + 48271 * p + 7) % 2147483629 * (((c % 2147483629 * 16807 + 69621 * p + 11) % 2147483629 * ((c % 2147483629 * 16807 + 69621 * p + 11) % 2147483629) + 48271 * p + 7) % 2147483629) + 69621) % 2147483587
abbrev sp_mixed (K : PySem.W.Frag) : Sp := spSh K (fun x : Int × Nat => x.2 ≤ 100000) (fun x => [(true, .int x.1), (true, .int x.2)]) (fun x => .int (mixed x.1 x.2))
theorem cal_mixed (T : Tx K mg C fI CD fD) : Cal P w K mg base 1 "_law_mixed" (sp_mixed K) := by
  refine T.d__law_mixed.sh sc__law_mixed (fun _ => rfl) (by decide) (fun _ _ _ _ _ _ us hl => match us, hl with | [_, _], _ => rfl) (fun f cdv A outer s H E hr x hx => ?_)
  refine ⟨_, (pss_cons (ps_set (i := 2) sc__law_mixed.nd rfl (Or.inl rfl) (pe_op op_mod (pe_op op_add (pe_op op_add (pe_op op_mul (pe_op op_mod (pv 0) pe_int) pe_int) (pe_op op_mul pe_int (pv 1))) pe_int) pe_int)) (pss_cons (ps_set (i := 2) sc__law_mixed.nd rfl (Or.inl rfl) (pe_op op_mod (pe_op op_add (pe_op op_add (pe_op op_mul (pv 2) (pv 2)) (pe_op op_mul pe_int (pv 1))) pe_int) pe_int)) (pss_one (ps_ret (pe_op op_mod (pe_op op_add (pe_op op_mul (pv 2) (pv 2)) pe_int) pe_int))))), ?_⟩
  obtain ⟨c, p⟩ := x
  have hp : p ≤ 100000 := hx
  show SD K _ [.sh (.int c), .sh (.int p), .no] _
  refine sd_seq (sd_asg (ed_iC (ed_i0 (ed_i0 (ed_iC (ed_iC (ed_var rfl) ed_int (by walk_at "side")) ed_int (by walk_at "side")) (ed_iC ed_int (ed_var rfl) (by walk_at "side"))) ed_int) ed_int (by walk_at "side")) ?_)
  refine sd_seq (sd_asg (ed_iC (ed_i0 (ed_i0 (ed_iC (ed_var rfl) (ed_var rfl) (by walk_at "side")) (ed_iC ed_int (ed_var rfl) (by walk_at "side"))) ed_int) ed_int (by walk_at "side")) ?_)
  exact sd_ret (ed_iC (ed_i0 (ed_iC (ed_var rfl) (ed_var rfl) (by walk_at "side")) ed_int) ed_int (by walk_at "side")) fun _ _ _ _ z => z
abbrev Tie := Int × Int × Int × Int
def tieD (t : Tie) : D := .tup [.int t.1, .int t.2.1, .int t.2.2.1, .int t.2.2.2]
def rowP (n u : Nat) : List (Nat × Nat) := (List.range (n - (u + 1))).map fun j => (u, u + 1 + j)
def pairsTo (n u : Nat) : List (Nat × Nat) := (List.range u).flatMap (rowP n)
theorem pairsTo_succ (n u : Nat) : pairsTo n (u + 1) = pairsTo n u ++ rowP n u := by
  unfold pairsTo
  rw [List.range_succ, List.flatMap_append, List.flatMap_singleton]
theorem pairs_few : ∀ n : Fin 13, ∀ u : Fin 13, (pairsTo n.1 u.1).length + (n.1 - (u.1 + 1)) ≤ 66 := by decide +kernel
theorem pairs_few' {n u : Nat} (hn : n ≤ 12) (hu : u ≤ 12) : (pairsTo n u).length + (n - (u + 1)) ≤ 66 := pairs_few ⟨n, by omega⟩ ⟨u, by omega⟩
theorem hu64_of {A : Around} {k : Nat} (hr : Room k A) : A.units + 64 < cLine := by
  have := hr.un
  omega
theorem dec_no {p : Prop} [Decidable p] (h : ¬ p) (e : decide p = true) : False := h (of_decide_eq_true e)
def isH (c n : Int) : Bool := decide (0 ≤ n) && decide (n < c)
theorem isH_iff {c n : Int} : isH c n = true ↔ 0 ≤ n ∧ n < c := by
  unfold isH
  rw [Bool.and_eq_true, decide_eq_true_eq, decide_eq_true_eq]
abbrev sp_is_house (K : PySem.W.Frag) : Sp := spSh K (fun _ : Int × Int => True) (fun x => [(true, .int x.1), (true, .int x.2)]) (fun x => .bl (isH x.1 x.2))
theorem cal_is_house (T : Tx K mg C fI CD fD) : Cal P w K mg base 1 "is_house" (sp_is_house K) := by
  refine T.d_is_house.sh sc_is_house (fun _ => rfl) (by decide) (fun _ _ _ _ _ _ us hl => match us, hl with | [_, _], _ => rfl) (fun f cdv A outer s H E hr x hx => ?_)
  refine ⟨_, (pss_one (ps_ret (pe_chain op_le op_lt pe_int (pv 1) (pv 0)))), ?_⟩
  obtain ⟨c, n⟩ := x
  show SD K _ [.sh (.int c), .sh (.int n)] _
  exact sd_ret (ed_chain ed_int (ed_var rfl) (ed_var rfl)) fun _ _ _ _ z => z
abbrev sp_refuse_houses (K : PySem.W.Frag) : Sp := spSh K (fun x : Int × List Int => ∀ n, n ∈ x.2 → 0 ≤ n ∧ n < x.1) (fun x => [(true, .int x.1), (false, .lst (x.2.map .int))]) (fun _ => .non)
theorem cal_refuse_houses (T : Tx K mg C fI CD fD) : Cal P w K mg base 2 "refuse_houses" (sp_refuse_houses K) := by
  refine T.d_refuse_houses.sh sc_refuse_houses (fun _ => rfl) (by decide) (fun _ _ _ _ _ _ us hl => match us, hl with | [_, _], _ => rfl) (fun f cdv A outer s H E hr x hx => ?_)
  refine ⟨_, (pss_one (ps_for PassesOwn.never rfl (pi_list (pv 1)) (pg_name (i := 2) sc_refuse_houses.nd rfl (Or.inl rfl)) (pss_one (ps_if (pt_not (pt_val (pe_cal (cal_is_house T) hr (by first | decide | exact Nat.le_refl _) (by rfl) (pa_cons (pv 0) (pa_cons (pv 2) pa_nil))))) pss_never pss_nil)))), ?_⟩
  obtain ⟨c, ns⟩ := x
  show SD K _ [.sh (.int c), .rd (.lst (ns.map .int)), .no] _
  refine sd_forI (xs := ns) (emb := fun n => .rd (.int n)) (ei_mm (ei_lR rfl)) (fun l r => ∃ z, r = [.sh (.int c), .rd (.lst (ns.map .int)), z]) ⟨_, rfl⟩ ?_ fun _ _ => rfl
  rintro l n r hn ⟨z, rfl⟩
  have hh := isH_iff.mpr (hx n (List.mem_of_getElem? hn))
  refine ⟨[2], bg_name (by simp) (sd_if (et_not (et_B (ed_call (c, n) True.intro (ea_sh (ed_var rfl) (ea_sh (er_int (er_rd rfl)) ea_nil))))) (fun h => ?_) fun _ => sd_next ⟨_, rfl⟩)⟩
  rw [show isH (c, n).1 (c, n).2 = true from hh] at h
  exact absurd h (by decide)
def pairL (a b : Int) : List Int := [if b < a then b else a, if b > a then b else a]
abbrev sp_pair (K : PySem.W.Frag) : Sp := spSh K (fun _ : Int × Int => True) (fun x => [(true, .int x.1), (true, .int x.2)]) (fun x => .tup ((pairL x.1 x.2).map .int))
theorem cal_pair (T : Tx K mg C fI CD fD) : Cal P w K mg base 1 "pair_of" (sp_pair K) := by
  refine T.d_pair_of.sh sc_pair_of (fun _ => rfl) (by decide) (fun _ _ _ _ _ _ us hl => match us, hl with | [_, _], _ => rfl) (fun f cdv A outer s H E hr x hx => ?_)
  refine ⟨_, (pss_one (ps_ret (pe_tup (pa_cons (pe_callB (call_min2 rfl) (by rfl) T.z_min (by decide +kernel) (pa_cons (pv 0) (pa_cons (pv 1) pa_nil))) (pa_cons (pe_callB (call_max2 rfl) (by rfl) T.z_max (by decide +kernel) (pa_cons (pv 0) (pa_cons (pv 1) pa_nil))) pa_nil))))), ?_⟩
  obtain ⟨a, b⟩ := x
  show SD K _ [.sh (.int a), .sh (.int b)] _
  exact sd_ret (ed_tup (eb_cons (ed_min2 (ed_var rfl) (ed_var rfl)) (eb_cons (ed_max2 (ed_var rfl) (ed_var rfl)) eb_nil))) fun _ _ _ _ z => z
abbrev sp_refuse_count (K : PySem.W.Frag) : Sp := spSh K (fun c : Int => 2 ≤ c ∧ c ≤ 12) (fun c => [(true, .int c)]) (fun _ => .non)
theorem cal_refuse_count (T : Tx K mg C fI CD fD) : Cal P w K mg base 1 "_refuse_count" (sp_refuse_count K) := by
  refine T.d__refuse_count.sh sc__refuse_count (fun _ => rfl) (by decide) (fun _ _ _ _ _ _ us hl => match us, hl with | [_], _ => rfl) (fun f cdv A outer s H E hr c hx => ?_)
  refine ⟨_, (pss_one (ps_if (PW.pt (pw_or (pt_cmpR op_lt (pv 0) (pe_gint rfl T.c_least) (nomark _)) (pw_or1 (pt_cmpR op_gt (pv 0) (pe_gint rfl T.c_greatest) (nomark _))))) pss_never pss_nil)), ?_⟩
  obtain ⟨h1, h2⟩ := hx
  show SD K _ [.sh (.int c)] _
  refine sd_if (et_or (et_test (ed_b0 (ed_var rfl) ed_int)) fun _ => et_test (ed_b0 (ed_var rfl) ed_int)) (fun h => ?_) fun _ => sd_next rfl
  rcases Bool.or_eq_true_iff.mp h with h | h
  · exact (dec_no (by omega) h).elim
  · exact (dec_no (by omega) h).elim
def pairT (t : Tie) : List Int := pairL t.1 t.2.1
abbrev sp_refuse_pairs (K : PySem.W.Frag) : Sp := spSh K (fun ts : List Tie => ts.length ≤ 70 ∧ (∀ t, t ∈ ts → t.1 ≠ t.2.1) ∧ (ts.map pairT).Nodup) (fun ts => [(false, .lst (ts.map tieD))]) (fun _ => .non)
theorem getD_map {α : Type} {xs : List α} {f : α → D} {l : Nat} {x : α} (h : xs[l]? = some x) : (xs.map f).getD l .non = f x := by
  rw [List.getD_eq_getElem?_getD, List.getElem?_map, h]
  rfl
theorem ei_eT {K : PySem.W.Frag} {ρ : List Sl} {n : Nat} {ts : List Tie} (h : ρ[n]? = some (.rd (.lst (ts.map tieD)))) : EI K (iEnum K (tCons (tVar n) tNil)) ρ (ts.zipIdx.map fun x => .pr (x.2 : Int) (.rd (tieD x.1))) := by
  have z := ei_eR (K := K) h
  have e : ((List.range (ts.map tieD).length).map fun (l : Nat) => Sl.pr (l : Int) (.rd ((ts.map tieD).getD l .non))) = ts.zipIdx.map fun x => .pr (x.2 : Int) (.rd (tieD x.1)) := by
    refine List.ext_getElem? fun i => ?_
    rw [List.getElem?_map, List.getElem?_map, List.getElem?_zipIdx, List.length_map]
    cases hi : ts[i]? with
    | none =>
      rw [List.getElem?_eq_none (by rw [List.length_range]; exact List.getElem?_eq_none_iff.mp hi)]
      rfl
    | some t =>
      rw [List.getElem?_range (List.getElem?_eq_some_iff.mp hi).1]
      show some (Sl.pr (i : Int) (.rd ((ts.map tieD).getD i .non))) = some (Sl.pr ((0 + i : Nat) : Int) (.rd (tieD t)))
      rw [getD_map hi, Nat.zero_add]
  rw [e] at z
  exact z
theorem cal_refuse_pairs (T : Tx K mg C fI CD fD) : Cal P w K mg base 2 "_refuse_pairs" (sp_refuse_pairs K) := by
  refine T.d__refuse_pairs.sh sc__refuse_pairs (fun _ => rfl) (by decide) (fun _ _ _ _ _ _ us hl => match us, hl with | [_], _ => rfl) (fun f cdv A outer s H E hr ts hx => ?_)
  have hu64 := hu64_of hr
  refine ⟨_, (pss_cons (ps_set (i := 1) sc__refuse_pairs.nd rfl (Or.inl rfl) (pe_callTy0 cr_newP (by rfl) T.z_set (by decide +kernel))) (pss_one (ps_for PassesOwn.never rfl (pi_enum (by rfl) T.z_enumerate (pa_cons (pv 0) pa_nil)) (pg_tup rfl (pgs_cons (pg_name (i := 2) sc__refuse_pairs.nd rfl (Or.inl rfl)) (pgs_cons (pg_name (i := 3) sc__refuse_pairs.nd rfl (Or.inl rfl)) pgs_nil))) (pss_cons (ps_set (i := 4) sc__refuse_pairs.nd rfl (Or.inl rfl) (pe_cal (cal_pair T) hr (by first | decide | exact Nat.le_refl _) (by rfl) (pa_cons (pe_ix ix_tup (pv 3) pe_int (fun _ _ => rfl)) (pa_cons (pe_ix ix_tup (pv 3) pe_int (fun _ _ => rfl)) pa_nil)))) (pss_cons (ps_if (PW.pt (pw_or (pt_cmpR op_eq (pe_ix ix_tup (pv 3) pe_int (fun _ _ => rfl)) (pe_ix ix_tup (pv 3) pe_int (fun _ _ => rfl)) (nomark _)) (pw_or1 (pt_cmpR (op_inP hu64) (pv 4) (pv 1) (by with_unfolding_all rfl))))) pss_never pss_nil) (pss_one (ps_expr (pe_addP hu64 (pv 1) (pa_cons (pv 4) pa_nil))))))))), ?_⟩
  obtain ⟨hl, h1, h2⟩ := hx
  show SD K _ [.rd (.lst (ts.map tieD)), .no, .no, .no, .no] _
  refine sd_seq (sd_asgO eo_setnew (by simp) ?_)
  refine sd_forI (ei_eT rfl) (fun l r => ∃ z2 z3 z4, r = [.rd (.lst (ts.map tieD)), .own (.set (SetPO P w) ((ts.take l).map pairT).reverse), z2, z3, z4]) ⟨_, _, _, rfl⟩ ?_ fun _ _ => rfl
  rintro l ⟨t, l'⟩ r hn ⟨z2, z3, z4, rfl⟩
  rw [List.getElem?_zipIdx] at hn
  obtain ⟨t', ht, e⟩ := Option.map_eq_some_iff.mp hn
  have e1 : t' = t := congrArg Prod.fst e
  subst e1
  have hmem := List.mem_of_getElem? ht
  have hlt := (List.getElem?_eq_some_iff.mp ht).1
  have hnew : pairT t' ∉ ((ts.take l).map pairT).reverse := fun z => by
    rw [List.mem_reverse] at z
    have nd : ((ts.take (l + 1)).map pairT).Nodup := by
      have := List.Nodup.sublist ((List.take_sublist (l + 1) ts).map pairT) h2
      exact this
    rw [take_snoc ht, List.map_append, List.nodup_append] at nd
    exact nd.2.2 _ z _ (by simp) rfl
  refine ⟨[2, 3], bg_pr (bgs_cons (bg_name (by simp) (bgs_cons (bg_name (by simp) (bgs_nil ?_)))))⟩
  refine sd_seq (sd_asg (ed_call (t'.1, t'.2.1) True.intro (ea_sh (er_int (er_ixT (l := 0) (er_rd rfl) ed_int rfl rfl)) (ea_sh (er_int (er_ixT (l := 1) (er_rd rfl) ed_int rfl rfl)) ea_nil))) ?_)
  refine sd_seq (sd_if (et_or (et_test (ed_eqI (er_int (er_ixT (l := 0) (er_rd rfl) ed_int rfl rfl)) (er_int (er_ixT (l := 1) (er_rd rfl) ed_int rfl rfl)))) fun _ => et_test (ed_inSet rfl (ed_var rfl))) (fun h => ?_) fun _ => sd_next ?_)
  · rcases Bool.or_eq_true_iff.mp h with h | h
    · exact (dec_no (h1 _ hmem) h).elim
    · exact (dec_no hnew h).elim
  · refine sd_addSet rfl (ed_var rfl) hnew (by rw [List.length_reverse, List.length_map, List.length_take]; omega) ⟨_, _, _, by rw [take_snoc ht, List.map_append, List.reverse_append]; rfl⟩
abbrev sp_refuse_weights (K : PySem.W.Frag) : Sp := spSh K (fun ts : List Tie => ∀ t, t ∈ ts → 1 ≤ t.2.2.1 ∧ 1 ≤ t.2.2.2) (fun ts => [(false, .lst (ts.map tieD))]) (fun _ => .non)
theorem cal_refuse_weights (T : Tx K mg C fI CD fD) : Cal P w K mg base 1 "_refuse_weights" (sp_refuse_weights K) := by
  refine T.d__refuse_weights.sh sc__refuse_weights (fun _ => rfl) (by decide) (fun _ _ _ _ _ _ us hl => match us, hl with | [_], _ => rfl) (fun f cdv A outer s H E hr ts hx => ?_)
  refine ⟨_, (pss_one (ps_for PassesOwn.never rfl (pi_enum (by rfl) T.z_enumerate (pa_cons (pv 0) pa_nil)) (pg_tup rfl (pgs_cons (pg_name (i := 1) sc__refuse_weights.nd rfl (Or.inl rfl)) (pgs_cons (pg_name (i := 2) sc__refuse_weights.nd rfl (Or.inl rfl)) pgs_nil))) (pss_one (ps_if (PW.pt (pw_or (pt_cmpR op_lt (pe_ix ix_tup (pv 2) pe_int (fun _ _ => rfl)) (pe_gint rfl T.c_leastw) (nomark _)) (pw_or1 (pt_cmpR op_lt (pe_ix ix_tup (pv 2) pe_int (fun _ _ => rfl)) (pe_gint rfl T.c_leastw) (nomark _))))) pss_never pss_nil)))), ?_⟩
  show SD K _ [.rd (.lst (ts.map tieD)), .no, .no] _
  refine sd_forI (ei_eT rfl) (fun l r => ∃ z1 z2, r = [.rd (.lst (ts.map tieD)), z1, z2]) ⟨_, _, rfl⟩ ?_ fun _ _ => rfl
  rintro l ⟨t, l'⟩ r hn ⟨z1, z2, rfl⟩
  rw [List.getElem?_zipIdx] at hn
  obtain ⟨t', ht, e⟩ := Option.map_eq_some_iff.mp hn
  have e1 : t' = t := congrArg Prod.fst e
  subst e1
  obtain ⟨h1, h2⟩ := hx _ (List.mem_of_getElem? ht)
  refine ⟨[1, 2], bg_pr (bgs_cons (bg_name (by simp) (bgs_cons (bg_name (by simp) (bgs_nil ?_)))))⟩
  refine sd_if (et_or (et_test (ed_b0 (er_int (er_ixT (l := 2) (er_rd rfl) ed_int rfl rfl)) ed_int)) fun _ => et_test (ed_b0 (er_int (er_ixT (l := 3) (er_rd rfl) ed_int rfl rfl)) ed_int)) (fun h => ?_) fun _ => sd_next ⟨_, _, rfl⟩
  rcases Bool.or_eq_true_iff.mp h with h | h
  · exact (dec_no (Int.not_lt.mpr h1) h).elim
  · exact (dec_no (Int.not_lt.mpr h2) h).elim
structure TiesOk (n : Int) (ts : List Tie) : Prop where
  few : ts.length ≤ 70
  hs : ∀ t, t ∈ ts → (0 ≤ t.1 ∧ t.1 < n) ∧ (0 ≤ t.2.1 ∧ t.2.1 < n)
  un : ∀ t, t ∈ ts → t.1 ≠ t.2.1
  nd : (ts.map pairT).Nodup
  ws : ∀ t, t ∈ ts → 1 ≤ t.2.2.1 ∧ 1 ≤ t.2.2.2
abbrev sp_refuse_ties (K : PySem.W.Frag) : Sp := spSh K (fun x : Int × List Tie => TiesOk x.1 x.2) (fun x => [(true, .int x.1), (false, .lst (x.2.map tieD))]) (fun _ => .non)
theorem cal_refuse_ties (T : Tx K mg C fI CD fD) : Cal P w K mg base 3 "_refuse_ties" (sp_refuse_ties K) := by
  refine T.d__refuse_ties.sh sc__refuse_ties (fun _ => rfl) (by decide) (fun _ _ _ _ _ _ us hl => match us, hl with | [_, _], _ => rfl) (fun f cdv A outer s H E hr x hx => ?_)
  refine ⟨_, (pss_cons (ps_expr (pe_cal (cal_refuse_houses T) hr (by first | decide | exact Nat.le_refl _) (by rfl) (pa_cons (pv 0) (pa_cons (pe_lc2 (own := [("tie", 2), ("house", 3)]) (vs1 := [3]) rfl sc__refuse_ties.nd (pi_list (pv 1)) (blkOk_by (N := N__refuse_ties) (sc := defScope s__refuse_ties) (by decide +kernel)) (by decide)  (fun _ _ _ _ _ => (pg_name (i := 2) sc__refuse_ties.nd rfl (Or.inl rfl))) (fun _ _ _ _ _ => pts_nil) (fun _ _ _ _ _ => (pi_tupK K rfl (pe_tup (pa_cons (pe_ix (ix_tupK K rfl) (pv 2) pe_int (fun _ _ => rfl)) (pa_cons (pe_ix (ix_tupK K rfl) (pv 2) pe_int (fun _ _ => rfl)) pa_nil))))) (fun _ _ _ _ _ => (pg_name (i := 3) sc__refuse_ties.nd rfl (Or.inl rfl))) (fun _ _ _ _ _ => pts_nil) (fun _ _ _ _ _ => (pv 3))) pa_nil)))) (pss_cons (ps_expr (pe_cal (cal_refuse_pairs T) hr (by first | decide | exact Nat.le_refl _) (by rfl) (pa_cons (pv 1) pa_nil))) (pss_one (ps_expr (pe_cal (cal_refuse_weights T) hr (by first | decide | exact Nat.le_refl _) (by rfl) (pa_cons (pv 1) pa_nil)))))), ?_⟩
  obtain ⟨n, ts⟩ := x
  have hx : TiesOk n ts := hx
  show SD K _ [.sh (.int n), .rd (.lst (ts.map tieD)), .no, .no] _
  have hres : (ts.flatMap fun t => if (fun _ : Tie => true) t = true then (([t.1, t.2.1] : List Int).filter ((fun (_ : Tie) (_ : Int) => true) t)).map ((fun (_ : Tie) (y : Int) => D.int y) t) else []) = (ts.flatMap fun t => [t.1, t.2.1]).map D.int := by
    rw [List.map_flatMap]
    rfl
  have few := hx.few
  refine sd_seq (sd_drop (d := .non) (ed_er (ed_call (n, ts.flatMap fun t => [t.1, t.2.1]) (fun m hm => ?_) (ea_sh (ed_var rfl) (ea_rd (ed_er (ed_eo (eo_is (eo_lc2 (xs := ts) (emb := fun t => .rd (tieD t)) (f := fun _ => true) (ys := fun t => [t.1, t.2.1]) (emb1 := fun _ y => .sh (.int y)) (f1 := fun _ _ => true) (v := fun _ y => .int y)
    (ei_c (ei_mm (ei_lR rfl))) (by omega) (fun _ _ => by show 2 ≤ 100; decide) fun i t ht => bg_name (by simp) ⟨et_yes, fun _ => ⟨ei_t (ed_tup (eb_cons (er_int (er_ixT (l := 0) (er_rd rfl) ed_int rfl rfl)) (eb_cons (er_int (er_ixT (l := 1) (er_rd rfl) ed_int rfl rfl)) eb_nil))),
      fun j y hy => bg_name (by simp) ⟨et_yes, fun _ => ed_var rfl⟩⟩⟩) (congrArg M.lst hres)))) ea_nil)))) ?_)
  · obtain ⟨t, ht, hm⟩ := List.mem_flatMap.mp hm
    have hh := hx.hs t ht
    rcases List.mem_cons.mp hm with e | hm
    · rw [e]; exact hh.1
    · rw [List.mem_singleton.mp hm]; exact hh.2
  · refine sd_seq (sd_drop (d := .non) (ed_er (ed_call ts ⟨few, hx.un, hx.nd⟩ (ea_rd (er_rd rfl) ea_nil))) ?_)
    exact sd_drop (d := .non) (ed_er (ed_call ts hx.ws (ea_rd (er_rd rfl) ea_nil))) rfl
def lf (t : Tie) : Tie := if t.1 < t.2.1 then t else (t.2.1, t.1, t.2.2.2, t.2.2.1)
abbrev sp_lesser_first (K : PySem.W.Frag) : Sp := spSh K (fun _ : Tie => True) (fun t => [(false, tieD t)]) (fun t => tieD (lf t))
theorem cal_lesser_first (T : Tx K mg C fI CD fD) : Cal P w K mg base 1 "_lesser_first" (sp_lesser_first K) := by
  refine T.d__lesser_first.sh sc__lesser_first (fun _ => rfl) (by decide) (fun _ _ _ _ _ _ us hl => match us, hl with | [_], _ => rfl) (fun f cdv A outer s H E hr t hx => ?_)
  refine ⟨_, (pss_cons (ps_asg (pv 0) (pg_tup rfl (pgs_cons (pg_name (i := 1) sc__lesser_first.nd rfl (Or.inl rfl)) (pgs_cons (pg_name (i := 2) sc__lesser_first.nd rfl (Or.inl rfl)) (pgs_cons (pg_name (i := 3) sc__lesser_first.nd rfl (Or.inl rfl)) (pgs_cons (pg_name (i := 4) sc__lesser_first.nd rfl (Or.inl rfl)) pgs_nil)))))) (pss_cons (ps_if (pt_cmpR op_lt (pv 1) (pv 2) (nomark _)) (pss_one (ps_ret (pe_tup (pa_cons (pv 1) (pa_cons (pv 2) (pa_cons (pv 3) (pa_cons (pv 4) pa_nil))))))) pss_nil) (pss_one (ps_ret (pe_tup (pa_cons (pv 2) (pa_cons (pv 1) (pa_cons (pv 4) (pa_cons (pv 3) pa_nil))))))))), ?_⟩
  obtain ⟨a, b, w1, w2⟩ := t
  show SD K _ [.rd (.tup [.int a, .int b, .int w1, .int w2]), .no, .no, .no, .no] { nx := fun _ => tieD (lf (a, b, w1, w2)) = D.non, rt := RSh K (tieD (lf (a, b, w1, w2))) }
  refine sd_seq (sd_asgRd rfl (vs := [1, 2, 3, 4]) (bg_tupR rfl (bgs_cons (bg_name (by simp) (bgs_cons (bg_name (by simp) (bgs_cons (bg_name (by simp) (bgs_cons (bg_name (by simp) (bgs_nil ?_)))))))))))
  refine sd_seq (sd_if (et_test (ed_b0 (er_int (er_rd rfl)) (er_int (er_rd rfl)))) (fun h => ?_) fun h => sd_next ?_)
  · have e : lf (a, b, w1, w2) = (a, b, w1, w2) := if_pos (of_decide_eq_true h)
    rw [e]
    exact sd_ret (ed_tup (eb_cons (er_int (er_rd rfl)) (eb_cons (er_int (er_rd rfl)) (eb_cons (er_int (er_rd rfl)) (eb_cons (er_int (er_rd rfl)) eb_nil))))) fun _ _ _ _ z => z
  · have e : lf (a, b, w1, w2) = (b, a, w2, w1) := if_neg (of_decide_eq_false h)
    rw [e]
    exact sd_ret (ed_tup (eb_cons (er_int (er_rd rfl)) (eb_cons (er_int (er_rd rfl)) (eb_cons (er_int (er_rd rfl)) (eb_cons (er_int (er_rd rfl)) eb_nil))))) fun _ _ _ _ z => z
def wKeys (ts : List Tie) : List (List Key) := ts.flatMap fun t => [intK [t.1, t.2.1], intK [t.2.1, t.1]]
def wVals (ts : List Tie) : List D := ts.flatMap fun t => [.int t.2.2.1, .int t.2.2.2]
theorem wKeys_len : ∀ ts : List Tie, (wKeys ts).length = 2 * ts.length
  | [] => rfl
  | t :: ts => by
    show (_ :: _ :: wKeys ts).length = _
    rw [List.length_cons, List.length_cons, wKeys_len ts, List.length_cons]
    omega
abbrev sp_weights_of (K : PySem.W.Frag) : Sp := spSh K (fun ts : List Tie => ts.length ≤ 70 ∧ (wKeys ts).Nodup) (fun ts => [(true, .tup (ts.map tieD))]) (fun ts => .dct (wKeys ts) (wVals ts))
theorem cal_weights_of (T : Tx K mg C fI CD fD) : Cal P w K mg base 1 "_weights_of" (sp_weights_of K) := by
  refine T.d__weights_of.sh sc__weights_of (fun _ => rfl) (by decide) (fun _ _ _ _ _ _ us hl => match us, hl with | [_], _ => rfl) (fun f cdv A outer s H E hr ts hx => ?_)
  have hu := hu_of hr
  refine ⟨_, (pss_cons (ps_set (i := 1) sc__weights_of.nd rfl (Or.inl rfl) pe_dnewT) (pss_cons (ps_for PassesOwn.never rfl (pi_tup (pv 0)) (pg_tup rfl (pgs_cons (pg_name (i := 2) sc__weights_of.nd rfl (Or.inl rfl)) (pgs_cons (pg_name (i := 3) sc__weights_of.nd rfl (Or.inl rfl)) (pgs_cons (pg_name (i := 4) sc__weights_of.nd rfl (Or.inl rfl)) (pgs_cons (pg_name (i := 5) sc__weights_of.nd rfl (Or.inl rfl)) pgs_nil))))) (pss_cons (ps_dput hu (pv 1) (pe_tup (pa_cons (pv 2) (pa_cons (pv 3) pa_nil))) (pv 4) rfl) (pss_one (ps_dput hu (pv 1) (pe_tup (pa_cons (pv 3) (pa_cons (pv 2) pa_nil))) (pv 5) rfl)))) (pss_one (ps_ret (pv 1))))), ?_⟩
  obtain ⟨hl, hnd⟩ := hx
  show SD K _ [.sh (.tup (ts.map tieD)), .no, .no, .no, .no, .no] _
  refine sd_seq (sd_asgO eo_dnew (by simp) ?_)
  refine sd_seq (sd_forI (xs := ts) (emb := fun t => .sh (tieD t)) (ei_mm (ei_t (ed_var rfl))) (fun l r => ∃ z2 z3 z4 z5, r = [.sh (.tup (ts.map tieD)), .own (.dct (wKeys (ts.take l)) (wVals (ts.take l))), z2, z3, z4, z5]) ⟨_, _, _, _, rfl⟩ ?_ ?_)
  · rintro l t r ht ⟨z2, z3, z4, z5, rfl⟩
    have hlt := (List.getElem?_eq_some_iff.mp ht).1
    have nd : (wKeys (ts.take (l + 1))).Nodup := by
      have e : wKeys ts = wKeys (ts.take (l + 1)) ++ wKeys (ts.drop (l + 1)) := by
        unfold wKeys
        rw [← List.flatMap_append, List.take_append_drop]
      rw [e, List.nodup_append] at hnd
      exact hnd.1
    have ek : wKeys (ts.take (l + 1)) = (wKeys (ts.take l) ++ [intK [t.1, t.2.1]]) ++ [intK [t.2.1, t.1]] := by
      unfold wKeys
      rw [take_snoc ht, List.flatMap_append, List.flatMap_singleton, List.append_assoc]
      rfl
    have ev : wVals (ts.take (l + 1)) = (wVals (ts.take l) ++ [.int t.2.2.1]) ++ [.int t.2.2.2] := by
      unfold wVals
      rw [take_snoc ht, List.flatMap_append, List.flatMap_singleton, List.append_assoc]
      rfl
    have hlen := wKeys_len (ts.take l)
    rw [List.length_take] at hlen
    rw [ek, List.nodup_append] at nd
    obtain ⟨nd1, _, nd2⟩ := nd
    rw [List.nodup_append] at nd1
    obtain ⟨_, _, nd3⟩ := nd1
    refine ⟨[2, 3, 4, 5], bg_tup rfl (bgs_cons (bg_name (by simp) (bgs_cons (bg_name (by simp) (bgs_cons (bg_name (by simp) (bgs_cons (bg_name (by simp) (bgs_nil ?_)))))))))⟩
    refine sd_seq (sd_dput (is := [t.1, t.2.1]) rfl (ed_var rfl) (eb_cons (ed_var rfl) (eb_cons (ed_var rfl) eb_nil)) (hn := fun z => nd3 _ z _ (by simp) rfl) (hl := by omega) (k := ?_))
    exact sd_dput (is := [t.2.1, t.1]) rfl (ed_var rfl) (eb_cons (ed_var rfl) (eb_cons (ed_var rfl) eb_nil)) (hn := fun z => nd2 _ z _ (by simp) rfl) (hl := by rw [List.length_append]; show _ + 1 < 100000; omega) (k := ⟨_, _, _, _, by rw [ek, ev]; rfl⟩)
  · rintro r ⟨z2, z3, z4, z5, rfl⟩
    rw [List.take_length]
    exact sd_retDct rfl fun _ _ _ _ z => z
def tl (t : Tie) : List Int := [t.1, t.2.1, t.2.2.1, t.2.2.2]
theorem tupsD_tl (ts : List Tie) : tupsD (ts.map tl) = ts.map tieD := by
  unfold tupsD
  rw [List.map_map]
  rfl
theorem all_true {α : Type} (l : List α) : (l.filter fun _ => true) = l := List.filter_eq_self.mpr fun _ _ => rfl
def netNs : List Str := ["count", "ties", "_weights"]
structure NetOk (n : Int) (hs srt : List Tie) : Prop where
  n2 : 2 ≤ n ∧ n ≤ 12
  ok : TiesOk n hs
  pm : srt.Perm (hs.map lf)
  so : (srt.map tl).Pairwise fun u v => lexL v u = false
  kd : (wKeys srt).Nodup
abbrev sp_net_init (K : PySem.W.Frag) (C : Addr) : Sp := spNew K C (fun x : Int × List Tie × List Tie => NetOk x.1 x.2.1 x.2.2) (fun x => [(true, .int x.1), (false, .lst (x.2.1.map tieD))]) netNs (fun x => [.int x.1, .tup (x.2.2.map tieD), .dct (wKeys x.2.2) (wVals x.2.2)])
theorem mak_net (T : Tx K mg C fI CD fD) : Mak P w K mg base 4 "Net" C (sp_net_init K C) := by
  obtain ⟨fd, F⟩ := T.d_Net___init__
  refine mak_of T.mkN T.mgN F sc_Net___init__ (fun _ => rfl) (by decide) (fun _ _ _ _ _ _ us hl => match us, hl with | [_, _, _], _ => rfl) (fun f cdv A outer s H E hr x hx => ?_)
  refine ⟨_, (pss_cons (ps_expr (pe_cal (cal_refuse_count T) hr (by first | decide | exact Nat.le_refl _) (by rfl) (pa_cons (pv 1) pa_nil))) (pss_cons (ps_expr (pe_cal (cal_refuse_ties T) hr (by first | decide | exact Nat.le_refl _) (by rfl) (pa_cons (pv 1) (pa_cons (pv 2) pa_nil)))) (pss_cons (ps_fld (pv 0) (pv 1) rfl) (pss_cons (ps_fld (pv 0) (pe_callTy call_tuple_of (by rfl) T.z_tuple (by decide +kernel) (pa_cons (pe_callB cr_sortTI (by rfl) T.z_sorted (by decide +kernel) (pa_cons (pe_lc (own := [("tie", 3)]) rfl sc_Net___init__.nd (pi_list (pv 2)) (blkOk_by (N := N_Net___init__) (sc := defScope s_Net___init__) (by decide +kernel)) (fun _ _ _ _ _ => (pg_name (i := 3) sc_Net___init__.nd rfl (Or.inl rfl))) (fun _ _ _ _ _ => pts_nil) (fun _ _ _ _ _ => (pe_cal (cal_lesser_first T) hr (by first | decide | exact Nat.le_refl _) (by rfl) (pa_cons (pv 3) pa_nil)))) pa_nil)) pa_nil)) rfl) (pss_one (ps_fld (pv 0) (pe_cal (cal_weights_of T) hr (by first | decide | exact Nat.le_refl _) (by rfl) (pa_cons (pe_fld (pv 0) rfl) pa_nil)) rfl)))))), fun self => ?_⟩
  obtain ⟨n, hs, srt⟩ := x
  obtain ⟨n2, ok, pm, so, kd⟩ := hx
  have n2 : 2 ≤ n ∧ n ≤ 12 := n2
  have few : hs.length ≤ 70 := ok.few
  have fewS : srt.length ≤ 70 := by rw [pm.length_eq, List.length_map]; exact few
  show SD K _ [.own (.ins self C [] []), .sh (.int n), .rd (.lst (hs.map tieD)), .no] { nx := fun ρ' => ρ'[0]? = some (.own (.ins self C netNs [.int n, .tup (srt.map tieD), .dct (wKeys srt) (wVals srt)])), rt := fun _ _ _ _ => False }
  refine sd_seq (sd_drop (d := .non) (ed_er (ed_call n n2 (ea_sh (ed_var rfl) ea_nil))) ?_)
  refine sd_seq (sd_drop (d := .non) (ed_er (ed_call (n, hs) ok (ea_sh (ed_var rfl) (ea_rd (er_rd rfl) ea_nil)))) ?_)
  refine sd_seq (sd_fld rfl (ed_var rfl) T.cN T.n_count (by decide +kernel) (by decide) ?_)
  have e1 : M.lst ((hs.filter ((fun _ => true) : Tie → Bool)).map fun t => tieD (lf t)) = .lst (tupsD ((hs.map lf).map tl)) := by
    rw [all_true, tupsD_tl, List.map_map]
    rfl
  refine sd_seq (sd_fld (d := .tup (srt.map tieD)) rfl (ed_is (ed_tupOf (ed_eo (eo_sortTI (ts := (hs.map lf).map tl) (us := srt.map tl) (ed_eo (eo_is (eo_lc (xs := hs) (emb := fun t => .rd (tieD t)) (f := fun _ => true) (v := fun t => tieD (lf t)) (ei_c (ei_mm (ei_lR rfl))) (by omega)
    fun i t ht => bg_name (by simp) ⟨et_yes, fun _ => ed_call t True.intro (ea_rd (er_rd rfl) ea_nil)⟩) e1)) (fun t ht => ?_) (pm.map tl) so))) (congrArg D.tup (tupsD_tl srt))) T.cN T.n_ties (by decide +kernel) (by decide) ?_)
  · obtain ⟨u, _, rfl⟩ := List.mem_map.mp ht
    exact fun z => nomatch z
  · exact sd_fld rfl (ed_call srt ⟨fewS, kd⟩ (ea_sh (ed_fldO (l := 1) rfl T.cN T.n_ties (by decide +kernel) rfl rfl) ea_nil)) T.cN T.n__weights (by decide +kernel) (by decide) rfl
def Fl : Nat → D → Prop
  | 0, _ => False
  | n + 1, d => d = .non ∨ (∃ i, d = .int i) ∨ (∃ b, d = .bl b) ∨ (∃ x, d = .str x) ∨ (∃ ds, d = .tup ds ∧ ds.length ≤ 100000 ∧ ∀ x, x ∈ ds → Fl n x) ∨ (∃ ds, d = .lst ds ∧ ds.length ≤ 100000 ∧ ∀ x, x ∈ ds → Fl n x)
abbrev netD (C : Addr) (n : Int) (ts : List Tie) : D := .obj C netNs [.int n, .tup (ts.map tieD), .dct (wKeys ts) (wVals ts)]
def PLt (p q : Nat × Nat) : Prop := p.1 < q.1 ∨ (p.1 = q.1 ∧ p.2 < q.2)
instance (p q : Nat × Nat) : Decidable (PLt p q) := by unfold PLt; infer_instance
theorem pairs_ok : ∀ n : Fin 13, (pairsTo n.1 n.1).Pairwise PLt ∧ ∀ p, p ∈ pairsTo n.1 n.1 → p.1 < p.2 ∧ p.2 < n.1 := by decide +kernel
def TLt (t u : Tie) : Prop := t.1 < u.1 ∨ (t.1 = u.1 ∧ t.2.1 < u.2.1)
structure NetFacts (n : Nat) (ts : List Tie) : Prop where
  n2 : 2 ≤ n ∧ n ≤ 12
  few : ts.length ≤ 66
  lt : ∀ t, t ∈ ts → 0 ≤ t.1 ∧ t.1 < t.2.1 ∧ t.2.1 < (n : Int)
  ws : ∀ t, t ∈ ts → 1 ≤ t.2.2.1 ∧ 1 ≤ t.2.2.2
  so : ts.Pairwise TLt
theorem lexL_tlt {t u : Tie} (h : TLt t u) : lexL (tl u) (tl t) = false := by
  unfold TLt at h
  unfold tl lexL
  by_cases e : u.1 = t.1
  · rw [if_pos e]
    unfold lexL
    rw [if_neg (by omega)]
    exact decide_eq_false (by omega)
  · rw [if_neg e]
    exact decide_eq_false (by omega)
theorem NetFacts.srt {n : Nat} {ts : List Tie} (F : NetFacts n ts) : (ts.map tl).Pairwise fun u v => lexL v u = false := List.pairwise_map.mpr (F.so.imp fun h => lexL_tlt h)
theorem intK2 {a b c d : Int} (h : intK [a, b] = intK [c, d]) : a = c ∧ b = d := by
  unfold intK at h
  simp only [List.map_cons, List.map_nil, List.cons.injEq, Sum.inl.injEq, and_true] at h
  exact h
theorem NetFacts.keys {n : Nat} {ts : List Tie} (F : NetFacts n ts) : (wKeys ts).Nodup := by
  unfold wKeys List.Nodup
  rw [List.pairwise_flatMap]
  refine ⟨fun t ht => ?_, (List.pairwise_iff_getElem.mpr fun i j hi hj hij => ?_)⟩
  · have := F.lt t ht
    refine List.pairwise_cons.mpr ⟨fun y hy => ?_, List.pairwise_singleton _ _⟩
    rw [List.mem_singleton.mp hy]
    exact fun z => by have := intK2 z; omega
  · have q := (List.pairwise_iff_getElem.mp F.so) i j hi hj hij
    have l1 := F.lt _ (List.getElem_mem hi)
    have l2 := F.lt _ (List.getElem_mem hj)
    unfold TLt at q
    intro x hx y hy
    simp only [List.mem_cons, List.not_mem_nil, or_false] at hx hy
    rcases hx with rfl | rfl <;> rcases hy with rfl | rfl <;> exact fun z => by have := intK2 z; omega
def edgesT (ts : List Tie) : List Ds.Edge := ts.flatMap fun t => [(t.1.toNat, t.2.1.toNat, t.2.2.1), (t.2.1.toNat, t.1.toNat, t.2.2.2)]
theorem edges_mem {ts : List Tie} {e : Ds.Edge} (h : e ∈ edgesT ts) : ∃ t, t ∈ ts ∧ (e = (t.1.toNat, t.2.1.toNat, t.2.2.1) ∨ e = (t.2.1.toNat, t.1.toNat, t.2.2.2)) := by
  obtain ⟨t, ht, h⟩ := List.mem_flatMap.mp h
  refine ⟨t, ht, ?_⟩
  simp only [List.mem_cons, List.not_mem_nil, or_false] at h
  exact h
theorem NetFacts.wf {n t : Nat} {ts : List Tie} (F : NetFacts n ts) (ht : t < n) : Ds.Wf (edgesT ts) n t := ⟨ht, fun e he => by
  obtain ⟨u, hu, h⟩ := edges_mem he
  have h1 := F.lt u hu
  have h2 := F.ws u hu
  rcases h with rfl | rfl
  · exact ⟨by show u.1.toNat < n; omega, by show u.2.1.toNat < n; omega, h2.1⟩
  · exact ⟨by show u.2.1.toNat < n; omega, by show u.1.toNat < n; omega, h2.2⟩⟩
theorem NetFacts.one {n : Nat} {ts : List Tie} (F : NetFacts n ts) {t u : Tie} (h : t ∈ ts) (h' : u ∈ ts) (e1 : t.1 = u.1) (e2 : t.2.1 = u.2.1) : t = u := by
  obtain ⟨i, hi, rfl⟩ := List.mem_iff_getElem.mp h
  obtain ⟨j, hj, rfl⟩ := List.mem_iff_getElem.mp h'
  rcases Nat.lt_trichotomy i j with q | q | q
  · have := (List.pairwise_iff_getElem.mp F.so) i j hi hj q
    unfold TLt at this
    omega
  · subst q
    rfl
  · have := (List.pairwise_iff_getElem.mp F.so) j i hj hi q
    unfold TLt at this
    omega
def wOf (ts : List Tie) (a b : Nat) : Option Int := ((edgesT ts).find? fun e => decide (e.1 = a ∧ e.2.1 = b)).map (·.2.2)
theorem wOf_mem {ts : List Tie} {a b : Nat} {w : Int} (h : wOf ts a b = some w) : (a, b, w) ∈ edgesT ts := by
  unfold wOf at h
  obtain ⟨e, he, rfl⟩ := Option.map_eq_some_iff.mp h
  have h1 := of_decide_eq_true (List.find?_some (p := fun e : Ds.Edge => decide (e.1 = a ∧ e.2.1 = b)) he)
  have h2 := List.mem_of_find?_eq_some he
  rw [← h1.1, ← h1.2]
  exact h2
theorem mem_wOf {n : Nat} {ts : List Tie} (F : NetFacts n ts) {a b : Nat} {w : Int} (h : (a, b, w) ∈ edgesT ts) : wOf ts a b = some w := by
  cases q : wOf ts a b with
  | none =>
    unfold wOf at q
    rw [Option.map_eq_none_iff, List.find?_eq_none] at q
    exact absurd (decide_eq_true ⟨rfl, rfl⟩) (q _ h)
  | some v =>
    have h' := wOf_mem q
    obtain ⟨t, ht, e⟩ := edges_mem h
    obtain ⟨u, hu, e'⟩ := edges_mem h'
    have l1 := F.lt t ht
    have l2 := F.lt u hu
    rcases e with e | e <;> rcases e' with e' | e' <;> (simp only [Prod.mk.injEq] at e e'; obtain ⟨e1, e2, e3⟩ := e; obtain ⟨f1, f2, f3⟩ := e')
    · have z := F.one ht hu (by omega) (by omega)
      rw [e3, f3, z]
    · omega
    · omega
    · have z := F.one ht hu (by omega) (by omega)
      rw [e3, f3, z]
theorem ef_pos {a b : Nat} {e : Ds.Edge} {l : List Ds.Edge} (h : e.1 = a ∧ e.2.1 = b) : (e :: l).find? (fun e => decide (e.1 = a ∧ e.2.1 = b)) = some e := List.find?_cons_of_pos (decide_eq_true h)
theorem ef_neg {a b : Nat} {e : Ds.Edge} {l : List Ds.Edge} (h : ¬ (e.1 = a ∧ e.2.1 = b)) : (e :: l).find? (fun e => decide (e.1 = a ∧ e.2.1 = b)) = l.find? (fun e => decide (e.1 = a ∧ e.2.1 = b)) := List.find?_cons_of_neg (fun z => h (of_decide_eq_true z))
theorem look_w {a b : Nat} : ∀ {ts : List Tie}, (∀ t, t ∈ ts → 0 ≤ t.1 ∧ 0 ≤ t.2.1) → lookD (wKeys ts) (wVals ts) (intK [(a : Int), (b : Int)]) = (wOf ts a b).map D.int
  | [], _ => rfl
  | t :: ts, h => by
    have ih := look_w (a := a) (b := b) (ts := ts) fun t ht => h t (List.mem_cons_of_mem _ ht)
    have h0 := h t List.mem_cons_self
    have k1 : ∀ {x y : Int}, 0 ≤ x → 0 ≤ y → ((intK [x, y] = intK [(a : Int), (b : Int)]) ↔ (x.toNat = a ∧ y.toNat = b)) := fun {x y} hx hy => by
      constructor
      · intro z
        have := intK2 z
        omega
      · rintro ⟨rfl, rfl⟩
        rw [Int.toNat_of_nonneg hx, Int.toNat_of_nonneg hy]
    unfold lookD wOf at ih ⊢
    show ((((intK [t.1, t.2.1], D.int t.2.2.1) :: (intK [t.2.1, t.1], D.int t.2.2.2) :: (wKeys ts).zip (wVals ts))).find? _).map _ = ((((t.1.toNat, t.2.1.toNat, t.2.2.1) :: (t.2.1.toNat, t.1.toNat, t.2.2.2) :: edgesT ts) : List Ds.Edge).find? _ |>.map _).map _
    by_cases q1 : t.1.toNat = a ∧ t.2.1.toNat = b
    · rw [find_pos ((k1 h0.1 h0.2).2 q1), ef_pos q1]
      rfl
    · rw [find_neg (fun z => q1 ((k1 h0.1 h0.2).1 z)), ef_neg q1]
      by_cases q2 : t.2.1.toNat = a ∧ t.1.toNat = b
      · rw [find_pos ((k1 h0.2 h0.1).2 q2), ef_pos q2]
        rfl
      · rw [find_neg (fun z => q2 ((k1 h0.2 h0.1).1 z)), ef_neg q2]
        exact ih
theorem NetFacts.nn {n : Nat} {ts : List Tie} (F : NetFacts n ts) : ∀ t, t ∈ ts → 0 ≤ t.1 ∧ 0 ≤ t.2.1 := fun t ht => by
  have := F.lt t ht
  omega
def nbL (n : Nat) (ts : List Tie) (a : Nat) : List Nat := (List.range n).filter fun b => (wOf ts a b).isSome
abbrev sp_neighbours (K : PySem.W.Frag) (C : Addr) : Sp := spOw K (fun x : Nat × List Tie × Nat => NetFacts x.1 x.2.1 ∧ x.2.2 < x.1) (fun x => [(true, netD C x.1 x.2.1), (true, .int x.2.2)]) (fun x => .lst ((nbL x.1 x.2.1 x.2.2).map fun b : Nat => .int (b : Int)))
theorem met_neighbours (T : Tx K mg C fI CD fD) : Met P w K mg base 3 C "neighbours" (sp_neighbours K C) := by
  refine met_ow T.d_Net_neighbours sc_Net_neighbours (fun _ => rfl) (by decide) (fun _ _ _ _ _ _ us hl => match us, hl with | [_, _], _ => rfl) (fun f cdv A outer s H E hr x hx => ?_)
  have hu := hu_of hr
  refine ⟨_, (pss_cons (ps_expr (pe_cal (cal_refuse_houses T) hr (by first | decide | exact Nat.le_refl _) (by rfl) (pa_cons (pe_fld (pv 0) rfl) (pa_cons (pe_lst (pa_cons (pv 1) pa_nil)) pa_nil)))) (pss_one (ps_ret (pe_lc (own := [("b", 2)]) rfl sc_Net_neighbours.nd (pi_range1 (by rfl) T.z_range (pa_cons (pe_fld (pv 0) rfl) pa_nil)) (blkOk_by (N := N_Net_neighbours) (sc := defScope s_Net_neighbours) (by decide +kernel)) (fun _ _ _ _ _ => (pg_name (i := 2) sc_Net_neighbours.nd rfl (Or.inl rfl))) (fun _ _ _ _ _ => (pts_one (pt_cmp (pc_din hu (pe_tup (pa_cons (pv 1) (pa_cons (pv 2) pa_nil))) (pe_fldK K rfl (pv 0) rfl))))) (fun _ _ _ _ _ => (pv 2)))))), ?_⟩
  obtain ⟨n, ts, a⟩ := x
  obtain ⟨F, ha⟩ := hx
  have F : NetFacts n ts := F
  have ha : a < n := ha
  have n2 := F.n2
  show SD K _ [.sh (netD C n ts), .sh (.int (a : Int)), .no] { nx := fun _ => False, rt := ROwn K (.lst ((nbL n ts a).map fun b : Nat => D.int (b : Int))) }
  refine sd_seq (sd_drop (d := .non) (ed_er (ed_call ((n : Int), [(a : Int)]) (fun m hm => by
    rw [List.mem_singleton.mp hm]
    show 0 ≤ (a : Int) ∧ (a : Int) < (n : Int)
    omega) (ea_sh (ed_fld (l := 0) (ed_var rfl) T.cN T.n_count (by decide +kernel) rfl rfl) (ea_rd (ed_er (ed_eo (eo_lst (eb_cons (ed_var rfl) eb_nil)))) ea_nil)))) ?_)
  refine sd_retO (eo_lc (xs := List.range n) (emb := fun k : Nat => .sh (.int (k : Int))) (f := fun b => (wOf ts a b).isSome) (v := fun b : Nat => D.int (b : Int)) (ei_c (ei_r1 (i := (n : Int)) (eb_cons (ed_fld (l := 0) (ed_var rfl) T.cN T.n_count (by decide +kernel) rfl rfl) eb_nil) (by omega))) (by rw [List.length_range]; omega)
    fun i b hb => bg_name (by simp) ⟨et_is (et_test (ed_din (is := [(a : Int), (b : Int)]) (ed_er (ed_fld (l := 2) (ed_var rfl) T.cN T.n__weights (by decide +kernel) rfl rfl)) (eb_cons (ed_var rfl) (eb_cons (ed_var rfl) eb_nil)))) ?_, fun _ => ed_var rfl⟩) fun _ _ _ _ z => z
  rw [look_w F.nn, Option.isSome_map]
abbrev sp_weightM (K : PySem.W.Frag) (C : Addr) : Sp := spSh K (fun x : Nat × List Tie × Nat × Nat => NetFacts x.1 x.2.1 ∧ x.2.2.1 < x.1 ∧ x.2.2.2 < x.1) (fun x => [(true, netD C x.1 x.2.1), (true, .int x.2.2.1), (true, .int x.2.2.2)]) (fun x => optI (wOf x.2.1 x.2.2.1 x.2.2.2))
theorem met_weight (T : Tx K mg C fI CD fD) : Met P w K mg base 3 C "weight" (sp_weightM K C) := by
  refine met_sh T.d_Net_weight sc_Net_weight (fun _ => rfl) (by decide) (fun _ _ _ _ _ _ us hl => match us, hl with | [_, _, _], _ => rfl) (fun f cdv A outer s H E hr x hx => ?_)
  have hu := hu_of hr
  refine ⟨_, (pss_cons (ps_expr (pe_cal (cal_refuse_houses T) hr (by first | decide | exact Nat.le_refl _) (by rfl) (pa_cons (pe_fld (pv 0) rfl) (pa_cons (pe_lst (pa_cons (pv 1) (pa_cons (pv 2) pa_nil))) pa_nil)))) (pss_one (ps_ret (pe_dget1 hu (pe_fld (pv 0) rfl) (pe_tup (pa_cons (pv 1) (pa_cons (pv 2) pa_nil))) ⟨rfl, rfl, rfl, rfl⟩)))), ?_⟩
  obtain ⟨n, ts, a, b⟩ := x
  obtain ⟨F, ha, hb⟩ := hx
  have F : NetFacts n ts := F
  have ha : a < n := ha
  have hb : b < n := hb
  show SD K _ [.sh (netD C n ts), .sh (.int (a : Int)), .sh (.int (b : Int))] { nx := fun _ => optI (wOf ts a b) = D.non, rt := RSh K (optI (wOf ts a b)) }
  refine sd_seq (sd_drop (d := .non) (ed_er (ed_call ((n : Int), [(a : Int), (b : Int)]) (fun m hm => by
    show 0 ≤ m ∧ m < (n : Int)
    have hm : m ∈ ([(a : Int), (b : Int)] : List Int) := hm
    simp only [List.mem_cons, List.not_mem_nil, or_false] at hm
    omega) (ea_sh (ed_fld (l := 0) (ed_var rfl) T.cN T.n_count (by decide +kernel) rfl rfl) (ea_rd (ed_er (ed_eo (eo_lst (eb_cons (ed_var rfl) (eb_cons (ed_var rfl) eb_nil))))) ea_nil)))) ?_)
  refine sd_ret (ed_dget1 (is := [(a : Int), (b : Int)]) (ed_er (ed_fld (l := 2) (ed_var rfl) T.cN T.n__weights (by decide +kernel) rfl rfl)) (eb_cons (ed_var rfl) (eb_cons (ed_var rfl) eb_nil)) ?_ ?_) fun _ _ _ _ z => z
  · rw [look_w F.nn]
    cases wOf ts a b <;> rfl
  · cases wOf ts a b with
    | none => exact .inl rfl
    | some i => exact .inr ⟨i, rfl⟩
abbrev sp_nearer (K : PySem.W.Frag) : Sp := spSh K (fun x : Ds.Xs × Ds.Edge => x.2.1 < x.1.length ∧ x.2.2.1 < x.1.length) (fun x => [(false, .lst (xsD x.1)), (true, .int x.2.1), (true, .int x.2.2.2), (true, .int x.2.2.1)]) (fun x => .bl (Ds.eff x.1 x.2))
theorem cal_nearer (T : Tx K mg C fI CD fD) : Cal P w K mg base 1 "_is_nearer_by" (sp_nearer K) := by
  refine T.d__is_nearer_by.sh sc__is_nearer_by (fun _ => rfl) (by decide) (fun _ _ _ _ _ _ us hl => match us, hl with | [_, _, _, _], _ => rfl) (fun f cdv A outer s H E hr x hx => ?_)
  refine ⟨_, (pss_cons (ps_if (pt_cmp (pc_isN (pe_ix ix_list (pv 0) (pv 3) (fun _ _ => rfl)))) (pss_one (ps_ret pe_bl)) pss_nil) (pss_one (ps_ret (pe_or (pe_cmp (pc_isN (pe_ix ix_list (pv 0) (pv 1) (fun _ _ => rfl)))) (pe_one (pe_cmpR op_lt (pe_op op_add (pv 2) (pe_ix ix_list (pv 0) (pv 3) (fun _ _ => rfl))) (pe_ix ix_list (pv 0) (pv 1) (fun _ _ => rfl)) (nomark _))))))), ?_⟩
  obtain ⟨X, a, b, v⟩ := x
  obtain ⟨h1, h2⟩ := hx
  have h1 : a < X.length := h1
  have h2 : b < X.length := h2
  show SD K _ [.rd (.lst (xsD X)), .sh (.int (a : Int)), .sh (.int v), .sh (.int (b : Int))] { nx := fun _ => D.bl (Ds.eff X (a, b, v)) = D.non, rt := RSh K (.bl (Ds.eff X (a, b, v))) }
  have sb : ER K (tOp (rIxL K) (tVar 0) (tVar 3)) [.rd (.lst (xsD X)), .sh (.int (a : Int)), .sh (.int v), .sh (.int (b : Int))] (optI (Ds.at_ X b)) := er_ixL (l := b) (er_rd rfl) (ed_var rfl) rfl (xs_at h2)
  have sa : ER K (tOp (rIxL K) (tVar 0) (tVar 1)) [.rd (.lst (xsD X)), .sh (.int (a : Int)), .sh (.int v), .sh (.int (b : Int))] (optI (Ds.at_ X a)) := er_ixL (l := a) (er_rd rfl) (ed_var rfl) rfl (xs_at h1)
  cases eb : Ds.at_ X b with
  | none =>
    rw [eb] at sb
    have e : Ds.eff X (a, b, v) = false := by unfold Ds.eff; rw [eb]
    rw [e]
    exact sd_seq (sd_if (b := true) (et_test (ed_is (ed_isN sb) rfl)) (fun _ => sd_ret (d := .bl false) ed_bl fun _ _ _ _ z => z) fun h => nomatch h)
  | some y =>
    rw [eb] at sb
    refine sd_seq (sd_if (b := false) (et_test (ed_is (ed_isN sb) rfl)) (fun h => nomatch h) fun _ => sd_next ?_)
    cases ea : Ds.at_ X a with
    | none =>
      rw [ea] at sa
      have e : Ds.eff X (a, b, v) = (true || false) := by unfold Ds.eff; rw [eb]; show (match Ds.at_ X a with | none => true | some x => decide (v + y < x)) = _; rw [ea]; rfl
      rw [e]
      exact sd_ret (ed_orV (ed_is (ed_isN sa) rfl) fun h => nomatch h) fun _ _ _ _ z => z
    | some x =>
      rw [ea] at sa
      have e : Ds.eff X (a, b, v) = (false || decide (v + y < x)) := by unfold Ds.eff; rw [eb]; show (match Ds.at_ X a with | none => true | some x => decide (v + y < x)) = _; rw [ea]; rfl
      rw [e]
      exact sd_ret (ed_orV (ed_is (ed_isN sa) rfl) fun _ => ed_b0 (ed_i0 (ed_var rfl) (er_int sb)) (er_int sa)) fun _ _ _ _ z => z
def chg : List Ds.Edge → Ds.Xs → Bool
  | [], _ => false
  | e :: F, X => Ds.eff X e || chg F (Ds.relax X e)
theorem pass_snoc (F : List Ds.Edge) (X : Ds.Xs) (e : Ds.Edge) : Ds.pass (F ++ [e]) X = Ds.relax (Ds.pass F X) e := by
  unfold Ds.pass
  rw [List.foldl_append]
  rfl
theorem chg_snoc : ∀ (F : List Ds.Edge) (X : Ds.Xs) (e : Ds.Edge), chg (F ++ [e]) X = (chg F X || Ds.eff (Ds.pass F X) e)
  | [], X, e => by
    show (Ds.eff X e || false) = (false || Ds.eff X e)
    cases Ds.eff X e <;> rfl
  | f :: F, X, e => by
    show (Ds.eff X f || chg (F ++ [e]) (Ds.relax X f)) = ((Ds.eff X f || chg F (Ds.relax X f)) || Ds.eff (Ds.pass F (Ds.relax X f)) e)
    rw [chg_snoc F, Bool.or_assoc]
theorem chg_no : ∀ {F : List Ds.Edge} {X : Ds.Xs}, chg F X = false → Ds.pass F X = X ∧ ∀ e, e ∈ F → Ds.eff X e = false
  | [], X, _ => ⟨rfl, fun e h => absurd h (by simp)⟩
  | f :: F, X, h => by
    obtain ⟨h1, h2⟩ := Bool.or_eq_false_iff.mp h
    rw [Ds.relax_no h1] at h2
    obtain ⟨i1, i2⟩ := chg_no h2
    refine ⟨by show Ds.pass F (Ds.relax X f) = X; rw [Ds.relax_no h1]; exact i1, fun e he => ?_⟩
    rcases List.mem_cons.mp he with rfl | he
    · exact h1
    · exact i2 e he
theorem chg_still : ∀ {F : List Ds.Edge} {X : Ds.Xs}, (∀ e, e ∈ F → Ds.eff X e = false) → chg F X = false
  | [], _, _ => rfl
  | f :: F, X, h => by
    have h1 := h f List.mem_cons_self
    show (Ds.eff X f || chg F (Ds.relax X f)) = false
    rw [h1, Ds.relax_no h1]
    exact chg_still fun e he => h e (List.mem_cons_of_mem _ he)
theorem edges_snoc {ts : List Tie} {l : Nat} {t : Tie} (h : ts[l]? = some t) : edgesT (ts.take (l + 1)) = (edgesT (ts.take l) ++ [(t.1.toNat, t.2.1.toNat, t.2.2.1)]) ++ [(t.2.1.toNat, t.1.toNat, t.2.2.2)] := by
  unfold edgesT
  rw [take_snoc h, List.flatMap_append, List.flatMap_singleton, List.append_assoc]
  rfl
theorem xs_rep (n : Nat) : (List.replicate n [D.non]).flatten = xsD (List.replicate n none) := by
  rw [List.flatten_replicate_singleton]
  show _ = List.map optI _
  rw [List.map_replicate]
  rfl
abbrev sp_dists (K : PySem.W.Frag) (C : Addr) : Sp := spOw K (fun x : Nat × List Tie × Nat => NetFacts x.1 x.2.1 ∧ x.2.2 < x.1) (fun x => [(true, netD C x.1 x.2.1), (true, .int x.2.2)]) (fun x => .lst (xsD (Ds.DL (edgesT x.2.1) x.1 x.2.2)))
theorem cal_dists (T : Tx K mg C fI CD fD) : Cal P w K mg base 2 "distances_to" (sp_dists K C) := by
  refine T.d_distances_to.ow sc_distances_to (fun _ => rfl) (by decide) (fun _ _ _ _ _ _ us hl => match us, hl with | [_, _], _ => rfl) (fun f cdv A outer s H E hr x hx => ?_)
  refine ⟨_, (pss_cons (ps_set (i := 2) sc_distances_to.nd rfl (Or.inl rfl) (pe_op op_rep (pe_lst (pa_cons pe_non pa_nil)) (pe_fld (pv 0) rfl))) (pss_cons (ps_asg pe_int (pg_sub (pv 2) (pv 1) set_list)) (pss_cons (ps_set (i := 3) sc_distances_to.nd rfl (Or.inl rfl) pe_bl) (pss_cons (ps_while PassesOwn.never (pt_val (pv 3)) (pss_cons (ps_set (i := 3) sc_distances_to.nd rfl (Or.inl rfl) pe_bl) (pss_one (ps_for PassesOwn.never rfl (pi_tup (pe_fld (pv 0) rfl)) (pg_tup rfl (pgs_cons (pg_name (i := 4) sc_distances_to.nd rfl (Or.inl rfl)) (pgs_cons (pg_name (i := 5) sc_distances_to.nd rfl (Or.inl rfl)) (pgs_cons (pg_name (i := 6) sc_distances_to.nd rfl (Or.inl rfl)) (pgs_cons (pg_name (i := 7) sc_distances_to.nd rfl (Or.inl rfl)) pgs_nil))))) (pss_cons (ps_if (pt_val (pe_cal (cal_nearer T) hr (by first | decide | exact Nat.le_refl _) (by rfl) (pa_cons (pv 2) (pa_cons (pv 4) (pa_cons (pv 6) (pa_cons (pv 5) pa_nil)))))) (pss_cons (ps_asg (pe_op op_add (pv 6) (pe_ix ix_list (pv 2) (pv 5) (fun _ _ => rfl))) (pg_sub (pv 2) (pv 4) set_list)) (pss_one (ps_set (i := 3) sc_distances_to.nd rfl (Or.inl rfl) pe_bl))) pss_nil) (pss_one (ps_if (pt_val (pe_cal (cal_nearer T) hr (by first | decide | exact Nat.le_refl _) (by rfl) (pa_cons (pv 2) (pa_cons (pv 5) (pa_cons (pv 7) (pa_cons (pv 4) pa_nil)))))) (pss_cons (ps_asg (pe_op op_add (pv 7) (pe_ix ix_list (pv 2) (pv 4) (fun _ _ => rfl))) (pg_sub (pv 2) (pv 5) set_list)) (pss_one (ps_set (i := 3) sc_distances_to.nd rfl (Or.inl rfl) pe_bl))) pss_nil))))))) (pss_one (ps_ret (pv 2))))))), ?_⟩
  obtain ⟨n, ts, t⟩ := x
  obtain ⟨F, ht⟩ := hx
  have F : NetFacts n ts := F
  have ht : t < n := ht
  have n2 := F.n2
  have W := F.wf ht
  show SD K _ [.sh (netD C n ts), .sh (.int (t : Int)), .no, .no, .no, .no, .no, .no] { nx := fun _ => False, rt := ROwn K (.lst (xsD (Ds.DL (edgesT ts) n t))) }
  refine sd_seq (sd_asgO (eo_is (eo_rep (l := n) (eo_lst (eb_cons ed_non eb_nil)) (ed_fld (l := 0) (ed_var rfl) T.cN T.n_count (by decide +kernel) rfl rfl) (by show 1 * n ≤ 100000; omega) (by omega)) (congrArg M.lst (xs_rep n))) (by simp) ?_)
  refine sd_seq (sd_setIx (l := t) (d := .int 0) rfl ed_int (ed_var rfl) rfl (by rw [List.length_map, List.length_replicate]; exact ht) ?_)
  have e0 : M.lst ((xsD (List.replicate n none)).set t (.int 0)) = .lst (xsD (Ds.turns (edgesT ts) n t 0)) := congrArg M.lst (xs_set _ _ _)
  show SD K _ [.sh (netD C n ts), .sh (.int (t : Int)), .own (.lst ((xsD (List.replicate n none)).set t (.int 0))), .no, .no, .no, .no, .no] _
  rw [e0]
  refine sd_seq (sd_asg (d := .bl true) ed_bl ?_)
  refine sd_seq (sd_while (fun l r => ∃ (k : Nat) (b : Bool) (z4 z5 z6 z7 : Sl), r = [.sh (netD C n ts), .sh (.int (t : Int)), .own (.lst (xsD (Ds.turns (edgesT ts) n t k))), .sh (.bl b), z4, z5, z6, z7] ∧ (b = true → k + l = n + 1 ∧ k ≤ n) ∧ (b = false → Ds.turns (edgesT ts) n t k = Ds.DL (edgesT ts) n t)) (n + 1)
    ⟨0, true, _, _, _, _, rfl, fun _ => ⟨by omega, by omega⟩, fun h => nomatch h⟩ ?_)
  rintro l r ⟨k, b, z4, z5, z6, z7, rfl, hb1, hb2⟩
  refine ⟨b, et_B (ed_var rfl), fun hb => ?_, fun hb => ?_⟩
  · obtain ⟨hk, hkn⟩ := hb1 hb
    have S := Ds.turns_snd W k
    generalize hX : Ds.turns (edgesT ts) n t k = X at *
    have hlX : X.length = n := S.len
    refine sd_seq (sd_asg (d := .bl false) ed_bl ?_)
    refine sd_forI (xs := ts) (emb := fun t => .sh (tieD t)) (ei_mm (ei_t (ed_fld (l := 1) (ed_var rfl) T.cN T.n_ties (by decide +kernel) rfl rfl)))
      (fun l r => ∃ z4 z5 z6 z7, r = [.sh (netD C n ts), .sh (.int (t : Int)), .own (.lst (xsD (Ds.pass (edgesT (ts.take l)) X))), .sh (.bl (chg (edgesT (ts.take l)) X)), z4, z5, z6, z7]) ⟨_, _, _, _, rfl⟩ ?_ ?_
    · rintro l u r hu ⟨z4, z5, z6, z7, rfl⟩
      have hm := F.lt u (List.mem_of_getElem? hu)
      obtain ⟨a, b, w1, w2⟩ := u
      have hm : 0 ≤ a ∧ a < b ∧ b < (n : Int) := hm
      refine ⟨[4, 5, 6, 7], bg_tup rfl (bgs_cons (bg_name (by simp) (bgs_cons (bg_name (by simp) (bgs_cons (bg_name (by simp) (bgs_cons (bg_name (by simp) (bgs_nil ?_)))))))))⟩
      have hes := edges_snoc hu
      generalize hP : edgesT (ts.take l) = Fl at *
      have lp : (Ds.pass Fl X).length = n := (Ds.pass_len Fl X).trans hlX
      generalize hY : Ds.pass Fl X = Y at *
      generalize hc : chg Fl X = c at *
      have ea : a = ((a.toNat : Nat) : Int) := (Int.toNat_of_nonneg hm.1).symm
      have eb : b = ((b.toNat : Nat) : Int) := (Int.toNat_of_nonneg (by omega)).symm
      generalize a.toNat = a' at *
      generalize b.toNat = b' at *
      subst ea
      subst eb
      have hA : a' < n := by omega
      have hB : b' < n := by omega
      -- one look and what follows from it
      have look : ∀ (Y : Ds.Xs) (c : Bool), Y.length = n → ∀ (i j v : Nat) (p q : Nat) (w : Int) (Z : Zs), p < n → q < n → ([.sh (netD C n ts), .sh (.int (t : Int)), .own (.lst (xsD Y)), .sh (.bl c), .sh (.int (a' : Int)), .sh (.int (b' : Int)), .sh (.int w1), .sh (.int w2)] : List Sl)[i]? = some (.sh (.int (p : Int))) →
          ([.sh (netD C n ts), .sh (.int (t : Int)), .own (.lst (xsD Y)), .sh (.bl c), .sh (.int (a' : Int)), .sh (.int (b' : Int)), .sh (.int w1), .sh (.int w2)] : List Sl)[j]? = some (.sh (.int (q : Int))) →
          ([.sh (netD C n ts), .sh (.int (t : Int)), .own (.lst (xsD Y)), .sh (.bl c), .sh (.int (a' : Int)), .sh (.int (b' : Int)), .sh (.int w1), .sh (.int w2)] : List Sl)[v]? = some (.sh (.int w)) → 
          Z.nx [.sh (netD C n ts), .sh (.int (t : Int)), .own (.lst (xsD (Ds.relax Y (p, q, w)))), .sh (.bl (c || Ds.eff Y (p, q, w))), .sh (.int (a' : Int)), .sh (.int (b' : Int)), .sh (.int w1), .sh (.int w2)] →
          SD K (tIfS (tB (tCall (sp_nearer K) [] E0 (tCons (tVar 2) (tCons (tVar i) (tCons (tVar v) (tCons (tVar j) tNil))))))
            (tSeq (tAsg (tOp (rI0 fun i j => .int (i + j)) (tVar v) (tOp (rIxL K) (tVar 2) (tVar j))) (gSub (tVar 2) (tVar i) rSetL)) (tAsg (tC (.bl true)) (gName 3))) tNext)
            [.sh (netD C n ts), .sh (.int (t : Int)), .own (.lst (xsD Y)), .sh (.bl c), .sh (.int (a' : Int)), .sh (.int (b' : Int)), .sh (.int w1), .sh (.int w2)] Z := by
        intro Y c lY i j v p q w Z hp hq hi hj hv k
        refine sd_if (et_B (ed_call (Y, p, q, w) ⟨by show p < Y.length; omega, by show q < Y.length; omega⟩ (ea_rd (er_own rfl) (ea_sh (ed_var hi) (ea_sh (ed_var hv) (ea_sh (ed_var hj) ea_nil)))))) (fun h => ?_) fun h => sd_next ?_
        · obtain ⟨y, hy, _⟩ := Ds.eff_some h
          have hy : Ds.at_ Y q = some y := hy
          refine sd_seq (sd_setIx (l := p) (d := .int (w + y)) rfl (ed_i0 (ed_var hv) (ed_is (ed_ixO (l := q) rfl (ed_var hj) rfl (xs_at (by omega))) (by rw [hy]; rfl))) (ed_var hi) rfl (by rw [List.length_map]; omega) ?_)
          refine sd_asg (d := .bl true) ed_bl ?_
          rw [h, Bool.or_true] at k
          rw [Ds.relax_yes h hy, ← xs_set] at k
          exact k
        · rw [h, Bool.or_false, Ds.relax_no h] at k
          exact k
      refine sd_seq (look Y c lp 4 5 6 a' b' w1 _ hA hB rfl rfl rfl ?_)
      refine look (Ds.relax Y (a', b', w1)) (c || Ds.eff Y (a', b', w1)) (Ds.relax_len.trans lp) 5 4 7 b' a' w2 _ hB hA rfl rfl rfl ?_
      refine ⟨.sh (.int (a' : Int)), .sh (.int (b' : Int)), .sh (.int w1), .sh (.int w2), ?_⟩
      rw [hes, pass_snoc, pass_snoc, chg_snoc, chg_snoc, pass_snoc, hY, hc]
    · rintro r ⟨z4, z5, z6, z7, rfl⟩
      rw [List.take_length]
      have ht' : Ds.turns (edgesT ts) n t (k + 1) = Ds.pass (edgesT ts) X := by rw [← hX]; rfl
      cases hc : chg (edgesT ts) X with
      | true =>
        have hne : ¬ n ≤ k + 1 := fun z => by
          have := Ds.turns_DL W z
          rw [hX] at this
          rw [this, chg_still fun e he => Ds.DL_still W he] at hc
          cases hc
        exact ⟨l - 1, by omega, k + 1, true, _, _, _, _, by rw [ht'], fun _ => ⟨by omega, by omega⟩, fun h => nomatch h⟩
      | false =>
        obtain ⟨c1, c2⟩ := chg_no hc
        exact ⟨0, by omega, k + 1, false, _, _, _, _, by rw [ht'], (fun h => nomatch h), fun _ => by rw [ht', c1]; exact Ds.still_DL S c2⟩
  · rw [hb2 hb]
    exact sd_retVar rfl fun _ _ _ _ z => z
def onB (ts : List Tie) (X : Ds.Xs) (a b : Nat) : Bool := match wOf ts a b, Ds.at_ X b, Ds.at_ X a with
  | some w, some y, some x => decide (w + y = x)
  | _, _, _ => false
def stL (n : Nat) (ts : List Tie) (X : Ds.Xs) (a : Nat) : List Nat := (List.range n).filter (onB ts X a)
theorem onB_yes {ts : List Tie} {X : Ds.Xs} {a b : Nat} (h : onB ts X a b = true) : ∃ w y, wOf ts a b = some w ∧ Ds.at_ X b = some y ∧ Ds.at_ X a = some (w + y) := by
  unfold onB at h
  cases h1 : wOf ts a b with
  | none => rw [h1] at h; cases h
  | some w =>
    cases h2 : Ds.at_ X b with
    | none => rw [h1, h2] at h; cases h
    | some y =>
      cases h3 : Ds.at_ X a with
      | none => rw [h1, h2, h3] at h; cases h
      | some x =>
        rw [h1, h2, h3] at h
        have h : decide (w + y = x) = true := h
        exact ⟨w, y, rfl, rfl, by rw [of_decide_eq_true h]⟩
theorem onB_is {ts : List Tie} {X : Ds.Xs} {a b : Nat} {w y x : Int} (h1 : wOf ts a b = some w) (h2 : Ds.at_ X b = some y) (h3 : Ds.at_ X a = some x) : onB ts X a b = decide (w + y = x) := by
  unfold onB
  rw [h1, h2, h3]
theorem onB_none {ts : List Tie} {X : Ds.Xs} {a b : Nat} (h : Ds.at_ X b = none) : onB ts X a b = false := by
  unfold onB
  rw [h]
  cases wOf ts a b <;> rfl
noncomputable abbrev DT (n : Nat) (ts : List Tie) (t : Nat) : Ds.Xs := Ds.DL (edgesT ts) n t
theorem DT_len (n : Nat) (ts : List Tie) (t : Nat) : (DT n ts t).length = n := by
  show ((List.range n).map _).length = n
  rw [List.length_map, List.length_range]
theorem DT_closed {n t a b : Nat} {ts : List Tie} {w y : Int} (F : NetFacts n ts) (ht : t < n) (h1 : wOf ts a b = some w) (h2 : Ds.at_ (DT n ts t) b = some y) : ∃ x, Ds.at_ (DT n ts t) a = some x := by
  obtain ⟨wa, wb, _⟩ := (F.wf ht).ok _ (wOf_mem h1)
  have wa : a < n := wa
  have wb : b < n := wb
  rw [Ds.at_DL wb] at h2
  obtain ⟨x, hx, _⟩ := Ds.dst_closed (F.wf ht) (wOf_mem h1) h2
  exact ⟨x, by rw [Ds.at_DL wa]; exact hx⟩
theorem st_lt {n : Nat} {ts : List Tie} {X : Ds.Xs} {a b : Nat} (h : b ∈ stL n ts X a) : b < n ∧ onB ts X a b = true := by
  obtain ⟨h1, h2⟩ := List.mem_filter.mp h
  exact ⟨List.mem_range.mp h1, h2⟩
theorem st_some {n t a : Nat} {ts : List Tie} {x : Int} (F : NetFacts n ts) (ht : t < n) (h : Ds.at_ (DT n ts t) a = some x) (ha : a < n) (hat : a ≠ t) : ∃ b l, stL n ts (DT n ts t) a = b :: l ∧ b < n ∧ ∃ y : Int, Ds.at_ (DT n ts t) b = some y ∧ y < x := by
  have W := F.wf ht
  rw [Ds.at_DL ha] at h
  obtain ⟨b, w, y, he, hy, e⟩ := Ds.dst_step W h hat
  obtain ⟨_, wb, _⟩ := W.ok _ he
  have wb : b < n := wb
  have hb : b ∈ stL n ts (DT n ts t) a := List.mem_filter.mpr ⟨List.mem_range.mpr wb, by rw [onB_is (mem_wOf F he) (by rw [Ds.at_DL wb]; exact hy) (by rw [Ds.at_DL ha]; exact h)]; exact decide_eq_true e.symm⟩
  cases q : stL n ts (DT n ts t) a with
  | nil => rw [q] at hb; cases hb
  | cons c l =>
    have hc : c ∈ stL n ts (DT n ts t) a := by rw [q]; exact List.mem_cons_self
    obtain ⟨h1, h2⟩ := st_lt hc
    obtain ⟨w', y', h3, h4, h5⟩ := onB_yes h2
    have w1 : 1 ≤ w' := (W.ok _ (wOf_mem h3)).2.2
    rw [Ds.at_DL ha, h] at h5
    have h5 := Option.some.inj h5
    exact ⟨c, l, rfl, h1, y', h4, by omega⟩
abbrev natsD (l : List Nat) : List D := l.map fun b : Nat => D.int (b : Int)
theorem nb_st (n : Nat) (ts : List Tie) (X : Ds.Xs) (a : Nat) : (nbL n ts a).filter (onB ts X a) = stL n ts X a := by
  unfold nbL stL
  rw [List.filter_filter]
  refine List.filter_congr fun b _ => ?_
  cases h : onB ts X a b with
  | false => rfl
  | true =>
    obtain ⟨w, y, h1, _⟩ := onB_yes h
    rw [h1]
    rfl
noncomputable abbrev sp_steps (K : PySem.W.Frag) (C : Addr) : Sp := spOw K (fun x : Nat × List Tie × Nat × Nat => NetFacts x.1 x.2.1 ∧ x.2.2.1 < x.1 ∧ x.2.2.2 < x.1) (fun x => [(true, netD C x.1 x.2.1), (false, .lst (xsD (DT x.1 x.2.1 x.2.2.1))), (true, .int x.2.2.2)]) (fun x => .lst (natsD (stL x.1 x.2.1 (DT x.1 x.2.1 x.2.2.1) x.2.2.2)))
theorem cal_steps (T : Tx K mg C fI CD fD) : Cal P w K mg base 4 "steps_on" (sp_steps K C) := by
  refine T.d_steps_on.ow sc_steps_on (fun _ => rfl) (by decide) (fun _ _ _ _ _ _ us hl => match us, hl with | [_, _, _], _ => rfl) (fun f cdv A outer s H E hr x hx => ?_)
  refine ⟨_, (pss_one (ps_ret (pe_lc (own := [("n", 3)]) rfl sc_steps_on.nd (pi_list (pe_met (met_neighbours T) T.cN hr (by first | decide | exact Nat.le_refl _) (pv 0) (pa_cons (pv 2) pa_nil))) (blkOk_by (N := N_steps_on) (sc := defScope s_steps_on) (by decide +kernel)) (fun _ _ _ _ _ => (pg_name (i := 3) sc_steps_on.nd rfl (Or.inl rfl))) (fun _ _ _ _ _ => (pts_one (PW.pt (pw_and (pt_cmp (pc_notN (pe_ix (ix_listK K rfl) (pv 1) (pv 3) (fun _ _ => rfl)))) (pw_and1 (pt_cmpR op_eq (pe_op op_add (pe_met (met_weight T) T.cN hr (by first | decide | exact Nat.le_refl _) (pv 0) (pa_cons (pv 2) (pa_cons (pv 3) pa_nil))) (pe_ix (ix_listK K rfl) (pv 1) (pv 3) (fun _ _ => rfl))) (pe_ix (ix_listK K rfl) (pv 1) (pv 2) (fun _ _ => rfl)) (nomark _))))))) (fun _ _ _ _ _ => (pv 3))))), ?_⟩
  obtain ⟨n, ts, t, a⟩ := x
  obtain ⟨F, ht, ha⟩ := hx
  have F : NetFacts n ts := F
  have ht : t < n := ht
  have ha : a < n := ha
  have n2 := F.n2
  show SD K _ [.sh (netD C n ts), .rd (.lst (xsD (DT n ts t))), .sh (.int (a : Int)), .no] { nx := fun _ => False, rt := ROwn K (.lst (natsD (stL n ts (DT n ts t) a))) }
  have lX := DT_len n ts t
  have hcl := fun b w y => DT_closed (n := n) (t := t) (a := a) (b := b) (ts := ts) (w := w) (y := y) F ht
  rw [← nb_st]
  generalize DT n ts t = X at *
  refine sd_retO (eo_lc (xs := nbL n ts a) (emb := fun b : Nat => .sh (.int (b : Int))) (f := fun b => onB ts X a b) (v := fun b : Nat => D.int (b : Int)) (ei_c (ei_mm (f := fun b : Nat => D.int (b : Int)) (w := Sl.sh) (ei_l (ed_eo (eo_meth (n, ts, a) ⟨F, ha⟩ (ed_var rfl) (by decide) (ea_sh (ed_var rfl) ea_nil) rfl)))))
    (by
      have := List.length_filter_le (fun b => (wOf ts a b).isSome) (List.range n)
      rw [List.length_range] at this
      exact Nat.le_trans this (by omega)) fun i b hb => bg_name (by simp) ?_) fun _ _ _ _ z => z
  obtain ⟨h1, h2⟩ := List.mem_filter.mp (List.mem_of_getElem? hb)
  have hbn : b < n := List.mem_range.mp h1
  obtain ⟨w', hw⟩ := Option.isSome_iff_exists.mp h2
  have sb : ER K (tOp (rIxL K) (tVar 1) (tVar 3)) [.sh (netD C n ts), .rd (.lst (xsD X)), .sh (.int (a : Int)), .sh (.int (b : Int))] (optI (Ds.at_ X b)) := er_ixL (l := b) (er_rd rfl) (ed_var rfl) rfl (xs_at (by omega))
  have sa : ER K (tOp (rIxL K) (tVar 1) (tVar 2)) [.sh (netD C n ts), .rd (.lst (xsD X)), .sh (.int (a : Int)), .sh (.int (b : Int))] (optI (Ds.at_ X a)) := er_ixL (l := a) (er_rd rfl) (ed_var rfl) rfl (xs_at (by omega))
  refine ⟨?_, fun _ => ed_var rfl⟩
  cases eb : Ds.at_ X b with
  | none =>
    rw [eb] at sb
    rw [onB_none eb]
    exact et_and (a := false) (b := false) (et_test (ed_is (ed_notN sb) rfl)) fun h => nomatch h
  | some y =>
    rw [eb] at sb
    obtain ⟨x, ex⟩ := hcl b w' y hw eb
    rw [ex] at sa
    rw [onB_is hw eb ex]
    exact et_and (a := true) (et_test (ed_is (ed_notN sb) rfl)) fun _ => et_test (ed_eqI (ed_i0 (ed_is (ed_meth (n, ts, a, b) ⟨F, ha, hbn⟩ (ed_var rfl) (by decide) (ea_sh (ed_var rfl) (ea_sh (ed_var rfl) ea_nil)) rfl) (by show optI (wOf ts a b) = _; rw [hw]; rfl)) (er_int sb)) (er_int sa))
def oN : Option Nat → D
  | none => .non
  | some b => .int (b : Int)
theorem oN_non (o : Option Nat) : (oN o).isNon = o.isNone := by cases o <;> rfl
noncomputable abbrev nx (n : Nat) (ts : List Tie) (t a : Nat) : Option Nat := (stL n ts (DT n ts t) a).head?
noncomputable abbrev sp_step (K : PySem.W.Frag) (C : Addr) : Sp := spSh K (fun x : Nat × List Tie × Nat × Nat => NetFacts x.1 x.2.1 ∧ x.2.2.1 < x.1 ∧ x.2.2.2 < x.1) (fun x => [(true, netD C x.1 x.2.1), (false, .lst (xsD (DT x.1 x.2.1 x.2.2.1))), (true, .int x.2.2.2)]) (fun x => oN (nx x.1 x.2.1 x.2.2.1 x.2.2.2))
theorem cal_step (T : Tx K mg C fI CD fD) : Cal P w K mg base 5 "step_on" (sp_step K C) := by
  refine T.d_step_on.sh sc_step_on (fun _ => rfl) (by decide) (fun _ _ _ _ _ _ us hl => match us, hl with | [_, _, _], _ => rfl) (fun f cdv A outer s H E hr x hx => ?_)
  refine ⟨_, (pss_cons (ps_set (i := 3) sc_step_on.nd rfl (Or.inl rfl) (pe_cal (cal_steps T) hr (by first | decide | exact Nat.le_refl _) (by rfl) (pa_cons (pv 0) (pa_cons (pv 1) (pa_cons (pv 2) pa_nil))))) (pss_one (ps_ret (pe_ifExp (pt_truth (pv 3) (by intro _; rfl)) (pe_ix ix_list (pv 3) pe_int (fun _ _ => rfl)) pe_non)))), ?_⟩
  obtain ⟨n, ts, t, a⟩ := x
  obtain ⟨F, ht, ha⟩ := hx
  have F : NetFacts n ts := F
  have ht : t < n := ht
  have ha : a < n := ha
  show SD K _ [.sh (netD C n ts), .rd (.lst (xsD (DT n ts t))), .sh (.int (a : Int)), .no] { nx := fun _ => oN (nx n ts t a) = D.non, rt := RSh K (oN (nx n ts t a)) }
  refine sd_seq (sd_asg (ed_eo (eo_call (n, ts, t, a) ⟨F, ht, ha⟩ (ea_sh (ed_var rfl) (ea_rd (er_rd rfl) (ea_sh (ed_var rfl) ea_nil))))) ?_)
  show SD K _ [.sh (netD C n ts), .rd (.lst (xsD (DT n ts t))), .sh (.int (a : Int)), .sh (.lst (natsD (stL n ts (DT n ts t) a)))] _
  unfold nx
  generalize stL n ts (DT n ts t) a = L
  refine sd_ret (ed_if (b := !(natsD L).isEmpty) (et_tru (ed_er (ed_var rfl))) (fun h => ?_) fun h => ?_) fun _ _ _ _ z => z
  · cases L with
    | nil => cases h
    | cons b l => exact ed_ixL (l := 0) (ed_var rfl) ed_int rfl rfl
  · cases L with
    | nil => exact ed_non
    | cons b l => cases h
/-- the way on, by the first of the next houses -/
noncomputable def wayF (n : Nat) (ts : List Tie) (t : Nat) : Nat → Nat → List Nat
  | 0, a => [a]
  | f + 1, a => if a = t then [a] else a :: wayF n ts t f ((stL n ts (Ds.DL (edgesT ts) n t) a).headD 0)
theorem way_t (n : Nat) (ts : List Tie) (t : Nat) : ∀ f, wayF n ts t f t = [t]
  | 0 => rfl
  | f + 1 => if_pos rfl
theorem way_step {n t f a b : Nat} {ts : List Tie} {l : List Nat} (hat : a ≠ t) (e : stL n ts (Ds.DL (edgesT ts) n t) a = b :: l) : wayF n ts t (f + 1) a = a :: wayF n ts t f b := by
  show (if a = t then [a] else a :: wayF n ts t f ((stL n ts (Ds.DL (edgesT ts) n t) a).headD 0)) = _
  rw [if_neg hat, e]
  rfl
def lessB (X : Ds.Xs) (a c : Nat) : Bool := match Ds.at_ X c, Ds.at_ X a with
  | some y, some x => decide (y < x)
  | _, _ => false
theorem lessB_is {X : Ds.Xs} {a c : Nat} {x : Int} (h : Ds.at_ X a = some x) : lessB X a c = true ↔ ∃ y, Ds.at_ X c = some y ∧ y < x := by
  unfold lessB
  cases e : Ds.at_ X c with
  | none => exact ⟨fun z => (nomatch z), fun ⟨y, z, _⟩ => (nomatch z)⟩
  | some y =>
    rw [h]
    exact ⟨fun z => ⟨y, rfl, of_decide_eq_true z⟩, fun ⟨y', z, q⟩ => by cases z; exact decide_eq_true q⟩
/-- how many are nearer -/
def rk (n : Nat) (X : Ds.Xs) (a : Nat) : Nat := ((List.range n).filter (lessB X a)).length
theorem rk_lt {n a b : Nat} {X : Ds.Xs} {x y : Int} (ha : Ds.at_ X a = some x) (hb : Ds.at_ X b = some y) (h : y < x) (hn : b < n) : rk n X b < rk n X a := by
  refine Ds.filter_lt (fun c _ hc => ?_) ⟨b, List.mem_range.mpr hn, (lessB_is ha).2 ⟨y, hb, h⟩, ?_⟩
  · obtain ⟨z, hz, hlt⟩ := (lessB_is hb).1 hc
    exact (lessB_is ha).2 ⟨z, hz, by omega⟩
  · cases q : lessB X b b with
    | false => rfl
    | true =>
      obtain ⟨z, hz, hlt⟩ := (lessB_is hb).1 q
      rw [hb] at hz
      cases hz
      omega
/-- the whole way from a -/
noncomputable def wayL (n : Nat) (ts : List Tie) (t a : Nat) : List Nat := wayF n ts t n a
/-- the way so far: p, then a; f more steps at most -/
structure WayI (n : Nat) (ts : List Tie) (t a0 f : Nat) (p : List Nat) (a : Nat) : Prop where
  an : a < n
  val : ∃ x : Int, Ds.at_ (DT n ts t) a = some x
  rk : rk n (DT n ts t) a ≤ f
  all : p ++ wayF n ts t f a = wayL n ts t a0
  few : p.length + f ≤ n
theorem way_start {n t a : Nat} {ts : List Tie} {x : Int} (ha : a < n) (h : Ds.at_ (DT n ts t) a = some x) : WayI n ts t a n [] a := by
  refine ⟨ha, ⟨x, h⟩, ?_, rfl, by show 0 + n ≤ n; omega⟩
  unfold rk
  refine Nat.le_trans (List.length_filter_le _ _) ?_
  rw [List.length_range]
  exact Nat.le_refl _
theorem way_more {n t a0 f a : Nat} {ts : List Tie} {p : List Nat} (F : NetFacts n ts) (ht : t < n) (I : WayI n ts t a0 f p a) (hat : a ≠ t) : ∃ b l g, stL n ts (DT n ts t) a = b :: l ∧ f = g + 1 ∧ WayI n ts t a0 g (p ++ [a]) b := by
  obtain ⟨x, hx⟩ := I.val
  obtain ⟨b, l, e, hb, y, hy, hlt⟩ := st_some F ht hx I.an hat
  have hr := rk_lt hx hy hlt hb
  have hf := I.rk
  obtain ⟨g, rfl⟩ : ∃ g, f = g + 1 := ⟨f - 1, by omega⟩
  refine ⟨b, l, g, e, rfl, hb, ⟨y, hy⟩, by omega, ?_, ?_⟩
  · have := I.all
    rw [way_step hat e] at this
    rw [List.append_assoc]
    exact this
  · have := I.few
    rw [List.length_append]
    show p.length + 1 + g ≤ _
    omega
theorem natsD_snoc (l : List Nat) (b : Nat) : natsD (l ++ [b]) = natsD l ++ [D.int (b : Int)] := List.map_append
theorem natsD_last (l : List Nat) (b : Nat) : (natsD (l ++ [b]))[(natsD (l ++ [b])).length - 1]? = some (.int (b : Int)) := by
  rw [natsD_snoc, List.length_append]
  show (natsD l ++ [D.int (b : Int)])[(natsD l).length + 1 - 1]? = _
  rw [Nat.add_sub_cancel, List.getElem?_append_right (Nat.le_refl _), Nat.sub_self]
  rfl
theorem natsD_pos (l : List Nat) (b : Nat) : 0 < (natsD (l ++ [b])).length := by
  rw [natsD_snoc, List.length_append]
  show 0 < _ + 1
  omega
noncomputable abbrev sp_lway (K : PySem.W.Frag) (C : Addr) : Sp := spOr
  (spSh K (fun x : Nat × List Tie × Nat × Nat => (NetFacts x.1 x.2.1 ∧ x.2.2.1 < x.1 ∧ x.2.2.2 < x.1) ∧ Ds.at_ (DT x.1 x.2.1 x.2.2.1) x.2.2.2 = none) (fun x => [(true, netD C x.1 x.2.1), (true, .int x.2.2.2), (true, .int x.2.2.1)]) (fun _ => .non))
  (spOw K (fun x : Nat × List Tie × Nat × Nat => (NetFacts x.1 x.2.1 ∧ x.2.2.1 < x.1 ∧ x.2.2.2 < x.1) ∧ ∃ v : Int, Ds.at_ (DT x.1 x.2.1 x.2.2.1) x.2.2.2 = some v) (fun x => [(true, netD C x.1 x.2.1), (true, .int x.2.2.2), (true, .int x.2.2.1)]) (fun x => .lst (natsD (wayL x.1 x.2.1 x.2.2.1 x.2.2.2))))
theorem cal_lway (T : Tx K mg C fI CD fD) : Cal P w K mg base 6 "least_way" (sp_lway K C) := by
  refine T.d_least_way.or sc_least_way (fun _ => rfl) (by decide) (fun _ _ _ _ _ _ us hl => match us, hl with | [_, _, _], _ => rfl) (fun f cdv A outer s H E hr => ?_)
  refine ⟨_, (pss_cons (ps_expr (pe_cal (cal_refuse_houses T) hr (by first | decide | exact Nat.le_refl _) (by rfl) (pa_cons (pe_fld (pv 0) rfl) (pa_cons (pe_lst (pa_cons (pv 1) (pa_cons (pv 2) pa_nil))) pa_nil)))) (pss_cons (ps_set (i := 3) sc_least_way.nd rfl (Or.inl rfl) (pe_cal (cal_dists T) hr (by first | decide | exact Nat.le_refl _) (by rfl) (pa_cons (pv 0) (pa_cons (pv 2) pa_nil)))) (pss_cons (ps_if (pt_cmp (pc_isN (pe_ix ix_list (pv 3) (pv 1) (fun _ _ => rfl)))) (pss_one (ps_ret pe_non)) pss_nil) (pss_cons (ps_set (i := 4) sc_least_way.nd rfl (Or.inl rfl) (pe_lst (pa_cons (pv 1) pa_nil))) (pss_cons (ps_while PassesOwn.never (pt_cmpR op_ne (pe_ix ix_list (pv 4) (pe_un un_neg pe_int) (fun _ _ => rfl)) (pv 2) (nomark _)) (pss_one (ps_expr (pe_bm PySem.F.plainAttrs_list PySem.F.slot_list_append PySem.F.type_list_append mt_append (pv 4) (pa_cons (pe_cal (cal_step T) hr (by first | decide | exact Nat.le_refl _) (by rfl) (pa_cons (pv 0) (pa_cons (pv 3) (pa_cons (pe_ix ix_list (pv 4) (pe_un un_neg pe_int) (fun _ _ => rfl)) pa_nil)))) pa_nil))))) (pss_one (ps_ret (pv 4)))))))), fun x hx => ?_, fun x hx => ?_⟩
  all_goals
    obtain ⟨n, ts, t, a⟩ := x
    obtain ⟨⟨F, ht, ha⟩, hv⟩ := hx
    have F : NetFacts n ts := F
    have ht : t < n := ht
    have ha : a < n := ha
    have n2 := F.n2
    have pre : ∀ {ρ : List Sl}, ρ[0]? = some (.sh (netD C n ts)) → ρ[1]? = some (.sh (.int (a : Int))) → ρ[2]? = some (.sh (.int (t : Int))) → ED K (tCall (sp_refuse_houses K) [] E0 (tCons (tFld K (tVar 0) "count") (tCons (tLst (tCons (tVar 1) (tCons (tVar 2) tNil))) tNil))) ρ .non := fun e0 e1 e2 => ed_call ((n : Int), [(a : Int), (t : Int)]) (fun m hm => by
      show 0 ≤ m ∧ m < (n : Int)
      have hm : m ∈ ([(a : Int), (t : Int)] : List Int) := hm
      simp only [List.mem_cons, List.not_mem_nil, or_false] at hm
      omega) (ea_sh (ed_fld (l := 0) (ed_var e0) T.cN T.n_count (by decide +kernel) rfl rfl) (ea_rd (ed_er (ed_eo (eo_lst (eb_cons (ed_var e1) (eb_cons (ed_var e2) eb_nil))))) ea_nil))
  · have hv : Ds.at_ (DT n ts t) a = none := hv
    show SD K _ [.sh (netD C n ts), .sh (.int (a : Int)), .sh (.int (t : Int)), .no, .no] { nx := fun _ => D.non = D.non, rt := RSh K .non }
    refine sd_seq (sd_drop (ed_er (pre rfl rfl rfl)) ?_)
    refine sd_seq (sd_asg (ed_eo (eo_call (n, ts, t) ⟨F, ht⟩ (ea_sh (ed_var rfl) (ea_sh (ed_var rfl) ea_nil)))) ?_)
    exact sd_seq (sd_if (b := true) (et_test (ed_is (ed_isN (ed_er (ed_ixL (l := a) (ed_var rfl) (ed_var rfl) rfl (xs_at (by rw [DT_len]; exact ha))))) (by rw [hv]; rfl))) (fun _ => sd_ret ed_non fun _ _ _ _ z => z) fun h => nomatch h)
  · obtain ⟨v, hv⟩ := hv
    have hv : Ds.at_ (DT n ts t) a = some v := hv
    show SD K _ [.sh (netD C n ts), .sh (.int (a : Int)), .sh (.int (t : Int)), .no, .no] { nx := fun _ => False, rt := ROwn K (.lst (natsD (wayL n ts t a))) }
    refine sd_seq (sd_drop (ed_er (pre rfl rfl rfl)) ?_)
    refine sd_seq (sd_asg (ed_eo (eo_call (n, ts, t) ⟨F, ht⟩ (ea_sh (ed_var rfl) (ea_sh (ed_var rfl) ea_nil)))) ?_)
    refine sd_seq (sd_if (b := false) (et_test (ed_is (ed_isN (ed_er (ed_ixL (l := a) (ed_var rfl) (ed_var rfl) rfl (xs_at (by rw [DT_len]; exact ha))))) (by rw [hv]; rfl))) (fun h => nomatch h) fun _ => sd_next ?_)
    refine sd_seq (sd_asgO (eo_lst (eb_cons (ed_var rfl) eb_nil)) (by simp) ?_)
    refine sd_seq (sd_while (fun f r => ∃ p b, r = [.sh (netD C n ts), .sh (.int (a : Int)), .sh (.int (t : Int)), .sh (.lst (xsD (DT n ts t))), .own (.lst (natsD (p ++ [b])))] ∧ WayI n ts t a f p b) n ⟨[], a, rfl, way_start ha hv⟩ ?_)
    rintro f r ⟨p, b, rfl, I⟩
    have hlast : ED K (tOp (rIxL K) (tVar 4) (tUn (rU fun i => .int (-i)) (tC (.int 1)))) [.sh (netD C n ts), .sh (.int (a : Int)), .sh (.int (t : Int)), .sh (.lst (xsD (DT n ts t))), .own (.lst (natsD (p ++ [b])))] (.int (b : Int)) := ed_lastO rfl (ed_neg ed_int) (natsD_pos p b) (natsD_last p b)
    refine ⟨!decide ((b : Int) = (t : Int)), et_test (ed_neI hlast (ed_var rfl)), fun h => ?_, fun h => ?_⟩
    · have hbt : b ≠ t := fun z => by
        subst z
        rw [decide_eq_true rfl] at h
        cases h
      obtain ⟨c, l, g, e, rfl, I'⟩ := way_more F ht I hbt
      refine sd_app rfl (d := .int (c : Int)) (ed_is (ed_call (n, ts, t, b) ⟨F, ht, I.an⟩ (ea_sh (ed_var rfl) (ea_rd (ed_er (ed_var rfl)) (ea_sh hlast ea_nil)))) (by show oN (nx n ts t b) = _; unfold nx; rw [e]; rfl)) ?_ ⟨g, by omega, p ++ [b], c, by rw [natsD_snoc (p ++ [b])]; rfl, I'⟩
      · have := I.few
        rw [List.length_map, List.length_append]
        show p.length + 1 < 100000
        omega
    · have hbt : b = t := by
        have h : decide ((b : Int) = (t : Int)) = true := by
          cases q : decide ((b : Int) = (t : Int)) with
          | true => rfl
          | false => rw [q] at h; cases h
        have := of_decide_eq_true h
        omega
      subst hbt
      have e := I.all
      rw [way_t] at e
      rw [e]
      exact sd_retVar rfl fun _ _ _ _ z => z
abbrev dctD (ts : List Tie) : D := .dct (wKeys ts) (wVals ts)
theorem keys_edges : ∀ {ts : List Tie}, (∀ t, t ∈ ts → 0 ≤ t.1 ∧ 0 ≤ t.2.1) → wKeys ts = (edgesT ts).map fun e => intK [(e.1 : Int), (e.2.1 : Int)]
  | [], _ => rfl
  | t :: ts, h => by
    have h0 := h t List.mem_cons_self
    show intK [t.1, t.2.1] :: intK [t.2.1, t.1] :: wKeys ts = intK [((t.1.toNat : Nat) : Int), ((t.2.1.toNat : Nat) : Int)] :: intK [((t.2.1.toNat : Nat) : Int), ((t.1.toNat : Nat) : Int)] :: (edgesT ts).map fun e => intK [(e.1 : Int), (e.2.1 : Int)]
    rw [Int.toNat_of_nonneg h0.1, Int.toNat_of_nonneg h0.2, keys_edges fun t ht => h t (List.mem_cons_of_mem _ ht)]
noncomputable abbrev dd (n : Nat) (ts : List Tie) (t a : Nat) : Option Int := Ds.at_ (DT n ts t) a
theorem edge_back {ts : List Tie} {a b : Nat} {w : Int} (h : (a, b, w) ∈ edgesT ts) : ∃ w', (b, a, w') ∈ edgesT ts := by
  obtain ⟨u, hu, e⟩ := edges_mem h
  rcases e with e | e <;> cases e
  · exact ⟨u.2.2.2, List.mem_flatMap.mpr ⟨u, hu, by simp⟩⟩
  · exact ⟨u.2.2.1, List.mem_flatMap.mpr ⟨u, hu, by simp⟩⟩
theorem dd_is {n t a : Nat} {ts : List Tie} (ha : a < n) : dd n ts t a = Ds.dst (edgesT ts) t a := Ds.at_DL ha
theorem dd_self {n t : Nat} {ts : List Tie} (ht : t < n) : dd n ts t t = some 0 := by rw [dd_is ht]; exact Ds.dst_t
theorem dd_pos {n t a : Nat} {ts : List Tie} {x : Int} (ha : a < n) (h : dd n ts t a = some x) : 0 ≤ x := by
  rw [dd_is ha] at h
  exact Ds.dst_pos h
theorem wOf_lt {n a b : Nat} {ts : List Tie} {w : Int} (F : NetFacts n ts) (h : wOf ts a b = some w) : a < n ∧ b < n ∧ 1 ≤ w ∧ a ≠ b := by
  obtain ⟨u, hu, e⟩ := edges_mem (wOf_mem h)
  have h1 := F.lt u hu
  have h2 := F.ws u hu
  rcases e with e | e <;> cases e
  · exact ⟨by omega, by omega, h2.1, by omega⟩
  · exact ⟨by omega, by omega, h2.2, by omega⟩
/-- one step: from a by b -/
theorem dd_step {n t a b : Nat} {ts : List Tie} {w y : Int} (F : NetFacts n ts) (ht : t < n) (h : wOf ts a b = some w) (hb : dd n ts t b = some y) : ∃ x, dd n ts t a = some x ∧ x ≤ w + y := by
  obtain ⟨ha, hb', _⟩ := wOf_lt F h
  rw [dd_is hb'] at hb
  rw [dd_is ha]
  exact Ds.dst_closed (F.wf ht) (wOf_mem h) hb
theorem wOf_back {n a b : Nat} {ts : List Tie} {w : Int} (F : NetFacts n ts) (h : wOf ts a b = some w) : ∃ w', wOf ts b a = some w' := by
  obtain ⟨w', hw⟩ := edge_back (wOf_mem h)
  exact ⟨w', mem_wOf F hw⟩
theorem nx_some {n t a e : Nat} {ts : List Tie} (h : nx n ts t a = some e) : e < n ∧ onB ts (DT n ts t) a e = true := by
  unfold nx at h
  cases q : stL n ts (DT n ts t) a with
  | nil => rw [q] at h; cases h
  | cons b l =>
    rw [q] at h
    cases h
    exact st_lt (by rw [q]; exact List.mem_cons_self)
def wS (h : Bool) : Str := if h = true then "house" else "tie"
theorem wS_tie (h : Bool) : decide (wS h = "tie") = !h := by cases h <;> decide
abbrev Tb := List (Option Nat)
abbrev tbD (tb : Tb) : List D := tb.map oN
structure TbOk (tb : Tb) : Prop where
  few : tb.length ≤ 100
  lt : ∀ b, some b ∈ tb → b < tb.length
theorem tb_ints (tb : Tb) : (tb.filter fun o => o.isSome).map oN = ((tb.filterMap id).map fun b : Nat => (b : Int)).map D.int := by
  induction tb with
  | nil => rfl
  | cons o tb ih =>
    cases o with
    | none => exact ih
    | some b =>
      show oN (some b) :: (tb.filter fun o => o.isSome).map oN = _
      rw [ih]
      rfl
abbrev sp_rtable (K : PySem.W.Frag) : Sp := spSh K TbOk (fun tb => [(true, .lst (tbD tb))]) (fun _ => .non)
theorem cal_rtable (T : Tx K mg C fI CD fD) : Cal P w K mg base 3 "refuse_table" (sp_rtable K) := by
  refine T.d_refuse_table.sh sc_refuse_table (fun _ => rfl) (by decide) (fun _ _ _ _ _ _ us hl => match us, hl with | [_], _ => rfl) (fun f cdv A outer s H E hr tb hx => ?_)
  refine ⟨_, (pss_one (ps_expr (pe_cal (cal_refuse_houses T) hr (by first | decide | exact Nat.le_refl _) (by rfl) (pa_cons (pe_callB call_len_seq (by rfl) T.z_len PySem.boot_len (pa_cons (pv 0) pa_nil)) (pa_cons (pe_lc (own := [("house", 1)]) rfl sc_refuse_table.nd (pi_list (pv 0)) (blkOk_by (N := N_refuse_table) (sc := defScope s_refuse_table) (by decide +kernel)) (fun _ _ _ _ _ => (pg_name (i := 1) sc_refuse_table.nd rfl (Or.inl rfl))) (fun _ _ _ _ _ => (pts_one (pt_cmp (pc_notN (pv 1))))) (fun _ _ _ _ _ => (pv 1))) pa_nil))))), ?_⟩
  have hx : TbOk tb := hx
  have few := hx.few
  show SD K _ [.sh (.lst (tbD tb)), .no] { nx := fun _ => D.non = D.non, rt := RSh K .non }
  refine sd_drop (d := .non) (ed_er (ed_call ((tb.length : Int), (tb.filterMap id).map fun b : Nat => (b : Int)) (fun m hm => ?_) (ea_sh (ed_is (ed_len (ed_er (ed_var rfl))) (congrArg D.int (by rw [List.length_map]))) (ea_rd (ed_er (ed_eo (eo_is (eo_lc (xs := tb) (emb := fun o => .sh (oN o)) (f := fun o => o.isSome) (v := oN) (ei_c (ei_mm (ei_l (ed_var rfl)))) (by omega)
    fun i o ho => bg_name (by simp) ⟨et_is (et_test (ed_notN (ed_er (ed_var rfl)))) (by rw [oN_non]; cases o <;> rfl), fun _ => ed_var rfl⟩) (congrArg M.lst (tb_ints tb))))) ea_nil)))) rfl
  obtain ⟨b, hb, rfl⟩ := List.mem_map.mp hm
  obtain ⟨o, ho, e⟩ := List.mem_filterMap.mp hb
  have e : o = some b := e
  subst e
  have := hx.lt b ho
  show 0 ≤ (b : Int) ∧ (b : Int) < (tb.length : Int)
  omega
noncomputable abbrev nxT (n : Nat) (ts : List Tie) (t : Nat) : Tb := (List.range n).map fun a => nx n ts t a
theorem nxT_ok {n t : Nat} {ts : List Tie} (F : NetFacts n ts) : TbOk (nxT n ts t) := by
  have n2 := F.n2
  refine ⟨by rw [List.length_map, List.length_range]; omega, fun b hb => ?_⟩
  obtain ⟨a, _, e⟩ := List.mem_map.mp hb
  rw [List.length_map, List.length_range]
  exact (nx_some e).1
noncomputable abbrev sp_ntab (K : PySem.W.Frag) (C : Addr) : Sp := spOw K (fun x : Nat × List Tie × Nat => NetFacts x.1 x.2.1 ∧ x.2.2 < x.1) (fun x => [(true, netD C x.1 x.2.1), (true, .int x.2.2)]) (fun x => .lst (tbD (nxT x.1 x.2.1 x.2.2)))
theorem cal_ntab (T : Tx K mg C fI CD fD) : Cal P w K mg base 6 "next_table" (sp_ntab K C) := by
  refine T.d_next_table.ow sc_next_table (fun _ => rfl) (by decide) (fun _ _ _ _ _ _ us hl => match us, hl with | [_, _], _ => rfl) (fun f cdv A outer s H E hr x hx => ?_)
  refine ⟨_, (pss_cons (ps_expr (pe_cal (cal_refuse_houses T) hr (by first | decide | exact Nat.le_refl _) (by rfl) (pa_cons (pe_fld (pv 0) rfl) (pa_cons (pe_lst (pa_cons (pv 1) pa_nil)) pa_nil)))) (pss_cons (ps_set (i := 2) sc_next_table.nd rfl (Or.inr rfl) (pe_cal (cal_dists T) hr (by first | decide | exact Nat.le_refl _) (by rfl) (pa_cons (pv 0) (pa_cons (pv 1) pa_nil)))) (pss_one (ps_ret (pe_lc (own := [("a", 3)]) rfl sc_next_table.nd (pi_range1 (by rfl) T.z_range (pa_cons (pe_fld (pv 0) rfl) pa_nil)) (blkOk_by (N := N_next_table) (sc := defScope s_next_table) (by decide +kernel)) (fun _ _ _ _ _ => (pg_name (i := 3) sc_next_table.nd rfl (Or.inl rfl))) (fun _ _ _ _ _ => pts_nil) (fun _ _ _ _ _ => (pe_cal (cal_step T) hr (by first | decide | exact Nat.le_refl _) (by rfl) (pa_cons (pv 0) (pa_cons (pv 2) (pa_cons (pv 3) pa_nil)))))))))), ?_⟩
  obtain ⟨n, ts, t⟩ := x
  obtain ⟨F, ht⟩ := hx
  have F : NetFacts n ts := F
  have ht : t < n := ht
  have n2 := F.n2
  show SD K _ [.sh (netD C n ts), .sh (.int (t : Int)), .no, .no] { nx := fun _ => False, rt := ROwn K (.lst (tbD (nxT n ts t))) }
  refine sd_seq (sd_drop (d := .non) (ed_er (ed_call ((n : Int), [(t : Int)]) (fun m hm => by
    show 0 ≤ m ∧ m < (n : Int)
    rw [List.mem_singleton.mp hm]
    omega) (ea_sh (ed_fld (l := 0) (ed_var rfl) T.cN T.n_count (by decide +kernel) rfl rfl) (ea_rd (ed_er (ed_eo (eo_lst (eb_cons (ed_var rfl) eb_nil)))) ea_nil)))) ?_)
  refine sd_seq (sd_asg (ed_eo (eo_call (n, ts, t) ⟨F, ht⟩ (ea_sh (ed_var rfl) (ea_sh (ed_var rfl) ea_nil)))) ?_)
  exact sd_retO (eo_is (eo_lc (xs := List.range n) (emb := fun k : Nat => .sh (.int (k : Int))) (f := fun _ => true) (v := fun a => oN (nx n ts t a)) (ei_c (ei_r1 (i := (n : Int)) (eb_cons (ed_fld (l := 0) (ed_var rfl) T.cN T.n_count (by decide +kernel) rfl rfl) eb_nil) (by omega))) (by rw [List.length_range]; omega)
    fun i a ha => bg_name (by simp) ⟨et_yes, fun _ => ed_call (n, ts, t, a) ⟨F, ht, List.mem_range.mp (List.mem_of_getElem? ha)⟩ (ea_sh (ed_var rfl) (ea_rd (ed_er (ed_var rfl)) (ea_sh (ed_var rfl) ea_nil)))⟩) (by
      rw [all_true]
      show _ = M.lst (List.map _ (List.map _ (List.range n)))
      rw [List.map_map]
      rfl)) fun _ _ _ _ z => z
/-- a tie the one way or the other -/
def Flip (u t : Tie) : Prop := t = u ∨ t = (u.2.1, u.1, u.2.2.2, u.2.2.1)
structure Handed (ts hs : List Tie) : Prop where
  pm : (hs.map lf).Perm ts
  ea : ∀ t, t ∈ hs → ∃ u, u ∈ ts ∧ Flip u t
theorem pairT_flip {u t : Tie} (h : Flip u t) : pairT t = pairT u := by
  rcases h with rfl | rfl
  · rfl
  · unfold pairT pairL
    show ([_, _] : List Int) = [_, _]
    simp only [List.cons.injEq, and_true]
    constructor <;> repeat' split <;> omega
theorem pairT_lf (t : Tie) : pairT (lf t) = pairT t := by
  unfold lf
  split
  · rfl
  · exact pairT_flip (.inr rfl)
theorem lf_flip {n : Nat} {ts : List Tie} (F : NetFacts n ts) {u t : Tie} (hu : u ∈ ts) (h : Flip u t) : lf t = u := by
  have l := F.lt u hu
  unfold lf
  rcases h with rfl | rfl
  · exact if_pos l.2.1
  · exact if_neg (fun z => by
      have z : u.2.1 < u.1 := z
      omega)
theorem handed_ok {n : Nat} {ts hs : List Tie} (F : NetFacts n ts) (h : Handed ts hs) : NetOk (n : Int) hs ts := by
  have few := F.few
  have ln : hs.length = ts.length := by rw [← h.pm.length_eq, List.length_map]
  refine ⟨by have := F.n2; omega, ⟨by omega, fun t ht => ?_, fun t ht => ?_, ?_, fun t ht => ?_⟩, h.pm.symm, F.srt, F.keys⟩
  · obtain ⟨u, hu, e⟩ := h.ea t ht
    have := F.lt u hu
    rcases e with rfl | rfl
    · exact ⟨⟨by omega, by omega⟩, by omega, by omega⟩
    · exact ⟨⟨by show 0 ≤ u.2.1; omega, by show u.2.1 < _; omega⟩, by show 0 ≤ u.1; omega, by show u.1 < _; omega⟩
  · obtain ⟨u, hu, e⟩ := h.ea t ht
    have := F.lt u hu
    rcases e with rfl | rfl
    · exact fun z => by omega
    · exact fun z => by
        have z : u.2.1 = u.1 := z
        omega
  · have e : hs.map pairT = (hs.map lf).map pairT := by
      rw [List.map_map]
      exact List.map_congr_left fun t _ => (pairT_lf t).symm
    rw [e]
    refine (h.pm.map pairT).nodup_iff.mpr ?_
    refine List.pairwise_map.mpr (List.pairwise_iff_getElem.mpr fun i j hi hj hij => ?_)
    have q := (List.pairwise_iff_getElem.mp F.so) i j hi hj hij
    have l1 := F.lt _ (List.getElem_mem hi)
    have l2 := F.lt _ (List.getElem_mem hj)
    unfold TLt at q
    unfold pairT pairL
    intro z
    simp only [List.cons.injEq, and_true] at z
    obtain ⟨z1, z2⟩ := z
    revert z1 z2
    repeat' split
    all_goals omega
  · obtain ⟨u, hu, e⟩ := h.ea t ht
    have := F.ws u hu
    rcases e with rfl | rfl
    · exact this
    · exact ⟨this.2, this.1⟩
/-- the ties so far: the houses before l whole, of l those before l + 1 + m -/
structure NtI (n l m : Nat) (lk : Bool) (ts : List Tie) : Prop where
  lt : ∀ t, t ∈ ts → 0 ≤ t.1 ∧ t.1 < t.2.1 ∧ t.2.1 < (n : Int)
  be : ∀ t, t ∈ ts → t.1 < (l : Int) ∨ (t.1 = (l : Int) ∧ t.2.1 < ((l + 1 + m : Nat) : Int))
  ws : ∀ t, t ∈ ts → 1 ≤ t.2.2.1 ∧ 1 ≤ t.2.2.2
  so : ts.Pairwise TLt
  few : ts.length ≤ (pairsTo n l).length + m
  like : lk = true → ∀ t, t ∈ ts → t.2.2.1 = t.2.2.2
theorem NtI.snoc {n l m : Nat} {lk : Bool} {ts : List Tie} {w1 w2 : Int} (I : NtI n l m lk ts) (h : l + 1 + m < n) (h1 : 1 ≤ w1) (h2 : 1 ≤ w2) (h3 : lk = true → w1 = w2) : NtI n l (m + 1) lk (ts ++ [((l : Int), ((l + 1 + m : Nat) : Int), w1, w2)]) := by
  refine ⟨fun t ht => ?_, fun t ht => ?_, fun t ht => ?_, ?_, ?_, fun e t ht => ?_⟩
  · rcases List.mem_append.mp ht with q | q
    · exact I.lt t q
    · rw [List.mem_singleton.mp q]
      exact ⟨by show (0 : Int) ≤ (l : Int); omega, by show (l : Int) < ((l + 1 + m : Nat) : Int); omega, by show ((l + 1 + m : Nat) : Int) < (n : Int); omega⟩
  · rcases List.mem_append.mp ht with q | q
    · have := I.be t q
      omega
    · rw [List.mem_singleton.mp q]
      exact .inr ⟨rfl, by show ((l + 1 + m : Nat) : Int) < ((l + 1 + (m + 1) : Nat) : Int); omega⟩
  · rcases List.mem_append.mp ht with q | q
    · exact I.ws t q
    · rw [List.mem_singleton.mp q]
      exact ⟨h1, h2⟩
  · refine List.pairwise_append.mpr ⟨I.so, List.pairwise_singleton _ _, fun t ht u hu => ?_⟩
    rw [List.mem_singleton.mp hu]
    have := I.be t ht
    show t.1 < (l : Int) ∨ (t.1 = (l : Int) ∧ t.2.1 < ((l + 1 + m : Nat) : Int))
    exact this
  · rw [List.length_append]
    have := I.few
    show _ + 1 ≤ _
    omega
  · rcases List.mem_append.mp ht with q | q
    · exact I.like e t q
    · rw [List.mem_singleton.mp q]
      exact h3 e
instance (i j c : Int) (n : Nat) : Decidable (RgC i j c n) := by unfold RgC; infer_instance
/-- a tie drawn: two unlike houses either way about, weights to mx -/
def DT1 (n : Nat) (mx : Int) (u t : Tie) : Prop := Flip u t ∧ 0 ≤ u.1 ∧ u.1 < u.2.1 ∧ u.2.1 < (n : Int) ∧ 1 ≤ u.2.2.1 ∧ u.2.2.1 ≤ mx ∧ 1 ≤ u.2.2.2 ∧ u.2.2.2 ≤ mx
/-- the ties so far: of houses b before l, and of l those a before m -/
structure DrI (n : Nat) (mx : Int) (l m : Nat) (hs : List Tie) : Prop where
  ok : ∀ t, t ∈ hs → ∃ u, DT1 n mx u t ∧ (u.2.1 < (l : Int) ∨ (u.2.1 = (l : Int) ∧ u.1 < (m : Int)))
  nd : (hs.map pairT).Nodup
  few : hs.length * 2 ≤ l * (l - 1) + 2 * m
theorem pairT_of {u t : Tie} (h : Flip u t) (hu : u.1 < u.2.1) : pairT t = [u.1, u.2.1] := by
  rw [pairT_flip h]
  unfold pairT pairL
  rw [if_neg (by omega), if_pos (by omega)]
theorem ins_perm {α : Type} (l : List α) (x : α) (k : Nat) : (l.take k ++ [x] ++ l.drop k).Perm (x :: l) := by
  rw [List.append_assoc]
  refine (List.perm_append_comm).trans ?_
  show (x :: (l.drop k ++ l.take k)).Perm _
  exact (List.perm_append_comm.trans (by rw [List.take_append_drop])).cons x
theorem DrI.ins {n l m k : Nat} {mx : Int} {hs : List Tie} {u t : Tie} (I : DrI n mx l m hs) (h : DT1 n mx u t) (e1 : u.1 = (m : Int)) (e2 : u.2.1 = (l : Int)) : DrI n mx l (m + 1) (hs.take k ++ [t] ++ hs.drop k) := by
  have p := ins_perm hs t k
  refine ⟨fun v hv => ?_, ?_, ?_⟩
  · rcases List.mem_cons.mp (p.mem_iff.mp hv) with rfl | hv
    · exact ⟨u, h, .inr ⟨e2, by omega⟩⟩
    · obtain ⟨w, h1, h2⟩ := I.ok v hv
      exact ⟨w, h1, by omega⟩
  · refine ((p.map pairT).nodup_iff).mpr (List.nodup_cons.mpr ⟨fun z => ?_, I.nd⟩)
    obtain ⟨v, hv, e⟩ := List.mem_map.mp z
    obtain ⟨w, h1, h2⟩ := I.ok v hv
    rw [pairT_of h1.1 h1.2.2.1, pairT_of h.1 h.2.2.1] at e
    simp only [List.cons.injEq, and_true] at e
    omega
  · have := p.length_eq
    rw [List.length_cons] at this
    have := I.few
    omega
theorem lf_of {u t : Tie} (h : Flip u t) (hu : u.1 < u.2.1) : lf t = u := by
  unfold lf
  rcases h with rfl | rfl
  · exact if_pos hu
  · exact if_neg (fun z => by
      have z : u.2.1 < u.1 := z
      omega)
/-- the ties as handed, either way about -/
structure Hd (n : Nat) (ts hs : List Tie) : Prop where
  F : NetFacts n ts
  h : Handed ts hs
theorem Hd.mem {n : Nat} {ts hs : List Tie} (X : Hd n ts hs) : ∀ e, e ∈ edgesT hs ↔ e ∈ edgesT ts := by
  have fl : ∀ {u t : Tie}, Flip u t → ∀ e : Ds.Edge, e ∈ [(t.1.toNat, t.2.1.toNat, t.2.2.1), (t.2.1.toNat, t.1.toNat, t.2.2.2)] ↔ e ∈ [(u.1.toNat, u.2.1.toNat, u.2.2.1), (u.2.1.toNat, u.1.toNat, u.2.2.2)] := fun {u t} h e => by
    rcases h with rfl | rfl
    · exact Iff.rfl
    · simp only [List.mem_cons, List.not_mem_nil, or_false]
      exact Or.comm
  intro e
  constructor
  · intro he
    obtain ⟨t, ht, he⟩ := List.mem_flatMap.mp he
    obtain ⟨u, hu, f⟩ := X.h.ea t ht
    exact List.mem_flatMap.mpr ⟨u, hu, (fl f e).mp he⟩
  · intro he
    obtain ⟨u, hu, he⟩ := List.mem_flatMap.mp he
    obtain ⟨t, ht, rfl⟩ := List.mem_map.mp (X.h.pm.mem_iff.mpr hu)
    obtain ⟨u', hu', f⟩ := X.h.ea t ht
    rw [lf_flip X.F hu' f] at he
    exact List.mem_flatMap.mpr ⟨t, ht, (fl f e).mpr he⟩
theorem Hd.wO {n : Nat} {ts hs : List Tie} (X : Hd n ts hs) (a b : Nat) : wOf hs a b = wOf ts a b := by
  cases q : wOf hs a b with
  | some w => exact (mem_wOf X.F ((X.mem _).mp (wOf_mem q))).symm
  | none =>
    cases q2 : wOf ts a b with
    | none => rfl
    | some w =>
      have := (X.mem _).mpr (wOf_mem q2)
      unfold wOf at q
      rw [Option.map_eq_none_iff, List.find?_eq_none] at q
      exact absurd (decide_eq_true ⟨rfl, rfl⟩) (q _ this)
theorem Hd.nn {n : Nat} {ts hs : List Tie} (X : Hd n ts hs) : ∀ t, t ∈ hs → 0 ≤ t.1 ∧ 0 ≤ t.2.1 ∧ t.1 < (n : Int) ∧ t.2.1 < (n : Int) ∧ t.1 ≠ t.2.1 := fun t ht => by
  obtain ⟨u, hu, f⟩ := X.h.ea t ht
  have := X.F.lt u hu
  rcases f with rfl | rfl
  · exact ⟨this.1, by omega, by omega, by omega, by omega⟩
  · exact ⟨by show 0 ≤ u.2.1; omega, this.1, by show u.2.1 < _; omega, by show u.1 < _; omega, by show u.2.1 ≠ u.1; omega⟩
theorem Hd.few {n : Nat} {ts hs : List Tie} (X : Hd n ts hs) : hs.length ≤ 66 := by
  have := X.h.pm.length_eq
  rw [List.length_map] at this
  rw [this]
  exact X.F.few
theorem Hd.keys {n : Nat} {ts hs : List Tie} (X : Hd n ts hs) : (wKeys hs).Nodup := by
  have ok := (handed_ok X.F X.h)
  have nd : (hs.map pairT).Nodup := by
    have e : hs.map pairT = (hs.map lf).map pairT := by
      rw [List.map_map]
      exact List.map_congr_left fun t _ => (pairT_lf t).symm
    rw [e]
    refine (X.h.pm.map pairT).nodup_iff.mpr (List.pairwise_map.mpr (List.pairwise_iff_getElem.mpr fun i j hi hj hij => ?_))
    have q := (List.pairwise_iff_getElem.mp X.F.so) i j hi hj hij
    have l1 := X.F.lt _ (List.getElem_mem hi)
    have l2 := X.F.lt _ (List.getElem_mem hj)
    rw [pairT_of (.inl rfl) l1.2.1, pairT_of (.inl rfl) l2.2.1]
    unfold TLt at q
    intro z
    simp only [List.cons.injEq, and_true] at z
    omega
  unfold wKeys List.Nodup
  rw [List.pairwise_flatMap]
  refine ⟨fun t ht => ?_, (List.pairwise_iff_getElem.mpr fun i j hi hj hij => ?_)⟩
  · have := X.nn t ht
    refine List.pairwise_cons.mpr ⟨fun y hy => ?_, List.pairwise_singleton _ _⟩
    rw [List.mem_singleton.mp hy]
    exact fun z => by have := intK2 z; omega
  · have q := (List.pairwise_iff_getElem.mp nd) i j (by rw [List.length_map]; exact hi) (by rw [List.length_map]; exact hj) hij
    rw [List.getElem_map, List.getElem_map] at q
    intro x hx y hy
    simp only [List.mem_cons, List.not_mem_nil, or_false] at hx hy
    unfold pairT pairL at q
    rcases hx with rfl | rfl <;> rcases hy with rfl | rfl <;> exact fun z => q (by
      obtain ⟨z1, z2⟩ := intK2 z
      rw [z1, z2]
      try (simp only [List.cons.injEq, and_true]; constructor <;> repeat' split <;> omega))
/-- a dict told by a function -/
structure FnS (n : Nat) (f : Nat → Nat → Option Int) (ks : List (List Key)) (ds : List D) (mx : Nat) : Prop where
  len : ks.length = ds.length
  few : ks.length ≤ mx
  at_ : ∀ a b : Nat, a < n → b < n → lookD ks ds (intK [(a : Int), (b : Int)]) = (f a b).map D.int
theorem FnS.put {n mx a0 b0 : Nat} {f f' : Nat → Nat → Option Int} {ks : List (List Key)} {ds : List D} {v : Int} (h : FnS n f ks ds mx) (hX : ∀ a b : Nat, a < n → b < n → f' a b = if a = a0 ∧ b = b0 then some v else f a b) : FnS n f' (putKs ks (intK [(a0 : Int), (b0 : Int)])) (putL ks ds (intK [(a0 : Int), (b0 : Int)]) (.int v)) (mx + 1) := by
  obtain ⟨p1, p2⟩ := put_len (q := intK [(a0 : Int), (b0 : Int)]) (x := D.int v) h.len
  refine ⟨p1, Nat.le_trans p2 (Nat.succ_le_succ h.few), fun a b ha hb => ?_⟩
  rw [look_put h.len, hX a b ha hb]
  by_cases e : a = a0 ∧ b = b0
  · rw [if_pos e, if_pos (by rw [e.1, e.2])]
    rfl
  · rw [if_neg e, if_neg fun z => e (by have := intK2 z; omega)]
    exact h.at_ a b ha hb
/-- a dict of weights -/
structure WD (n : Nat) (ts : List Tie) (ks : List (List Key)) (ds : List D) : Prop where
  len : ks.length = ds.length
  few : ks.length ≤ 132
  nd : ks.Nodup
  key : ∀ l, l < ks.length → ∃ (a b : Nat) (w : Int), ks[l]? = some (intK [(a : Int), (b : Int)]) ∧ ds[l]? = some (.int w) ∧ a < n ∧ b < n ∧ wOf ts a b = some w
  look : ∀ a b : Nat, a < n → b < n → lookD ks ds (intK [(a : Int), (b : Int)]) = (wOf ts a b).map D.int
theorem keys_ed : ∀ hs : List Tie, (∀ t, t ∈ hs → 0 ≤ t.1 ∧ 0 ≤ t.2.1) → wKeys hs = (edgesT hs).map fun e => intK [(e.1 : Int), (e.2.1 : Int)]
  | [], _ => rfl
  | t :: ts, h => by
    have ih := keys_ed ts fun u hu => h u (List.mem_cons_of_mem _ hu)
    have h0 := h t List.mem_cons_self
    show [intK [t.1, t.2.1], intK [t.2.1, t.1]] ++ wKeys ts = [intK [((t.1.toNat : Nat) : Int), ((t.2.1.toNat : Nat) : Int)], intK [((t.2.1.toNat : Nat) : Int), ((t.1.toNat : Nat) : Int)]] ++ (edgesT ts).map fun e => intK [(e.1 : Int), (e.2.1 : Int)]
    rw [ih, Int.toNat_of_nonneg h0.1, Int.toNat_of_nonneg h0.2]
theorem Hd.wd {n : Nat} {ts hs : List Tie} (X : Hd n ts hs) : WD n ts (wKeys hs) (wVals hs) := by
  have nn := X.nn
  refine ⟨?_, ?_, X.keys, fun l hl => ?_, fun a b ha hb => ?_⟩
  · unfold wKeys wVals
    rw [List.length_flatMap, List.length_flatMap]
    rfl
  · have := wKeys_len hs
    have := X.few
    omega
  · have e : wKeys hs = (edgesT hs).map fun e => intK [(e.1 : Int), (e.2.1 : Int)] := keys_ed hs fun t ht => ⟨(nn t ht).1, (nn t ht).2.1⟩
    have ev : wVals hs = (edgesT hs).map fun e => D.int e.2.2 := by
      unfold wVals edgesT
      rw [List.map_flatMap]
      rfl
    rw [e, List.length_map] at hl
    obtain ⟨⟨a, b, w⟩, h⟩ : ∃ z, (edgesT hs)[l] = z := ⟨_, rfl⟩
    have hm : (a, b, w) ∈ edgesT hs := by rw [← h]; exact List.getElem_mem hl
    have hm2 := (X.mem _).mp hm
    have o := (X.F.wf (t := 0) (by have := X.F.n2; omega)).ok _ hm2
    refine ⟨a, b, w, ?_, ?_, o.1, o.2.1, mem_wOf X.F hm2⟩
    · rw [e, List.getElem?_map, List.getElem?_eq_getElem hl, h]
      rfl
    · rw [ev, List.getElem?_map, List.getElem?_eq_getElem hl, h]
      rfl
  · rw [look_w fun t ht => ⟨(nn t ht).1, (nn t ht).2.1⟩, X.wO]
def chT (a b : Nat) (x : Int) (t : Tie) : Tie := if t.1 = (a : Int) ∧ t.2.1 = (b : Int) then (t.1, t.2.1, x, t.2.2.2) else if t.1 = (b : Int) ∧ t.2.1 = (a : Int) then (t.1, t.2.1, t.2.2.1, x) else t
def chW (ts : List Tie) (a b : Nat) (x : Int) : List Tie := ts.map (chT a b x)
theorem chT_fst (a b : Nat) (x : Int) (t : Tie) : (chT a b x t).1 = t.1 ∧ (chT a b x t).2.1 = t.2.1 := by
  unfold chT
  split
  · exact ⟨rfl, rfl⟩
  · split <;> exact ⟨rfl, rfl⟩
theorem chW_facts {n a b : Nat} {ts : List Tie} {x : Int} (F : NetFacts n ts) (hx : 1 ≤ x) : NetFacts n (chW ts a b x) := ⟨F.n2, by unfold chW; rw [List.length_map]; exact F.few, fun t ht => by
  obtain ⟨u, hu, rfl⟩ := List.mem_map.mp ht
  rw [(chT_fst a b x u).1, (chT_fst a b x u).2]
  exact F.lt u hu, fun t ht => by
  obtain ⟨u, hu, rfl⟩ := List.mem_map.mp ht
  have := F.ws u hu
  unfold chT
  split
  · exact ⟨hx, this.2⟩
  · split
    · exact ⟨this.1, hx⟩
    · exact this, List.pairwise_map.mpr (F.so.imp fun {t u} h => by
  unfold TLt at *
  rw [(chT_fst a b x t).1, (chT_fst a b x t).2, (chT_fst a b x u).1, (chT_fst a b x u).2]
  exact h)⟩
def chE (a b : Nat) (x : Int) (e : Ds.Edge) : Ds.Edge := if e.1 = a ∧ e.2.1 = b then (e.1, e.2.1, x) else e
theorem chE_yes {a b c d : Nat} {x w : Int} (h : c = a ∧ d = b) : chE a b x (c, d, w) = (c, d, x) := if_pos h
theorem chE_no {a b c d : Nat} {x w : Int} (h : ¬ (c = a ∧ d = b)) : chE a b x (c, d, w) = (c, d, w) := if_neg h
theorem edges_ch {n a b : Nat} {x : Int} {ts : List Tie} (F : NetFacts n ts) (hab : a ≠ b) : edgesT (chW ts a b x) = (edgesT ts).map (chE a b x) := by
  have lt := F.lt
  clear F
  unfold edgesT chW
  induction ts with
  | nil => rfl
  | cons t ts ih =>
    have h0 := lt t List.mem_cons_self
    have ih := ih fun u hu => lt u (List.mem_cons_of_mem _ hu)
    rw [List.map_cons, List.flatMap_cons, List.flatMap_cons, List.map_append, ih]
    congr 1
    rw [List.map_cons, List.map_cons, List.map_nil]
    by_cases q1 : t.1 = (a : Int) ∧ t.2.1 = (b : Int)
    · rw [show chT a b x t = (t.1, t.2.1, x, t.2.2.2) from if_pos q1, chE_yes (show t.1.toNat = a ∧ t.2.1.toNat = b by omega), chE_no (show ¬ (t.2.1.toNat = a ∧ t.1.toNat = b) by omega)]
    · by_cases q2 : t.1 = (b : Int) ∧ t.2.1 = (a : Int)
      · rw [show chT a b x t = (t.1, t.2.1, t.2.2.1, x) from (if_neg q1).trans (if_pos q2), chE_no (show ¬ (t.1.toNat = a ∧ t.2.1.toNat = b) by omega), chE_yes (show t.2.1.toNat = a ∧ t.1.toNat = b by omega)]
      · rw [show chT a b x t = t from (if_neg q1).trans (if_neg q2), chE_no (show ¬ (t.1.toNat = a ∧ t.2.1.toNat = b) by omega), chE_no (show ¬ (t.2.1.toNat = a ∧ t.1.toNat = b) by omega)]
theorem wOf_ch {n a b : Nat} {x : Int} {ts : List Tie} (F : NetFacts n ts) (hab : a ≠ b) (hx : 1 ≤ x) (c d : Nat) : wOf (chW ts a b x) c d = if c = a ∧ d = b then (wOf ts a b).map (fun _ => x) else wOf ts c d := by
  have G := chW_facts (a := a) (b := b) F hx
  have ed := edges_ch (x := x) F hab
  cases h : wOf ts c d with
  | some w =>
    have hm : chE a b x (c, d, w) ∈ edgesT (chW ts a b x) := by rw [ed]; exact List.mem_map.mpr ⟨_, wOf_mem h, rfl⟩
    unfold chE at hm
    by_cases q : c = a ∧ d = b
    · rw [if_pos (show (c, d, w).1 = a ∧ (c, d, w).2.1 = b from q)] at hm
      rw [if_pos q, mem_wOf G hm, ← q.1, ← q.2, h]
      rfl
    · rw [if_neg (show ¬ ((c, d, w).1 = a ∧ (c, d, w).2.1 = b) from q)] at hm
      rw [if_neg q, mem_wOf G hm]
  | none =>
    have no : wOf (chW ts a b x) c d = none := by
      cases h2 : wOf (chW ts a b x) c d with
      | none => rfl
      | some w =>
        have := wOf_mem h2
        rw [ed] at this
        obtain ⟨e, he, q⟩ := List.mem_map.mp this
        have e1 : e.1 = c ∧ e.2.1 = d := by
          unfold chE at q
          split at q
          · injection q with q1 q2
            injection q2 with q2 _
            exact ⟨q1, q2⟩
          · subst q
            exact ⟨rfl, rfl⟩
        obtain ⟨e0, e2, e3⟩ := e
        cases e1.1
        cases e1.2
        rw [mem_wOf F he] at h
        cases h
    rw [no]
    by_cases q : c = a ∧ d = b
    · rw [if_pos q, ← q.1, ← q.2, h]
      rfl
    · rw [if_neg q]
noncomputable abbrev sp_weighed (K : PySem.W.Frag) (C : Addr) : Sp := spSh K (fun x : (Nat × List Tie) × (Nat × Nat) × Int × Int => NetFacts x.1.1 x.1.2 ∧ wOf x.1.2 x.2.1.1 x.2.1.2 = some x.2.2.1 ∧ 1 ≤ x.2.2.2) (fun x => [(true, netD C x.1.1 x.1.2), (true, .int x.2.1.1), (true, .int x.2.1.2), (true, .int x.2.2.2)]) (fun x => netD C x.1.1 (chW x.1.2 x.2.1.1 x.2.1.2 x.2.2.2))
theorem eqv_tupJ (l m : List Int) : PyData.eqv (D.tup (l.map .int)).py (D.tup (m.map .int)).py = decide (l = m) := by
  unfold D.py
  rw [pys_ints, pys_ints]
  simp only [PyData.eqv]
  exact eqv_ints l m
theorem flt_tupJ {k : Nat} (l : List Int) : Flt (k + 1) (.tup (l.map .int)) := Flt.tup fun d hd => by
  obtain ⟨x, _, rfl⟩ := List.mem_map.mp hd
  exact Flt.int
theorem one_list {α : Type} {l : List α} {x : α} (nd : l.Nodup) (hx : x ∈ l) (h : ∀ y, y ∈ l → y = x) : l = [x] := by
  cases l with
  | nil => cases hx
  | cons a l =>
    have ea := h a List.mem_cons_self
    subst ea
    cases l with
    | nil => rfl
    | cons c l =>
      have ec := h c (List.mem_cons_of_mem _ List.mem_cons_self)
      subst ec
      exact absurd List.mem_cons_self (List.nodup_cons.mp nd).1
theorem chT_other {a b : Nat} {x : Int} {t : Tie} (h : t.1 < t.2.1) (q : pairT t ≠ pairL (a : Int) (b : Int)) (hab : a ≠ b) : chT a b x t = t := by
  unfold chT
  have e : pairT t = [t.1, t.2.1] := pairT_of (.inl rfl) h
  rw [e] at q
  unfold pairL at q
  rw [if_neg, if_neg]
  · intro z
    apply q
    rw [if_pos (by omega), if_neg (by omega), z.1, z.2]
  · intro z
    apply q
    rw [if_neg (by omega), if_pos (by omega), z.1, z.2]
theorem weighed_handed {n a b : Nat} {ts : List Tie} {w0 w1 x : Int} (F : NetFacts n ts) (hw : wOf ts a b = some w0) (hb : wOf ts b a = some w1) (hx : 1 ≤ x) : Handed (chW ts a b x) ((ts.filter fun t => !decide (pairL (a : Int) (b : Int) = pairT t)) ++ [((a : Int), (b : Int), x, w1)]) := by
  have hab := (wOf_lt F hw).2.2.2
  obtain ⟨t0, ht0, h0⟩ := edges_mem (wOf_mem hw)
  have l0 := F.lt t0 ht0
  have p0 : pairT t0 = [t0.1, t0.2.1] := pairT_of (.inl rfl) l0.2.1
  have ab : (t0.1 = (a : Int) ∧ t0.2.1 = (b : Int)) ∨ (t0.1 = (b : Int) ∧ t0.2.1 = (a : Int)) := by
    rcases h0 with e | e <;> (simp only [Prod.mk.injEq] at e)
    · exact .inl ⟨by omega, by omega⟩
    · exact .inr ⟨by omega, by omega⟩
  have pab : pairL (a : Int) (b : Int) = pairT t0 := by
    rw [p0]
    unfold pairL
    rcases ab with ⟨e1, e2⟩ | ⟨e1, e2⟩
    · rw [if_neg (by omega), if_pos (by omega), e1, e2]
    · rw [if_pos (by omega), if_neg (by omega), e1, e2]
  have only : ∀ t, t ∈ ts → pairL (a : Int) (b : Int) = pairT t → t = t0 := fun t ht e => by
    have l1 := F.lt t ht
    rw [pab, p0, pairT_of (.inl rfl) l1.2.1] at e
    simp only [List.cons.injEq, and_true] at e
    exact F.one ht ht0 e.1.symm e.2.symm
  have nd : ts.Nodup := F.so.imp fun {t u} h e => by
    unfold TLt at h
    subst e
    omega
  have one : (ts.filter fun t => !(!decide (pairL (a : Int) (b : Int) = pairT t))) = [t0] := one_list (nd.sublist List.filter_sublist) (List.mem_filter.mpr ⟨ht0, by rw [decide_eq_true pab]; rfl⟩) fun t ht => by
    obtain ⟨h1, h2⟩ := List.mem_filter.mp ht
    refine only t h1 ?_
    cases q : decide (pairL (a : Int) (b : Int) = pairT t) with
    | true => exact of_decide_eq_true q
    | false => rw [q] at h2; cases h2
  have nb : ∀ t, t ∈ (ts.filter fun t => !decide (pairL (a : Int) (b : Int) = pairT t)) → t ∈ ts ∧ chT a b x t = t := fun t ht => by
    obtain ⟨h1, h2⟩ := List.mem_filter.mp ht
    refine ⟨h1, chT_other (F.lt t h1).2.1 (fun z => ?_) hab⟩
    rw [decide_eq_true z.symm] at h2
    cases h2
  have new : lf ((a : Int), (b : Int), x, w1) = chT a b x t0 ∧ Flip (chT a b x t0) ((a : Int), (b : Int), x, w1) := by
    rcases ab with ⟨e1, e2⟩ | ⟨e1, e2⟩
    · have ew : t0.2.2.2 = w1 := by
        have := mem_wOf F (List.mem_flatMap.mpr ⟨t0, ht0, List.mem_cons_of_mem _ (List.mem_singleton.mpr rfl)⟩)
        rw [show t0.2.1.toNat = b by omega, show t0.1.toNat = a by omega, hb] at this
        exact (Option.some.inj this).symm
      have e : chT a b x t0 = ((a : Int), (b : Int), x, w1) := by
        rw [show chT a b x t0 = (t0.1, t0.2.1, x, t0.2.2.2) from if_pos ⟨e1, e2⟩, e1, e2, ew]
      rw [e]
      exact ⟨if_pos (show (a : Int) < (b : Int) by omega), .inl rfl⟩
    · have ew : t0.2.2.1 = w1 := by
        have := mem_wOf F (List.mem_flatMap.mpr ⟨t0, ht0, List.mem_cons_self⟩)
        rw [show t0.1.toNat = b by omega, show t0.2.1.toNat = a by omega, hb] at this
        exact (Option.some.inj this).symm
      have e : chT a b x t0 = ((b : Int), (a : Int), w1, x) := by
        rw [show chT a b x t0 = (t0.1, t0.2.1, t0.2.2.1, x) from (if_neg (by omega)).trans (if_pos ⟨e1, e2⟩), e1, e2, ew]
      rw [e]
      exact ⟨if_neg (show ¬ (a : Int) < (b : Int) by omega), .inr rfl⟩
  have p1 : ((ts.filter fun t => !decide (pairL (a : Int) (b : Int) = pairT t)) ++ [t0]).Perm ts := by
    have := List.filter_append_perm (fun t => !decide (pairL (a : Int) (b : Int) = pairT t)) ts
    rw [one] at this
    exact this
  refine ⟨?_, fun t ht => ?_⟩
  · rw [List.map_append]
    have e : ((ts.filter fun t => !decide (pairL (a : Int) (b : Int) = pairT t)).map lf) = (ts.filter fun t => !decide (pairL (a : Int) (b : Int) = pairT t)).map (chT a b x) := List.map_congr_left fun t ht => by
      rw [(nb t ht).2]
      exact lf_of (.inl rfl) (F.lt t (nb t ht).1).2.1
    rw [e]
    show ((ts.filter _).map (chT a b x) ++ [lf ((a : Int), (b : Int), x, w1)]).Perm _
    rw [new.1]
    have := p1.map (chT a b x)
    rw [List.map_append] at this
    exact this
  · rcases List.mem_append.mp ht with h | h
    · obtain ⟨h1, h2⟩ := nb t h
      exact ⟨t, List.mem_map.mpr ⟨t, h1, h2⟩, .inl rfl⟩
    · rw [List.mem_singleton.mp h]
      exact ⟨chT a b x t0, List.mem_map.mpr ⟨t0, ht0, rfl⟩, new.2⟩
theorem cal_weighed (T : Tx K mg C fI CD fD) : Cal P w K mg base 6 "weighed" (sp_weighed K C) := by
  refine T.d_weighed.sh sc_weighed (fun _ => rfl) (by decide) (fun _ _ _ _ _ _ us hl => match us, hl with | [_, _, _, _], _ => rfl) (fun f cdv A outer s H E hr x hx => ?_)
  have hu64 := hu64_of hr
  refine ⟨_, (pss_cons (ps_setLc (own := [("tie", 5)]) (i := 4) rfl sc_weighed.nd rfl rfl (sw_true rfl rfl rfl (by decide +kernel)) (pi_tup (pe_fld (pv 0) rfl)) (blkOk_by (N := N_weighed) (sc := defScope s_weighed) (by decide +kernel)) (fun _ _ _ _ _ => (pg_name (i := 5) sc_weighed.nd rfl (Or.inl rfl))) (fun _ _ _ _ _ => (pts_one (pt_cmpR (op_neDK K rfl hu64) (pe_cal (cal_pair T) hr (by first | decide | exact Nat.le_refl _) (by rfl) (pa_cons (pv 1) (pa_cons (pv 2) pa_nil))) (pe_cal (cal_pair T) hr (by first | decide | exact Nat.le_refl _) (by rfl) (pa_cons (pe_ix (ix_tupK K rfl) (pv 5) pe_int (fun _ _ => rfl)) (pa_cons (pe_ix (ix_tupK K rfl) (pv 5) pe_int (fun _ _ => rfl)) pa_nil))) (nomark _)))) (fun _ _ _ _ _ => (pv 5))) (pss_one (ps_ret (pe_mak (mak_net T) hr (by first | decide | exact Nat.le_refl _) (by rfl) (pa_cons (pe_fld (pv 0) rfl) (pa_cons (pe_op op_cat (pv 4) (pe_lst (pa_cons (pe_tup (pa_cons (pv 1) (pa_cons (pv 2) (pa_cons (pv 3) (pa_cons (pe_met (met_weight T) T.cN hr (by first | decide | exact Nat.le_refl _) (pv 0) (pa_cons (pv 2) (pa_cons (pv 1) pa_nil))) pa_nil))))) pa_nil))) pa_nil)))))), ?_⟩
  obtain ⟨⟨n, ts⟩, ⟨a, b⟩, w0, x⟩ := x
  obtain ⟨F, hw, hx⟩ := hx
  have F : NetFacts n ts := F
  have hw : wOf ts a b = some w0 := hw
  have hx : 1 ≤ x := hx
  obtain ⟨ha, hb, _, hab⟩ := wOf_lt F hw
  obtain ⟨w1, hw1⟩ := wOf_back F hw
  have few := F.few
  have H1 := weighed_handed F hw hw1 hx
  have fl : (ts.filter fun t => !decide (pairL (a : Int) (b : Int) = pairT t)).length ≤ 66 := Nat.le_trans (List.length_filter_le _ _) few
  show SD K _ [.sh (netD C n ts), .sh (.int (a : Int)), .sh (.int (b : Int)), .sh (.int x), .no, .no] { nx := fun _ => netD C n (chW ts a b x) = D.non, rt := RSh K (netD C n (chW ts a b x)) }
  refine sd_seq (sd_asgO (m := .lst ((ts.filter fun t => !decide (pairL (a : Int) (b : Int) = pairT t)).map tieD)) (eo_lc (xs := ts) (emb := fun t => .sh (tieD t)) (f := fun t => !decide (pairL (a : Int) (b : Int) = pairT t)) (v := tieD) (ei_c (ei_mm (f := tieD) (w := Sl.sh) (ei_t (ed_fld (l := 1) (ed_var rfl) T.cN T.n_ties (by decide +kernel) rfl rfl)))) (by omega)
    fun i t ht => bg_name (by simp) ⟨et_is (et_test (ed_neG (ed_er (ed_call ((a : Int), (b : Int)) True.intro (ea_sh (ed_var rfl) (ea_sh (ed_var rfl) ea_nil)))) (ed_er (ed_call (t.1, t.2.1) True.intro (ea_sh (ed_ixT (l := 0) (ds := [.int t.1, .int t.2.1, .int t.2.2.1, .int t.2.2.2]) (ed_var rfl) ed_int rfl rfl) (ea_sh (ed_ixT (l := 1) (ds := [.int t.1, .int t.2.1, .int t.2.2.1, .int t.2.2.2]) (ed_var rfl) ed_int rfl rfl) ea_nil)))) (flt_tupJ (k := 59) _) (flt_tupJ (k := 59) _))) (congrArg (fun b => !b) (eqv_tupJ _ _)), fun _ => ed_var rfl⟩) (by simp) ?_)
  exact sd_ret (ed_make ((n : Int), _, chW ts a b x) (handed_ok (chW_facts F hx) H1) (ea_sh (ed_fld (l := 0) (ed_var rfl) T.cN T.n_count (by decide +kernel) rfl rfl) (ea_rd (ed_er (ed_eo (eo_is (eo_catO rfl (eo_lst (eb_cons (ed_tup (eb_cons (ed_var rfl) (eb_cons (ed_var rfl) (eb_cons (ed_var rfl) (eb_cons (ed_is (ed_meth (n, ts, b, a) ⟨F, hb, ha⟩ (ed_var rfl) (by decide) (ea_sh (ed_var rfl) (ea_sh (ed_var rfl) ea_nil)) rfl) (show optI (wOf ts b a) = .int w1 by rw [hw1]; rfl)) eb_nil)))) (by show (4 : Nat) ≤ 100000; decide)) eb_nil)) (by rw [List.length_map]; show _ + 1 ≤ 100000; omega)) (congrArg M.lst (by rw [List.map_append]; rfl))))) ea_nil))) fun _ _ _ _ z => z
abbrev sp_rweight (K : PySem.W.Frag) : Sp := spSh K (fun w : Int => 1 ≤ w) (fun w => [(true, .int w)]) (fun _ => .non)
theorem cal_rweight (T : Tx K mg C fI CD fD) : Cal P w K mg base 1 "refuse_weight" (sp_rweight K) := by
  obtain ⟨tk, htk⟩ := T.c_leastw
  refine T.d_refuse_weight.sh sc_refuse_weight (fun _ => rfl) (by decide) (fun _ _ _ _ _ _ us hl => match us, hl with | [_], _ => rfl) (fun f cdv A outer s H E hr x hx => ?_)
  refine ⟨_, (pss_one (ps_if (pt_cmpR op_lt (pv 0) (pe_gint rfl T.c_leastw) (nomark _)) pss_never pss_nil)), ?_⟩
  have hx : 1 ≤ x := hx
  show SD K _ [.sh (.int x)] { nx := fun _ => D.non = D.non, rt := RSh K .non }
  exact sd_if (b := decide (x < 1)) (et_test (ed_b0 (ed_var rfl) ed_int)) (fun h => absurd (of_decide_eq_true h) (by omega)) fun _ => sd_next rfl
inductive Fll where
  | tie (a b : Nat)
  | house (e : Nat)
abbrev Fll.D : Fll → BV.D
  | .tie a b => .tup [.str "tie", .int (a : Int), .int (b : Int)]
  | .house e => .tup [.str "house", .int (e : Int)]
def Fll.isH : Fll → Bool
  | .tie _ _ => false
  | .house _ => true
def FllOk (n : Nat) (ts : List Tie) : Fll → Prop
  | .tie a b => ∃ w, wOf ts a b = some w
  | .house e => e < n
def fwB : Fll → Nat → Nat → Bool
  | .tie c d, a, b => decide ((a = c ∧ b = d) ∨ (a = d ∧ b = c))
  | .house e, a, b => decide (e = a) || decide (e = b)
theorem pair_eq (a b c d : Nat) : decide (pairL (a : Int) (b : Int) = pairL (c : Int) (d : Int)) = decide ((a = c ∧ b = d) ∨ (a = d ∧ b = c)) := by
  refine decide_eq_decide.mpr ?_
  unfold pairL
  simp only [List.cons.injEq, and_true]
  constructor
  · rintro ⟨h1, h2⟩
    repeat' split at h1
    all_goals (repeat' split at h2)
    all_goals omega
  · rintro (⟨rfl, rfl⟩ | ⟨rfl, rfl⟩)
    · exact ⟨rfl, rfl⟩
    · constructor <;> repeat' split <;> omega
theorem eqv_lstI (l m : List Int) : PyData.eqv (D.lst (l.map .int)).py (D.lst (m.map .int)).py = decide (l = m) := by
  unfold D.py
  rw [pys_ints, pys_ints]
  simp only [PyData.eqv]
  exact eqv_ints l m
theorem eqv_tupI (l m : List Int) : PyData.eqv (D.tup (l.map .int)).py (D.tup (m.map .int)).py = decide (l = m) := by
  unfold D.py
  rw [pys_ints, pys_ints]
  simp only [PyData.eqv]
  exact eqv_ints l m
theorem flt_ints {k : Nat} (l : List Int) : Flt (k + 1) (.lst (l.map .int)) := Flt.lst fun d hd => by
  obtain ⟨b, _, rfl⟩ := List.mem_map.mp hd
  exact Flt.int
theorem flt_tupI {k : Nat} (l : List Int) : Flt (k + 1) (.tup (l.map .int)) := Flt.tup fun d hd => by
  obtain ⟨b, _, rfl⟩ := List.mem_map.mp hd
  exact Flt.int
/-- the first thing of a fall -/
theorem fll_0 {K : PySem.W.Frag} {ρ : List Sl} {te tb : TE} {f : Fll} (h : ED K te ρ f.D) (hb : ED K tb ρ (.int 0)) : ED K (tOp (rIxT K) te tb) ρ (.str (wS f.isH)) := by
  cases f with
  | tie a b => exact ed_ixT (l := 0) (d := .str "tie") h hb rfl rfl
  | house e => exact ed_ixT (l := 0) (d := .str "house") h hb rfl rfl
abbrev sp_untied (K : PySem.W.Frag) (C : Addr) : Sp := spSh K (fun x : Nat × List Tie × Nat × Nat => NetFacts x.1 x.2.1 ∧ ∃ w, wOf x.2.1 x.2.2.1 x.2.2.2 = some w) (fun x => [(true, netD C x.1 x.2.1), (true, .int x.2.2.1), (true, .int x.2.2.2)]) (fun _ => .non)
theorem cal_untied (T : Tx K mg C fI CD fD) : Cal P w K mg base 4 "refuse_untied" (sp_untied K C) := by
  refine T.d_refuse_untied.sh sc_refuse_untied (fun _ => rfl) (by decide) (fun _ _ _ _ _ _ us hl => match us, hl with | [_, _, _], _ => rfl) (fun f cdv A outer s H E hr x hx => ?_)
  refine ⟨_, (pss_one (ps_if (pt_cmp (pc_isN (pe_met (met_weight T) T.cN hr (by first | decide | exact Nat.le_refl _) (pv 0) (pa_cons (pv 1) (pa_cons (pv 2) pa_nil))))) pss_never pss_nil)), ?_⟩
  obtain ⟨n, ts, a, b⟩ := x
  obtain ⟨F, w', hw⟩ := hx
  have F : NetFacts n ts := F
  have hw : wOf ts a b = some w' := hw
  obtain ⟨ha, hb, _⟩ := wOf_lt F hw
  show SD K _ [.sh (netD C n ts), .sh (.int (a : Int)), .sh (.int (b : Int))] { nx := fun _ => D.non = D.non, rt := RSh K .non }
  exact sd_if (b := false) (et_test (ed_is (ed_isN (ed_er (ed_meth (n, ts, a, b) ⟨F, ha, hb⟩ (ed_var rfl) (by decide) (ea_sh (ed_var rfl) (ea_sh (ed_var rfl) ea_nil)) rfl))) (by show D.bl (optI (wOf ts a b)).isNon = _; rw [hw]; rfl))) (fun h => nomatch h) fun _ => sd_next rfl
abbrev sp_rfall (K : PySem.W.Frag) (C : Addr) : Sp := spSh K (fun x : Nat × List Tie × Fll => NetFacts x.1 x.2.1 ∧ FllOk x.1 x.2.1 x.2.2) (fun x => [(true, netD C x.1 x.2.1), (true, x.2.2.D)]) (fun _ => .non)
theorem cal_rfall (T : Tx K mg C fI CD fD) : Cal P w K mg base 5 "refuse_fall" (sp_rfall K C) := by
  refine T.d_refuse_fall.sh sc_refuse_fall (fun _ => rfl) (by decide) (fun _ _ _ _ _ _ us hl => match us, hl with | [_, _], _ => rfl) (fun f cdv A outer s H E hr x hx => ?_)
  refine ⟨_, (pss_one (ps_if (pt_cmpR op_eq (pe_ix ix_tup (pv 1) pe_int (fun _ _ => rfl)) pe_str (nomark _)) (pss_one (ps_expr (pe_cal (cal_untied T) hr (by first | decide | exact Nat.le_refl _) (by rfl) (pa_cons (pv 0) (pa_cons (pe_ix ix_tup (pv 1) pe_int (fun _ _ => rfl)) (pa_cons (pe_ix ix_tup (pv 1) pe_int (fun _ _ => rfl)) pa_nil)))))) (pss_one (ps_expr (pe_cal (cal_refuse_houses T) hr (by first | decide | exact Nat.le_refl _) (by rfl) (pa_cons (pe_fld (pv 0) rfl) (pa_cons (pe_lst (pa_cons (pe_ix ix_tup (pv 1) pe_int (fun _ _ => rfl)) pa_nil)) pa_nil))))))), ?_⟩
  obtain ⟨n, ts, g⟩ := x
  obtain ⟨F, hg⟩ := hx
  have F : NetFacts n ts := F
  cases g with
  | tie a b =>
    have hg : ∃ w, wOf ts a b = some w := hg
    show SD K _ [.sh (netD C n ts), .sh (.tup [.str "tie", .int (a : Int), .int (b : Int)])] { nx := fun _ => D.non = D.non, rt := RSh K .non }
    exact sd_if (b := true) (et_is (et_test (ed_eqS (fll_0 (f := .tie a b) (ed_var rfl) ed_int) ed_str)) (wS_tie false)) (fun _ => sd_drop (ed_er (ed_call (n, ts, a, b) ⟨F, hg⟩ (ea_sh (ed_var rfl) (ea_sh (ed_ixT (l := 1) (ed_var rfl) ed_int rfl rfl) (ea_sh (ed_ixT (l := 2) (ed_var rfl) ed_int rfl rfl) ea_nil))))) rfl) fun h => nomatch h
  | house e =>
    have hg : e < n := hg
    show SD K _ [.sh (netD C n ts), .sh (.tup [.str "house", .int (e : Int)])] { nx := fun _ => D.non = D.non, rt := RSh K .non }
    exact sd_if (b := false) (et_is (et_test (ed_eqS (fll_0 (f := .house e) (ed_var rfl) ed_int) ed_str)) (wS_tie true)) (fun h => nomatch h) fun _ => sd_drop (d := .non) (ed_er (ed_call ((n : Int), [(e : Int)]) (fun m hm => by
      show 0 ≤ m ∧ m < (n : Int)
      rw [List.mem_singleton.mp hm]
      omega) (ea_sh (ed_fld (l := 0) (ed_var rfl) T.cN T.n_count (by decide +kernel) rfl rfl) (ea_rd (ed_er (ed_eo (eo_lst (eb_cons (ed_ixT (l := 1) (ed_var rfl) ed_int rfl rfl) eb_nil)))) ea_nil)))) rfl
abbrev sp_fwith (K : PySem.W.Frag) : Sp := spSh K (fun _ : Fll × Nat × Nat => True) (fun x => [(true, x.1.D), (true, .int x.2.1), (true, .int x.2.2)]) (fun x => .bl (fwB x.1 x.2.1 x.2.2))
theorem cal_fwith (T : Tx K mg C fI CD fD) : Cal P w K mg base 2 "falls_with" (sp_fwith K) := by
  refine T.d_falls_with.sh sc_falls_with (fun _ => rfl) (by decide) (fun _ _ _ _ _ _ us hl => match us, hl with | [_, _, _], _ => rfl) (fun f cdv A outer s H E hr x hx => ?_)
  have hu64 := hu64_of hr
  refine ⟨_, (pss_cons (ps_if (pt_cmpR op_eq (pe_ix ix_tup (pv 0) pe_int (fun _ _ => rfl)) pe_str (nomark _)) (pss_one (ps_ret (pe_cmpR (op_eqD hu64) (pe_cal (cal_pair T) hr (by first | decide | exact Nat.le_refl _) (by rfl) (pa_cons (pv 1) (pa_cons (pv 2) pa_nil))) (pe_cal (cal_pair T) hr (by first | decide | exact Nat.le_refl _) (by rfl) (pa_cons (pe_ix ix_tup (pv 0) pe_int (fun _ _ => rfl)) (pa_cons (pe_ix ix_tup (pv 0) pe_int (fun _ _ => rfl)) pa_nil))) (nomark _)))) pss_nil) (pss_one (ps_ret (pe_cmpR op_in_seq (pe_ix ix_tup (pv 0) pe_int (fun _ _ => rfl)) (pe_tup (pa_cons (pv 1) (pa_cons (pv 2) pa_nil))) (by with_unfolding_all rfl))))), ?_⟩
  obtain ⟨g, a, b⟩ := x
  cases g with
  | tie c d =>
    show SD K _ [.sh (.tup [.str "tie", .int (c : Int), .int (d : Int)]), .sh (.int (a : Int)), .sh (.int (b : Int))] { nx := fun _ => D.bl (fwB (.tie c d) a b) = D.non, rt := RSh K (.bl (fwB (.tie c d) a b)) }
    refine sd_seq (sd_if (b := true) (et_is (et_test (ed_eqS (fll_0 (f := .tie c d) (ed_var rfl) ed_int) ed_str)) (wS_tie false)) (fun _ => ?_) fun h => nomatch h)
    refine sd_ret (ed_is (ed_eqG (d := .tup ((pairL (a : Int) (b : Int)).map .int)) (d' := .tup ((pairL (c : Int) (d : Int)).map .int)) (ed_er (ed_call ((a : Int), (b : Int)) trivial (ea_sh (ed_var rfl) (ea_sh (ed_var rfl) ea_nil)))) (ed_er (ed_call ((c : Int), (d : Int)) trivial (ea_sh (ed_ixT (l := 1) (ed_var rfl) ed_int rfl rfl) (ea_sh (ed_ixT (l := 2) (ed_var rfl) ed_int rfl rfl) ea_nil)))) (flt_tupI _) (flt_tupI _)) (congrArg D.bl ?_)) fun _ _ _ _ z => z
    rw [eqv_tupI, pair_eq]
    rfl
  | house e =>
    show SD K _ [.sh (.tup [.str "house", .int (e : Int)]), .sh (.int (a : Int)), .sh (.int (b : Int))] { nx := fun _ => D.bl (fwB (.house e) a b) = D.non, rt := RSh K (.bl (fwB (.house e) a b)) }
    refine sd_seq (sd_if (b := false) (et_is (et_test (ed_eqS (fll_0 (f := .house e) (ed_var rfl) ed_int) ed_str)) (wS_tie true)) (fun h => nomatch h) fun _ => sd_next ?_)
    refine sd_ret (ed_is (ed_inT (is := [(a : Int), (b : Int)]) (ed_ixT (l := 1) (ed_var rfl) ed_int rfl rfl) (eb_cons (ed_var rfl) (eb_cons (ed_var rfl) eb_nil))) (congrArg D.bl ?_)) fun _ _ _ _ z => z
    show (decide ((a : Int) = (e : Int)) || (decide ((b : Int) = (e : Int)) || false)) = (decide (e = a) || decide (e = b))
    rw [Bool.or_false]
    congr 1 <;> exact decide_eq_decide.mpr (by omega)
def lessT (f : Fll) (ts : List Tie) : List Tie := ts.filter fun u => !fwB f u.1.toNat u.2.1.toNat
theorem NetFacts.less {n : Nat} {ts : List Tie} (F : NetFacts n ts) (f : Fll) : NetFacts n (lessT f ts) := by
  refine ⟨F.n2, Nat.le_trans (List.length_filter_le _ _) F.few, fun t ht => F.lt t (List.mem_filter.mp ht).1, fun t ht => F.ws t (List.mem_filter.mp ht).1, F.so.filter _⟩
theorem net_ok0 {n : Nat} {ts : List Tie} (F : NetFacts n ts) : NetOk (n : Int) ts ts := by
  have few := F.few
  refine ⟨by have := F.n2; omega, ⟨by omega, fun t ht => ?_, fun t ht => ?_, ?_, fun t ht => F.ws t ht⟩, ?_, F.srt, F.keys⟩
  · have := F.lt t ht
    exact ⟨⟨by omega, by omega⟩, by omega, by omega⟩
  · have := F.lt t ht
    exact fun z => by omega
  · refine List.pairwise_map.mpr (List.pairwise_iff_getElem.mpr fun i j hi hj hij => ?_)
    have q := (List.pairwise_iff_getElem.mp F.so) i j hi hj hij
    have l1 := F.lt _ (List.getElem_mem hi)
    have l2 := F.lt _ (List.getElem_mem hj)
    unfold TLt at q
    unfold pairT pairL
    intro z
    simp only [List.cons.injEq, and_true] at z
    obtain ⟨z1, z2⟩ := z
    revert z1 z2
    repeat' split
    all_goals omega
  · have e : ts.map lf = ts := by
      refine (List.map_congr_left fun t ht => ?_).trans (List.map_id _)
      exact if_pos (F.lt t ht).2.1
    rw [e]
abbrev sp_without (K : PySem.W.Frag) (C : Addr) : Sp := spSh K (fun x : Nat × List Tie × Fll => NetFacts x.1 x.2.1 ∧ FllOk x.1 x.2.1 x.2.2) (fun x => [(true, netD C x.1 x.2.1), (true, x.2.2.D)]) (fun x => netD C x.1 (lessT x.2.2 x.2.1))
theorem met_without (T : Tx K mg C fI CD fD) : Met P w K mg base 6 C "without" (sp_without K C) := by
  refine met_sh T.d_Net_without sc_Net_without (fun _ => rfl) (by decide) (fun _ _ _ _ _ _ us hl => match us, hl with | [_, _], _ => rfl) (fun f cdv A outer s H E hr x hx => ?_)
  refine ⟨_, (pss_cons (ps_expr (pe_cal (cal_rfall T) hr (by first | decide | exact Nat.le_refl _) (by rfl) (pa_cons (pv 0) (pa_cons (pv 1) pa_nil)))) (pss_one (ps_ret (pe_mak (mak_net T) hr (by first | decide | exact Nat.le_refl _) (by rfl) (pa_cons (pe_fld (pv 0) rfl) (pa_cons (pe_lc (own := [("tie", 2)]) rfl sc_Net_without.nd (pi_tup (pe_fld (pv 0) rfl)) (blkOk_by (N := N_Net_without) (sc := defScope s_Net_without) (by decide +kernel)) (fun _ _ _ _ _ => (pg_name (i := 2) sc_Net_without.nd rfl (Or.inl rfl))) (fun _ _ _ _ _ => (pts_one (pt_not (pt_val (pe_cal (cal_fwith T) hr (by first | decide | exact Nat.le_refl _) (by rfl) (pa_cons (pv 1) (pa_cons (pe_ix (ix_tupK K rfl) (pv 2) pe_int (fun _ _ => rfl)) (pa_cons (pe_ix (ix_tupK K rfl) (pv 2) pe_int (fun _ _ => rfl)) pa_nil)))))))) (fun _ _ _ _ _ => (pv 2))) pa_nil)))))), ?_⟩
  obtain ⟨n, ts, g⟩ := x
  obtain ⟨F, hg⟩ := hx
  have F : NetFacts n ts := F
  have few := F.few
  show SD K _ [.sh (netD C n ts), .sh g.D, .no] { nx := fun _ => netD C n (lessT g ts) = D.non, rt := RSh K (netD C n (lessT g ts)) }
  refine sd_seq (sd_drop (d := .non) (ed_er (ed_call (n, ts, g) ⟨F, hg⟩ (ea_sh (ed_var rfl) (ea_sh (ed_var rfl) ea_nil)))) ?_)
  exact sd_ret (ed_make ((n : Int), lessT g ts, lessT g ts) (net_ok0 (F.less g)) (ea_sh (ed_fld (l := 0) (ed_var rfl) T.cN T.n_count (by decide +kernel) rfl rfl) (ea_rd (ed_er (ed_eo (eo_lc (xs := ts) (emb := fun t => .sh (tieD t)) (f := fun u => !fwB g u.1.toNat u.2.1.toNat) (v := tieD) (ei_c (ei_mm (ei_t (ed_fld (l := 1) (ed_var rfl) T.cN T.n_ties (by decide +kernel) rfl rfl)))) (by omega)
    fun i u hu => bg_name (by simp) ⟨by
      have hm := F.lt u (List.mem_of_getElem? hu)
      refine et_not (et_B (ed_call (g, u.1.toNat, u.2.1.toNat) trivial (ea_sh (ed_var rfl) (ea_sh (ed_is (ed_ixT (l := 0) (ed_var rfl) ed_int rfl rfl) (by rw [Int.toNat_of_nonneg hm.1])) (ea_sh (ed_is (ed_ixT (l := 1) (ed_var rfl) ed_int rfl rfl) (by rw [Int.toNat_of_nonneg (by omega)])) ea_nil)))))
      , fun _ => ed_var rfl⟩))) ea_nil))) fun _ _ _ _ z => z
/-- the first of the numbers that is no house -/
def badH (c : Int) (ns : List Int) : Option Int := ns.find? fun v => !isH c v
theorem take_snoc {α : Type} {xs : List α} {l : Nat} {x : α} (h : xs[l]? = some x) : xs.take (l + 1) = xs.take l ++ [x] := by
  rw [List.take_add_one, h]
  rfl
theorem badH_no {n : Int} {ns : List Int} (h : badH n ns = none) : ∀ v ∈ ns, 0 ≤ v ∧ v < n := fun v hv => by
  have := List.find?_eq_none.mp h v hv
  exact isH_iff.mp (by simpa using this)
abbrev AllDg := NumText.AllDigits
def isDg (c : Nat) : Bool := decide (48 ≤ c) && decide (c ≤ 57)
/-- a word that writes a number -/
def isNum (x : Str) : Bool := !decide (x.length = 0) && x.cps.toList.all isDg && !(decide (x.cps.toList[0]? = some 48) && !decide (x = ("0" : Str)))
def numT (x : Str) : Option Int := if isNum x = true then some ((NumText.digitsVal x.cps.toList : Nat) : Int) else none
theorem fig_mem (c : Nat) : decide (c ∈ ("0123456789" : Str).cps.toList) = isDg c := by
  have e : ("0123456789" : Str).cps.toList = [48, 49, 50, 51, 52, 53, 54, 55, 56, 57] := by decide +kernel
  rw [e]
  unfold isDg
  rw [← Bool.decide_and]
  refine decide_eq_decide.mpr ?_
  simp only [List.mem_cons, List.not_mem_nil, or_false]
  omega
theorem len_cps (x : Str) : x.cps.toList.length = x.length := by simp [Str.length]
theorem sgn_eq (c : Nat) : decide (sgn c = ("0" : Str)) = decide (c = 48) := by
  have e : ("0" : Str) = sgn 48 := by decide +kernel
  rw [e]
  refine decide_eq_decide.mpr ⟨fun h => ?_, fun h => by rw [h]⟩
  have := congrArg (fun z : Str => z.cps.toList) h
  simpa using this
theorem isDg_all {l : List Nat} : l.all isDg = true ↔ NumText.AllDigits l := by
  rw [List.all_eq_true]
  refine forall_congr' fun c => forall_congr' fun _ => ?_
  unfold isDg
  rw [Bool.and_eq_true, decide_eq_true_eq, decide_eq_true_eq]
theorem log_few {i : Int} (h0 : 0 ≤ i) (h : i < 10 ^ 100) : i.natAbs.log2 < 1920 := by
  by_cases e : i.natAbs = 0
  · rw [e]; decide
  · rw [Nat.log2_lt e]
    have h1 : i.natAbs < 10 ^ 100 := by omega
    exact Nat.lt_trans h1 (by decide +kernel)
theorem str_few {i : Int} (h0 : 0 ≤ i) (h : i < 10 ^ 100) : (toString i : Str).length ≤ 100 := by
  have e : i = ((i.toNat : Nat) : Int) := by omega
  have hl : TL.tl (Str.ofString (toString ((i.toNat : Nat) : Int))) = TL.numL i.toNat := TL.tl_num i.toNat
  have : (toString i : Str) = Str.ofString (toString ((i.toNat : Nat) : Int)) := by rw [← e] <;> rfl
  rw [this, TL.len_tl, hl]
  exact TL.numL_len (by decide) (by omega)
def tieS (t : Tie) : Str := Str.empty ++ toString t.1 ++ "-" ++ toString t.2.1 ++ ":" ++ toString t.2.2.1 ++ "/" ++ toString t.2.2.2
def netS (n : Nat) (ts : List Tie) : Str := Txt.join " " (toString (n : Int) :: ts.map tieS)
theorem ties_len {ts : List Tie} (num : ∀ t, t ∈ ts → (0 ≤ t.1 ∧ t.1 < 10 ^ 100) ∧ (0 ≤ t.2.1 ∧ t.2.1 < 10 ^ 100) ∧ (0 ≤ t.2.2.1 ∧ t.2.2.1 < 10 ^ 100) ∧ (0 ≤ t.2.2.2 ∧ t.2.2.2 < 10 ^ 100)) : ((ts.map tieS).map (·.length)).sum ≤ 500 * ts.length := by
  have ez : ∀ a b : Str, (a ++ b).length = a.length + b.length := fun a b => by simp [Str.length, Str.cps_append]
  have tl : ∀ t, t ∈ ts → (tieS t).length ≤ 500 := fun t ht => by
    obtain ⟨h1, h2, h3, h4⟩ := num t ht
    unfold tieS
    rw [ez, ez, ez, ez, ez, ez, ez]
    have := str_few h1.1 h1.2
    have := str_few h2.1 h2.2
    have := str_few h3.1 h3.2
    have := str_few h4.1 h4.2
    have e1 : ("-" : Str).length = 1 := by decide +kernel
    have e2 : (":" : Str).length = 1 := by decide +kernel
    have e3 : ("/" : Str).length = 1 := by decide +kernel
    have e0 : Str.empty.length = 0 := rfl
    omega
  have go : ∀ l : List Tie, (∀ t, t ∈ l → t ∈ ts) → ((l.map tieS).map (·.length)).sum ≤ 500 * l.length := fun l => by
    induction l with
    | nil => intro _; exact Nat.le_refl _
    | cons t l ih =>
      intro h
      rw [List.map_cons, List.map_cons, List.sum_cons, List.length_cons]
      have := ih fun t ht => h t (List.mem_cons_of_mem _ ht)
      have := tl t (h t List.mem_cons_self)
      omega
  exact go ts fun _ h => h
abbrev sp_ntext (K : PySem.W.Frag) (C : Addr) : Sp := spSh K (fun x : Nat × List Tie => NetFacts x.1 x.2 ∧ ∀ t, t ∈ x.2 → t.2.2.1 < 10 ^ 100 ∧ t.2.2.2 < 10 ^ 100) (fun x => [(true, netD C x.1 x.2)]) (fun x => .str (netS x.1 x.2))
theorem cal_ntext (T : Tx K mg C fI CD fD) : Cal P w K mg base 1 "net_text" (sp_ntext K C) := by
  refine T.d_net_text.sh sc_net_text (fun _ => rfl) (by decide) (fun _ _ _ _ _ _ us hl => match us, hl with | [_], _ => rfl) (fun f cdv A outer s H E hr x hx => ?_)
  have hu := hu_of hr
  have hu64 := hu64_of hr
  refine ⟨_, (pss_one (ps_ret (pe_join pe_str (pe_op op_cat (pe_lst (pa_cons (pe_callTy call_str_int (by rfl) T.z_str (by decide +kernel) (pa_cons (pe_fld (pv 0) rfl) pa_nil)) pa_nil)) (pe_lc (own := [("a", 1), ("b", 2), ("there", 3), ("back", 4)]) rfl sc_net_text.nd (pi_tup (pe_fld (pv 0) rfl)) (blkOk_by (N := N_net_text) (sc := defScope s_net_text) (by decide +kernel)) (fun _ _ _ _ _ => (pg_tupK (n := 4) K rfl rfl (pgs_cons (pg_name (i := 1) sc_net_text.nd rfl (Or.inl rfl)) (pgs_cons (pg_name (i := 2) sc_net_text.nd rfl (Or.inl rfl)) (pgs_cons (pg_name (i := 3) sc_net_text.nd rfl (Or.inl rfl)) (pgs_cons (pg_name (i := 4) sc_net_text.nd rfl (Or.inl rfl)) pgs_nil)))))) (fun _ _ _ _ _ => pts_nil) (fun _ _ _ _ _ => (pe_joined (PJ.cons (pe_fmt (pv 1)) (PJ.cons pe_str (PJ.cons (pe_fmt (pv 2)) (PJ.cons pe_str (PJ.cons (pe_fmt (pv 3)) (PJ.cons pe_str (PJ.cons (pe_fmt (pv 4)) PJ.nil)))))))))))))), ?_⟩
  obtain ⟨n, ts⟩ := x
  obtain ⟨F, hw⟩ := hx
  have F : NetFacts n ts := F
  have hw : ∀ t, t ∈ ts → t.2.2.1 < 10 ^ 100 ∧ t.2.2.2 < 10 ^ 100 := hw
  have n2 := F.n2
  have few := F.few
  show SD K _ [.sh (netD C n ts), .no, .no, .no, .no] { nx := fun _ => D.str (netS n ts) = D.non, rt := RSh K (.str (netS n ts)) }
  have big : (100 : Int) < 10 ^ 100 := by decide +kernel
  have ez : ∀ a b : Str, (a ++ b).length = a.length + b.length := fun a b => by simp [Str.length, Str.cps_append]
  have num : ∀ t, t ∈ ts → (0 ≤ t.1 ∧ t.1 < 10 ^ 100) ∧ (0 ≤ t.2.1 ∧ t.2.1 < 10 ^ 100) ∧ (0 ≤ t.2.2.1 ∧ t.2.2.1 < 10 ^ 100) ∧ (0 ≤ t.2.2.2 ∧ t.2.2.2 < 10 ^ 100) := fun t ht => by
    have h1 := F.lt t ht
    have h2 := F.ws t ht
    have h3 := hw t ht
    refine ⟨⟨by omega, by omega⟩, ⟨by omega, by omega⟩, ⟨by omega, h3.1⟩, by omega, h3.2⟩
  have tl : ∀ t, t ∈ ts → (tieS t).length ≤ 500 := fun t ht => by
    obtain ⟨h1, h2, h3, h4⟩ := num t ht
    unfold tieS
    rw [ez, ez, ez, ez, ez, ez, ez]
    have := str_few h1.1 h1.2
    have := str_few h2.1 h2.2
    have := str_few h3.1 h3.2
    have := str_few h4.1 h4.2
    have e1 : ("-" : Str).length = 1 := by decide +kernel
    have e2 : (":" : Str).length = 1 := by decide +kernel
    have e3 : ("/" : Str).length = 1 := by decide +kernel
    have e0 : Str.empty.length = 0 := rfl
    omega
  have sum : ∀ l : List Tie, (∀ t, t ∈ l → t ∈ ts) → ((l.map tieS).map (·.length)).sum ≤ 500 * l.length := fun l => by
    induction l with
    | nil => intro _; exact Nat.le_refl _
    | cons t l ih =>
      intro h
      rw [List.map_cons, List.map_cons, List.sum_cons, List.length_cons]
      have := ih fun t ht => h t (List.mem_cons_of_mem _ ht)
      have := tl t (h t List.mem_cons_self)
      omega
  refine sd_ret (d := .str (netS n ts)) (ed_joinL (ys := toString (n : Int) :: ts.map tieS) ed_str (ed_er (ed_eo (eo_is (eo_cat (ds := [.str (toString (n : Int))]) (es := ts.map fun t => .str (tieS t)) (eo_lst (eb_cons (ed_strI (ed_fld (l := 0) (ed_var rfl) T.cN T.n_count (by decide +kernel) rfl rfl) (log_few (by omega) (by omega))) eb_nil)) (eo_is (eo_lc (xs := ts) (emb := fun t => .sh (tieD t)) (f := fun _ => true) (v := fun t => .str (tieS t)) (ei_c (ei_mm (f := tieD) (w := Sl.sh) (ei_t (ed_fld (l := 1) (ed_var rfl) T.cN T.n_ties (by decide +kernel) rfl rfl)))) (by omega)
    fun i t ht => bg_tup rfl (bgs_cons (bg_name (by simp) (bgs_cons (bg_name (by simp) (bgs_cons (bg_name (by simp) (bgs_cons (bg_name (by simp) (bgs_nil ⟨et_yes, fun _ => ?_⟩)))))))))) (by rw [List.filter_eq_self.mpr fun _ _ => rfl])) (by rw [List.length_map]; show 1 + _ ≤ 100000; omega)) (by rw [List.map_cons, List.map_map]; rfl)))) ?_) fun _ _ _ _ z => z
  · obtain ⟨h1, h2, h3, h4⟩ := num t (List.mem_of_getElem? ht)
    have l1 := str_few h1.1 h1.2
    have l2 := str_few h2.1 h2.2
    have l3 := str_few h3.1 h3.2
    have l4 := str_few h4.1 h4.2
    exact ed_jsN (ys := [toString t.1, "-", toString t.2.1, ":", toString t.2.2.1, "/", toString t.2.2.2]) (js_cons (ed_fmtI (ed_var rfl) (log_few h1.1 h1.2)) (js_cons ed_str (js_cons (ed_fmtI (ed_var rfl) (log_few h2.1 h2.2)) (js_cons ed_str (js_cons (ed_fmtI (ed_var rfl) (log_few h3.1 h3.2)) (js_cons ed_str (js_cons (ed_fmtI (ed_var rfl) (log_few h4.1 h4.2)) js_nil))))))) (by
      have e1 : ("-" : Str).length = 1 := by decide +kernel
      have e2 : (":" : Str).length = 1 := by decide +kernel
      have e3 : ("/" : Str).length = 1 := by decide +kernel
      simp only [List.map_cons, List.map_nil, List.sum_cons, List.sum_nil]
      omega)
  · have e1 : (" " : Str).length = 1 := by decide +kernel
    have l0 := str_few (i := (n : Int)) (by omega) (by omega)
    have := sum ts fun _ h => h
    rw [List.map_cons, List.sum_cons, List.length_cons, List.length_map, e1]
    omega
def hsS (o : Option Nat) : Str := match o with
  | none => "-"
  | some x => toString ((x : Nat) : Int)
abbrev sp_ttext (K : PySem.W.Frag) : Sp := spSh K (fun x : Tb => TbOk x ∧ x.length ≤ 12) (fun x => [(true, .lst (tbD x))]) (fun x => .str (Txt.join " " (x.map hsS)))
theorem cal_ttext (T : Tx K mg C fI CD fD) : Cal P w K mg base 5 "table_text" (sp_ttext K) := by
  refine T.d_table_text.sh sc_table_text (fun _ => rfl) (by decide) (fun _ _ _ _ _ _ us hl => match us, hl with | [_], _ => rfl) (fun f cdv A outer s H E hr x hx => ?_)
  have hu := hu_of hr
  have hu64 := hu64_of hr
  refine ⟨_, (pss_cons (ps_expr (pe_cal (cal_rtable T) hr (by first | decide | exact Nat.le_refl _) (by rfl) (pa_cons (pv 0) pa_nil))) (pss_one (ps_ret (pe_join pe_str (pe_lc (own := [("house", 1)]) rfl sc_table_text.nd (pi_list (pv 0)) (blkOk_by (N := N_table_text) (sc := defScope s_table_text) (by decide +kernel)) (fun _ _ _ _ _ => (pg_name (i := 1) sc_table_text.nd rfl (Or.inl rfl))) (fun _ _ _ _ _ => pts_nil) (fun _ _ _ _ _ => (pe_ifExp (pt_cmp (pc_isN (pv 1))) pe_str (pe_callTy call_str_int (by rfl) T.z_str (by decide +kernel) (pa_cons (pv 1) pa_nil))))))))), ?_⟩
  obtain ⟨ok, h12⟩ := hx
  have ok : TbOk x := ok
  have h12 : x.length ≤ 12 := h12
  have big : (100 : Int) < 10 ^ 100 := by decide +kernel
  show SD K _ [.sh (.lst (tbD x)), .no] { nx := fun _ => D.str (Txt.join " " (x.map hsS)) = D.non, rt := RSh K (.str (Txt.join " " (x.map hsS))) }
  refine sd_seq (sd_drop (d := .non) (ed_er (ed_call x ok (ea_sh (ed_var rfl) ea_nil))) ?_)
  have num : ∀ o, o ∈ x → ∀ b, o = some b → b < 12 := fun o ho b e => by
    subst e
    have := ok.lt b ho
    omega
  have sum : ∀ l : Tb, (∀ o, o ∈ l → o ∈ x) → ((l.map hsS).map (·.length)).sum ≤ 100 * l.length := fun l => by
    induction l with
    | nil => intro _; exact Nat.le_refl _
    | cons o l ih =>
      intro h
      rw [List.map_cons, List.map_cons, List.sum_cons, List.length_cons]
      have := ih fun t ht => h t (List.mem_cons_of_mem _ ht)
      have : (hsS o).length ≤ 100 := by
        cases o with
        | none => exact Nat.le_trans (show ("-" : Str).length ≤ 1 by decide +kernel) (by decide)
        | some b =>
          have := num _ (h _ List.mem_cons_self) b rfl
          exact str_few (i := (b : Int)) (by omega) (by omega)
      omega
  refine sd_ret (d := .str (Txt.join " " (x.map hsS))) (ed_joinL (ys := x.map hsS) ed_str (ed_er (ed_eo (eo_is (eo_lc (xs := x) (emb := fun o => .sh (oN o)) (f := fun _ => true) (v := fun o => .str (hsS o)) (ei_c (ei_mm (f := oN) (w := Sl.sh) (ei_l (ed_var rfl)))) (by omega)
    fun i o ho => bg_name (by simp) ⟨et_yes, fun _ => ?_⟩) (by rw [List.filter_eq_self.mpr fun _ _ => rfl, List.map_map]; rfl)))) ?_) fun _ _ _ _ z => z
  · cases o with
    | none => exact ed_if (b := true) (et_is (et_B (ed_isN (d := oN none) (ed_er (ed_var rfl)))) rfl) (fun _ => ed_str) fun h => nomatch h
    | some b =>
      have := num _ (List.mem_of_getElem? ho) b rfl
      exact ed_if (b := false) (et_is (et_B (ed_isN (d := oN (some b)) (ed_er (ed_var rfl)))) rfl) (fun h => nomatch h) fun _ => ed_strI (ed_var rfl) (log_few (by omega) (by omega))
  · have e1 : (" " : Str).length = 1 := by decide +kernel
    have := sum x fun _ h => h
    rw [List.length_map, e1]
    omega
/-- what is told where something is refused -/
inductive Exn where
  | house (v : Int) | tie (p : Option Int) | weight (p : Option Int) | need | word | count | tree | like (a b : Int) | text (l : Nat) | line | name (x : Str)
/-- its class, by its number in the law's list, its fields -/
def Exn.j : Exn → Nat
  | .count => 0 | .house _ => 1 | .line => 2 | .name _ => 3 | .need => 4 | .text _ => 5 | .tie _ => 6 | .tree => 7 | .weight _ => 8 | .word => 9 | .like _ _ => 10
def Exn.ns : Exn → List Str
  | .house _ => ["house"] | .tie _ => ["place"] | .weight _ => ["place"] | .like _ _ => ["tie"] | .text _ => ["at"] | .name _ => ["name"] | _ => []
def Exn.ds : Exn → List D
  | .house v => [.int v] | .tie p => [optI p] | .weight p => [optI p] | .like a b => [.tup [.int a, .int b]] | .text l => [.int (l : Int)] | .name x => [.str x] | _ => []
/-- is the tie at a place one of a house and itself, or one of a pair that stood before -/
def badP (hs : List Tie) (l : Nat) : Bool := match hs[l]? with
  | some t => decide (t.1 = t.2.1) || decide (pairT t ∈ (hs.take l).map pairT)
  | none => false
def lowP (hs : List Tie) (l : Nat) : Bool := match hs[l]? with
  | some t => decide (t.2.2.1 < 1) || decide (t.2.2.2 < 1)
  | none => false
def pairAt (hs : List Tie) : Option Nat := (List.range hs.length).find? (badP hs)
def lowAt (hs : List Tie) : Option Nat := (List.range hs.length).find? (lowP hs)
theorem fd_no {p : Nat → Bool} {n : Nat} (h : ∀ i, i < n → p i = false) : (List.range n).find? p = none := List.find?_eq_none.mpr fun i hi => by rw [h i (List.mem_range.mp hi)]; exact Bool.false_ne_true
theorem fd_nil {p : Nat → Bool} {n : Nat} (h : (List.range n).find? p = none) : ∀ i, i < n → p i = false := fun i hi => by
  have := List.find?_eq_none.mp h i (List.mem_range.mpr hi)
  simpa using this
theorem badP_at {hs : List Tie} {l : Nat} {t : Tie} (h : hs[l]? = some t) : badP hs l = (decide (t.1 = t.2.1) || decide (pairT t ∈ (hs.take l).map pairT)) := by
  unfold badP
  rw [h]
theorem lowP_at {hs : List Tie} {l : Nat} {t : Tie} (h : hs[l]? = some t) : lowP hs l = (decide (t.2.2.1 < 1) || decide (t.2.2.2 < 1)) := by
  unfold lowP
  rw [h]
def flatH (hs : List Tie) : List Int := hs.flatMap fun t => [t.1, t.2.1]
/-- what is refused of a count and ties handed in -/
def due02 (c : Int) (hs : List Tie) : Option Exn := if c < 2 ∨ c > 12 then some .count else match badH c (flatH hs) with
  | some v => some (.house v)
  | none => match pairAt hs with
    | some l => some (.tie (some (l : Int)))
    | none => match lowAt hs with
      | some l => some (.weight (some (l : Int)))
      | none => none
instance (t u : Tie) : Decidable (TLt t u) := by unfold TLt; infer_instance
def insT (x : Tie) : List Tie → List Tie
  | [] => [x]
  | t :: ts => if TLt x t then x :: t :: ts else t :: insT x ts
theorem insT_perm (x : Tie) : ∀ ts : List Tie, (x :: ts).Perm (insT x ts)
  | [] => .refl _
  | t :: ts => by
    unfold insT
    split
    · exact .refl _
    · exact (List.Perm.swap t x ts).trans ((insT_perm x ts).cons t)
theorem insT_so {x : Tie} : ∀ {ts : List Tie}, ts.Pairwise TLt → (∀ t, t ∈ ts → ¬ (x.1 = t.1 ∧ x.2.1 = t.2.1)) → (insT x ts).Pairwise TLt
  | [], _, _ => List.pairwise_singleton _ _
  | t :: ts, h, hu => by
    unfold insT
    obtain ⟨h1, h2⟩ := List.pairwise_cons.mp h
    split
    · rename_i q
      refine List.pairwise_cons.mpr ⟨fun u hm => ?_, h⟩
      rcases List.mem_cons.mp hm with rfl | hm
      · exact q
      · have := h1 u hm
        unfold TLt at *
        omega
    · rename_i q
      refine List.pairwise_cons.mpr ⟨fun u hm => ?_, insT_so h2 fun u hm => hu u (List.mem_cons_of_mem _ hm)⟩
      have hm := ((insT_perm x ts).mem_iff).mpr hm
      rcases List.mem_cons.mp hm with hm | hm
      · rw [hm]
        have := hu t List.mem_cons_self
        unfold TLt at *
        omega
      · exact h1 u hm
def srtT : List Tie → List Tie
  | [] => []
  | t :: ts => insT t (srtT ts)
theorem srtT_perm : ∀ ts : List Tie, ts.Perm (srtT ts)
  | [] => .refl _
  | t :: ts => ((srtT_perm ts).cons t).trans (insT_perm t (srtT ts))
theorem srtT_so : ∀ {ts : List Tie}, ts.Pairwise (fun t u => ¬ (t.1 = u.1 ∧ t.2.1 = u.2.1)) → (srtT ts).Pairwise TLt
  | [], _ => List.Pairwise.nil
  | t :: ts, h => by
    obtain ⟨h1, h2⟩ := List.pairwise_cons.mp h
    exact insT_so (srtT_so h2) fun u hu => h1 u ((srtT_perm ts).mem_iff.mpr hu)
theorem keys_so {ts : List Tie} (lt : ∀ t, t ∈ ts → t.1 < t.2.1) (so : ts.Pairwise TLt) : (wKeys ts).Nodup := by
  unfold wKeys List.Nodup
  rw [List.pairwise_flatMap]
  refine ⟨fun t ht => ?_, (List.pairwise_iff_getElem.mpr fun i j hi hj hij => ?_)⟩
  · have := lt t ht
    refine List.pairwise_cons.mpr ⟨fun y hy => ?_, List.pairwise_singleton _ _⟩
    rw [List.mem_singleton.mp hy]
    exact fun z => by have := intK2 z; omega
  · have q := (List.pairwise_iff_getElem.mp so) i j hi hj hij
    have l1 := lt _ (List.getElem_mem hi)
    have l2 := lt _ (List.getElem_mem hj)
    unfold TLt at q
    intro x hx y hy
    simp only [List.mem_cons, List.not_mem_nil, or_false] at hx hy
    rcases hx with rfl | rfl <;> rcases hy with rfl | rfl <;> exact fun z => by have := intK2 z; omega
theorem lf_lt {t : Tie} (h : t.1 ≠ t.2.1) : (lf t).1 < (lf t).2.1 := by
  unfold lf
  split
  · assumption
  · show t.2.1 < t.1
    omega
theorem pairT_lf0 {t : Tie} : pairT t = [(lf t).1, (lf t).2.1] ∨ t.1 = t.2.1 := by
  by_cases e : t.1 = t.2.1
  · exact .inr e
  · refine .inl ?_
    by_cases q : t.1 < t.2.1
    · have el : lf t = t := if_pos q
      rw [el]
      unfold pairT pairL
      rw [if_neg (by omega : ¬ t.2.1 < t.1), if_pos (show t.2.1 > t.1 from q)]
    · have el : lf t = (t.2.1, t.1, t.2.2.2, t.2.2.1) := if_neg q
      rw [el]
      show pairT t = [t.2.1, t.1]
      unfold pairT pairL
      rw [if_pos (by omega : t.2.1 < t.1), if_neg (by omega : ¬ t.2.1 > t.1)]
theorem pairs_nd {hs : List Tie} (h : pairAt hs = none) : (∀ t, t ∈ hs → t.1 ≠ t.2.1) ∧ (hs.map pairT).Nodup := by
  have hb := fd_nil h
  refine ⟨fun t ht e => ?_, ?_⟩
  · obtain ⟨i, hi, rfl⟩ := List.mem_iff_getElem.mp ht
    have := hb i hi
    rw [badP_at (List.getElem?_eq_getElem hi), decide_eq_true e] at this
    cases this
  · refine List.pairwise_iff_getElem.mpr fun i j hi hj hij e => ?_
    rw [List.length_map] at hi hj
    have := hb j hj
    rw [badP_at (List.getElem?_eq_getElem hj)] at this
    have h2 := (Bool.or_eq_false_iff.mp this).2
    rw [List.getElem_map, List.getElem_map] at e
    refine of_decide_eq_false h2 (List.mem_map.mpr ⟨hs[i], ?_, e⟩)
    exact List.mem_iff_getElem.mpr ⟨i, by rw [List.length_take]; omega, List.getElem_take⟩
theorem due_no {c : Int} {hs : List Tie} (few : hs.length ≤ 70) (h : due02 c hs = none) : NetOk c hs (srtT (hs.map lf)) := by
  unfold due02 at h
  by_cases hc : c < 2 ∨ c > 12
  · rw [if_pos hc] at h; cases h
  · rw [if_neg hc] at h
    cases hb : badH c (flatH hs) with
    | some v => rw [hb] at h; cases h
    | none =>
      rw [hb] at h
      cases hp : pairAt hs with
      | some l => rw [hp] at h; cases h
      | none =>
        rw [hp] at h
        cases hl : lowAt hs with
        | some l => rw [hl] at h; cases h
        | none =>
          obtain ⟨un, nd⟩ := pairs_nd hp
          have hi := badH_no hb
          have pm := (srtT_perm (hs.map lf)).symm
          have so : (srtT (hs.map lf)).Pairwise TLt := by
            refine srtT_so (List.pairwise_map.mpr (List.pairwise_iff_getElem.mpr fun i j hi hj hij e => ?_))
            have q := (List.pairwise_iff_getElem.mp nd) i j (by rw [List.length_map]; exact hi) (by rw [List.length_map]; exact hj) hij
            rw [List.getElem_map, List.getElem_map] at q
            have u1 := un _ (List.getElem_mem hi)
            have u2 := un _ (List.getElem_mem hj)
            rcases @pairT_lf0 hs[i] with a | a
            · rcases @pairT_lf0 hs[j] with b | b
              · exact q (by rw [a, b, e.1, e.2])
              · exact u2 b
            · exact u1 a
          refine ⟨by omega, ⟨few, fun t ht => ⟨hi _ (List.mem_flatMap.mpr ⟨t, ht, by simp⟩), hi _ (List.mem_flatMap.mpr ⟨t, ht, by simp⟩)⟩, un, nd, fun t ht => ?_⟩, pm, List.pairwise_map.mpr (so.imp fun h => lexL_tlt h), keys_so (fun t ht => ?_) so⟩
          · obtain ⟨i, hi, rfl⟩ := List.mem_iff_getElem.mp ht
            have := fd_nil hl i hi
            rw [lowP_at (List.getElem?_eq_getElem hi)] at this
            obtain ⟨z1, z2⟩ := Bool.or_eq_false_iff.mp this
            have z1 := of_decide_eq_false z1
            have z2 := of_decide_eq_false z2
            omega
          · obtain ⟨u, hu, rfl⟩ := List.mem_map.mp (pm.mem_iff.mp ht)
            exact lf_lt (un u hu)
theorem hu65_of {A : Around} {k : Nat} (hr : Room k A) : A.units + 65 < cLine := by
  have := hr.un
  omega
/-- no run of more than thirty figures stands in a text -/
def Fg (x : Str) : Prop := ∀ w : List Nat, w <:+: TL.tl x → AllDg w → w.length ≤ 30
theorem Fg.inf {x y : Str} (h : Fg x) (i : TL.tl y <:+: TL.tl x) : Fg y := fun w hw hd => h w (hw.trans i) hd
theorem Fg.all {x : Str} (h : Fg x) (hd : AllDg (TL.tl x)) : x.length ≤ 30 := by
  rw [TL.len_tl]
  exact h _ (List.infix_refl _) hd
theorem Fg.short {x : Str} (h : x.length ≤ 30) : Fg x := fun w hw _ => by
  rw [TL.len_tl] at h
  exact Nat.le_trans hw.length_le h
/-- signs that a text may hold -/
def Pl (x : Str) : Prop := ∀ c, c ∈ TL.tl x → c < 1114112
theorem Pl.inf {x y : Str} (h : Pl x) (i : TL.tl y <:+: TL.tl x) : Pl y := fun c hc => h c (i.subset hc)
theorem pre1 (s c : Nat) (r : List Nat) : TL.pre [s] (c :: r) = decide (c = s) := by
  show (([c] : List Nat) == [s]) = decide (c = s)
  by_cases h : c = s
  · rw [h, decide_eq_true rfl]; exact beq_self_eq_true _
  · rw [decide_eq_false h]
    refine beq_eq_false_iff_ne.mpr fun z => h ?_
    injection z
theorem spl1_hit {s : Nat} {acc r : List Nat} : TL.spl [s] 0 acc (s :: r) = acc :: TL.spl [s] 0 [] r := TL.spl_hit (by rw [pre1]; exact decide_eq_true rfl)
theorem spl1_miss {s c : Nat} {acc r : List Nat} (h : c ≠ s) : TL.spl [s] 0 acc (c :: r) = TL.spl [s] 0 (acc ++ [c]) r := TL.spl_miss (by rw [pre1]; exact decide_eq_false h)
theorem spl_inf (s : Nat) : ∀ (l acc p : List Nat), p ∈ TL.spl [s] 0 acc l → p <:+: acc ++ l
  | [], acc, p, h => by
    rw [TL.spl_nil] at h
    rw [List.mem_singleton.mp h, List.append_nil]
    exact List.infix_refl _
  | c :: r, acc, p, h => by
    by_cases e : c = s
    · subst e
      rw [spl1_hit] at h
      rcases List.mem_cons.mp h with rfl | h
      · exact (List.prefix_append _ _).isInfix
      · have := spl_inf c r [] p h
        rw [List.nil_append] at this
        exact this.trans ((List.suffix_cons c r).isInfix.trans (List.suffix_append acc _).isInfix)
    · rw [spl1_miss e] at h
      have := spl_inf s r (acc ++ [c]) p h
      rw [List.append_assoc] at this
      exact this
theorem spl_cnt (s : Nat) : ∀ (l acc : List Nat), (TL.spl [s] 0 acc l).length = l.count s + 1
  | [], acc => by rw [TL.spl_nil]; rfl
  | c :: r, acc => by
    by_cases e : c = s
    · subst e
      rw [spl1_hit, List.length_cons, spl_cnt c r [], List.count_cons_self]
    · rw [spl1_miss e, spl_cnt s r, List.count_cons_of_ne e]
theorem spl_free (s : Nat) : ∀ (l acc : List Nat), s ∉ acc → ∀ p, p ∈ TL.spl [s] 0 acc l → s ∉ p
  | [], acc, h, p, hp => by
    rw [TL.spl_nil] at hp
    rw [List.mem_singleton.mp hp]
    exact h
  | c :: r, acc, h, p, hp => by
    by_cases e : c = s
    · subst e
      rw [spl1_hit] at hp
      rcases List.mem_cons.mp hp with rfl | hp
      · exact h
      · exact spl_free c r [] (fun z => by cases z) p hp
    · rw [spl1_miss e] at hp
      refine spl_free s r (acc ++ [c]) (fun z => ?_) p hp
      rcases List.mem_append.mp z with z | z
      · exact h z
      · exact e (List.mem_singleton.mp z).symm
theorem spl_sum (s : Nat) : ∀ (l acc : List Nat), ((TL.spl [s] 0 acc l).map (·.length)).sum ≤ acc.length + l.length
  | [], acc => by
    rw [TL.spl_nil, List.map_cons, List.sum_cons]
    exact Nat.le_refl _
  | c :: r, acc => by
    by_cases e : c = s
    · subst e
      rw [spl1_hit, List.map_cons, List.sum_cons, List.length_cons]
      have := spl_sum c r []
      rw [List.length_nil] at this
      omega
    · rw [spl1_miss e]
      have := spl_sum s r (acc ++ [c])
      rw [List.length_append] at this
      have e1 : [c].length = 1 := rfl
      rw [List.length_cons]
      omega
theorem spl_par (s : Nat) : ∀ (l acc : List Nat), (TL.par [s] acc l = none → TL.spl [s] 0 acc l = [acc ++ l]) ∧ ∀ p q, TL.par [s] acc l = some (p, q) → TL.spl [s] 0 acc l = p :: TL.spl [s] 0 [] q ∧ p <:+: acc ++ l ∧ q <:+: acc ++ l
  | [], acc => ⟨fun _ => by rw [TL.spl_nil, List.append_nil], fun p q h => by cases h⟩
  | c :: r, acc => by
    by_cases e : c = s
    · subst e
      have hit : TL.par [c] acc (c :: r) = some (acc, r) := TL.par_hit (by rw [pre1]; exact decide_eq_true rfl)
      rw [hit, spl1_hit]
      refine ⟨fun h => (by cases h), fun p q h => ?_⟩
      cases h
      exact ⟨rfl, (List.prefix_append _ _).isInfix, ((List.suffix_cons c r).isInfix.trans (List.suffix_append acc _).isInfix)⟩
    · have miss : TL.par [s] acc (c :: r) = TL.par [s] (acc ++ [c]) r := TL.par_miss (by rw [pre1]; exact decide_eq_false e)
      rw [miss, spl1_miss e]
      obtain ⟨h1, h2⟩ := spl_par s r (acc ++ [c])
      refine ⟨fun h => by rw [h1 h, List.append_assoc]; rfl, fun p q h => ?_⟩
      obtain ⟨a, b, d⟩ := h2 p q h
      rw [List.append_assoc] at b d
      exact ⟨a, b, d⟩
/-- a plain separator of one sign -/
structure Sep (y : Str) (s : Nat) : Prop where
  tl : TL.tl y = [s]
  kind : y.cps.all (· < 256) = true
theorem Sep.split {y : Str} {s : Nat} (S : Sep y s) (x : Str) : (Txt.split x y).map TL.tl = TL.spl [s] 0 [] (TL.tl x) := by
  rw [TL.split_spl x y (by rw [S.tl]; simp) (TL.kind_ok S.kind), S.tl]
theorem Sep.inf {y : Str} {s : Nat} (S : Sep y s) {x w : Str} (h : w ∈ Txt.split x y) : TL.tl w <:+: TL.tl x := by
  have := spl_inf s (TL.tl x) [] (TL.tl w) (by rw [← S.split]; exact List.mem_map.mpr ⟨w, h, rfl⟩)
  rw [List.nil_append] at this
  exact this
theorem Sep.cnt {y : Str} {s : Nat} (S : Sep y s) (x : Str) : (Txt.split x y).length = (TL.tl x).count s + 1 := by
  have := congrArg List.length (S.split x)
  rw [List.length_map, spl_cnt] at this
  exact this
theorem Sep.free {y : Str} {s : Nat} (S : Sep y s) {x w : Str} (h : w ∈ Txt.split x y) : s ∉ TL.tl w :=
  spl_free s (TL.tl x) [] (fun z => by cases z) _ (by rw [← S.split]; exact List.mem_map.mpr ⟨w, h, rfl⟩)
theorem Sep.sum {y : Str} {s : Nat} (S : Sep y s) (x : Str) : ((Txt.split x y).map (·.length)).sum ≤ x.length := by
  have h := spl_sum s (TL.tl x) []
  rw [← S.split, List.map_map, List.length_nil, Nat.zero_add, ← TL.len_tl] at h
  refine Nat.le_trans (Nat.le_of_eq (congrArg List.sum (List.map_congr_left fun w _ => ?_))) h
  exact TL.len_tl w
theorem Sep.ne {y : Str} {s : Nat} (S : Sep y s) (x : Str) : ∃ w ws, Txt.split x y = w :: ws := by
  have := S.cnt x
  cases e : Txt.split x y with
  | nil => rw [e] at this; simp at this
  | cons w ws => exact ⟨w, ws, rfl⟩
/-- the parts of partition are parts of the text; none of them holds less than the text but for the separator -/
theorem Sep.part {y : Str} {s : Nat} (S : Sep y s) (x : Str) : (TL.tl (Txt.partition x y).1 <:+: TL.tl x ∧ TL.tl (Txt.partition x y).2.2 <:+: TL.tl x) ∧ (∀ c, c ≠ s → c ∈ TL.tl x → c ∈ TL.tl (Txt.partition x y).1 ∨ c ∈ TL.tl (Txt.partition x y).2.2) ∧
    ((Txt.split x y).length = 2 → Txt.split x y = [(Txt.partition x y).1, (Txt.partition x y).2.2]) ∧ ((Txt.split x y).length ≠ 2 → (Txt.partition x y).2.2 = Str.empty ∨ s ∈ TL.tl (Txt.partition x y).2.2) := by
  have sp := S.split x
  obtain ⟨h1, h2⟩ := spl_par s (TL.tl x) []
  rw [List.nil_append] at h1 h2
  rw [TL.partition_par x y (by rw [S.tl]; simp), S.tl]
  cases e : TL.par [s] [] (TL.tl x) with
  | none =>
    have e1 := h1 e
    rw [e1] at sp
    have l1 : (Txt.split x y).length = 1 := by have := congrArg List.length sp; rw [List.length_map] at this; exact this
    refine ⟨⟨List.infix_refl _, by show ([] : List Nat) <:+: _; exact List.nil_infix⟩, fun c _ hc => .inl hc, fun z => by omega, fun _ => .inl rfl⟩
  | some pq =>
    obtain ⟨p, q⟩ := pq
    obtain ⟨e1, e2, e3⟩ := h2 p q e
    rw [e1] at sp
    have e4 : TL.tl x = p ++ s :: q := by
      have go : ∀ (l acc : List Nat), TL.par [s] acc l = some (p, q) → acc ++ l = p ++ s :: q := fun l => by
        induction l with
        | nil => intro acc h; cases h
        | cons c r ih =>
          intro acc h
          by_cases z : c = s
          · subst z
            rw [TL.par_hit (by rw [pre1]; exact decide_eq_true rfl)] at h
            cases h
            rfl
          · rw [TL.par_miss (by rw [pre1]; exact decide_eq_false z)] at h
            have := ih _ h
            rw [List.append_assoc] at this
            exact this
      exact go _ [] e
    refine ⟨⟨e2, e3⟩, fun c hc hm => ?_, fun z => ?_, fun z => ?_⟩
    · rw [e4] at hm
      rcases List.mem_append.mp hm with hm | hm
      · exact .inl hm
      · exact .inr ((List.mem_cons.mp hm).resolve_left hc)
    · have l2 := congrArg List.length sp
      rw [List.length_map, List.length_cons, spl_cnt, z] at l2
      have fr : s ∉ q := fun z => by have := List.count_pos_iff.mpr z; omega
      rw [TL.spl_last1 fr, List.nil_append] at sp
      exact TL.map_tl_inj sp
    · have l2 := congrArg List.length sp
      rw [List.length_map, List.length_cons, spl_cnt] at l2
      refine .inr ?_
      show s ∈ q
      refine List.count_pos_iff.mp ?_
      omega
theorem sep_sp : Sep (" " : Str) 32 := ⟨by decide +kernel, by decide +kernel⟩
theorem sep_col : Sep (":" : Str) 58 := ⟨by decide +kernel, by decide +kernel⟩
theorem sep_dash : Sep ("-" : Str) 45 := ⟨by decide +kernel, by decide +kernel⟩
theorem sep_sl : Sep ("/" : Str) 47 := ⟨by decide +kernel, by decide +kernel⟩
abbrev sp_numof (K : PySem.W.Frag) : Sp := spSh K (fun x : Str => x.length ≤ 20000 ∧ Fg x) (fun x => [(true, .str x)]) (fun x => optI (numT x))
theorem cal_numof (T : Tx K mg C fI CD fD) : Cal P w K mg base 1 "number_of" (sp_numof K) := by
  refine T.d_number_of.sh sc_number_of (fun _ => rfl) (by decide) (fun _ _ _ _ _ _ us hl => match us, hl with | [_], _ => rfl) (fun f cdv A outer s H E hr x hx => ?_)
  have hu := hu_of hr
  have hu64 := hu64_of hr
  refine ⟨_, (pss_cons (ps_if (PW.pt (pw_or (pt_not (pt_truth (pv 0) (by intro _; rfl))) (pw_or1 (pt_not (pt_val (pe_callB (cr_all rfl) (by rfl) T.z_all (by decide +kernel) (pa_cons (pe_lc (own := [("sign", 1)]) rfl sc_number_of.nd (pi_str (pv 0)) (blkOk_by (N := N_number_of) (sc := defScope s_number_of) (by decide +kernel)) (fun _ _ _ _ _ => (pg_name (i := 1) sc_number_of.nd rfl (Or.inl rfl))) (fun _ _ _ _ _ => pts_nil) (fun _ _ _ _ _ => (pe_cmpR op_in_sign (pv 1) (pe_gstr rfl T.c_fig) (by with_unfolding_all rfl)))) pa_nil))))))) (pss_one (ps_ret pe_non)) pss_nil) (pss_cons (ps_if (PW.pt (pw_and (pt_cmpR op_eq (pe_ix ix_str (pv 0) pe_int (fun _ _ => rfl)) pe_str (nomark _)) (pw_and1 (pt_cmpR op_ne (pv 0) pe_str (nomark _))))) (pss_one (ps_ret pe_non)) pss_nil) (pss_one (ps_ret (pe_callTy call_int_str (by rfl) T.z_int (by decide +kernel) (pa_cons (pv 0) pa_nil)))))), ?_⟩
  obtain ⟨hx, fg⟩ := hx
  have hx : x.length ≤ 20000 := hx
  have fg : Fg x := fg
  show SD K _ [.sh (.str x), .no] { nx := fun _ => optI (numT x) = D.non, rt := RSh K (optI (numT x)) }
  have lc := len_cps x
  refine sd_seq (sd_if (b := !(!decide (x.length = 0)) || !(x.cps.toList.all isDg)) (et_or (et_not (et_truS (ed_var rfl) (by omega))) fun _ => et_not (et_B (ed_is (ed_all (bs := x.cps.toList.map isDg) (ed_er (ed_eo (eo_is (eo_lc (xs := x.cps.toList) (emb := fun c => Sl.sh (.str (sgn c))) (f := fun _ => true) (v := fun c => D.bl (isDg c)) (ei_c (ei_s (ed_var rfl))) (by omega)
    fun i c hc => bg_name (by simp) ⟨et_yes, fun _ => ed_is (ed_inSg (ed_var rfl) ed_str) (congrArg D.bl (fig_mem c))⟩) (by rw [List.filter_eq_self.mpr fun _ _ => rfl, List.map_map]; rfl))))) (by rw [List.all_map]; rfl)))) (fun hb => ?_) fun hb => sd_next ?_)
  · have e : numT x = none := if_neg fun z => by
      unfold isNum at z
      rw [Bool.and_eq_true, Bool.and_eq_true] at z
      rw [z.1.1, z.1.2] at hb
      cases hb
    rw [e]
    exact sd_ret (d := .non) ed_non fun _ _ _ _ z => z
  obtain ⟨hb1, hb2⟩ : (!decide (x.length = 0)) = true ∧ x.cps.toList.all isDg = true := by
    cases q1 : (!decide (x.length = 0)) with
    | false => rw [q1] at hb; cases hb
    | true =>
      cases q2 : x.cps.toList.all isDg with
      | true => exact ⟨rfl, rfl⟩
      | false => rw [q1, q2] at hb; cases hb
  have x0 : x.length ≠ 0 := of_decide_eq_false ((Bool.not_eq_true' _).mp hb1)
  obtain ⟨c, hc⟩ : ∃ c, x.cps.toList[0]? = some c := ⟨x.cps.toList[0]'(by omega), List.getElem?_eq_getElem _⟩
  refine sd_seq (sd_if (b := decide (x.cps.toList[0]? = some 48) && !decide (x = ("0" : Str))) (et_and (et_is (et_test (ed_eqS (ed_ixS (l := 0) (c := c) (ed_var rfl) ed_int rfl hc (by omega)) ed_str)) (by rw [sgn_eq, hc]; exact decide_eq_decide.mpr ⟨fun h => by rw [h], fun h => Option.some.inj h⟩)) fun _ => et_test (ed_neS (ed_var rfl) ed_str)) (fun hb => ?_) fun hb => sd_next ?_)
  · have e : numT x = none := if_neg fun z => by
      unfold isNum at z
      rw [hb, Bool.and_eq_true] at z
      exact absurd z.2 (by decide)
    rw [e]
    exact sd_ret (d := .non) ed_non fun _ _ _ _ z => z
  have e : numT x = some ((NumText.digitsVal x.cps.toList : Nat) : Int) := if_pos (by unfold isNum; rw [hb1, hb2, hb]; rfl)
  rw [e]
  exact sd_ret (d := .int ((NumText.digitsVal x.cps.toList : Nat) : Int)) (ed_intS (ed_var rfl) (intText_digits (isDg_all.mp hb2) (fun z => x0 (by rw [← lc, z]; rfl)) (by have := fg.all (isDg_all.mp hb2); omega)) (by have := fg.all (isDg_all.mp hb2); omega)) fun _ _ _ _ z => z
theorem par_len {S : List Nat} : ∀ (l acc : List Nat) (p q : List Nat), TL.par S acc l = some (p, q) → p.length ≤ acc.length + l.length ∧ q.length ≤ l.length
  | [], acc, p, q, h => by cases h
  | c :: r, acc, p, q, h => by
    unfold TL.par at h
    split at h
    · cases h
      exact ⟨Nat.le_add_right _ _, by rw [List.length_drop]; exact Nat.sub_le _ _⟩
    · have := par_len r (acc ++ [c]) p q h
      rw [List.length_append] at this
      have e : [c].length = 1 := rfl
      rw [List.length_cons]
      omega
theorem part_len (x y : Str) (hy : TL.tl y ≠ []) : (Txt.partition x y).1.length ≤ x.length ∧ (Txt.partition x y).2.2.length ≤ x.length := by
  rw [TL.partition_par x y hy, TL.len_tl x]
  cases e : TL.par (TL.tl y) [] (TL.tl x) with
  | none => exact ⟨Nat.le_of_eq (TL.len_tl x), Nat.zero_le _⟩
  | some pq =>
    obtain ⟨p, q⟩ := pq
    have := par_len _ _ p q e
    rw [List.length_nil, Nat.zero_add] at this
    exact ⟨by rw [TL.len_tl]; exact this.1, by rw [TL.len_tl]; exact this.2⟩
def tieT (x : Str) : Option Tie :=
  let hw := Txt.partition x ":"
  let ab := Txt.partition hw.1 "-"
  let tb := Txt.partition hw.2.2 "/"
  match numT ab.1, numT ab.2.2, numT tb.1, numT tb.2.2 with
  | some a, some b, some t, some k => some (a, b, t, k)
  | _, _, _, _ => none
def otD (o : Option Tie) : BV.D := match o with
  | none => .non
  | some t => tieD t
abbrev sp_tieof (K : PySem.W.Frag) : Sp := spSh K (fun x : Str => x.length ≤ 20000 ∧ Fg x) (fun x => [(true, .str x)]) (fun x => otD (tieT x))
theorem cal_tieof (T : Tx K mg C fI CD fD) : Cal P w K mg base 2 "_tie_of" (sp_tieof K) := by
  refine T.d__tie_of.sh sc__tie_of (fun _ => rfl) (by decide) (fun _ _ _ _ _ _ us hl => match us, hl with | [_], _ => rfl) (fun f cdv A outer s H E hr x hx => ?_)
  have hu := hu_of hr
  have hu64 := hu64_of hr
  refine ⟨_, (pss_cons (ps_asg (pe_partition (pv 0) pe_str) (pg_tup rfl (pgs_cons (pg_name (i := 1) sc__tie_of.nd rfl (Or.inl rfl)) (pgs_cons (pg_name (i := 2) sc__tie_of.nd rfl (Or.inl rfl)) (pgs_cons (pg_name (i := 3) sc__tie_of.nd rfl (Or.inl rfl)) pgs_nil))))) (pss_cons (ps_asg (pe_partition (pv 1) pe_str) (pg_tup rfl (pgs_cons (pg_name (i := 4) sc__tie_of.nd rfl (Or.inl rfl)) (pgs_cons (pg_name (i := 2) sc__tie_of.nd rfl (Or.inl rfl)) (pgs_cons (pg_name (i := 5) sc__tie_of.nd rfl (Or.inl rfl)) pgs_nil))))) (pss_cons (ps_asg (pe_partition (pv 3) pe_str) (pg_tup rfl (pgs_cons (pg_name (i := 6) sc__tie_of.nd rfl (Or.inl rfl)) (pgs_cons (pg_name (i := 2) sc__tie_of.nd rfl (Or.inl rfl)) (pgs_cons (pg_name (i := 7) sc__tie_of.nd rfl (Or.inl rfl)) pgs_nil))))) (pss_cons (ps_set (i := 8) sc__tie_of.nd rfl (Or.inl rfl) (pe_tup (pa_cons (pe_cal (cal_numof T) hr (by first | decide | exact Nat.le_refl _) (by rfl) (pa_cons (pv 4) pa_nil)) (pa_cons (pe_cal (cal_numof T) hr (by first | decide | exact Nat.le_refl _) (by rfl) (pa_cons (pv 5) pa_nil)) (pa_cons (pe_cal (cal_numof T) hr (by first | decide | exact Nat.le_refl _) (by rfl) (pa_cons (pv 6) pa_nil)) (pa_cons (pe_cal (cal_numof T) hr (by first | decide | exact Nat.le_refl _) (by rfl) (pa_cons (pv 7) pa_nil)) pa_nil)))))) (pss_one (ps_ret (pe_ifExp (pt_cmpR op_in_seq pe_non (pv 8) (by with_unfolding_all rfl)) pe_non (pv 8)))))))), ?_⟩
  obtain ⟨hx, fg⟩ := hx
  have hx : x.length ≤ 20000 := hx
  have fg : Fg x := fg
  have f1 := (sep_col.part x).1
  have f2 := (sep_dash.part (Txt.partition x ":").1).1
  have f3 := (sep_sl.part (Txt.partition x ":").2.2).1
  have g1 := fg.inf f1.1
  have g2 := fg.inf f1.2
  have fA := g1.inf f2.1
  have fB := g1.inf f2.2
  have fC := g2.inf f3.1
  have fD := g2.inf f3.2
  clear f1 f2 f3 g1 g2 fg
  show SD K _ [.sh (.str x), .no, .no, .no, .no, .no, .no, .no, .no] { nx := fun _ => otD (tieT x) = D.non, rt := RSh K (otD (tieT x)) }
  have p1 := part_len x ":" (by decide +kernel)
  refine sd_seq (sd_asgG (vs := [1, 2, 3]) (ed_part (ed_var rfl) ed_str (by decide +kernel) (by omega)) (bg_tup rfl (bgs_cons (bg_name (by simp) (bgs_cons (bg_name (by simp) (bgs_cons (bg_name (by simp) (bgs_nil ?_)))))))))
  have p2 := part_len (Txt.partition x ":").1 "-" (by decide +kernel)
  refine sd_seq (sd_asgG (vs := [4, 2, 5]) (ed_part (ed_var rfl) ed_str (by decide +kernel) (by omega)) (bg_tup rfl (bgs_cons (bg_name (by simp) (bgs_cons (bg_name (by simp) (bgs_cons (bg_name (by simp) (bgs_nil ?_)))))))))
  have p3 := part_len (Txt.partition x ":").2.2 "/" (by decide +kernel)
  refine sd_seq (sd_asgG (vs := [6, 2, 7]) (ed_part (ed_var rfl) ed_str (by decide +kernel) (by omega)) (bg_tup rfl (bgs_cons (bg_name (by simp) (bgs_cons (bg_name (by simp) (bgs_cons (bg_name (by simp) (bgs_nil ?_)))))))))
  have et : tieT x = (match numT (Txt.partition (Txt.partition x ":").1 "-").1, numT (Txt.partition (Txt.partition x ":").1 "-").2.2, numT (Txt.partition (Txt.partition x ":").2.2 "/").1, numT (Txt.partition (Txt.partition x ":").2.2 "/").2.2 with
    | some a, some b, some t, some k => some (a, b, t, k)
    | _, _, _, _ => none) := rfl
  generalize Txt.partition (Txt.partition x ":").1 "-" = A1 at p2 et fA fB
  generalize Txt.partition (Txt.partition x ":").2.2 "/" = B1 at p3 et fC fD
  generalize Txt.partition x ":" = X1 at p1 p2 p3
  refine sd_seq (sd_asg (d := .tup [optI (numT A1.1), optI (numT A1.2.2), optI (numT B1.1), optI (numT B1.2.2)]) (ed_tup (eb_cons (ed_call A1.1 ⟨by show A1.1.length ≤ 20000; omega, fA⟩ (ea_sh (ed_var rfl) ea_nil)) (eb_cons (ed_call A1.2.2 ⟨by show A1.2.2.length ≤ 20000; omega, fB⟩ (ea_sh (ed_var rfl) ea_nil)) (eb_cons (ed_call B1.1 ⟨by show B1.1.length ≤ 20000; omega, fC⟩ (ea_sh (ed_var rfl) ea_nil)) (eb_cons (ed_call B1.2.2 ⟨by show B1.2.2.length ≤ 20000; omega, fD⟩ (ea_sh (ed_var rfl) ea_nil)) eb_nil)))) (by show (4 : Nat) ≤ 100000; decide)) ?_)
  rw [et]
  generalize numT A1.1 = o1
  generalize numT A1.2.2 = o2
  generalize numT B1.1 = o3
  generalize numT B1.2.2 = o4
  have fo : ∀ o : Option Int, flF (optI o) = true := fun o => by cases o <;> rfl
  have eo : ∀ o : Option Int, eqF (optI o) D.non = o.isNone := fun o => by cases o <;> rfl
  refine sd_ret (d := otD (match o1, o2, o3, o4 with
    | some a, some b, some t, some k => some (a, b, t, k)
    | _, _, _, _ => none)) (ed_if (b := o1.isNone || (o2.isNone || (o3.isNone || (o4.isNone || false)))) (et_is (et_test (ed_inTp (d := .non) (ds := [optI o1, optI o2, optI o3, optI o4]) ed_non (ed_er (ed_var rfl)) (by simp [fo]) rfl)) (by rw [List.any_cons, List.any_cons, List.any_cons, List.any_cons, List.any_nil, eo, eo, eo, eo])) (fun h => ?_) fun h => ?_) fun _ _ _ _ z => z
  · cases o1 <;> cases o2 <;> cases o3 <;> cases o4 <;> first | exact ed_non | (cases h; done)
  · cases o1 <;> cases o2 <;> cases o3 <;> cases o4 <;> first | (cases h; done) | exact ed_var rfl
def nsOf (x : Str) : List Bool := (numT ((Txt.split x " ").headD Str.empty)).isNone :: (Txt.split x " ").tail.map fun w => (tieT w).isNone
def cOf (x : Str) : Int := (numT ((Txt.split x " ").headD Str.empty)).getD 0
def hsOf (x : Str) : List Tie := (Txt.split x " ").tail.filterMap tieT
/-- what a text is read as -/
inductive Rd where
  | bad (e : Exn)
  | ok (c : Int) (hs : List Tie)
def rdOf (x : Str) : Rd := if (nsOf x).any id = true then .bad (.text ((nsOf x).findIdx id)) else match due02 (cOf x) (hsOf x) with
  | some e => .bad e
  | none => .ok (cOf x) (hsOf x)
/-- a text as they are handed in -/
structure TxOk (x : Str) : Prop where
  len : x.length ≤ 20000
  fg : Fg x
  few : (Txt.split x " ").length ≤ 60
  pl : Pl x
theorem TxOk.word {x w : Str} (X : TxOk x) (h : w ∈ Txt.split x " ") : w.length ≤ 20000 ∧ Fg w := by
  have i := sep_sp.inf h
  refine ⟨?_, X.fg.inf i⟩
  have := i.length_le
  rw [← TL.len_tl, ← TL.len_tl] at this
  exact Nat.le_trans this X.len
def toldD (x : Str) : List BV.D := optI (numT ((Txt.split x " ").headD Str.empty)) :: (Txt.split x " ").tail.map fun w => otD (tieT w)
theorem eqv_opt (o : Option Int) : PyData.eqv (optI o).py BV.D.non.py = o.isNone := by cases o <;> rfl
theorem eqv_otD (o : Option Tie) : PyData.eqv (otD o).py BV.D.non.py = o.isNone := by
  cases o with
  | none => rfl
  | some t => rfl
theorem told_eqv (x : Str) : (toldD x).map (fun y => PyData.eqv y.py BV.D.non.py) = nsOf x := by
  unfold toldD nsOf
  rw [List.map_cons, List.map_map, eqv_opt]
  refine congrArg _ (List.map_congr_left fun w _ => ?_)
  exact eqv_otD _
theorem told_any (x : Str) : ((toldD x).any fun y => PyData.eqv y.py BV.D.non.py) = (nsOf x).any id := by
  rw [← told_eqv, List.any_map]
  rfl
theorem flt_opt (o : Option Int) : Flt 1 (optI o) := by
  cases o with
  | none => exact Flt.non
  | some v => exact Flt.int
theorem flt_tieD (t : Tie) : Flt 2 (tieD t) := Flt.tup fun d hd => by
  simp only [List.mem_cons, List.not_mem_nil, or_false] at hd
  rcases hd with rfl | rfl | rfl | rfl <;> exact Flt.int
theorem flt_otD (o : Option Tie) : Flt 2 (otD o) := by
  cases o with
  | none => exact Flt.up (k := 1) Flt.non (by decide)
  | some t => exact flt_tieD t
theorem flt_told (x : Str) : Flt 60 (.lst (toldD x)) := Flt.up (k := 3) (Flt.lst fun d hd => by
  rcases List.mem_cons.mp hd with rfl | hd
  · exact Flt.up (k := 1) (flt_opt _) (by decide)
  · obtain ⟨w, _, rfl⟩ := List.mem_map.mp hd
    exact flt_otD _) (by decide)
theorem flt_non60 : Flt 60 D.non := Flt.up (k := 1) Flt.non (by decide)
theorem cut_1t (x : D) (ds : List D) : BV.cutD (x :: ds) (some 1) none = ds := by
  unfold BV.cutD
  have e : HT.sIx (x :: ds).length 0 (some ((1 : Nat) : Int)) = 1 := by
    rw [HT.sIx_nat]
    show min 1 (ds.length + 1) = 1
    omega
  have e : HT.sIx (x :: ds).length 0 (some 1) = 1 := e
  rw [e, HT.sIx_none]
  show (ds.take ((ds.length + 1) - 1)) = ds
  rw [Nat.add_sub_cancel, List.take_length]
/-- where none is unread -/
theorem none_read {x : Str} (h : (nsOf x).any id = false) : numT ((Txt.split x " ").headD Str.empty) = some (cOf x) ∧ (Txt.split x " ").tail.map tieT = (hsOf x).map some ∧ toldD x = .int (cOf x) :: (hsOf x).map tieD := by
  unfold nsOf at h
  rw [List.any_cons, Bool.or_eq_false_iff] at h
  obtain ⟨h1, h2⟩ := h
  have e1 : numT ((Txt.split x " ").headD Str.empty) = some (cOf x) := by
    unfold cOf
    cases e : numT ((Txt.split x " ").headD Str.empty) with
    | none => rw [e] at h1; cases h1
    | some v => rfl
  have e2 : (Txt.split x " ").tail.map tieT = (hsOf x).map some := by
    unfold hsOf
    generalize (Txt.split x " ").tail = ws at h2
    induction ws with
    | nil => rfl
    | cons w ws ih =>
      rw [List.map_cons, List.any_cons, Bool.or_eq_false_iff] at h2
      obtain ⟨a, b⟩ := h2
      cases e : tieT w with
      | none => rw [e] at a; cases a
      | some t => rw [List.map_cons, List.filterMap_cons, e, List.map_cons, ih b]
  refine ⟨e1, e2, ?_⟩
  unfold toldD
  rw [e1]
  have := congrArg (List.map otD) e2
  rw [List.map_map, List.map_map] at this
  exact congrArg _ this
theorem hs_len (x : Str) : (hsOf x).length + 1 ≤ (Txt.split x " ").length := by
  obtain ⟨w, ws, e⟩ := sep_sp.ne x
  unfold hsOf
  rw [e, List.tail_cons, List.length_cons]
  exact Nat.succ_le_succ (List.length_filterMap_le _ _)
abbrev sp_readnetB (K : PySem.W.Frag) (C : Addr) : Sp := spSh K (fun x : Str × Nat × List Tie => TxOk x.1 ∧ rdOf x.1 = .ok (x.2.1 : Int) x.2.2) (fun x => [(true, .str x.1)]) (fun x => netD C x.2.1 (srtT (x.2.2.map lf)))
theorem cal_readnet (T : Tx K mg C fI CD fD) : Cal P w K mg base 6 "read_net" (sp_readnetB K C) := by
  refine T.d_read_net.sh sc_read_net (fun _ => rfl) (by decide) (fun _ _ _ _ _ _ us hl => match us, hl with | [_], _ => rfl) (fun f cdv A outer s H E hr x hx => ?_)
  have hu := hu_of hr
  have hu64 := hu64_of hr
  have hu65 := hu65_of hr
  refine ⟨_, (pss_cons (ps_set (i := 1) sc_read_net.nd rfl (Or.inl rfl) (pe_split (pv 0) pe_str)) (pss_cons (ps_set (i := 2) sc_read_net.nd rfl (Or.inl rfl) (pe_cal (cal_numof T) hr (by first | decide | exact Nat.le_refl _) (by rfl) (pa_cons (pe_ix ix_list (pv 1) pe_int (fun _ _ => rfl)) pa_nil))) (pss_cons (ps_setLc (own := [("word", 5)]) (i := 3) rfl sc_read_net.nd rfl rfl (sw_true rfl rfl rfl (by decide +kernel)) (pi_list (pe_slice sl_list (pv 1) (po_some pe_int) po_none)) (blkOk_by (N := N_read_net) (sc := defScope s_read_net) (by decide +kernel)) (fun _ _ _ _ _ => (pg_name (i := 5) sc_read_net.nd rfl (Or.inl rfl))) (fun _ _ _ _ _ => pts_nil) (fun _ _ _ _ _ => (pe_cal (cal_tieof T) hr (by first | decide | exact Nat.le_refl _) (by rfl) (pa_cons (pv 5) pa_nil)))) (pss_cons (ps_set (i := 4) sc_read_net.nd rfl (Or.inl rfl) (pe_op op_catS (pe_lst (pa_cons (pv 2) pa_nil)) (pv 3))) (pss_cons (ps_if (pt_cmpR (op_inD hu65) pe_non (pv 4) (by with_unfolding_all rfl)) pss_never pss_nil) (pss_one (ps_ret (pe_mak (mak_net T) hr (by first | decide | exact Nat.le_refl _) (by rfl) (pa_cons (pv 2) (pa_cons (pv 3) pa_nil)))))))))), ?_⟩
  obtain ⟨x, n, hs⟩ := x
  obtain ⟨X, he⟩ := hx
  have X : TxOk x := X
  have he : rdOf x = .ok (n : Int) hs := he
  obtain ⟨w0, ws, hsp⟩ := sep_sp.ne x
  have few := X.few
  have hl := X.len
  have wd : ∀ w, w ∈ w0 :: ws → w.length ≤ 20000 ∧ Fg w := fun w hw => X.word (by rw [hsp]; exact hw)
  have lw : ws.length ≤ 59 := by rw [hsp, List.length_cons] at few; omega
  have cut : BV.cutD ((w0 :: ws).map D.str) (some 1) none = ws.map D.str := by
    rw [List.map_cons]
    exact cut_1t _ _
  have etd : toldD x = optI (numT w0) :: ws.map fun w => otD (tieT w) := by unfold toldD; rw [hsp]; rfl
  have anyD : ∀ ρ : List Sl, ρ[4]? = some (.sh (.lst (toldD x))) → ET K _ ρ ((nsOf x).any id) := fun ρ e => et_is (et_test (ed_inD (d := .non) (ds := toldD x) (ed_er ed_non) (ed_er (ed_var e)) flt_non60 (flt_told x))) (told_any x)
  show SD K _ [.sh (.str x), .no, .no, .no, .no, .no] { nx := fun _ => netD C n (srtT (hs.map lf)) = D.non, rt := RSh K (netD C n (srtT (hs.map lf))) }
  unfold rdOf at he
  by_cases q : (nsOf x).any id = true
  · rw [if_pos q] at he; cases he
  rw [if_neg q] at he
  have q : (nsOf x).any id = false := by cases h : (nsOf x).any id with | true => exact absurd h q | false => rfl
  obtain ⟨r1, r2, r3⟩ := none_read q
  have hln := hs_len x
  obtain ⟨hd, ec, eh⟩ : due02 (cOf x) (hsOf x) = none ∧ cOf x = (n : Int) ∧ hsOf x = hs := by
    cases h : due02 (cOf x) (hsOf x) with
    | none => rw [h] at he; injection he with a b; exact ⟨rfl, a, b⟩
    | some e' => rw [h] at he; cases he
  rw [ec, eh] at hd r3
  rw [eh] at hln
  have r1 : numT w0 = some (n : Int) := by rw [hsp] at r1; rw [ec] at r1; exact r1
  have ews : (ws.map fun w => otD (tieT w)) = hs.map tieD := by
    rw [etd] at r3
    exact (List.cons.inj r3).2
  refine sd_seq (sd_asg (d := .lst ((w0 :: ws).map .str)) (ed_eo (eo_is (eo_split (ed_var rfl) ed_str (by decide +kernel) (by omega)) (by rw [hsp]))) ?_)
  refine sd_seq (sd_asg (d := .int (n : Int)) (ed_is (ed_call w0 (wd w0 List.mem_cons_self) (ea_sh (ed_ixL (l := 0) (d := .str w0) (ed_var rfl) ed_int rfl rfl) ea_nil)) (by show optI (numT w0) = _; rw [r1]; rfl)) ?_)
  refine sd_seq (sd_asg (d := .lst (hs.map tieD)) (ed_eo (eo_is (eo_lc (xs := ws) (emb := fun w => .sh (.str w)) (f := fun _ => true) (v := fun w => otD (tieT w)) (ei_c (ei_mm (f := D.str) (w := Sl.sh) (ei_l (ed_is (ed_eo (eo_sl (ed_var rfl) (ep_at ed_int) ep_no)) (by rw [cut]))))) (by omega)
    fun i w hw => bg_name (by simp) ⟨et_yes, fun _ => ed_call w (wd w (List.mem_cons_of_mem _ (List.mem_of_getElem? hw))) (ea_sh (ed_var rfl) ea_nil)⟩) (by
      rw [List.filter_eq_self.mpr fun _ _ => rfl, ews]))) ?_)
  refine sd_seq (sd_asg (d := .lst (toldD x)) (ed_eo (eo_is (eo_catS (ds := [.int (n : Int)]) (es := hs.map tieD) (ed_eo (eo_lst (eb_cons (ed_var rfl) eb_nil))) (ed_var rfl) (by rw [List.length_map]; show 1 + _ ≤ 100000; omega)) (by rw [r3]; rfl))) ?_)
  refine sd_seq (sd_if (anyD _ rfl) (fun h => by rw [q] at h; cases h) fun _ => sd_next ?_)
  exact sd_ret (d := netD C n (srtT (hs.map lf))) (ed_make ((n : Int), hs, srtT (hs.map lf)) (due_no (by show hs.length ≤ 70; omega) hd) (ea_sh (ed_var rfl) (ea_rd (ed_er (ed_var rfl)) ea_nil))) fun _ _ _ _ z => z
def rest (c : Int) (k : Nat) : Int := if 0 ≤ c - 10 ^ 18 then (c - 10 ^ 18) / 1000003 ^ k else c - 10 ^ 18
theorem rest_zero (c : Int) : rest c 0 = c - 10 ^ 18 := by
  unfold rest
  split
  · rw [Int.pow_zero, Int.ediv_one]
  · rfl
theorem rest_sign (c : Int) (k : Nat) : 0 ≤ rest c k ↔ 0 ≤ c - 10 ^ 18 := by
  unfold rest
  split
  · rename_i h
    have h2 : (0 : Int) < 1000003 ^ k := Int.pow_pos (by decide)
    exact ⟨fun _ => h, fun _ => Int.ediv_nonneg h (Int.le_of_lt h2)⟩
  · exact Iff.rfl
/-- a drawn number -/
def drw (c : Int) (k : Nat) : Int := if 0 ≤ c - 10 ^ 18 then (c - 10 ^ 18) / 1000003 ^ k % 1000003 else mixed c k
theorem drw_yes {c : Int} {k : Nat} (h : 0 ≤ rest c k) : drw c k = rest c k % 1000003 := by
  have h1 := (rest_sign c k).1 h
  unfold drw rest
  rw [if_pos h1, if_pos h1]
theorem drw_no {c : Int} {k : Nat} (h : ¬ 0 ≤ rest c k) : drw c k = mixed c k := if_neg fun z => h ((rest_sign c k).2 z)
theorem rest_yes {c : Int} {k : Nat} (h : 0 ≤ rest c k) : rest c (k + 1) = rest c k / 1000003 := by
  have h1 := (rest_sign c k).1 h
  unfold rest
  rw [if_pos h1, if_pos h1, Int.pow_succ (1000003 : Int) k, Int.ediv_ediv_of_nonneg (Int.le_of_lt (Int.pow_pos (by decide)))]
theorem rest_no {c : Int} {k : Nat} (h : ¬ 0 ≤ rest c k) : rest c (k + 1) = rest c k := by
  have h1 := fun z => h ((rest_sign c k).2 z)
  unfold rest
  rw [if_neg h1, if_neg h1]
theorem drw_bd (c : Int) (k : Nat) : 0 ≤ drw c k ∧ drw c k < 2147483587 := by
  unfold drw
  split
  · omega
  · unfold mixed
    omega
def draws (c : Int) (m : Nat) : List Int := (List.range m).map (drw c)
theorem draws_len (c : Int) (m : Nat) : (draws c m).length = m := by unfold draws; rw [List.length_map, List.length_range]
/-- numbers as they are drawn -/
def Dw (ys : List Int) : Prop := ∀ y, y ∈ ys → 0 ≤ y ∧ y < 2147483587
theorem draws_dw (c : Int) (m : Nat) : Dw (draws c m) := fun y hy => by
  obtain ⟨k, _, rfl⟩ := List.mem_map.mp hy
  exact drw_bd c k
theorem Dw.at {ys : List Int} (h : Dw ys) {k : Nat} (hk : k < ys.length) : ys[k]? = some (ys.getD k 0) ∧ 0 ≤ ys.getD k 0 ∧ ys.getD k 0 < 2147483587 := by
  have e : ys[k]? = some (ys.getD k 0) := by rw [List.getD_eq_getElem?_getD, List.getElem?_eq_getElem hk]; rfl
  exact ⟨e, h _ (List.mem_of_getElem? e)⟩
theorem dw_at {ys : List Int} {k : Nat} (hk : k < ys.length) : (ys.map D.int)[k]? = some (.int (ys.getD k 0)) := by
  rw [List.getElem?_map, List.getD_eq_getElem?_getD, List.getElem?_eq_getElem hk]
  rfl
abbrev sp_draws (K : PySem.W.Frag) : Sp := spOw K (fun x : Int × Nat => x.2 ≤ 66) (fun x => [(true, .int x.1), (true, .int x.2)]) (fun x => .lst ((draws x.1 x.2).map .int))
theorem cal_draws (T : Tx K mg C fI CD fD) : Cal P w K mg base 2 "_law_draws" (sp_draws K) := by
  refine T.d__law_draws.ow sc__law_draws (fun _ => rfl) (by decide) (fun _ _ _ _ _ _ us hl => match us, hl with | [_, _], _ => rfl) (fun f cdv A outer s H E hr x hx => ?_)
  refine ⟨_, (pss_cons (ps_set (i := 2) sc__law_draws.nd rfl (Or.inl rfl) (pe_lst pa_nil)) (pss_cons (ps_set (i := 3) sc__law_draws.nd rfl (Or.inl rfl) (pe_op op_sub (pv 0) (pe_op op_pow pe_int pe_int))) (pss_cons (ps_for PassesOwn.never rfl (pi_range1 (by rfl) T.z_range (pa_cons (pv 1) pa_nil)) (pg_name (i := 4) sc__law_draws.nd rfl (Or.inl rfl)) (pss_one (ps_if (pt_cmpR op_ge (pv 3) pe_int (nomark _)) (pss_cons (ps_expr (pe_bm PySem.F.plainAttrs_list PySem.F.slot_list_append PySem.F.type_list_append mt_append (pv 2) (pa_cons (pe_op op_mod (pv 3) pe_int) pa_nil))) (pss_one (ps_set (i := 3) sc__law_draws.nd rfl (Or.inl rfl) (pe_op op_fdiv (pv 3) pe_int)))) (pss_one (ps_expr (pe_bm PySem.F.plainAttrs_list PySem.F.slot_list_append PySem.F.type_list_append mt_append (pv 2) (pa_cons (pe_cal (cal_mixed T) hr (by first | decide | exact Nat.le_refl _) (by rfl) (pa_cons (pv 0) (pa_cons (pv 4) pa_nil))) pa_nil))))))) (pss_one (ps_ret (pv 2)))))), ?_⟩
  obtain ⟨c, m⟩ := x
  have hm : m ≤ 66 := hx
  show SD K _ [.sh (.int c), .sh (.int m), .no, .no, .no] _
  refine sd_seq (sd_asgO (eo_lst eb_nil) (by simp) ?_)
  refine sd_seq (sd_asg (d := .int (c - 10 ^ 18)) (ed_i0 (ed_var rfl) (ed_iC ed_int ed_int (by walk_at "side"))) ?_)
  refine sd_seq (sd_forR1 (eb_cons (ed_var rfl) eb_nil) (by omega) (fun l r => ∃ kk, r = [.sh (.int c), .sh (.int m), .own (.lst ((draws c l).map .int)), .sh (.int (rest c l)), kk]) ⟨.no, by rw [rest_zero]; rfl⟩ ?_ ?_)
  · rintro l r hl ⟨kk, rfl⟩
    have hlen : ((draws c l).map D.int).length < 100000 := by
      rw [List.length_map, draws_len]
      omega
    have hn : (draws c (l + 1)).map D.int = (draws c l).map D.int ++ [D.int (drw c l)] := by
      unfold draws
      rw [List.range_succ, List.map_append, List.map_append]
      rfl
    refine sd_if (et_test (ed_b0 (ed_var rfl) ed_int)) (fun h => ?_) (fun h => ?_)
    · have hp : 0 ≤ rest c l := of_decide_eq_true h
      refine sd_seq (sd_app rfl (ed_iC (ed_var rfl) ed_int (by walk_at "side")) hlen ?_)
      refine sd_asg (ed_iC (ed_var rfl) ed_int (by walk_at "side")) ⟨.sh (.int (l : Int)), ?_⟩
      rw [hn, rest_yes hp, drw_yes hp]
      rfl
    · have hp : ¬ 0 ≤ rest c l := of_decide_eq_false h
      refine sd_app rfl (ed_call (c, l) (show l ≤ 100000 by omega) (ea_sh (ed_var rfl) (ea_sh (ed_var rfl) ea_nil))) hlen ⟨.sh (.int (l : Int)), ?_⟩
      rw [hn, rest_no hp, drw_no hp]
      rfl
  · rintro r ⟨kk, rfl⟩
    exact sd_retVar rfl fun _ _ _ _ z => z
def wide (ys : List Int) : Int := ys.foldl (fun f n => f * 1000003 + n) 0
theorem wide_nn : ∀ {ys : List Int}, Dw ys → 0 ≤ wide ys := fun {ys} h => by
  have go : ∀ (l : List Int) (a : Int), 0 ≤ a → (∀ y, y ∈ l → 0 ≤ y) → 0 ≤ l.foldl (fun f n => f * 1000003 + n) a := fun l => by
    induction l with
    | nil => exact fun a ha _ => ha
    | cons y l ih =>
      intro a ha hy
      have := hy y List.mem_cons_self
      exact ih _ (show 0 ≤ a * 1000003 + y by omega) fun z hz => hy z (List.mem_cons_of_mem _ hz)
  exact go ys 0 (by omega) fun y hy => (h y hy).1
abbrev sp_wide (K : PySem.W.Frag) : Sp := spSh K (fun ys : List Int => ys.length ≤ 100) (fun ys => [(true, .lst (ys.map .int))]) (fun ys => .int (wide ys))
theorem cal_wide (T : Tx K mg C fI CD fD) : Cal P w K mg base 1 "_law_wide" (sp_wide K) := by
  refine T.d__law_wide.sh sc__law_wide (fun _ => rfl) (by decide) (fun _ _ _ _ _ _ us hl => match us, hl with | [_], _ => rfl) (fun f cdv A outer s H E hr ys hx => ?_)
  refine ⟨_, (pss_cons (ps_set (i := 1) sc__law_wide.nd rfl (Or.inl rfl) pe_int) (pss_cons (ps_for PassesOwn.never rfl (pi_list (pv 0)) (pg_name (i := 2) sc__law_wide.nd rfl (Or.inl rfl)) (pss_one (ps_set (i := 1) sc__law_wide.nd rfl (Or.inl rfl) (pe_op op_add (pe_op op_mul (pv 1) pe_int) (pv 2))))) (pss_one (ps_ret (pv 1))))), ?_⟩
  show SD K _ [.sh (.lst (ys.map .int)), .no, .no] { nx := fun _ => D.int (wide ys) = D.non, rt := RSh K (.int (wide ys)) }
  refine sd_seq (sd_asg ed_int ?_)
  refine sd_seq (sd_forI (xs := ys) (emb := fun v => .sh (.int v)) (ei_mm (f := fun v : Int => D.int v) (w := Sl.sh) (ei_l (ed_var rfl))) (fun l r => ∃ z, r = [.sh (.lst (ys.map .int)), .sh (.int (wide (ys.take l))), z]) ⟨_, rfl⟩ ?_ ?_)
  · rintro l y r hy ⟨z, rfl⟩
    refine ⟨[2], bg_name (by simp) ?_⟩
    refine sd_asg (d := .int (wide (ys.take l) * 1000003 + y)) (ed_i0 (ed_iC (ed_var rfl) ed_int (by walk_at "side")) (ed_var rfl)) ⟨.sh (.int y), ?_⟩
    rw [take_snoc hy]
    unfold wide
    rw [List.foldl_append]
    rfl
  · rintro r ⟨z, rfl⟩
    rw [List.take_length]
    exact sd_ret (ed_var rfl) fun _ _ _ _ z => z
def dkCnt (d : Int) : Nat := (if d / 6 % 8 = 1 then 8 + d / 48 % 5 else 2 + d % 6).toNat
theorem dkCnt_bd {d : Int} (h : 0 ≤ d) : 2 ≤ dkCnt d ∧ dkCnt d ≤ 12 := by
  unfold dkCnt
  split <;> omega
def dkSize (d : Int) : Int := ([1, 3, 12, 60] : List Int).getD (d % 4).toNat 1
theorem dkSize_bd (d : Int) : 1 ≤ dkSize d ∧ dkSize d ≤ 60 := by
  unfold dkSize
  rcases (show (d % 4).toNat = 0 ∨ (d % 4).toNat = 1 ∨ (d % 4).toNat = 2 ∨ (d % 4).toNat = 3 by omega) with e | e | e | e <;> rw [e] <;> decide
def dkTie (nm size d : Int) (i u v : Nat) : Tie := ((u : Int), (v : Int), 1 + nm / 2 ^ (12 * i) % 64 % size, if d / 4 % 3 = 0 then 1 + nm / 2 ^ (12 * i) % 64 % size else 1 + nm / 2 ^ (12 * i) / 64 % 64 % size)
def dkStep (th nm size d : Int) (ts : List Tie) (q : (Nat × Nat) × Nat) : List Tie := if th / 2 ^ q.2 % 2 = 1 ∧ 2 * ts.length < 80 then ts ++ [dkTie nm size d q.2 q.1.1 q.1.2] else ts
def dkGo (th nm size d : Int) (ps : List (Nat × Nat)) : List Tie := ps.zipIdx.foldl (dkStep th nm size d) []
theorem dkGo_snoc (th nm size d : Int) (ps : List (Nat × Nat)) (p : Nat × Nat) : dkGo th nm size d (ps ++ [p]) = dkStep th nm size d (dkGo th nm size d ps) (p, ps.length) := by
  unfold dkGo
  rw [List.zipIdx_append, List.foldl_append]
  show List.foldl _ _ [(p, 0 + ps.length)] = _
  rw [Nat.zero_add]
  rfl
def prN (t : Tie) : Int × Int := (t.1, t.2.1)
def prC (p : Nat × Nat) : Int × Int := ((p.1 : Int), (p.2 : Int))
theorem sub_map_snoc {α β γ : Type} {f : α → γ} {g : β → γ} {L : List α} {M : List β} {a : α} {b : β} (h : (L.map f).Sublist (M.map g)) (e : f a = g b) : ((L ++ [a]).map f).Sublist ((M ++ [b]).map g) := by
  rw [List.map_append, List.map_append]
  refine h.append ?_
  show [f a].Sublist [g b]
  rw [e]
  exact List.Sublist.refl _
theorem list_snoc {α : Type} {P : List α → Prop} (h0 : P []) (h1 : ∀ l a, P l → P (l ++ [a])) : ∀ l, P l := fun l => by
  have : P l.reverse.reverse := by
    induction l.reverse with
    | nil => exact h0
    | cons a l ih => rw [List.reverse_cons]; exact h1 _ _ ih
  rw [List.reverse_reverse] at this
  exact this
/-- what holds of the ties that are laid -/
structure DkOk (size : Int) (ps : List (Nat × Nat)) (ts : List Tie) : Prop where
  sub : (ts.map prN).Sublist (ps.map prC)
  few : ts.length ≤ 40
  ws : ∀ t, t ∈ ts → (1 ≤ t.2.2.1 ∧ t.2.2.1 ≤ 60) ∧ 1 ≤ t.2.2.2 ∧ t.2.2.2 ≤ 60
theorem dk_ok (th nm d : Int) {size : Int} (hs : 1 ≤ size ∧ size ≤ 60) (ps : List (Nat × Nat)) : DkOk size ps (dkGo th nm size d ps) := by
  refine list_snoc (P := fun ps => DkOk size ps (dkGo th nm size d ps)) ⟨List.Sublist.refl _, Nat.zero_le _, fun t h => by cases h⟩ (fun ps p ih => ?_) ps
  rw [dkGo_snoc]
  unfold dkStep
  split
  · rename_i h
    refine ⟨sub_map_snoc ih.sub rfl, by rw [List.length_append]; show _ + 1 ≤ 40; omega, fun t ht => ?_⟩
    rcases List.mem_append.mp ht with ht | ht
    · exact ih.ws t ht
    · rw [List.mem_singleton.mp ht]
      have m1 := Int.emod_nonneg (nm / 2 ^ (12 * ps.length) % 64) (show size ≠ 0 by omega)
      have m2 := Int.emod_lt_of_pos (nm / 2 ^ (12 * ps.length) % 64) (show 0 < size by omega)
      have m3 := Int.emod_nonneg (nm / 2 ^ (12 * ps.length) / 64 % 64) (show size ≠ 0 by omega)
      have m4 := Int.emod_lt_of_pos (nm / 2 ^ (12 * ps.length) / 64 % 64) (show 0 < size by omega)
      show (1 ≤ 1 + nm / 2 ^ (12 * ps.length) % 64 % size ∧ 1 + nm / 2 ^ (12 * ps.length) % 64 % size ≤ 60) ∧ 1 ≤ (if d / 4 % 3 = 0 then 1 + nm / 2 ^ (12 * ps.length) % 64 % size else 1 + nm / 2 ^ (12 * ps.length) / 64 % 64 % size) ∧ (if d / 4 % 3 = 0 then 1 + nm / 2 ^ (12 * ps.length) % 64 % size else 1 + nm / 2 ^ (12 * ps.length) / 64 % 64 % size) ≤ 60
      refine ⟨by omega, ?_⟩
      split <;> omega
  · refine ⟨ih.sub.trans ?_, ih.few, ih.ws⟩
    rw [List.map_append]
    exact List.sublist_append_left _ _
theorem dk_facts {n : Nat} {size : Int} {ts : List Tie} (hn : 2 ≤ n ∧ n ≤ 12) (O : DkOk size (pairsTo n n) ts) : NetFacts n ts := by
  have P := pairs_ok ⟨n, by omega⟩
  have mem : ∀ t, t ∈ ts → ∃ p, p ∈ pairsTo n n ∧ t.1 = (p.1 : Int) ∧ t.2.1 = (p.2 : Int) := fun t ht => by
    obtain ⟨p, hp, e⟩ := List.mem_map.mp (O.sub.subset (List.mem_map.mpr ⟨t, ht, rfl⟩))
    exact ⟨p, hp, (congrArg Prod.fst e).symm, (congrArg Prod.snd e).symm⟩
  refine ⟨hn, Nat.le_trans O.few (by decide), fun t ht => ?_, fun t ht => ⟨(O.ws t ht).1.1, (O.ws t ht).2.1⟩, ?_⟩
  · obtain ⟨p, hp, e1, e2⟩ := mem t ht
    have h2 : p.1 < p.2 ∧ p.2 < n := P.2 p hp
    omega
  · have q : ((pairsTo n n).map prC).Pairwise fun a b => a.1 < b.1 ∨ (a.1 = b.1 ∧ a.2 < b.2) := List.pairwise_map.mpr (P.1.imp fun {a b} h => by
      show (a.1 : Int) < (b.1 : Int) ∨ ((a.1 : Int) = (b.1 : Int) ∧ (a.2 : Int) < (b.2 : Int))
      unfold PLt at h
      omega)
    exact (List.pairwise_map.mp (q.sublist O.sub)).imp fun h => h
/-- the net of some drawn numbers -/
def dkN (ys : List Int) : Nat := dkCnt (ys.getD 0 0)
def dkT (ys : List Int) : List Tie := dkGo (wide ((ys.take 6).drop 2)) (wide ((ys.take 20).drop 6)) (dkSize (ys.getD 1 0)) (ys.getD 1 0) (pairsTo (dkN ys) (dkN ys))
theorem dk_net {ys : List Int} (h : Dw ys) (hl : 20 ≤ ys.length) : NetFacts (dkN ys) (dkT ys) := dk_facts (dkCnt_bd (h.at (k := 0) (by omega)).2.1) (dk_ok _ _ _ (dkSize_bd _) _)
theorem cut_ab (ys : List Int) (a b : Nat) (ha : a ≤ ys.length) (hb : b ≤ ys.length) : BV.cutD (ys.map D.int) (some (a : Int)) (some (b : Int)) = ((ys.take b).drop a).map D.int := by
  unfold BV.cutD
  have l : (ys.map D.int).length = ys.length := List.length_map _
  rw [HT.sIx_nat, HT.sIx_nat, l, Nat.min_eq_left ha, Nat.min_eq_left hb, List.map_drop, List.map_take, List.drop_take]
theorem wKeys_snoc (ts : List Tie) (t : Tie) : wKeys (ts ++ [t]) = (wKeys ts ++ [intK [t.1, t.2.1]]) ++ [intK [t.2.1, t.1]] := by
  unfold wKeys
  rw [List.flatMap_append, List.flatMap_singleton, List.append_assoc]
  rfl
theorem wVals_snoc (ts : List Tie) (t : Tie) : wVals (ts ++ [t]) = (wVals ts ++ [.int t.2.2.1]) ++ [.int t.2.2.2] := by
  unfold wVals
  rw [List.flatMap_append, List.flatMap_singleton, List.append_assoc]
  rfl
theorem wLens (ts : List Tie) : (wVals ts).length = (wKeys ts).length := by
  induction ts with
  | nil => rfl
  | cons t ts ih =>
    show ([_, _] ++ wVals ts).length = ([_, _] ++ wKeys ts).length
    rw [List.length_append, List.length_append, ih]
    rfl
theorem put_last {ks : List (List Key)} {ds : List D} {q : List Key} {x y : D} (hl : ds.length = ks.length) (hn : q ∉ ks) : putKs (ks ++ [q]) q = ks ++ [q] ∧ putL (ks ++ [q]) (ds ++ [x]) q y = ds ++ [y] := by
  have hh : hasK (ks ++ [q]) q = true := by
    unfold hasK
    rw [List.any_append]
    show (_ || (decide (q = q) || _)) = true
    rw [decide_eq_true rfl, Bool.true_or, Bool.or_true]
  refine ⟨by unfold putKs; rw [if_pos hh], ?_⟩
  unfold putL
  rw [if_pos hh]
  clear hh
  induction ks generalizing ds with
  | nil =>
    cases ds with
    | nil => show (if q = q then y else x) :: _ = _; rw [if_pos rfl]; rfl
    | cons d ds => simp at hl
  | cons k ks ih =>
    cases ds with
    | nil => simp at hl
    | cons d ds =>
      show (if k = q then y else d) :: repL (ks ++ [q]) (ds ++ [x]) q y = d :: (ds ++ [y])
      rw [if_neg fun z => hn (by rw [z]; exact List.mem_cons_self), ih (by simpa using hl) fun z => hn (List.mem_cons_of_mem _ z)]
theorem look_two {ks : List (List Key)} {ds : List D} {q r : List Key} {x y : D} (hl : ds.length = ks.length) (hn : q ∉ ks) : lookD ((ks ++ [q]) ++ [r]) ((ds ++ [x]) ++ [y]) q = some x := by
  induction ks generalizing ds with
  | nil =>
    cases ds with
    | nil => unfold lookD; exact congrArg (Option.map (·.2)) (find_pos rfl)
    | cons d ds => simp at hl
  | cons k ks ih =>
    cases ds with
    | nil => simp at hl
    | cons d ds =>
      have := ih (ds := ds) (by simpa using hl) fun z => hn (List.mem_cons_of_mem _ z)
      unfold lookD at this ⊢
      exact (congrArg (Option.map (·.2)) (find_neg (fun z => hn (by rw [← z]; exact List.mem_cons_self)))).trans this
/-- the keys of what is laid are of the pairs gone by -/
theorem key_new {ps : List (Nat × Nat)} {ts : List Tie} (h : (ts.map prN).Sublist (ps.map prC)) (lt : ∀ p, p ∈ ps → p.1 < p.2) {u v : Nat} (huv : u < v) (hn : (u, v) ∉ ps) : intK [(u : Int), (v : Int)] ∉ wKeys ts ∧ intK [(v : Int), (u : Int)] ∉ wKeys ts := by
  have key : ∀ a b : Int, intK [a, b] ∈ wKeys ts → ∃ p, p ∈ ps ∧ ((a = (p.1 : Int) ∧ b = (p.2 : Int)) ∨ (a = (p.2 : Int) ∧ b = (p.1 : Int))) := fun a b hm => by
    obtain ⟨t, ht, hk⟩ := List.mem_flatMap.mp hm
    obtain ⟨p, hp, e⟩ := List.mem_map.mp (h.subset (List.mem_map.mpr ⟨t, ht, rfl⟩))
    have e1 : t.1 = (p.1 : Int) := (congrArg Prod.fst e).symm
    have e2 : t.2.1 = (p.2 : Int) := (congrArg Prod.snd e).symm
    simp only [List.mem_cons, List.not_mem_nil, or_false] at hk
    rcases hk with hk | hk
    · obtain ⟨z1, z2⟩ := intK2 hk
      exact ⟨p, hp, .inl ⟨by omega, by omega⟩⟩
    · obtain ⟨z1, z2⟩ := intK2 hk
      exact ⟨p, hp, .inr ⟨by omega, by omega⟩⟩
  constructor
  · intro hm
    obtain ⟨p, hp, ⟨e1, e2⟩ | ⟨e1, e2⟩⟩ := key _ _ hm
    · exact hn (by have : p = (u, v) := Prod.ext (by omega) (by omega); rw [← this]; exact hp)
    · have := lt p hp; omega
  · intro hm
    obtain ⟨p, hp, ⟨e1, e2⟩ | ⟨e1, e2⟩⟩ := key _ _ hm
    · have := lt p hp; omega
    · exact hn (by have : p = (u, v) := Prod.ext (by omega) (by omega); rw [← this]; exact hp)
abbrev sp_dnet (K : PySem.W.Frag) : Sp := spSh K (fun ys : List Int => Dw ys ∧ 20 ≤ ys.length ∧ ys.length ≤ 100) (fun ys => [(true, .lst (ys.map .int))]) (fun ys => .tup [.int (dkN ys : Int), dctD (dkT ys)])
theorem cal_dnet (T : Tx K mg C fI CD fD) : Cal P w K mg base 2 "_law_net" (sp_dnet K) := by
  refine T.d__law_net.sh sc__law_net (fun _ => rfl) (by decide) (fun _ _ _ _ _ _ us hl => match us, hl with | [_], _ => rfl) (fun f cdv A outer s H E hr ys hx => ?_)
  have hu := hu_of hr
  refine ⟨_, (pss_cons (ps_set (i := 1) sc__law_net.nd rfl (Or.inl rfl) (pe_op op_add pe_int (pe_op op_mod (pe_ix ix_list (pv 0) pe_int (fun _ _ => rfl)) pe_int))) (pss_cons (ps_if (pt_cmpR op_eq (pe_op op_mod (pe_op op_fdiv (pe_ix ix_list (pv 0) pe_int (fun _ _ => rfl)) pe_int) pe_int) pe_int (nomark _)) (pss_one (ps_set (i := 1) sc__law_net.nd rfl (Or.inl rfl) (pe_op op_add pe_int (pe_op op_mod (pe_op op_fdiv (pe_ix ix_list (pv 0) pe_int (fun _ _ => rfl)) pe_int) pe_int)))) pss_nil) (pss_cons (ps_set (i := 2) sc__law_net.nd rfl (Or.inl rfl) (pe_ix ix_list (pe_lst (pa_cons pe_int (pa_cons pe_int (pa_cons pe_int (pa_cons pe_int pa_nil))))) (pe_op op_mod (pe_ix ix_list (pv 0) pe_int (fun _ _ => rfl)) pe_int) (fun _ _ => rfl))) (pss_cons (ps_set (i := 3) sc__law_net.nd rfl (Or.inl rfl) (pe_cal (cal_wide T) hr (by first | decide | exact Nat.le_refl _) (by rfl) (pa_cons (pe_slice sl_list (pv 0) (po_some pe_int) (po_some pe_int)) pa_nil))) (pss_cons (ps_set (i := 4) sc__law_net.nd rfl (Or.inl rfl) (pe_cal (cal_wide T) hr (by first | decide | exact Nat.le_refl _) (by rfl) (pa_cons (pe_slice sl_list (pv 0) (po_some pe_int) (po_some pe_int)) pa_nil))) (pss_cons (ps_set (i := 5) sc__law_net.nd rfl (Or.inl rfl) pe_dnewT) (pss_cons (ps_set (i := 6) sc__law_net.nd rfl (Or.inl rfl) pe_int) (pss_cons (ps_for PassesOwn.never rfl (pi_range1 (by rfl) T.z_range (pa_cons (pv 1) pa_nil)) (pg_name (i := 7) sc__law_net.nd rfl (Or.inl rfl)) (pss_one (ps_for PassesOwn.never rfl (pi_range2 (by rfl) T.z_range (pa_cons (pe_op op_add (pv 7) pe_int) (pa_cons (pv 1) pa_nil))) (pg_name (i := 8) sc__law_net.nd rfl (Or.inl rfl)) (pss_cons (ps_if (PW.pt (pw_and (pt_cmpR op_eq (pe_op op_and (pe_op op_shr (pv 3) (pv 6)) pe_int) pe_int (nomark _)) (pw_and1 (pt_cmpR op_lt (pe_callB call_len_dT (by rfl) T.z_len PySem.boot_len (pa_cons (pv 5) pa_nil)) pe_int (nomark _))))) (pss_cons (ps_set (i := 9) sc__law_net.nd rfl (Or.inl rfl) (pe_op op_shr (pv 4) (pe_op op_mul pe_int (pv 6)))) (pss_cons (ps_dput hu (pv 5) (pe_tup (pa_cons (pv 7) (pa_cons (pv 8) pa_nil))) (pe_op op_add pe_int (pe_op op_mod (pe_op op_mod (pv 9) pe_int) (pv 2))) rfl) (pss_cons (ps_dput hu (pv 5) (pe_tup (pa_cons (pv 8) (pa_cons (pv 7) pa_nil))) (pe_op op_add pe_int (pe_op op_mod (pe_op op_mod (pe_op op_fdiv (pv 9) pe_int) pe_int) (pv 2))) rfl) (pss_one (ps_if (pt_cmpR op_eq (pe_op op_mod (pe_op op_fdiv (pe_ix ix_list (pv 0) pe_int (fun _ _ => rfl)) pe_int) pe_int) pe_int (nomark _)) (pss_one (ps_dput hu (pv 5) (pe_tup (pa_cons (pv 8) (pa_cons (pv 7) pa_nil))) (pe_dget hu (pv 5) (pe_tup (pa_cons (pv 7) (pa_cons (pv 8) pa_nil))) (fun _ _ => rfl)) rfl)) pss_nil))))) pss_nil) (pss_one (ps_set (i := 6) sc__law_net.nd rfl (Or.inl rfl) (pe_op op_add (pv 6) pe_int))))))) (pss_one (ps_ret (pe_tup (pa_cons (pv 1) (pa_cons (pv 5) pa_nil))))))))))))), ?_⟩
  obtain ⟨hd, h20, h100⟩ := hx
  have hd : Dw ys := hd
  have h20 : 20 ≤ ys.length := h20
  have h100 : ys.length ≤ 100 := h100
  show SD K _ [.sh (.lst (ys.map .int)), .no, .no, .no, .no, .no, .no, .no, .no, .no] { nx := fun _ => D.tup [.int (dkN ys : Int), dctD (dkT ys)] = D.non, rt := RSh K (.tup [.int (dkN ys : Int), dctD (dkT ys)]) }
  have hlt := (hd.at (k := 0) (by omega)).2
  have hl1 := (hd.at (k := 1) (by omega)).2
  have ix : ∀ (ρ : List Sl) (k : Nat), k < ys.length → ρ[0]? = some (.sh (.lst (ys.map .int))) → ED K (tOp (rIxL K) (tVar 0) (tC (.int (k : Int)))) ρ (.int (ys.getD k 0)) := fun ρ k hk h => ed_ixL (l := k) (ed_var h) ed_int rfl (dw_at hk)
  have cb := dkCnt_bd hlt.1
  have sb := dkSize_bd (ys.getD 1 0)
  have thn := wide_nn (ys := (ys.take 6).drop 2) (fun y hy => hd y (List.mem_of_mem_take (List.mem_of_mem_drop hy)))
  have nmn := wide_nn (ys := (ys.take 20).drop 6) (fun y hy => hd y (List.mem_of_mem_take (List.mem_of_mem_drop hy)))
  have lw1 : ((ys.take 6).drop 2).length ≤ 100 := by rw [List.length_drop, List.length_take]; omega
  have lw2 : ((ys.take 20).drop 6).length ≤ 100 := by rw [List.length_drop, List.length_take]; omega
  unfold dkT dkN
  obtain ⟨n, hn⟩ : ∃ n, dkCnt (ys.getD 0 0) = n := ⟨_, rfl⟩
  rw [hn] at cb ⊢
  refine sd_seq (sd_asg (d := .int (2 + ys.getD 0 0 % 6)) (ed_i0 ed_int (ed_iC (ix _ 0 (by omega) rfl) ed_int (by walk_at "side"))) ?_)
  refine sd_mid (fun r => r = [.sh (.lst (ys.map .int)), .sh (.int (n : Int)), .no, .no, .no, .no, .no, .no, .no, .no]) (sd_if (b := decide (ys.getD 0 0 / 6 % 8 = 1)) (et_test (ed_eqI (ed_iC (ed_iC (ix _ 0 (by omega) rfl) ed_int (by walk_at "side")) ed_int (by walk_at "side")) ed_int)) (fun h => sd_asg (d := .int (8 + ys.getD 0 0 / 48 % 5)) (ed_i0 ed_int (ed_iC (ed_iC (ix _ 0 (by omega) rfl) ed_int (by walk_at "side")) ed_int (by walk_at "side"))) ?_) (fun h => sd_next ?_)) ?_
  · have e : (8 + ys.getD 0 0 / 48 % 5 : Int) = (n : Int) := by
      rw [← hn]; unfold dkCnt; rw [if_pos (of_decide_eq_true h)]; omega
    rw [e]; rfl
  · have e : (2 + ys.getD 0 0 % 6 : Int) = (n : Int) := by
      rw [← hn]; unfold dkCnt; rw [if_neg (of_decide_eq_false h)]; omega
    rw [e]; rfl
  rintro r rfl
  refine sd_seq (sd_asg (d := .int (dkSize (ys.getD 1 0))) (ed_ixL (l := (ys.getD 1 0 % 4).toNat) (ed_eo (eo_lst (eb_cons ed_int (eb_cons ed_int (eb_cons ed_int (eb_cons ed_int eb_nil)))))) (ed_iC (ix _ 1 (by omega) rfl) ed_int (by walk_at "side")) (by omega) (by
    unfold dkSize
    rcases (show (ys.getD 1 0 % 4).toNat = 0 ∨ (ys.getD 1 0 % 4).toNat = 1 ∨ (ys.getD 1 0 % 4).toNat = 2 ∨ (ys.getD 1 0 % 4).toNat = 3 by omega) with e | e | e | e <;> rw [e] <;> rfl)) ?_)
  refine sd_seq (sd_asg (d := .int (wide ((ys.take 6).drop 2))) (ed_call ((ys.take 6).drop 2) lw1 (ea_sh (ed_eo (eo_is (eo_sl (ed_var rfl) (ep_at ed_int) (ep_at ed_int)) (congrArg M.lst (cut_ab ys 2 6 (by omega) (by omega))))) ea_nil)) ?_)
  refine sd_seq (sd_asg (d := .int (wide ((ys.take 20).drop 6))) (ed_call ((ys.take 20).drop 6) lw2 (ea_sh (ed_eo (eo_is (eo_sl (ed_var rfl) (ep_at ed_int) (ep_at ed_int)) (congrArg M.lst (cut_ab ys 6 20 (by omega) (by omega))))) ea_nil)) ?_)
  generalize wide ((ys.take 6).drop 2) = th at *
  generalize wide ((ys.take 20).drop 6) = nm at *
  obtain ⟨dd1, hdd⟩ : ∃ d, ys.getD 1 0 = d := ⟨_, rfl⟩
  have ix1 : ∀ (ρ : List Sl), ρ[0]? = some (.sh (.lst (ys.map .int))) → ED K (tOp (rIxL K) (tVar 0) (tC (.int 1))) ρ (.int dd1) := fun ρ h => ed_is (ix ρ 1 (by omega) h) (by rw [hdd])
  rw [hdd] at sb ⊢
  obtain ⟨sz, hsz⟩ : ∃ z, dkSize dd1 = z := ⟨_, rfl⟩
  rw [hsz] at sb ⊢
  have ok : ∀ ps, DkOk sz ps (dkGo th nm sz dd1 ps) := fun ps => dk_ok th nm dd1 sb ps
  refine sd_seq (sd_asgO eo_dnew (by simp) ?_)
  refine sd_seq (sd_asg ed_int ?_)
  let fr (ps : List (Nat × Nat)) (z7 z8 z9 : Sl) : List Sl := [.sh (.lst (ys.map .int)), .sh (.int (n : Int)), .sh (.int sz), .sh (.int th), .sh (.int nm), .own (.dct (wKeys (dkGo th nm sz dd1 ps)) (wVals (dkGo th nm sz dd1 ps))), .sh (.int (ps.length : Int)), z7, z8, z9]
  refine sd_seq (sd_forR1 (i := (n : Int)) (eb_cons (ed_var rfl) eb_nil) (by omega) (fun l r => ∃ z7 z8 z9, r = fr (pairsTo n l) z7 z8 z9) ⟨_, _, _, rfl⟩ ?_ ?_)
  · rintro l r hl ⟨z7, z8, z9, rfl⟩
    have hl : l < n := by omega
    refine sd_forR2 (eb_cons (ed_i0 (ed_var rfl) ed_int) (eb_cons (ed_var rfl) eb_nil)) (by omega) (fun m r => ∃ z8 z9, r = fr (pairsTo n l ++ (List.range m).map fun j => (l, l + 1 + j)) (.sh (.int (l : Int))) z8 z9) ⟨z8, z9, by rw [List.range_zero, List.map_nil, List.append_nil]; rfl⟩ ?_ ?_
    · rintro m r hm ⟨z8, z9, rfl⟩
      have hm : l + 1 + m < n := by omega
      have hfew := pairs_few' cb.2 (show l ≤ 12 by omega)
      have hlen : (pairsTo n l ++ (List.range m).map fun j => (l, l + 1 + j)).length = (pairsTo n l).length + m := by
        rw [List.length_append, List.length_map, List.length_range]
      have hnext : pairsTo n l ++ (List.range (m + 1)).map (fun j => (l, l + 1 + j)) = (pairsTo n l ++ (List.range m).map fun j => (l, l + 1 + j)) ++ [(l, l + 1 + m)] := by
        rw [List.range_succ, List.map_append, List.append_assoc]
        rfl
      rw [hnext]
      have hmem : ∀ p, p ∈ pairsTo n l ++ (List.range m).map (fun j => (l, l + 1 + j)) → p.1 < p.2 ∧ (p.1 < l ∨ (p.1 = l ∧ p.2 < l + 1 + m)) := fun p hp => by
        rcases List.mem_append.mp hp with hp | hp
        · unfold pairsTo rowP at hp
          obtain ⟨u, hu, hp⟩ := List.mem_flatMap.mp hp
          obtain ⟨j, _, rfl⟩ := List.mem_map.mp hp
          have := List.mem_range.mp hu
          exact ⟨show u < u + 1 + j by omega, .inl this⟩
        · obtain ⟨j, hj, rfl⟩ := List.mem_map.mp hp
          have := List.mem_range.mp hj
          exact ⟨show l < l + 1 + j by omega, .inr ⟨rfl, show l + 1 + j < l + 1 + m by omega⟩⟩
      obtain ⟨ps, hps⟩ : ∃ ps, pairsTo n l ++ (List.range m).map (fun j => (l, l + 1 + j)) = ps := ⟨_, rfl⟩
      rw [hps] at hmem hlen ⊢
      have O := ok ps
      have nk := key_new O.sub (fun p hp => (hmem p hp).1) (show l < l + 1 + m by omega) fun z => by
        rcases (hmem _ z).2 with q | ⟨_, q⟩
        · exact absurd q (by show ¬ l < l; omega)
        · exact absurd q (by show ¬ l + 1 + m < l + 1 + m; omega)
      have kl := wKeys_len (dkGo th nm sz dd1 ps)
      have vl := wLens (dkGo th nm sz dd1 ps)
      have ofew := O.few
      have snoc := dkGo_snoc th nm sz dd1 ps (l, l + 1 + m)
      unfold dkStep at snoc
      obtain ⟨ts, hts⟩ : ∃ ts, dkGo th nm sz dd1 ps = ts := ⟨_, rfl⟩
      have e8 : (l : Int) + 1 + (m : Int) = ((l + 1 + m : Nat) : Int) := by omega
      rw [e8]
      show SD K _ [.sh (.lst (ys.map .int)), .sh (.int (n : Int)), .sh (.int sz), .sh (.int th), .sh (.int nm), .own (.dct (wKeys (dkGo th nm sz dd1 ps)) (wVals (dkGo th nm sz dd1 ps))), .sh (.int (ps.length : Int)), .sh (.int (l : Int)), .sh (.int ((l + 1 + m : Nat) : Int)), z9] _
      rw [hts] at O nk kl vl ofew snoc ⊢
      refine sd_mid (fun r => ∃ z9, r = [.sh (.lst (ys.map .int)), .sh (.int (n : Int)), .sh (.int sz), .sh (.int th), .sh (.int nm), .own (.dct (wKeys (dkGo th nm sz dd1 (ps ++ [(l, l + 1 + m)]))) (wVals (dkGo th nm sz dd1 (ps ++ [(l, l + 1 + m)])))), .sh (.int (ps.length : Int)), .sh (.int (l : Int)), .sh (.int ((l + 1 + m : Nat) : Int)), z9]) (sd_if (b := decide (th / 2 ^ ps.length % 2 = 1) && decide (((wKeys ts).length : Int) < 80)) (et_and (et_test (ed_eqI (ed_bit (ed_shr (ed_var rfl) (ed_var rfl))) ed_int)) fun _ => et_test (ed_b0 (ed_lenO rfl) ed_int)) (fun h => ?_) (fun h => sd_next ⟨z9, ?_⟩)) ?_
      · rw [Bool.and_eq_true, decide_eq_true_eq, decide_eq_true_eq] at h
        rw [if_pos ⟨h.1, show 2 * ts.length < 80 by omega⟩] at snoc
        rw [snoc, wKeys_snoc, wVals_snoc]
        have nk1 : intK [(l : Int), ((l + 1 + m : Nat) : Int)] ∉ wKeys ts := nk.1
        have nk2 : intK [((l + 1 + m : Nat) : Int), (l : Int)] ∉ wKeys ts ++ [intK [(l : Int), ((l + 1 + m : Nat) : Int)]] := fun z => by
          rcases List.mem_append.mp z with z | z
          · exact nk.2 z
          · have := (intK2 (List.mem_singleton.mp z)).1
            omega
        refine sd_seq (sd_asg (d := .int (nm / 2 ^ (12 * ps.length))) (ed_shr (k := 12 * ps.length) (ed_var rfl) (ed_is (ed_iC ed_int (ed_var rfl) (by walk_at "side")) (congrArg D.int (show (12 : Int) * (ps.length : Int) = ((12 * ps.length : Nat) : Int) by omega)))) ?_)
        refine sd_seq (sd_dput (is := [(l : Int), ((l + 1 + m : Nat) : Int)]) rfl (ed_i0 ed_int (ed_iC (ed_iC (ed_var rfl) ed_int (by walk_at "side")) (ed_var rfl) (show 0 < sz by omega))) (eb_cons (ed_var rfl) (eb_cons (ed_var rfl) eb_nil)) (hn := nk1) (hl := by omega) (k := ?_))
        refine sd_seq (sd_dput (is := [((l + 1 + m : Nat) : Int), (l : Int)]) rfl (ed_i0 ed_int (ed_iC (ed_iC (ed_iC (ed_var rfl) ed_int (by walk_at "side")) ed_int (by walk_at "side")) (ed_var rfl) (show 0 < sz by omega))) (eb_cons (ed_var rfl) (eb_cons (ed_var rfl) eb_nil)) (hn := nk2) (hl := by rw [List.length_append]; show _ + 1 < 100000; omega) (k := ?_))
        have kl2 : (wVals ts ++ [D.int (1 + nm / 2 ^ (12 * ps.length) % 64 % sz)]).length = (wKeys ts ++ [intK [(l : Int), ((l + 1 + m : Nat) : Int)]]).length := by rw [List.length_append, List.length_append, vl]; rfl
        have P1 := put_last (x := D.int (1 + nm / 2 ^ (12 * ps.length) / 64 % 64 % sz)) (y := D.int (1 + nm / 2 ^ (12 * ps.length) % 64 % sz)) kl2 nk2
        refine sd_if (b := decide (dd1 / 4 % 3 = 0)) (et_test (ed_eqI (ed_iC (ed_iC (ix1 _ rfl) ed_int (by walk_at "side")) ed_int (by walk_at "side")) ed_int)) (fun q => ?_) (fun q => sd_next ⟨.sh (.int (nm / 2 ^ (12 * ps.length))), ?_⟩)
        · have q := of_decide_eq_true q
          refine sd_dputU (is := [((l + 1 + m : Nat) : Int), (l : Int)]) rfl (ed_dget (is := [(l : Int), ((l + 1 + m : Nat) : Int)]) (i := 1 + nm / 2 ^ (12 * ps.length) % 64 % sz) (er_ownD rfl) (eb_cons (ed_var rfl) (eb_cons (ed_var rfl) eb_nil)) (look_two vl nk1)) (eb_cons (ed_var rfl) (eb_cons (ed_var rfl) eb_nil)) (hl := by rw [List.length_append, List.length_append]; show _ + 1 + 1 < 100000; omega) (k := ⟨.sh (.int (nm / 2 ^ (12 * ps.length))), ?_⟩)
          rw [P1.1, P1.2]
          have e : (dkTie nm sz dd1 ps.length l (l + 1 + m)).2.2.2 = 1 + nm / 2 ^ (12 * ps.length) % 64 % sz := if_pos q
          rw [e]
          rfl
        · have q := of_decide_eq_false q
          have e : (dkTie nm sz dd1 ps.length l (l + 1 + m)).2.2.2 = 1 + nm / 2 ^ (12 * ps.length) / 64 % 64 % sz := if_neg q
          rw [e]
          rfl
      · rw [if_neg (fun z => by
          rw [Bool.and_eq_false_iff, decide_eq_false_iff_not, decide_eq_false_iff_not] at h
          have z1 : th / 2 ^ ps.length % 2 = 1 := z.1
          rcases h with h | h
          · exact h z1
          · omega)] at snoc
        rw [snoc]
      · rintro r ⟨z9, rfl⟩
        refine sd_asg (d := .int ((ps.length : Int) + 1)) (ed_i0 (ed_var rfl) ed_int) ⟨.sh (.int ((l + 1 + m : Nat) : Int)), z9, ?_⟩
        have e : (((ps ++ [(l, l + 1 + m)]).length : Nat) : Int) = (ps.length : Int) + 1 := by rw [List.length_append]; rfl
        show _ = [_, _, _, _, _, _, Sl.sh (.int (((ps ++ [(l, l + 1 + m)]).length : Nat) : Int)), _, _, _]
        rw [e]
        rfl
    · rintro r ⟨z8, z9, rfl⟩
      refine ⟨.sh (.int (l : Int)), z8, z9, ?_⟩
      have e : ((n : Int) - ((l : Int) + 1)).toNat = n - (l + 1) := by omega
      rw [e, pairsTo_succ]
      rfl
  · rintro r ⟨z7, z8, z9, rfl⟩
    rw [Int.toNat_natCast]
    refine sd_shareD (n := 5) rfl ?_
    exact sd_ret (ed_tup (eb_cons (ed_var rfl) (eb_cons (ed_var rfl) eb_nil))) fun _ _ _ _ z => z
def pk2 (p : Nat × Nat) : List Int := [(p.1 : Int), (p.2 : Int)]
def keysN (ts : List Tie) : List (Nat × Nat) := (edgesT ts).map fun e => (e.1, e.2.1)
def sqP (n : Nat) : List (Nat × Nat) := (List.range n).flatMap fun a => (List.range n).map fun b => (a, b)
/-- the pairs that are tied, in their order -/
def allP (n : Nat) (ts : List Tie) : List (Nat × Nat) := (sqP n).filter fun p => (wOf ts p.1 p.2).isSome
theorem sq_so (n : Nat) : (sqP n).Pairwise PLt := by
  unfold sqP
  rw [List.pairwise_flatMap]
  refine ⟨fun a _ => List.pairwise_map.mpr (List.pairwise_lt_range.imp fun h => .inr ⟨rfl, h⟩), List.pairwise_lt_range.imp fun {a a'} h p hp q hq => ?_⟩
  obtain ⟨b, _, rfl⟩ := List.mem_map.mp hp
  obtain ⟨c, _, rfl⟩ := List.mem_map.mp hq
  exact .inl h
theorem sq_mem {n : Nat} {p : Nat × Nat} : p ∈ sqP n ↔ p.1 < n ∧ p.2 < n := by
  unfold sqP
  rw [List.mem_flatMap]
  constructor
  · rintro ⟨a, ha, h⟩
    obtain ⟨b, hb, rfl⟩ := List.mem_map.mp h
    exact ⟨List.mem_range.mp ha, List.mem_range.mp hb⟩
  · exact fun h => ⟨p.1, List.mem_range.mpr h.1, List.mem_map.mpr ⟨p.2, List.mem_range.mpr h.2, rfl⟩⟩
theorem PLt.asym {p q : Nat × Nat} (h : PLt p q) (h' : PLt q p) : False := by
  unfold PLt at h h'
  omega
theorem PLt.ne {p q : Nat × Nat} (h : PLt p q) : p ≠ q := fun z => by rw [z] at h; exact h.asym h
theorem rise_eq {L M : List (Nat × Nat)} (hL : L.Pairwise PLt) (hM : M.Pairwise PLt) (h : ∀ p, p ∈ L ↔ p ∈ M) : L = M :=
  List.Perm.eq_of_pairwise (le := PLt) (fun _ _ _ _ a b => (a.asym b).elim) hL hM ((List.perm_ext_iff_of_nodup (hL.imp PLt.ne) (hM.imp PLt.ne)).mpr h)
theorem all_mem {n : Nat} {ts : List Tie} (F : NetFacts n ts) {p : Nat × Nat} : p ∈ allP n ts ↔ ∃ v, wOf ts p.1 p.2 = some v := by
  unfold allP
  rw [List.mem_filter, Option.isSome_iff_exists]
  exact ⟨fun h => h.2, fun ⟨v, hv⟩ => ⟨sq_mem.mpr ⟨(wOf_lt F hv).1, (wOf_lt F hv).2.1⟩, v, hv⟩⟩
theorem keysN_mem {n : Nat} {ts : List Tie} (F : NetFacts n ts) {p : Nat × Nat} : p ∈ keysN ts ↔ ∃ v, wOf ts p.1 p.2 = some v := by
  unfold keysN
  rw [List.mem_map]
  constructor
  · rintro ⟨⟨a, b, v⟩, he, rfl⟩
    exact ⟨v, mem_wOf F he⟩
  · rintro ⟨v, hv⟩
    exact ⟨(p.1, p.2, v), wOf_mem hv, rfl⟩
theorem keysN_w {n : Nat} {ts : List Tie} (F : NetFacts n ts) : wKeys ts = ((keysN ts).map pk2).map intK := by
  rw [keys_edges F.nn]
  unfold keysN
  rw [List.map_map, List.map_map]
  rfl
theorem keysN_nd {n : Nat} {ts : List Tie} (F : NetFacts n ts) : (keysN ts).Nodup := by
  have := F.keys
  rw [keysN_w F, List.map_map] at this
  exact (List.pairwise_map.mp this).imp fun h z => h (by rw [z])
/-- a dict that tells the ties of a net, in whatever order -/
structure DkD (n : Nat) (ts : List Tie) (kk : List (Nat × Nat)) (ds : List D) : Prop where
  F : NetFacts n ts
  pm : kk.Perm (keysN ts)
  ln : kk.length = ds.length
  lk : ∀ a b : Nat, lookD ((kk.map pk2).map intK) ds (intK [(a : Int), (b : Int)]) = (wOf ts a b).map D.int
  bd : ∀ t, t ∈ ts → t.2.2.1 < 10 ^ 100 ∧ t.2.2.2 < 10 ^ 100
abbrev dkDct (kk : List (Nat × Nat)) (ds : List D) : D := .dct ((kk.map pk2).map intK) ds
theorem DkD.num {n : Nat} {ts : List Tie} {kk : List (Nat × Nat)} {ds : List D} (h : DkD n ts kk ds) {a b : Nat} {v : Int} (hv : wOf ts a b = some v) : 0 ≤ v ∧ v < 10 ^ 100 := by
  have := (wOf_lt h.F hv).2.2.1
  refine ⟨by omega, ?_⟩
  have m := wOf_mem hv
  unfold edgesT at m
  obtain ⟨t, ht, he⟩ := List.mem_flatMap.mp m
  have bd := h.bd t ht
  simp only [List.mem_cons, List.not_mem_nil, or_false] at he
  rcases he with he | he
  · have : v = t.2.2.1 := congrArg (fun e : Ds.Edge => e.2.2) he
    omega
  · have : v = t.2.2.2 := congrArg (fun e : Ds.Edge => e.2.2) he
    omega
theorem DkD.few {n : Nat} {ts : List Tie} {kk : List (Nat × Nat)} {ds : List D} (h : DkD n ts kk ds) : kk.length ≤ 132 := by
  have e := congrArg List.length (keysN_w h.F)
  rw [List.length_map, List.length_map, wKeys_len] at e
  rw [h.pm.length_eq, ← e]
  have := h.F.few
  omega
theorem sort_is {n : Nat} {ts : List Tie} {kk : List (Nat × Nat)} (F : NetFacts n ts) (h : kk.Perm (keysN ts)) : sortKs (kk.map pk2) = (allP n ts).map pk2 := by
  unfold sortKs
  rw [← PySem.W.sort_maps (r := PySem.W.dataLe false fun p : Nat × Nat => PyData.tuple ((pk2 p).map .int)) pk2 fun _ _ _ _ => rfl]
  refine congrArg (List.map pk2) ?_
  have le : PySem.W.dataLe false (fun p : Nat × Nat => PyData.tuple ((pk2 p).map .int)) = fun p q : Nat × Nat => decide ((p.1 : Int) < (q.1 : Int) ∨ ((p.1 : Int) = (q.1 : Int) ∧ (p.2 : Int) ≤ (q.2 : Int))) := PySem.W.dataLe_ii (fun p : Nat × Nat => (p.1 : Int)) fun p : Nat × Nat => (p.2 : Int)
  rw [le]
  have pm := (List.mergeSort_perm kk fun p q : Nat × Nat => decide ((p.1 : Int) < (q.1 : Int) ∨ ((p.1 : Int) = (q.1 : Int) ∧ (p.2 : Int) ≤ (q.2 : Int)))).trans h
  have so := List.pairwise_mergeSort (le := fun p q : Nat × Nat => decide ((p.1 : Int) < (q.1 : Int) ∨ ((p.1 : Int) = (q.1 : Int) ∧ (p.2 : Int) ≤ (q.2 : Int)))) (fun a b c h1 h2 => by
      have h1 := of_decide_eq_true h1
      have h2 := of_decide_eq_true h2
      exact decide_eq_true (by omega)) (fun a b => by
      rw [Bool.or_eq_true, decide_eq_true_eq, decide_eq_true_eq]
      omega) kk
  generalize (kk.mergeSort fun p q : Nat × Nat => decide ((p.1 : Int) < (q.1 : Int) ∨ ((p.1 : Int) = (q.1 : Int) ∧ (p.2 : Int) ≤ (q.2 : Int)))) = L at *
  have nd : L.Nodup := pm.nodup_iff.mpr (keysN_nd F)
  have so2 : L.Pairwise PLt := by
    refine (List.pairwise_and_iff.mpr ⟨so, nd⟩).imp fun {p q} h => ?_
    have h1 := of_decide_eq_true h.1
    have h2 : ¬ (p.1 = q.1 ∧ p.2 = q.2) := fun z => h.2 (Prod.ext z.1 z.2)
    unfold PLt
    omega
  exact rise_eq so2 ((sq_so n).filter _) fun p => (pm.mem_iff.trans (keysN_mem F)).trans (all_mem F).symm
theorem dkT_dk {ys : List Int} (h : Dw ys) (hl : 20 ≤ ys.length) : DkD (dkN ys) (dkT ys) (keysN (dkT ys)) (wVals (dkT ys)) ∧ dctD (dkT ys) = dkDct (keysN (dkT ys)) (wVals (dkT ys)) := by
  have F := dk_net h hl
  have O := dk_ok (wide ((ys.take 6).drop 2)) (wide ((ys.take 20).drop 6)) (ys.getD 1 0) (dkSize_bd (ys.getD 1 0)) (pairsTo (dkN ys) (dkN ys))
  have e := keysN_w F
  have big : (60 : Int) < 10 ^ 100 := by decide +kernel
  refine ⟨⟨F, List.Perm.refl _, by have := congrArg List.length e; rw [List.length_map, List.length_map] at this; rw [← this, wLens], fun a b => by rw [← e]; exact look_w F.nn, fun t ht => ?_⟩, by unfold dctD dkDct; rw [e]⟩
  have := O.ws t ht
  omega
theorem emp_app (x : Str) : Str.empty ++ x = x := TL.ext_tl (by rw [TL.tl_append]; rfl)
abbrev A91 : Type := ((Nat × List Tie) × List (Nat × Nat) × List D) × (Nat × Nat) × Int × Int
noncomputable abbrev sp_tiew (K : PySem.W.Frag) : Sp := spSh K (fun x : A91 => DkD x.1.1.1 x.1.1.2 x.1.2.1 x.1.2.2 ∧ wOf x.1.1.2 x.2.1.1 x.2.1.2 = some x.2.2.1 ∧ wOf x.1.1.2 x.2.1.2 x.2.1.1 = some x.2.2.2) (fun x => [(true, dkDct x.1.2.1 x.1.2.2), (true, .int x.2.1.1), (true, .int x.2.1.2)]) (fun x => .str (tieS ((x.2.1.1 : Int), (x.2.1.2 : Int), x.2.2.1, x.2.2.2)))
theorem cal_tiew (T : Tx K mg C fI CD fD) : Cal P w K mg base 1 "_law_tie_word" (sp_tiew K) := by
  refine T.d__law_tie_word.sh sc__law_tie_word (fun _ => rfl) (by decide) (fun _ _ _ _ _ _ us hl => match us, hl with | [_, _, _], _ => rfl) (fun f cdv A outer s H E hr x hx => ?_)
  have hu := hu_of hr
  have hu64 := hu64_of hr
  refine ⟨_, (pss_one (ps_ret (pe_op op_add_str (pe_op op_add_str (pe_op op_add_str (pe_op op_add_str (pe_op op_add_str (pe_op op_add_str (pe_callTy call_str_int (by rfl) T.z_str (by decide +kernel) (pa_cons (pv 1) pa_nil)) pe_str) (pe_callTy call_str_int (by rfl) T.z_str (by decide +kernel) (pa_cons (pv 2) pa_nil))) pe_str) (pe_callTy call_str_int (by rfl) T.z_str (by decide +kernel) (pa_cons (pe_dget hu (pv 0) (pe_tup (pa_cons (pv 1) (pa_cons (pv 2) pa_nil))) (fun _ _ => rfl)) pa_nil))) pe_str) (pe_callTy call_str_int (by rfl) T.z_str (by decide +kernel) (pa_cons (pe_dget hu (pv 0) (pe_tup (pa_cons (pv 2) (pa_cons (pv 1) pa_nil))) (fun _ _ => rfl)) pa_nil))))), ?_⟩
  obtain ⟨⟨⟨n, ts⟩, kk, ds⟩, ⟨a, b⟩, v, v'⟩ := x
  obtain ⟨O, h1, h2⟩ := hx
  have O : DkD n ts kk ds := O
  have h1 : wOf ts a b = some v := h1
  have h2 : wOf ts b a = some v' := h2
  obtain ⟨an, bn, _⟩ := wOf_lt O.F h1
  have n2 := O.F.n2
  have big : (12 : Int) < 10 ^ 100 := by decide +kernel
  have b1 := O.num h1
  have b2 := O.num h2
  have l1 := str_few (i := (a : Int)) (by omega) (by omega)
  have l2 := str_few (i := (b : Int)) (by omega) (by omega)
  have l3 := str_few b1.1 b1.2
  have l4 := str_few b2.1 b2.2
  have ez : ∀ a b : Str, (a ++ b).length = a.length + b.length := fun a b => by simp [Str.length, Str.cps_append]
  have e1 : ("-" : Str).length = 1 := by decide +kernel
  have e2 : (":" : Str).length = 1 := by decide +kernel
  have e3 : ("/" : Str).length = 1 := by decide +kernel
  show SD K _ [.sh (dkDct kk ds), .sh (.int (a : Int)), .sh (.int (b : Int))] { nx := fun _ => D.str (tieS ((a : Int), (b : Int), v, v')) = D.non, rt := RSh K (.str (tieS ((a : Int), (b : Int), v, v'))) }
  refine sd_ret (d := .str (tieS ((a : Int), (b : Int), v, v'))) (ed_is (ed_catS (x := toString (a : Int) ++ "-" ++ toString (b : Int) ++ ":" ++ toString v ++ "/") (y := toString v') (ed_catS (x := toString (a : Int) ++ "-" ++ toString (b : Int) ++ ":" ++ toString v) (y := "/") (ed_catS (x := toString (a : Int) ++ "-" ++ toString (b : Int) ++ ":") (y := toString v) (ed_catS (x := toString (a : Int) ++ "-" ++ toString (b : Int)) (y := ":") (ed_catS (x := toString (a : Int) ++ "-") (y := toString (b : Int)) (ed_catS (x := toString (a : Int)) (y := "-") (ed_strI (ed_var rfl) (log_few (by omega) (by omega))) ed_str (by omega)) (ed_strI (ed_var rfl) (log_few (by omega) (by omega))) (by rw [ez]; omega)) ed_str (by rw [ez, ez]; omega)) (ed_strI (ed_dget (is := [(a : Int), (b : Int)]) (i := v) (ed_er (ed_var rfl)) (eb_cons (ed_var rfl) (eb_cons (ed_var rfl) eb_nil)) (by rw [O.lk, h1]; rfl)) (log_few b1.1 b1.2)) (by rw [ez, ez, ez]; omega)) ed_str (by rw [ez, ez, ez, ez]; omega)) (ed_strI (ed_dget (is := [(b : Int), (a : Int)]) (i := v') (ed_er (ed_var rfl)) (eb_cons (ed_var rfl) (eb_cons (ed_var rfl) eb_nil)) (by rw [O.lk, h2]; rfl)) (log_few b2.1 b2.2)) (by rw [ez, ez, ez, ez, ez]; omega)) ?_) fun _ _ _ _ z => z
  unfold tieS
  rw [emp_app]
def prNat (t : Tie) : Nat × Nat := (t.1.toNat, t.2.1.toNat)
theorem up_ties {n : Nat} {ts : List Tie} (F : NetFacts n ts) : (allP n ts).filter (fun p => decide (p.1 < p.2)) = ts.map prNat := by
  refine rise_eq (((sq_so n).filter _).filter _) (List.pairwise_map.mpr (F.so.imp_of_mem fun {t u} ht hu h => ?_)) fun p => ?_
  · have a := F.lt t ht
    have b := F.lt u hu
    unfold TLt at h
    show t.1.toNat < u.1.toNat ∨ (t.1.toNat = u.1.toNat ∧ t.2.1.toNat < u.2.1.toNat)
    omega
  · rw [List.mem_filter, all_mem F, decide_eq_true_eq, List.mem_map]
    constructor
    · rintro ⟨⟨v, hv⟩, lt⟩
      have m := wOf_mem hv
      unfold edgesT at m
      obtain ⟨t, ht, he⟩ := List.mem_flatMap.mp m
      have q := F.lt t ht
      simp only [List.mem_cons, List.not_mem_nil, or_false] at he
      rcases he with he | he
      · exact ⟨t, ht, Prod.ext (congrArg (fun e : Ds.Edge => e.1) he).symm (congrArg (fun e : Ds.Edge => e.2.1) he).symm⟩
      · have e1 : p.1 = t.2.1.toNat := congrArg (fun e : Ds.Edge => e.1) he
        have e2 : p.2 = t.1.toNat := congrArg (fun e : Ds.Edge => e.2.1) he
        omega
    · rintro ⟨t, ht, rfl⟩
      have q := F.lt t ht
      refine ⟨⟨t.2.2.1, mem_wOf F ?_⟩, show t.1.toNat < t.2.1.toNat by omega⟩
      unfold edgesT
      exact List.mem_flatMap.mpr ⟨t, ht, List.mem_cons_self⟩
theorem tie_two {n : Nat} {ts : List Tie} (F : NetFacts n ts) {t : Tie} (ht : t ∈ ts) : wOf ts (prNat t).1 (prNat t).2 = some t.2.2.1 ∧ wOf ts (prNat t).2 (prNat t).1 = some t.2.2.2 ∧ (((prNat t).1 : Nat) : Int) = t.1 ∧ (((prNat t).2 : Nat) : Int) = t.2.1 := by
  have q := F.lt t ht
  refine ⟨mem_wOf F ?_, mem_wOf F ?_, show ((t.1.toNat : Nat) : Int) = _ by omega, show ((t.2.1.toNat : Nat) : Int) = _ by omega⟩
  · unfold edgesT
    exact List.mem_flatMap.mpr ⟨t, ht, List.mem_cons_self⟩
  · unfold edgesT
    exact List.mem_flatMap.mpr ⟨t, ht, List.mem_cons_of_mem _ List.mem_cons_self⟩
noncomputable def wdS (ts : List Tie) (p : Nat × Nat) : Str := tieS ((p.1 : Int), (p.2 : Int), (wOf ts p.1 p.2).getD 0, (wOf ts p.2 p.1).getD 0)
theorem wd_ties {n : Nat} {ts : List Tie} (F : NetFacts n ts) : (ts.map prNat).map (wdS ts) = ts.map tieS := by
  rw [List.map_map]
  refine List.map_congr_left fun t ht => ?_
  obtain ⟨h1, h2, h3, h4⟩ := tie_two F ht
  show tieS _ = tieS t
  rw [h1, h2, h3, h4]
  rfl
theorem DkD.nums {n : Nat} {ts : List Tie} {kk : List (Nat × Nat)} {ds : List D} (h : DkD n ts kk ds) : ∀ t, t ∈ ts → (0 ≤ t.1 ∧ t.1 < 10 ^ 100) ∧ (0 ≤ t.2.1 ∧ t.2.1 < 10 ^ 100) ∧ (0 ≤ t.2.2.1 ∧ t.2.2.1 < 10 ^ 100) ∧ (0 ≤ t.2.2.2 ∧ t.2.2.2 < 10 ^ 100) := fun t ht => by
  have big : (12 : Int) < 10 ^ 100 := by decide +kernel
  have a := h.F.lt t ht
  have b := h.F.ws t ht
  have c := h.bd t ht
  have n2 := h.F.n2
  omega
abbrev B91 : Type := (Nat × List Tie) × List (Nat × Nat) × List D
abbrev dkNet (x : B91) : D := .tup [.int (x.1.1 : Int), dkDct x.2.1 x.2.2]
abbrev dkOk (x : B91) : Prop := DkD x.1.1 x.1.2 x.2.1 x.2.2
theorem sort_alike (kk : List (Nat × Nat)) : PySem.W.AllAlike ((kk.map pk2).map fun k => PyData.tuple (k.map .int)) ∧ PySem.W.Sortable ((kk.map pk2).map fun k => PyData.tuple (k.map .int)) := by
  rw [List.map_map]
  exact ⟨PySem.W.AllAlike.of fun _ _ => rfl, PySem.W.Sortable.tuples fun p => ⟨_, _, rfl⟩⟩
noncomputable abbrev sp_dtext (K : PySem.W.Frag) : Sp := spSh K dkOk (fun x => [(true, dkNet x)]) (fun x => .str (netS x.1.1 x.1.2))
theorem cal_dtext (T : Tx K mg C fI CD fD) : Cal P w K mg base 2 "_law_text" (sp_dtext K) := by
  refine T.d__law_text.sh sc__law_text (fun _ => rfl) (by decide) (fun _ _ _ _ _ _ us hl => match us, hl with | [_], _ => rfl) (fun f cdv A outer s H E hr x hx => ?_)
  have hu := hu_of hr
  have hu64 := hu64_of hr
  refine ⟨_, (pss_cons (ps_asg (pv 0) (pg_tup rfl (pgs_cons (pg_name (i := 1) sc__law_text.nd rfl (Or.inl rfl)) (pgs_cons (pg_name (i := 2) sc__law_text.nd rfl (Or.inr rfl)) pgs_nil)))) (pss_one (ps_ret (pe_join pe_str (pe_op op_cat (pe_lst (pa_cons (pe_callTy call_str_int (by rfl) T.z_str (by decide +kernel) (pa_cons (pv 1) pa_nil)) pa_nil)) (pe_lc (own := [("_law_a", 3), ("_law_b", 4)]) rfl sc__law_text.nd (pi_list (pe_callB (cr_sortT rfl hu64) (by rfl) T.z_sorted (by decide +kernel) (pa_cons (pv 2) pa_nil))) (blkOk_by (N := N__law_text) (sc := defScope s__law_text) (by decide +kernel)) (fun _ _ _ _ _ => (pg_tupK (n := 2) K rfl rfl (pgs_cons (pg_name (i := 3) sc__law_text.nd rfl (Or.inl rfl)) (pgs_cons (pg_name (i := 4) sc__law_text.nd rfl (Or.inl rfl)) pgs_nil)))) (fun _ _ _ _ _ => (pts_one (pt_cmpR op_lt (pv 3) (pv 4) (nomark _)))) (fun _ _ _ _ _ => (pe_cal (cal_tiew T) hr (by first | decide | exact Nat.le_refl _) (by rfl) (pa_cons (pv 2) (pa_cons (pv 3) (pa_cons (pv 4) pa_nil))))))))))), ?_⟩
  obtain ⟨⟨n, ts⟩, kk, ds⟩ := x
  have O : DkD n ts kk ds := hx
  have n2 := O.F.n2
  have few := O.F.few
  have big : (12 : Int) < 10 ^ 100 := by decide +kernel
  show SD K _ [.sh (.tup [.int (n : Int), dkDct kk ds]), .no, .no, .no, .no] { nx := fun _ => D.str (netS n ts) = D.non, rt := RSh K (.str (netS n ts)) }
  refine sd_seq (sd_asgG (d := .tup [.int (n : Int), dkDct kk ds]) (ed_var rfl) (vs := [1, 2]) (bg_tup rfl (bgs_cons (bg_name (by simp) (bgs_cons (bg_name (by simp) (bgs_nil ?_)))))))
  have sum := ties_len O.nums
  have al := sort_alike kk
  have lf : (allP n ts).length ≤ 132 := by
    have e := congrArg List.length (sort_is O.F O.pm)
    unfold sortKs at e
    rw [List.length_mergeSort, List.length_map, List.length_map] at e
    rw [← e]
    exact O.few
  refine sd_ret (d := .str (netS n ts)) (ed_joinL (ys := toString (n : Int) :: ts.map tieS) ed_str (ed_er (ed_eo (eo_is (eo_cat (ds := [.str (toString (n : Int))]) (es := ts.map fun t => .str (tieS t)) (eo_lst (eb_cons (ed_strI (ed_var rfl) (log_few (by omega) (by omega))) eb_nil)) (eo_is (eo_lc (xs := allP n ts) (emb := fun p : Nat × Nat => .sh (tupK (pk2 p))) (f := fun p => decide (p.1 < p.2)) (v := fun p => .str (wdS ts p)) (ei_c (ei_mm (f := fun p : Nat × Nat => tupK (pk2 p)) (w := Sl.sh) (ei_l (ed_eo (eo_is (eo_sortT (ks := kk.map pk2) (ds := ds) (ed_var rfl) al.1 al.2) (by rw [sort_is O.F O.pm, List.map_map]; rfl)))))) (by omega)
    fun i p hp => bg_tup rfl (bgs_cons (bg_name (by simp) (bgs_cons (bg_name (by simp) (bgs_nil ⟨et_is (et_test (ed_b0 (ed_var rfl) (ed_var rfl))) (decide_eq_decide.mpr (by show ((p.1 : Int) < (p.2 : Int)) ↔ p.1 < p.2; omega)), fun _ => by
      obtain ⟨v, hv⟩ := (all_mem O.F).mp (List.mem_of_getElem? hp)
      obtain ⟨v', hv'⟩ := wOf_back O.F hv
      exact ed_is (ed_call (((n, ts), kk, ds), p, v, v') ⟨O, hv, hv'⟩ (ea_sh (ed_var rfl) (ea_sh (ed_var rfl) (ea_sh (ed_var rfl) ea_nil)))) (by unfold wdS; rw [hv, hv']; rfl)⟩)))))) (by
        rw [up_ties O.F]
        have t2 := congrArg (List.map D.str) (wd_ties O.F)
        rw [List.map_map, List.map_map, List.map_map] at t2
        rw [List.map_map]
        exact congrArg M.lst t2)) (by rw [List.length_map]; show 1 + _ ≤ 100000; omega)) (by rw [List.map_cons, List.map_map]; rfl)))) ?_) fun _ _ _ _ z => z
  have e1 : (" " : Str).length = 1 := by decide +kernel
  have l0 := str_few (i := (n : Int)) (by omega) (by omega)
  rw [List.map_cons, List.sum_cons, List.length_cons, List.length_map, e1]
  omega
theorem pth_more {E E' : List Ds.Edge} {t : Nat} (h : ∀ e, e ∈ E → e ∈ E') {a m : Nat} (p : Ds.Pth E t a m) : Ds.Pth E' t a m := by
  induction p with
  | nil => exact .nil
  | cons he _ ih => exact .cons (h _ he) ih
theorem dst_same {E E' : List Ds.Edge} (h : ∀ e, e ∈ E ↔ e ∈ E') (t a : Nat) : Ds.dst E t a = Ds.dst E' t a := by
  have e : Ds.Pth E t a = Ds.Pth E' t a := funext fun m => propext ⟨pth_more fun e => (h e).mp, pth_more fun e => (h e).mpr⟩
  unfold Ds.dst
  generalize Ds.Pth E t a = P at e ⊢
  generalize Ds.Pth E' t a = Q at e ⊢
  subst e
  rfl
theorem DL_same {E E' : List Ds.Edge} (h : ∀ e, e ∈ E ↔ e ∈ E') (n t : Nat) : Ds.DL E n t = Ds.DL E' n t := by
  unfold Ds.DL
  exact List.map_congr_left fun a _ => dst_same h t a
/-- the ties in the order of their pairs -/
noncomputable def allE (n : Nat) (ts : List Tie) : List Ds.Edge := (allP n ts).map fun p => (p.1, p.2, (wOf ts p.1 p.2).getD 0)
theorem allE_mem {n : Nat} {ts : List Tie} (F : NetFacts n ts) (e : Ds.Edge) : e ∈ allE n ts ↔ e ∈ edgesT ts := by
  unfold allE
  rw [List.mem_map]
  constructor
  · rintro ⟨p, hp, rfl⟩
    obtain ⟨v, hv⟩ := (all_mem F).mp hp
    rw [hv]
    exact wOf_mem hv
  · intro he
    obtain ⟨a, b, v⟩ := e
    have hv := mem_wOf F he
    exact ⟨(a, b), (all_mem F).mpr ⟨v, hv⟩, by rw [hv]; rfl⟩
theorem allE_wf {n t : Nat} {ts : List Tie} (F : NetFacts n ts) (ht : t < n) : Ds.Wf (allE n ts) n t := ⟨ht, fun e he => (F.wf ht).ok e ((allE_mem F e).mp he)⟩
/-- a dict of sums -/
def fX (X : Ds.Xs) : Key → Option D := fun k => match k with
  | .inl i => if 0 ≤ i then (Ds.at_ X i.toNat).map D.int else none
  | .inr _ => none
theorem fX_at (X : Ds.Xs) (a : Nat) : fX X (.inl (a : Int)) = (Ds.at_ X a).map D.int := by
  show (if 0 ≤ (a : Int) then (Ds.at_ X ((a : Int)).toNat).map D.int else none) = _
  rw [if_pos (by omega), Int.toNat_natCast]
theorem fX_put {X : Ds.Xs} {a : Nat} (h : a < X.length) (x : Int) : putD (fX X) (.inl (a : Int)) (.int x) = fX (X.set a (some x)) := by
  funext k
  unfold putD
  cases k with
  | inr s => rw [if_neg (by intro z; cases z)]; rfl
  | inl i =>
    by_cases e : i = (a : Int)
    · subst e
      rw [if_pos rfl, fX_at, Ds.at_set h, if_pos rfl]
      rfl
    · rw [if_neg (fun z => e (by injection z))]
      show (if 0 ≤ i then _ else _) = (if 0 ≤ i then (Ds.at_ (X.set a (some x)) i.toNat).map D.int else none)
      by_cases p : 0 ≤ i
      · rw [if_pos p, if_pos p, Ds.at_set h, if_neg (by omega)]
      · rw [if_neg p, if_neg p]
theorem fX_none (n : Nat) : fX (List.replicate n none) = fun _ => none := by
  funext k
  cases k with
  | inr s => rfl
  | inl i =>
    show (if 0 ≤ i then (Ds.at_ (List.replicate n none) i.toNat).map D.int else none) = none
    have : Ds.at_ (List.replicate n none) i.toNat = none := by
      unfold Ds.at_
      rw [List.getD_eq_getElem?_getD, List.getElem?_replicate]
      split <;> rfl
    rw [this]
    split <;> rfl
theorem ed_dninKO {K : PySem.W.Frag} {ρ : List Sl} {tk : TE} {i : Int} {n mx : Nat} {f : Key → Option BV.D} (h : ρ[n]? = some (.own (.dk f mx))) (hk : ED K tk ρ (.int i)) : ED K (tDNotIn tk (tVar n)) ρ (.bl (!(f (.inl i)).isSome)) := fun H0 S G ow σ H g Q q => hk H0 S G ow σ H g _ fun u H2 e2 r2 => by
  obtain ⟨p, a, b, kvs, c, e, hr⟩ := (g.ext e2).at_ n _ h
  rw [r2.int_inv]
  refine ⟨.ref p, a, p, _, rfl, DGet.k (k := Sum.inl i) c, ?_⟩
  cases hf : f (.inl i) with
  | none =>
    rw [(hr (.inl i)).1 hf]
    rw [hf] at q
    exact q (.bl true) H2 e2 (.bl true)
  | some d =>
    obtain ⟨v, hv, rv⟩ := (hr (.inl i)).2 d hf
    rw [hv]
    rw [hf] at q
    exact q (.bl false) H2 e2 (.bl false)
noncomputable abbrev sp_dfar (K : PySem.W.Frag) : Sp := spOw K (fun x : B91 × Nat => dkOk x.1 ∧ x.2 < x.1.1.1) (fun x => [(true, dkNet x.1), (true, .int x.2)]) (fun x => .dk (fX (DT x.1.1.1 x.1.1.2 x.2)) 2000)
theorem cal_dfar (T : Tx K mg C fI CD fD) : Cal P w K mg base 1 "_law_far" (sp_dfar K) := by
  refine T.d__law_far.ow sc__law_far (fun _ => rfl) (by decide) (fun _ _ _ _ _ _ us hl => match us, hl with | [_, _], _ => rfl) (fun f cdv A outer s H E hr x hx => ?_)
  have hu := hu_of hr
  have hu64 := hu64_of hr
  refine ⟨_, (pss_cons (ps_asg (pv 0) (pg_tup rfl (pgs_cons (pg_name (i := 2) sc__law_far.nd rfl (Or.inl rfl)) (pgs_cons (pg_name (i := 3) sc__law_far.nd rfl (Or.inl rfl)) pgs_nil)))) (pss_cons (ps_set (i := 4) sc__law_far.nd rfl (Or.inl rfl) (pe_disp (pps_cons (pv 1) pe_int pps_nil) rfl rfl (by simp) (by decide))) (pss_cons (ps_for PassesOwn.never rfl (pi_range1 (by rfl) T.z_range (pa_cons (pv 2) pa_nil)) (pg_name (i := 5) sc__law_far.nd rfl (Or.inl rfl)) (pss_one (ps_for PassesOwn.never rfl (pi_list (pe_callB (cr_sortT rfl hu64) (by rfl) T.z_sorted (by decide +kernel) (pa_cons (pv 3) pa_nil))) (pg_tup rfl (pgs_cons (pg_name (i := 6) sc__law_far.nd rfl (Or.inl rfl)) (pgs_cons (pg_name (i := 7) sc__law_far.nd rfl (Or.inl rfl)) pgs_nil))) (pss_one (ps_if (pt_cmp (pc_din hu (pv 7) (pv 4))) (pss_cons (ps_set (i := 8) sc__law_far.nd rfl (Or.inl rfl) (pe_op op_add (pe_dget hu (pv 3) (pe_tup (pa_cons (pv 6) (pa_cons (pv 7) pa_nil))) (fun _ _ => rfl)) (pe_dget hu (pv 4) (pv 7) (fun _ _ => rfl)))) (pss_one (ps_if (PW.pt (pw_or (pt_cmp (pc_dnotin hu (pv 6) (pv 4))) (pw_or1 (pt_cmpR op_lt (pv 8) (pe_dget hu (pv 4) (pv 6) (fun _ _ => rfl)) (nomark _))))) (pss_one (ps_dput hu (pv 4) (pv 6) (pv 8) rfl)) pss_nil))) pss_nil))))) (pss_one (ps_ret (pv 4)))))), ?_⟩
  obtain ⟨⟨⟨n, ts⟩, kk, ds⟩, t⟩ := x
  obtain ⟨O, ht⟩ := hx
  have O : DkD n ts kk ds := O
  have ht : t < n := ht
  have n2 := O.F.n2
  have W := allE_wf O.F ht
  have al := sort_alike kk
  have lf : (allP n ts).length ≤ 132 := by
    have e := congrArg List.length (sort_is O.F O.pm)
    unfold sortKs at e
    rw [List.length_mergeSort, List.length_map, List.length_map] at e
    rw [← e]
    exact O.few
  have le : (allE n ts).length = (allP n ts).length := List.length_map _
  show SD K _ [.sh (.tup [.int (n : Int), dkDct kk ds]), .sh (.int (t : Int)), .no, .no, .no, .no, .no, .no, .no] { nx := fun _ => False, rt := ROwn K (.dk (fX (DT n ts t)) 2000) }
  refine sd_seq (sd_asgG (d := .tup [.int (n : Int), dkDct kk ds]) (ed_var rfl) (vs := [2, 3]) (bg_tup rfl (bgs_cons (bg_name (by simp) (bgs_cons (bg_name (by simp) (bgs_nil ?_)))))))
  refine sd_seq (sd_asgO (eo_disp1 (ed_var rfl) ed_int) (by simp) ?_)
  have e0 : putD (fun _ => none) (.inl (t : Int)) (.int 0) = fX (Ds.turns (allE n ts) n t 0) := by
    rw [← fX_none n, fX_put (by rw [List.length_replicate]; exact ht)]
    rfl
  rw [e0]
  let fr (X : Ds.Xs) (mx : Nat) (z5 z6 z7 z8 : Sl) : List Sl := [.sh (.tup [.int (n : Int), dkDct kk ds]), .sh (.int (t : Int)), .sh (.int (n : Int)), .sh (dkDct kk ds), .own (.dk (fX X) mx), z5, z6, z7, z8]
  refine sd_seq (sd_forR1 (i := (n : Int)) (eb_cons (ed_var rfl) eb_nil) (by omega) (fun k r => ∃ mx z5 z6 z7 z8, r = fr (Ds.turns (allE n ts) n t k) mx z5 z6 z7 z8 ∧ mx ≤ 1 + k * 132) ⟨1, _, _, _, _, rfl, by omega⟩ ?_ ?_)
  · rintro k r hk ⟨mx, z5, z6, z7, z8, rfl, hmx⟩
    have hk : k < n := by omega
    have S := Ds.turns_snd W k
    have ht' : Ds.turns (allE n ts) n t (k + 1) = Ds.pass (allE n ts) (Ds.turns (allE n ts) n t k) := rfl
    rw [ht']
    generalize hX : Ds.turns (allE n ts) n t k = X at *
    have hlX : X.length = n := S.len
    refine sd_forI (xs := allP n ts) (emb := fun p : Nat × Nat => .sh (tupK (pk2 p))) (ei_mm (f := fun p : Nat × Nat => tupK (pk2 p)) (w := Sl.sh) (ei_l (ed_eo (eo_is (eo_sortT (ks := kk.map pk2) (ds := ds) (ed_var rfl) al.1 al.2) (by rw [sort_is O.F O.pm, List.map_map]; rfl))))) (fun l r => ∃ mx z6 z7 z8, r = fr (Ds.pass ((allE n ts).take l) X) mx (.sh (.int (k : Int))) z6 z7 z8 ∧ mx ≤ 1 + k * 132 + l) ⟨mx, z6, z7, z8, rfl, by omega⟩ ?_ ?_
    · rintro l pq r hpq ⟨mx, z6, z7, z8, rfl, hmx⟩
      obtain ⟨p, q⟩ := pq
      refine ⟨[6, 7], bg_tup rfl (bgs_cons (bg_name (by simp) (bgs_cons (bg_name (by simp) (bgs_nil ?_)))))⟩
      obtain ⟨v, hv⟩ := (all_mem O.F).mp (List.mem_of_getElem? hpq)
      have hv : wOf ts p q = some v := hv
      obtain ⟨hp, hq, _⟩ := wOf_lt O.F hv
      have ll := (List.getElem?_eq_some_iff.mp hpq).1
      have he : (allE n ts)[l]? = some (p, q, v) := by
        unfold allE
        rw [List.getElem?_map, hpq]
        show some (p, q, (wOf ts p q).getD 0) = _
        rw [hv]
        rfl
      have lp : (Ds.pass ((allE n ts).take l) X).length = n := (Ds.pass_len _ X).trans hlX
      have hs : Ds.pass ((allE n ts).take (l + 1)) X = Ds.relax (Ds.pass ((allE n ts).take l) X) (p, q, v) := by rw [take_snoc he, pass_snoc]
      rw [hs]
      generalize Ds.pass ((allE n ts).take l) X = Y at *
      have km : k * 132 ≤ 12 * 132 := Nat.mul_le_mul_right _ (by omega)
      show SD K _ [.sh (.tup [.int (n : Int), dkDct kk ds]), .sh (.int (t : Int)), .sh (.int (n : Int)), .sh (dkDct kk ds), .own (.dk (fX Y) mx), .sh (.int (k : Int)), .sh (.int (p : Int)), .sh (.int (q : Int)), z8] _
      cases eq : Ds.at_ Y q with
      | none =>
        have e : Ds.eff Y (p, q, v) = false := by unfold Ds.eff; rw [eq]
        rw [Ds.relax_no e]
        exact sd_if (b := false) (et_is (et_test (ed_dinKO (n := 4) rfl (ed_var rfl))) (by rw [fX_at, eq]; rfl)) (fun h => nomatch h) fun _ => sd_next ⟨_, _, _, _, rfl, by omega⟩
      | some y =>
        refine sd_if (b := true) (et_is (et_test (ed_dinKO (n := 4) rfl (ed_var rfl))) (by rw [fX_at, eq]; rfl)) (fun _ => ?_) fun h => nomatch h
        refine sd_seq (sd_asg (d := .int (v + y)) (ed_i0 (ed_dget (is := [(p : Int), (q : Int)]) (i := v) (ed_er (ed_var rfl)) (eb_cons (ed_var rfl) (eb_cons (ed_var rfl) eb_nil)) (by rw [O.lk, hv]; rfl)) (ed_dgetKO (n := 4) (i := (q : Int)) rfl (ed_var rfl) (by rw [fX_at, eq]; rfl))) ?_)
        cases ep : Ds.at_ Y p with
        | none =>
          have e : Ds.eff Y (p, q, v) = true := by unfold Ds.eff; rw [eq]; show (match Ds.at_ Y p with | none => true | some x => decide (v + y < x)) = _; rw [ep]
          rw [Ds.relax_yes e eq]
          exact sd_if (b := true || false) (et_or (et_is (et_test (ed_dninKO (n := 4) rfl (ed_var rfl))) (by rw [fX_at, ep]; rfl)) fun h => nomatch h) (fun _ => sd_dputK (n := 4) rfl (ed_var rfl) (ed_var rfl) (by omega) ⟨_, _, _, _, by rw [fX_put (by omega)]; rfl, by omega⟩) fun h => nomatch h
        | some x =>
          have e : Ds.eff Y (p, q, v) = decide (v + y < x) := by unfold Ds.eff; rw [eq]; show (match Ds.at_ Y p with | none => true | some x => decide (v + y < x)) = _; rw [ep]
          refine sd_if (b := false || decide (v + y < x)) (et_or (et_is (et_test (ed_dninKO (n := 4) rfl (ed_var rfl))) (by rw [fX_at, ep]; rfl)) fun _ => et_test (ed_b0 (ed_var rfl) (ed_dgetKO (n := 4) (i := (p : Int)) rfl (ed_var rfl) (by rw [fX_at, ep]; rfl)))) (fun h => ?_) fun h => ?_
          · have h : decide (v + y < x) = true := h
            rw [h] at e
            rw [Ds.relax_yes e eq]
            exact sd_dputK (n := 4) rfl (ed_var rfl) (ed_var rfl) (by omega) ⟨_, _, _, _, by rw [fX_put (by omega)]; rfl, by omega⟩
          · have h : decide (v + y < x) = false := h
            rw [h] at e
            rw [Ds.relax_no e]
            exact sd_next ⟨_, _, _, _, rfl, by omega⟩
    · rintro r ⟨mx, z6, z7, z8, rfl, hmx⟩
      rw [← le, List.take_length]
      exact ⟨_, _, _, _, _, rfl, by rw [Nat.succ_mul]; omega⟩
  · rintro r ⟨mx, z5, z6, z7, z8, rfl, hmx⟩
    have e : Ds.turns (allE n ts) n t ((n : Int)).toNat = DT n ts t := (Ds.turns_DL W (by omega)).trans (DL_same (fun e => allE_mem O.F e) n t)
    rw [e]
    rw [Int.toNat_natCast] at hmx
    have km : n * 132 ≤ 12 * 132 := Nat.mul_le_mul_right _ (by omega)
    exact sd_retVar (n := 4) rfl fun _ _ _ _ ⟨p, h1, h2, h3, h4, kvs, c, hl, hr⟩ => ⟨p, h1, h2, h3, h4, kvs, c, Nat.le_trans hl (by omega), hr⟩
/-- what a walk of sums told: under each house its least sum -/
def FarI (n : Nat) (ts : List Tie) (t : Nat) (ks : List Key) (ds : List BV.D) : Prop := ∀ a : Nat, lookK ks ds (.inl (a : Int)) = (dd n ts t a).map D.int
theorem dnx_least {n t a l : Nat} {ts : List Tie} (h0 : (List.range l).filter (onB ts (DT n ts t) a) = []) (hl : l < n) (h : onB ts (DT n ts t) a l = true) : nx n ts t a = some l := by
  have e : List.range n = List.range l ++ (List.range (n - l)).map (l + ·) := by
    rw [← List.range_add]
    congr 1
    omega
  unfold nx stL
  rw [e, List.filter_append, h0, List.nil_append]
  obtain ⟨m, hm⟩ : ∃ m, n - l = m + 1 := ⟨n - l - 1, by omega⟩
  rw [hm, List.range_succ_eq_map, List.map_cons, List.filter_cons_of_pos (by rw [Nat.add_zero]; exact h)]
  rw [Nat.add_zero]
  rfl
theorem donB_off {n t a b : Nat} {ts : List Tie} (F : NetFacts n ts) (ht : t < n) (h : onB ts (DT n ts t) a b = true) : a ≠ t := fun e => by
  obtain ⟨w, y, hw, hy, hx⟩ := onB_yes h
  obtain ⟨_, hb, hw1, _⟩ := wOf_lt F hw
  have p := dd_pos hb hy
  subst e
  have hx : dd n ts a a = some (w + y) := hx
  rw [dd_self ht] at hx
  have := Option.some.inj hx
  omega
noncomputable abbrev sp_dnext (K : PySem.W.Frag) : Sp := spSh K (fun x : B91 × (List Key × List BV.D) × Nat × Nat => dkOk x.1 ∧ FarI x.1.1.1 x.1.1.2 x.2.2.1 x.2.1.1 x.2.1.2 ∧ x.2.2.1 < x.1.1.1 ∧ x.2.2.2 < x.1.1.1) (fun x => [(true, dkNet x.1), (true, .dki x.2.1.1 x.2.1.2), (true, .int x.2.2.2), (true, .int x.2.2.1)]) (fun x => oN (nx x.1.1.1 x.1.1.2 x.2.2.1 x.2.2.2))
theorem cal_dnext (T : Tx K mg C fI CD fD) : Cal P w K mg base 1 "_law_next" (sp_dnext K) := by
  refine T.d__law_next.sh sc__law_next (fun _ => rfl) (by decide) (fun _ _ _ _ _ _ us hl => match us, hl with | [_, _, _, _], _ => rfl) (fun f cdv A outer s H E hr x hx => ?_)
  have hu := hu_of hr
  refine ⟨_, (pss_cons (ps_if (PW.pt (pw_or (pt_cmpR op_eq (pv 2) (pv 3) (nomark _)) (pw_or1 (pt_cmp (pc_dnotin hu (pv 2) (pv 1)))))) (pss_one (ps_ret pe_non)) pss_nil) (pss_cons (ps_for PassesOwn.never rfl (pi_range1 (by rfl) T.z_range (pa_cons (pe_ix ix_tup (pv 0) pe_int (fun _ _ => rfl)) pa_nil)) (pg_name (i := 4) sc__law_next.nd rfl (Or.inl rfl)) (pss_one (ps_if (PW.pt (pw_and (pt_cmp (pc_din hu (pe_tup (pa_cons (pv 2) (pa_cons (pv 4) pa_nil))) (pe_ix ix_tup (pv 0) pe_int (fun _ _ => rfl)))) (pw_and1 (pt_cmpR op_eq (pe_op op_add (pe_dget hu (pe_ix ix_tup (pv 0) pe_int (fun _ _ => rfl)) (pe_tup (pa_cons (pv 2) (pa_cons (pv 4) pa_nil))) (fun _ _ => rfl)) (pe_dget hu (pv 1) (pv 4) (fun _ _ => rfl))) (pe_dget hu (pv 1) (pv 2) (fun _ _ => rfl)) (nomark _))))) (pss_one (ps_ret (pv 4))) pss_nil))) (pss_one (ps_ret pe_non)))), ?_⟩
  obtain ⟨⟨⟨n, ts⟩, kk, ds⟩, ⟨ks, fs⟩, t, a⟩ := x
  obtain ⟨O, hF, ht, ha⟩ := hx
  have O : DkD n ts kk ds := O
  have hF : FarI n ts t ks fs := hF
  have ht : t < n := ht
  have ha : a < n := ha
  have n2 := O.F.n2
  show SD K _ [.sh (.tup [.int (n : Int), dkDct kk ds]), .sh (.dki ks fs), .sh (.int (a : Int)), .sh (.int (t : Int)), .no] { nx := fun _ => oN (nx n ts t a) = D.non, rt := RSh K (oN (nx n ts t a)) }
  have none_ : (∀ b, b < n → onB ts (DT n ts t) a b = false) → nx n ts t a = none := fun h => by
    unfold nx stL
    rw [List.filter_eq_nil_iff.mpr fun b hb => by rw [h b (List.mem_range.mp hb)]; exact Bool.false_ne_true]
    rfl
  refine sd_seq (sd_if (b := decide ((a : Int) = (t : Int)) || !(lookK ks fs (.inl (a : Int))).isSome) (et_or (et_test (ed_eqI (ed_var rfl) (ed_var rfl))) fun _ => et_test (ed_dninI (ed_var rfl) (ed_var rfl))) (fun h => ?_) fun h => sd_next ?_)
  · have e : nx n ts t a = none := none_ fun b hb => by
      cases q : onB ts (DT n ts t) a b with
      | false => rfl
      | true =>
        exfalso
        obtain ⟨w, y, hw, hy, hx⟩ := onB_yes q
        have q1 := donB_off O.F ht q
        have hx : dd n ts t a = some (w + y) := hx
        rw [hF a, hx, decide_eq_false (show ¬ (a : Int) = (t : Int) by omega)] at h
        cases h
    rw [e]
    exact sd_ret (d := .non) ed_non fun _ _ _ _ z => z
  · obtain ⟨_, h2⟩ := Bool.or_eq_false_iff.mp h
    rw [hF a, Option.isSome_map] at h2
    obtain ⟨x, hx⟩ : ∃ x, dd n ts t a = some x := by
      cases q : dd n ts t a with
      | none => rw [q] at h2; cases h2
      | some x => exact ⟨x, rfl⟩
    refine sd_seq (sd_forR1 (i := (n : Int)) (eb_cons (ed_ixT (l := 0) (d := .int (n : Int)) (ed_var rfl) ed_int rfl rfl) eb_nil) (by omega) (fun l r => ∃ z4, r = [.sh (.tup [.int (n : Int), dkDct kk ds]), .sh (.dki ks fs), .sh (.int (a : Int)), .sh (.int (t : Int)), z4] ∧ (List.range l).filter (onB ts (DT n ts t) a) = []) ⟨_, rfl, rfl⟩ ?_ ?_)
    · rintro l r hl ⟨z4, rfl, h0⟩
      have hl : l < n := by omega
      have no : onB ts (DT n ts t) a l = false → (List.range (l + 1)).filter (onB ts (DT n ts t) a) = [] := fun e => by
        rw [List.range_succ, List.filter_append, h0, List.nil_append, List.filter_cons_of_neg (by rw [e]; exact Bool.false_ne_true)]
        rfl
      cases hw : wOf ts a l with
      | none =>
        refine sd_if (b := false && false) (et_and (et_is (et_test (ed_din (is := [(a : Int), (l : Int)]) (ed_er (ed_ixT (l := 1) (d := dkDct kk ds) (ed_var rfl) ed_int rfl rfl)) (eb_cons (ed_var rfl) (eb_cons (ed_var rfl) eb_nil)))) (by rw [O.lk, hw]; rfl)) fun h => nomatch h) (fun h => nomatch h) fun _ => sd_next ⟨_, rfl, no ?_⟩
        cases q : onB ts (DT n ts t) a l with
        | false => rfl
        | true =>
          obtain ⟨w, y, hw', _⟩ := onB_yes q
          rw [hw] at hw'
          cases hw'
      | some w =>
        obtain ⟨w', hb⟩ := wOf_back O.F hw
        obtain ⟨y, hy, _⟩ := dd_step O.F ht hb hx
        have e : onB ts (DT n ts t) a l = decide (w + y = x) := onB_is hw hy hx
        refine sd_if (b := true && decide (w + y = x)) (et_and (et_is (et_test (ed_din (is := [(a : Int), (l : Int)]) (ed_er (ed_ixT (l := 1) (d := dkDct kk ds) (ed_var rfl) ed_int rfl rfl)) (eb_cons (ed_var rfl) (eb_cons (ed_var rfl) eb_nil)))) (by rw [O.lk, hw]; rfl)) fun _ => et_test (ed_eqI (ed_i0 (ed_dget (is := [(a : Int), (l : Int)]) (i := w) (ed_er (ed_ixT (l := 1) (d := dkDct kk ds) (ed_var rfl) ed_int rfl rfl)) (eb_cons (ed_var rfl) (eb_cons (ed_var rfl) eb_nil)) (by rw [O.lk, hw]; rfl)) (ed_dgetI (ed_var rfl) (ed_var rfl) (by rw [hF l, hy]; rfl))) (ed_dgetI (ed_var rfl) (ed_var rfl) (by rw [hF a, hx]; rfl)))) (fun q => ?_) fun q => sd_next ⟨_, rfl, no (by rw [e]; exact q)⟩
        have q : decide (w + y = x) = true := q
        rw [dnx_least h0 hl (by rw [e]; exact q)]
        exact sd_ret (d := .int (l : Int)) (ed_var rfl) fun _ _ _ _ z => z
    · rintro r ⟨z4, rfl, h0⟩
      rw [Int.toNat_natCast] at h0
      have e : nx n ts t a = none := by
        unfold nx stL
        rw [h0]
        rfl
      rw [e]
      exact sd_ret (d := .non) ed_non fun _ _ _ _ z => z
theorem app_asc (x y z : Str) : x ++ y ++ z = x ++ (y ++ z) := TL.ext_tl (by rw [TL.tl_append, TL.tl_append, TL.tl_append, TL.tl_append, List.append_assoc])
theorem tl_nat {i : Int} (h0 : 0 ≤ i) : TL.tl (toString i : Str) = TL.numL i.toNat := by
  have e : i = ((i.toNat : Nat) : Int) := by omega
  have hl : TL.tl (Str.ofString (toString ((i.toNat : Nat) : Int))) = TL.numL i.toNat := TL.tl_num i.toNat
  have : (toString i : Str) = Str.ofString (toString ((i.toNat : Nat) : Int)) := by rw [← e] <;> rfl
  rw [this, hl]
theorem numL_zero : ∀ n : Nat, (TL.numL n)[0]? = some 48 → n = 0 := fun n => by
  induction n using Nat.strongRecOn with
  | _ n ih =>
    intro h
    by_cases q : n < 10
    · rw [TL.numL_lt q] at h
      have h : 48 + n = 48 := Option.some.inj h
      omega
    · rw [TL.numL_step (by omega)] at h
      have ne := List.length_pos_iff.mpr (TL.numL_ne (n / 10))
      rw [List.getElem?_append_left ne] at h
      have := ih (n / 10) (by omega) h
      omega
theorem numT_nat {i : Int} (h0 : 0 ≤ i) : numT (toString i) = some i := by
  have e := tl_nat h0
  have e : (toString i : Str).cps.toList = TL.numL i.toNat := e
  have ok : isNum (toString i) = true := by
    unfold isNum
    rw [e, isDg_all.mpr (TL.numL_digits _)]
    have l0 : (toString i : Str).length ≠ 0 := by
      rw [TL.len_tl, tl_nat h0]
      have := List.length_pos_iff.mpr (TL.numL_ne i.toNat)
      omega
    rw [decide_eq_false l0]
    by_cases q : (TL.numL i.toNat)[0]? = some 48
    · have := numL_zero _ q
      have e0 : i = 0 := by omega
      subst e0
      decide +kernel
    · rw [decide_eq_false q]
      rfl
  unfold numT
  rw [if_pos ok, e, TL.numL_val]
  exact congrArg some (by omega)
theorem num_free {i : Int} (h0 : 0 ≤ i) {s : Nat} (h : s < 48 ∨ 57 < s) : s ∉ TL.tl (toString i : Str) := by
  rw [tl_nat h0]
  exact TL.numL_free h
abbrev NumOk (t : Tie) : Prop := (0 ≤ t.1 ∧ t.1 < 10 ^ 100) ∧ (0 ≤ t.2.1 ∧ t.2.1 < 10 ^ 100) ∧ (0 ≤ t.2.2.1 ∧ t.2.2.1 < 10 ^ 100) ∧ (0 ≤ t.2.2.2 ∧ t.2.2.2 < 10 ^ 100)
theorem tieS_is (t : Tie) : tieS t = (toString t.1 ++ "-" ++ toString t.2.1) ++ ":" ++ (toString t.2.2.1 ++ "/" ++ toString t.2.2.2) := by
  unfold tieS
  rw [emp_app]
  simp only [app_asc]
theorem tl_dash : TL.tl ("-" : Str) = [45] := by decide +kernel
theorem tl_col : TL.tl (":" : Str) = [58] := by decide +kernel
theorem tl_sl : TL.tl ("/" : Str) = [47] := by decide +kernel
theorem tl_sp : TL.tl (" " : Str) = [32] := by decide +kernel
theorem tieT_tieS {t : Tie} (h : NumOk t) : tieT (tieS t) = some t := by
  obtain ⟨⟨h1, _⟩, ⟨h2, _⟩, ⟨h3, _⟩, h4, _⟩ := h
  have p1 : Txt.partition (tieS t) ":" = ((toString t.1 ++ "-" ++ toString t.2.1 : Str), (":" : Str), (toString t.2.2.1 ++ "/" ++ toString t.2.2.2 : Str)) := by
    rw [tieS_is]
    refine TL.partition_app tl_col fun z => ?_
    rw [TL.tl_append, TL.tl_append, List.mem_append, List.mem_append, tl_dash] at z
    rcases z with (z | z) | z
    · exact num_free h1 (.inr (by decide)) z
    · exact absurd (List.mem_singleton.mp z) (by decide)
    · exact num_free h2 (.inr (by decide)) z
  have p2 : Txt.partition (toString t.1 ++ "-" ++ toString t.2.1 : Str) "-" = ((toString t.1 : Str), ("-" : Str), (toString t.2.1 : Str)) := TL.partition_app tl_dash (num_free h1 (.inl (by decide)))
  have p3 : Txt.partition (toString t.2.2.1 ++ "/" ++ toString t.2.2.2 : Str) "/" = ((toString t.2.2.1 : Str), ("/" : Str), (toString t.2.2.2 : Str)) := TL.partition_app tl_sl (num_free h3 (.inl (by decide)))
  unfold tieT
  rw [p1]
  show (match numT (Txt.partition (toString t.1 ++ "-" ++ toString t.2.1 : Str) "-").1, numT (Txt.partition (toString t.1 ++ "-" ++ toString t.2.1 : Str) "-").2.2, numT (Txt.partition (toString t.2.2.1 ++ "/" ++ toString t.2.2.2 : Str) "/").1, numT (Txt.partition (toString t.2.2.1 ++ "/" ++ toString t.2.2.2 : Str) "/").2.2 with
    | some a, some b, some t, some k => some (a, b, t, k)
    | _, _, _, _ => none) = some t
  rw [p2, p3]
  show (match numT (toString t.1), numT (toString t.2.1), numT (toString t.2.2.1), numT (toString t.2.2.2) with
    | some a, some b, some t, some k => some (a, b, t, k)
    | _, _, _, _ => none) = some t
  rw [numT_nat h1, numT_nat h2, numT_nat h3, numT_nat h4]
theorem net_split {n : Nat} {ts : List Tie} (num : ∀ t, t ∈ ts → NumOk t) : Txt.split (netS n ts) " " = (toString (n : Int) : Str) :: ts.map tieS := by
  refine TL.split_join tl_sp (by decide +kernel) (List.cons_ne_nil _ _) fun p hp => ?_
  rcases List.mem_cons.mp hp with rfl | hp
  · exact num_free (by omega) (.inl (by decide))
  · obtain ⟨t, ht, rfl⟩ := List.mem_map.mp hp
    obtain ⟨⟨h1, _⟩, ⟨h2, _⟩, ⟨h3, _⟩, h4, _⟩ := num t ht
    rw [tieS_is]
    intro z
    rw [TL.tl_append, TL.tl_append, TL.tl_append, TL.tl_append, TL.tl_append, TL.tl_append, tl_dash, tl_col, tl_sl] at z
    simp only [List.mem_append, List.mem_singleton] at z
    rcases z with (((z | z) | z) | z) | ((z | z) | z)
    · exact num_free h1 (.inl (by decide)) z
    · omega
    · exact num_free h2 (.inl (by decide)) z
    · omega
    · exact num_free h3 (.inl (by decide)) z
    · omega
    · exact num_free h4 (.inl (by decide)) z
theorem joinL_cnt (s : Nat) : ∀ ps : List (List Nat), (TL.joinL [s] ps).count s ≤ (ps.map (·.count s)).sum + (ps.length - 1)
  | [] => Nat.zero_le _
  | [p] => by
    show p.count s ≤ ([p].map (·.count s)).sum + 0
    rw [List.map_cons, List.sum_cons]
    omega
  | p :: q :: r => by
    have ih := joinL_cnt s (q :: r)
    show (p ++ ([s] ++ TL.joinL [s] (q :: r))).count s ≤ _
    rw [List.count_append, List.count_append, List.map_cons, List.sum_cons, List.count_singleton_self]
    simp only [List.length_cons] at ih ⊢
    omega
theorem joinL_lenC (s : Nat) : ∀ ps : List (List Nat), (TL.joinL [s] ps).length ≤ (ps.map (·.length)).sum + (ps.length - 1)
  | [] => Nat.zero_le _
  | [p] => by
    show p.length ≤ ([p].map (·.length)).sum + 0
    rw [List.map_cons, List.sum_cons]
    omega
  | p :: q :: r => by
    have ih := joinL_lenC s (q :: r)
    show (p ++ ([s] ++ TL.joinL [s] (q :: r))).length ≤ _
    rw [List.length_append, List.length_append, List.map_cons, List.sum_cons]
    simp only [List.length_cons, List.length_nil] at ih ⊢
    omega
theorem joinL_mem (s c : Nat) : ∀ ps : List (List Nat), c ∈ TL.joinL [s] ps → c = s ∨ ∃ p, p ∈ ps ∧ c ∈ p
  | [], h => by cases h
  | [p], h => .inr ⟨p, List.mem_cons_self, h⟩
  | p :: q :: r, h => by
    have h : c ∈ p ++ ([s] ++ TL.joinL [s] (q :: r)) := h
    rcases List.mem_append.mp h with h | h
    · exact .inr ⟨p, List.mem_cons_self, h⟩
    · rcases List.mem_append.mp h with h | h
      · exact .inl (List.mem_singleton.mp h)
      · rcases joinL_mem s c (q :: r) h with h | ⟨u, hu, h⟩
        · exact .inl h
        · exact .inr ⟨u, List.mem_cons_of_mem _ hu, h⟩
theorem tl_joinS (ys : List Str) : TL.tl (Txt.join " " ys) = TL.joinL [32] (ys.map TL.tl) := by
  rw [TL.join_eq, TL.tl_join]
  exact congrArg (TL.joinL · _) sep_sp.tl
def FgL (l : List Nat) : Prop := ∀ w : List Nat, w <:+: l → AllDg w → w.length ≤ 30
theorem fg_app {a b : List Nat} {c : Nat} (hc : c < 48 ∨ 57 < c) (ha : FgL a) (hb : FgL b) : FgL (a ++ c :: b) := fun w hw hd => by
  have nc : c ∉ w := fun z => by have := hd c z; omega
  obtain ⟨s, t, e⟩ := hw
  rw [List.append_assoc] at e
  rcases List.append_eq_append_iff.mp e with ⟨a', e1, e2⟩ | ⟨c', e1, e2⟩
  · rcases List.append_eq_append_iff.mp e2 with ⟨a2, e3, e4⟩ | ⟨c2, e3, e4⟩
    · exact ha w ⟨s, a2, by rw [List.append_assoc, ← e3, ← e1]⟩ hd
    · cases c2 with
      | nil =>
        rw [List.append_nil] at e3
        exact ha w ⟨s, [], by rw [List.append_nil, e3, ← e1]⟩ hd
      | cons d r =>
        injection e4 with e5 e6
        exact absurd (show c ∈ w by rw [e3, e5]; exact List.mem_append.mpr (.inr List.mem_cons_self)) nc
  · cases c' with
    | nil =>
      cases w with
      | nil => exact Nat.zero_le _
      | cons d r =>
        injection e2 with e5 e6
        exact absurd (show c ∈ d :: r by rw [e5]; exact List.mem_cons_self) nc
    | cons d r =>
      injection e2 with e5 e6
      exact hb w ⟨r, t, by rw [List.append_assoc]; exact e6.symm⟩ hd
theorem fg_join : ∀ {ps : List (List Nat)}, (∀ p, p ∈ ps → FgL p) → FgL (TL.joinL [32] ps)
  | [], _ => fun w hw _ => by rw [List.infix_nil.mp hw]; exact Nat.zero_le _
  | [p], h => h p List.mem_cons_self
  | p :: q :: r, h => fg_app (c := 32) (by decide) (h p List.mem_cons_self) (fg_join fun u hu => h u (List.mem_cons_of_mem _ hu))
structure TxL (l : List Nat) (n k : Nat) : Prop where
  len : l.length ≤ n
  fg : FgL l
  cnt : l.count 32 ≤ k
  pl : ∀ c, c ∈ l → c < 1114112
theorem tx_num {i : Int} (h0 : 0 ≤ i) (h : i < 10000000) : TxL (TL.tl (toString i : Str)) 7 0 := by
  rw [tl_nat h0]
  have l7 : (TL.numL i.toNat).length ≤ 7 := TL.numL_len (by decide) (by show i.toNat < 10 ^ 7; omega)
  have dg := TL.numL_digits i.toNat
  refine ⟨l7, fun w hw _ => ?_, Nat.le_of_eq (List.count_eq_zero.mpr fun z => ?_), fun c hc => ?_⟩
  · have := hw.length_le
    omega
  · have := dg 32 z
    omega
  · have := dg c hc
    omega
theorem tx_app {a b : List Nat} {c n m : Nat} (hc : c < 48 ∨ 57 < c) (h1 : c ≠ 32) (h2 : c < 1114112) (ha : TxL a n 0) (hb : TxL b m 0) : TxL (a ++ c :: b) (n + m + 1) 0 := by
  refine ⟨?_, fg_app hc ha.fg hb.fg, ?_, fun d hd => ?_⟩
  · have := ha.len
    have := hb.len
    rw [List.length_append, List.length_cons]
    omega
  · rw [List.count_append, List.count_cons_of_ne h1]
    have := ha.cnt
    have := hb.cnt
    omega
  · rcases List.mem_append.mp hd with h | h
    · exact ha.pl d h
    · rcases List.mem_cons.mp h with rfl | h
      · exact h2
      · exact hb.pl d h
abbrev N7 (t : Tie) : Prop := (0 ≤ t.1 ∧ t.1 < 10000000) ∧ (0 ≤ t.2.1 ∧ t.2.1 < 10000000) ∧ (0 ≤ t.2.2.1 ∧ t.2.2.1 < 10000000) ∧ 0 ≤ t.2.2.2 ∧ t.2.2.2 < 10000000
theorem tx_tie {t : Tie} (h : N7 t) : TxL (TL.tl (tieS t)) 31 0 := by
  obtain ⟨h1, h2, h3, h4⟩ := h
  have e : TL.tl (tieS t) = (TL.tl (toString t.1 : Str) ++ 45 :: TL.tl (toString t.2.1 : Str)) ++ 58 :: (TL.tl (toString t.2.2.1 : Str) ++ 47 :: TL.tl (toString t.2.2.2 : Str)) := by
    rw [tieS_is, TL.tl_append, TL.tl_append, TL.tl_append, TL.tl_append, TL.tl_append, TL.tl_append, tl_dash, tl_col, tl_sl]
    simp only [List.append_assoc, List.cons_append, List.nil_append]
  rw [e]
  exact tx_app (by decide) (by decide) (by decide) (tx_app (by decide) (by decide) (by decide) (tx_num h1.1 h1.2) (tx_num h2.1 h2.2)) (tx_app (by decide) (by decide) (by decide) (tx_num h3.1 h3.2) (tx_num h4.1 h4.2))
theorem ok_of {x : Str} {n : Nat} (hn : n ≤ 20000) (h : TxL (TL.tl x) n 50) : TxOk x := by
  refine ⟨by rw [TL.len_tl]; exact Nat.le_trans h.len hn, h.fg, ?_, h.pl⟩
  rw [sep_sp.cnt]
  have := h.cnt
  omega
theorem tx_netB {n m : Nat} {ts : List Tie} (n12 : n ≤ 12) (few : ts.length ≤ m) (m50 : m ≤ 50) (h : ∀ t, t ∈ ts → N7 t) : TxL (TL.tl (netS n ts)) 1800 m := by
  have all : ∀ p, p ∈ ((toString (n : Int) : Str) :: ts.map tieS).map TL.tl → TxL p 31 0 := fun p hp => by
    obtain ⟨w, hw, rfl⟩ := List.mem_map.mp hp
    rcases List.mem_cons.mp hw with rfl | hw
    · have z := tx_num (i := (n : Int)) (by omega) (by omega)
      exact ⟨Nat.le_trans z.len (by decide), z.fg, z.cnt, z.pl⟩
    · obtain ⟨t, ht, rfl⟩ := List.mem_map.mp hw
      exact tx_tie (h t ht)
  have len : (((toString (n : Int) : Str) :: ts.map tieS).map TL.tl).length ≤ m + 1 := by
    rw [List.length_map, List.length_cons, List.length_map]
    omega
  have e : TL.tl (netS n ts) = TL.joinL [32] (((toString (n : Int) : Str) :: ts.map tieS).map TL.tl) := tl_joinS _
  rw [e]
  generalize ((toString (n : Int) : Str) :: ts.map tieS).map TL.tl = ps at all len
  have s1 : ∀ ps : List (List Nat), (∀ p, p ∈ ps → TxL p 31 0) → (ps.map (·.length)).sum ≤ 31 * ps.length ∧ (ps.map (·.count 32)).sum = 0 := fun ps => by
    induction ps with
    | nil => intro _; exact ⟨Nat.le_refl _, rfl⟩
    | cons p ps ih =>
      intro h
      have i := ih fun q hq => h q (List.mem_cons_of_mem _ hq)
      have z := h p List.mem_cons_self
      have z1 := z.len
      have z2 := z.cnt
      rw [List.map_cons, List.sum_cons, List.length_cons, List.map_cons, List.sum_cons]
      omega
  obtain ⟨a, b⟩ := s1 ps all
  have c1 := joinL_lenC 32 ps
  have c2 := joinL_cnt 32 ps
  refine ⟨by omega, fg_join fun p hp => (all p hp).fg, by omega, fun c hc => ?_⟩
  rcases joinL_mem 32 c _ hc with rfl | ⟨p, hp, hc⟩
  · decide
  · exact (all p hp).pl c hc
theorem due_hd {n : Nat} {ts hs : List Tie} (X : Hd n ts hs) : due02 (n : Int) hs = none := by
  have O := handed_ok X.F X.h
  have n2 := O.n2
  have e1 : badH (n : Int) (flatH hs) = none := List.find?_eq_none.mpr fun v hv => by
    obtain ⟨t, ht, hv⟩ := List.mem_flatMap.mp hv
    have := X.nn t ht
    have hv : v = t.1 ∨ v = t.2.1 := by simpa using hv
    unfold isH
    rw [decide_eq_true (by omega : 0 ≤ v), decide_eq_true (by omega : v < (n : Int))]
    exact Bool.false_ne_true
  have e2 : pairAt hs = none := fd_no fun i hi => by
    rw [badP_at (List.getElem?_eq_getElem hi), decide_eq_false (X.nn _ (List.getElem_mem hi)).2.2.2.2, Bool.false_or]
    refine decide_eq_false fun h => ?_
    obtain ⟨u, hu, e⟩ := List.mem_map.mp h
    obtain ⟨j, hj, rfl⟩ := List.mem_iff_getElem.mp hu
    rw [List.length_take] at hj
    rw [List.getElem_take] at e
    have := (List.pairwise_iff_getElem.mp O.ok.nd) j i (by rw [List.length_map]; omega) (by rw [List.length_map]; exact hi) (by omega)
    rw [List.getElem_map, List.getElem_map] at this
    exact this e
  have e3 : lowAt hs = none := fd_no fun i hi => by
    have := O.ok.ws _ (List.getElem_mem hi)
    rw [lowP_at (List.getElem?_eq_getElem hi), decide_eq_false (by omega), decide_eq_false (by omega)]
    rfl
  unfold due02
  rw [if_neg (by omega), e1]
  show (match pairAt hs with | some l => some (Exn.tie (some (l : Int))) | none => match lowAt hs with | some l => some (.weight (some (l : Int))) | none => none) = none
  rw [e2]
  show (match lowAt hs with | some l => some (Exn.weight (some (l : Int))) | none => none) = none
  rw [e3]
theorem rd_hd {n : Nat} {ts hs : List Tie} (X : Hd n ts hs) (num : ∀ t, t ∈ hs → NumOk t) : rdOf (netS n hs) = .ok (n : Int) hs := by
  have s := net_split (n := n) num
  have mt : ∀ hs : List Tie, (∀ t, t ∈ hs → NumOk t) → (hs.map tieS).filterMap tieT = hs ∧ ((hs.map tieS).map fun w => (tieT w).isNone) = hs.map fun _ => false := fun hs => by
    induction hs with
    | nil => intro _; exact ⟨rfl, rfl⟩
    | cons t hs ih =>
      intro h
      obtain ⟨a, b⟩ := ih fun u hu => h u (List.mem_cons_of_mem _ hu)
      have e := tieT_tieS (h t List.mem_cons_self)
      rw [List.map_cons, List.filterMap_cons, e, a, List.map_cons, b, e]
      exact ⟨rfl, rfl⟩
  obtain ⟨m1, m2⟩ := mt hs num
  have en : numT (toString (n : Int)) = some (n : Int) := numT_nat (by omega)
  have e1 : nsOf (netS n hs) = false :: hs.map fun _ => false := by
    unfold nsOf
    rw [s]
    show (numT (toString (n : Int))).isNone :: ((hs.map tieS).map fun w => (tieT w).isNone) = _
    rw [m2, en]
    rfl
  have e2 : cOf (netS n hs) = (n : Int) := by
    unfold cOf
    rw [s]
    show (numT (toString (n : Int))).getD 0 = _
    rw [en]
    rfl
  have e3 : hsOf (netS n hs) = hs := by
    unfold hsOf
    rw [s]
    exact m1
  unfold rdOf
  rw [e1, e2, e3, due_hd X, if_neg]
  rw [List.any_cons, List.any_map]
  intro z
  rw [show (id false || hs.any (id ∘ fun _ => false)) = hs.any (fun _ => false) from rfl] at z
  obtain ⟨t, _, ht⟩ := List.any_eq_true.mp z
  cases ht
theorem srt_hd {n : Nat} {ts hs : List Tie} (X : Hd n ts hs) : srtT (hs.map lf) = ts := by
  have so := X.F.so
  have pm : (srtT (hs.map lf)).Perm ts := (srtT_perm _).symm.trans X.h.pm
  have nd : (hs.map lf).Pairwise fun t u => ¬ (t.1 = u.1 ∧ t.2.1 = u.2.1) := by
    refine X.h.pm.symm.pairwise (so.imp fun h => ?_) fun {a b} h z => h ⟨z.1.symm, z.2.symm⟩
    unfold TLt at h
    omega
  refine List.Perm.eq_of_pairwise (le := TLt) (fun a b _ _ h1 h2 => ?_) (srtT_so nd) so pm
  unfold TLt at h1 h2
  omega
def isLt (c : Nat) : Bool := decide (97 ≤ c) && decide (c ≤ 122)
/-- a name -/
def nmB (x : Str) : Bool := (decide (1 ≤ x.length) && decide (x.length ≤ 8)) && x.cps.toList.all isLt
theorem let_mem (c : Nat) : decide (c ∈ ("abcdefghijklmnopqrstuvwxyz" : Str).cps.toList) = isLt c := by
  have e : ("abcdefghijklmnopqrstuvwxyz" : Str).cps.toList = [97, 98, 99, 100, 101, 102, 103, 104, 105, 106, 107, 108, 109, 110, 111, 112, 113, 114, 115, 116, 117, 118, 119, 120, 121, 122] := by decide +kernel
  rw [e]
  unfold isLt
  rw [← Bool.decide_and]
  refine decide_eq_decide.mpr ?_
  simp only [List.mem_cons, List.not_mem_nil, or_false]
  omega
theorem any_str (ws : List Str) (x : Str) : ((ws.map D.str).any fun y => eqF y (.str x)) = ws.any fun w => decide (w = x) := by
  rw [List.any_map]
  refine congrArg (fun f => ws.any f) (funext fun w => ?_)
  show eqF (.str w) (.str x) = decide (w = x)
  unfold eqF
  first | rfl | exact Bool.beq_eq_decide_eq w x
theorem all_str (ws : List Str) : (ws.map D.str).all flF = true := by
  rw [List.all_map]
  exact List.all_eq_true.mpr fun _ _ => rfl
/-- what stands behind a first word -/
def kindsL : List (Str × List Str) := [("net", ["new", "word"]), ("weigh", ["name", "number", "number", "number"]), ("fall", ["new", "name", "number", "number"]), ("drop", ["name"]), ("show", ["name"]), ("table", ["name", "number"]), ("way", ["name", "number", "number"]), ("spare", ["name", "number", "number", "word"]), ("lost", ["name", "number", "number", "number"]), ("hand", ["name", "number", "number"]), ("trees", ["name", "number", "word"]), ("order", ["name", "name", "number"]), ("all", [])]
def kindsOf (x : Str) : Option (List Str) := (kindsL.find? fun p => decide (p.1 = x)).map (·.2)
def hdW (line : Str) : Str := (Txt.split line " ").headD Str.empty
def wdsOf (line : Str) : List Str := if hdW line = "net" then twoOf " " (Txt.split line " ") else Txt.split line " "
def needW (line : Str) : List Str := if hdW line = "net" then (wdsOf line).take 2 else wdsOf line
def lackW (ks : List Str) (line : Str) : Int := (ks.length : Int) + 1 - ((wdsOf line).length : Int)
def shortB (x : Str) : Bool := decide ("fall" = x) || (decide ("lost" = x) || false)
/-- a line that is one -/
def lineB (line : Str) : Bool := match kindsOf (hdW line) with
  | none => false
  | some ks => !((needW line).any fun w => decide (w = "")) && !((!decide (lackW ks line = 0)) && !(decide (lackW ks line = 1) && shortB (hdW line)))
theorem kd_find {K : PySem.W.Frag} (x : Str) : ∀ {rows : List (Str × List Str)} {as : List Addr}, All2 (fun (r : Str × List Str) (a : Addr) => KTup K a r.2) rows as →
    match (rows.find? fun p => decide (p.1 = x)).map (·.2) with
    | none => kdAt (List.zipWith (fun r a => (r.1, Value.ref a)) rows as) x = none
    | some ks => ∃ a, kdAt (List.zipWith (fun r a => (r.1, Value.ref a)) rows as) x = some (.ref a) ∧ KTup K a ks
  | [], as, h => by
    rw [show as = [] from List.eq_nil_of_length_eq_zero h.1.symm]
    exact rfl
  | r :: rows, [], h => absurd h.1 (by simp)
  | r :: rows, a :: as, h => by
    have ih := kd_find x h.tail
    rw [List.find?_cons]
    by_cases c : r.1 = x
    · rw [decide_eq_true c]
      refine ⟨a, ?_, h.head⟩
      unfold kdAt
      rw [List.zipWith_cons_cons, List.find?_cons]
      show Option.map _ (match decide (r.1 = x) with | true => _ | false => _) = _
      rw [decide_eq_true c]
      rfl
    · rw [decide_eq_false c]
      have e : kdAt (List.zipWith (fun r a => (r.1, Value.ref a)) (r :: rows) (a :: as)) x = kdAt (List.zipWith (fun r a => (r.1, Value.ref a)) rows as) x := by
        unfold kdAt
        rw [List.zipWith_cons_cons, List.find?_cons]
        show Option.map _ (match decide (r.1 = x) with | true => _ | false => _) = _
        rw [decide_eq_false c]
      rw [e]
      exact ih
structure KdF (w : World) (K : PySem.W.Frag) (mg : Str → Option Value) (d : Addr) (as : List Addr) : Prop where
  g : mg "KINDS" = some (.ref d)
  k : KDct w K d (List.zipWith (fun r a => (r.1, Value.ref a)) kindsL as)
  t : All2 (fun (r : Str × List Str) (a : Addr) => KTup K a r.2) kindsL as
theorem Dkx.kd {w : World} {K : PySem.W.Frag} {mg : Str → Option Value} (U : Dkx w K mg) : ∃ d as, KdF w K mg d as := by
  obtain ⟨d, k0, k1, k2, k3, k4, k5, k6, k7, k8, k9, k10, k11, k12, hg, hk, t0, t1, t2, t3, t4, t5, t6, t7, t8, t9, t10, t11, t12⟩ := U.KINDS
  exact ⟨d, [k0, k1, k2, k3, k4, k5, k6, k7, k8, k9, k10, k11, k12], hg, hk, All2.cons t0 (All2.cons t1 (All2.cons t2 (All2.cons t3 (All2.cons t4 (All2.cons t5 (All2.cons t6 (All2.cons t7 (All2.cons t8 (All2.cons t9 (All2.cons t10 (All2.cons t11 (All2.cons t12 All2.nil))))))))))))⟩
theorem KdF.some {w : World} {K : PySem.W.Frag} {mg : Str → Option Value} {d : Addr} {as : List Addr} (F : KdF w K mg d as) {x : Str} {ks : List Str} (h : kindsOf x = some ks) : ∃ a, kdAt (List.zipWith (fun r a => (r.1, Value.ref a)) kindsL as) x = some (.ref a) ∧ KTup K a ks := by
  have := kd_find (K := K) x F.t
  unfold kindsOf at h
  rw [h] at this
  exact this
theorem KdF.none {w : World} {K : PySem.W.Frag} {mg : Str → Option Value} {d : Addr} {as : List Addr} (F : KdF w K mg d as) {x : Str} (h : kindsOf x = none) : kdAt (List.zipWith (fun r a => (r.1, Value.ref a)) kindsL as) x = none := by
  have := kd_find (K := K) x F.t
  unfold kindsOf at h
  rw [h] at this
  exact this
theorem KdF.has {w : World} {K : PySem.W.Frag} {mg : Str → Option Value} {d : Addr} {as : List Addr} (F : KdF w K mg d as) (x : Str) : (kdAt (List.zipWith (fun r a => (r.1, Value.ref a)) kindsL as) x).isSome = (kindsOf x).isSome := by
  cases h : kindsOf x with
  | none => rw [F.none h]; rfl
  | some ks =>
    obtain ⟨a, e, _⟩ := F.some h
    rw [e]
    rfl
theorem split_hd (line : Str) : ∃ ws, Txt.split line " " = hdW line :: ws := by
  obtain ⟨w, ws, e⟩ := sep_sp.ne line
  exact ⟨ws, by unfold hdW; rw [e]; rfl⟩
theorem two_hd {a : Str} {ws : List Str} : ∃ vs, twoOf " " (a :: ws) = a :: vs := by
  match ws with
  | [] => exact ⟨_, rfl⟩
  | [b] => exact ⟨_, rfl⟩
  | b :: c :: r => exact ⟨_, rfl⟩
theorem wds_hd (line : Str) : ∃ ws, wdsOf line = hdW line :: ws := by
  obtain ⟨ws, e⟩ := split_hd line
  unfold wdsOf
  rw [e]
  split
  · exact two_hd
  · exact ⟨ws, rfl⟩
theorem split_few (line : Str) : (Txt.split line " ").length ≤ line.length + 1 := by
  rw [sep_sp.cnt, TL.len_tl]
  exact Nat.succ_le_succ List.count_le_length
theorem two_few (ws : List Str) : (twoOf " " ws).length ≤ ws.length := by
  match ws with
  | [] => exact Nat.le_refl _
  | [a] => exact Nat.le_refl _
  | [a, b] => exact Nat.le_refl _
  | a :: b :: c :: r => exact Nat.le_add_left 3 r.length
theorem wds_few (line : Str) : (wdsOf line).length ≤ line.length + 1 := by
  unfold wdsOf
  split
  · exact Nat.le_trans (two_few _) (split_few line)
  · exact split_few line
abbrev sp_isname (K : PySem.W.Frag) : Sp := spSh K (fun x : Str => x.length ≤ 50000) (fun x => [(true, .str x)]) (fun x => .bl (nmB x))
theorem cal_isname (T : Tx K mg C fI CD fD) : Cal P w K mg base 1 "_is_name" (sp_isname K) := by
  refine T.d__is_name.sh sc__is_name (fun _ => rfl) (by decide) (fun _ _ _ _ _ _ us hl => match us, hl with | [_], _ => rfl) (fun f cdv A outer s H E hr x hx => ?_)
  refine ⟨_, (pss_one (ps_ret (pe_and (pe_chain op_le op_le pe_int (pe_callB call_len_str (by rfl) T.z_len PySem.boot_len (pa_cons (pv 0) pa_nil)) (pe_gint rfl T.c_mostl)) (pe_one (pe_callB (cr_all rfl) (by rfl) T.z_all (by decide +kernel) (pa_cons (pe_lc (own := [("sign", 1)]) rfl sc__is_name.nd (pi_str (pv 0)) (blkOk_by (N := N__is_name) (sc := defScope s__is_name) (by decide +kernel)) (fun _ _ _ _ _ => (pg_name (i := 1) sc__is_name.nd rfl (Or.inl rfl))) (fun _ _ _ _ _ => pts_nil) (fun _ _ _ _ _ => (pe_cmpR op_in_sign (pv 1) (pe_gstr rfl T.c_letters) (by with_unfolding_all rfl)))) pa_nil)))))), ?_⟩
  have hx : x.length ≤ 50000 := hx
  have lc := len_cps x
  show SD K _ [.sh (.str x), .no] { nx := fun _ => D.bl (nmB x) = D.non, rt := RSh K (.bl (nmB x)) }
  refine sd_ret (d := .bl (nmB x)) (ed_is (ed_andV (ed_chain ed_int (ed_lenS (ed_var rfl) (by omega)) ed_int) fun _ => ed_is (ed_all (bs := x.cps.toList.map isLt) (ed_er (ed_eo (eo_is (eo_lc (xs := x.cps.toList) (emb := fun c => Sl.sh (.str (sgn c))) (f := fun _ => true) (v := fun c => D.bl (isLt c)) (ei_c (ei_s (ed_var rfl))) (by omega)
    fun i c hc => bg_name (by simp) ⟨et_yes, fun _ => ed_is (ed_inSg (ed_var rfl) ed_str) (congrArg D.bl (let_mem c))⟩) (by rw [List.filter_eq_self.mpr fun _ _ => rfl, List.map_map]; rfl))))) (by rw [List.all_map])) ?_) fun _ _ _ _ z => z
  unfold nmB
  refine congrArg (fun b => D.bl (b && x.cps.toList.all isLt)) ?_
  refine congr (congrArg _ (decide_eq_decide.mpr ?_)) (decide_eq_decide.mpr ?_) <;> omega
abbrev sp_wordsof (K : PySem.W.Frag) : Sp := spSh K (fun x : Str => lineB x = true ∧ x.length ≤ 50000) (fun x => [(true, .str x)]) (fun x => .lst ((wdsOf x).map .str))
theorem cal_wordsof (T : Tx K mg C fI CD fD) (U : Dkx w K mg) : Cal P w K mg base 1 "_words_of" (sp_wordsof K) := by
  obtain ⟨d_KINDS, as, kf⟩ := U.kd
  have hg_KINDS := kf.g
  have hk_KINDS := kf.k
  obtain ⟨a_SHORTER, hg_SHORTER, hsh⟩ := T.c_shorter
  refine T.d__words_of.sh sc__words_of (fun _ => rfl) (by decide) (fun _ _ _ _ _ _ us hl => match us, hl with | [_], _ => rfl) (fun f cdv A outer s H E hr x hx => ?_)
  have hu := hu_of hr
  have hu64 := hu64_of hr
  refine ⟨_, (pss_cons (ps_set (i := 1) sc__words_of.nd rfl (Or.inl rfl) (pe_split (pv 0) pe_str)) (pss_cons (ps_if (pt_cmp (pc_knin hk_KINDS (pe_ix ix_list (pv 1) pe_int (fun _ _ => rfl)) (pe_glob (v := .ref d_KINDS) rfl hg_KINDS rfl))) pss_never pss_nil) (pss_cons (ps_set (i := 2) sc__words_of.nd rfl (Or.inl rfl) (pv 1)) (pss_cons (ps_if (pt_cmpR op_eq (pe_ix ix_list (pv 1) pe_int (fun _ _ => rfl)) pe_str (nomark _)) (pss_cons (ps_set (i := 1) sc__words_of.nd rfl (Or.inl rfl) (pe_bm PySem.F.plainAttrs_str PySem.F.slot_str_split PySem.F.type_str_split mt_splitM (pv 0) (pa_cons pe_str (pa_cons pe_int pa_nil)))) (pss_one (ps_set (i := 2) sc__words_of.nd rfl (Or.inl rfl) (pe_slice sl_list (pv 1) po_none (po_some pe_int))))) pss_nil) (pss_cons (ps_if (pt_cmpR op_in_seq pe_str (pv 2) (by with_unfolding_all rfl)) pss_never pss_nil) (pss_cons (ps_set (i := 3) sc__words_of.nd rfl (Or.inl rfl) (pe_op op_sub (pe_op op_add (pe_callB call_len_seq (by rfl) T.z_len PySem.boot_len (pa_cons (pe_kget hk_KINDS (pe_glob (v := .ref d_KINDS) rfl hg_KINDS rfl) (pe_ix ix_list (pv 1) pe_int (fun _ _ => rfl)) (fun _ _ => rfl)) pa_nil)) pe_int) (pe_callB call_len_seq (by rfl) T.z_len PySem.boot_len (pa_cons (pv 1) pa_nil)))) (pss_cons (ps_if (PW.pt (pw_and (pt_cmpR op_ne (pv 3) pe_int (nomark _)) (pw_and1 (pt_not (PW.pt (pw_and (pt_cmpR op_eq (pv 3) pe_int (nomark _)) (pw_and1 (pt_cmpR op_in_seq (pe_ix ix_list (pv 1) pe_int (fun _ _ => rfl)) (pe_glob (v := .ref a_SHORTER) rfl hg_SHORTER rfl) (by with_unfolding_all rfl))))))))) pss_never pss_nil) (pss_one (ps_ret (pv 1)))))))))), ?_⟩
  obtain ⟨hb, hl⟩ := hx
  have hb : lineB x = true := hb
  have hl : x.length ≤ 50000 := hl
  obtain ⟨ks, hks⟩ : ∃ ks, kindsOf (hdW x) = some ks := by
    cases e : kindsOf (hdW x) with
    | none => unfold lineB at hb; rw [e] at hb; cases hb
    | some ks => exact ⟨ks, rfl⟩
  obtain ⟨ka, hka, hkt⟩ := kf.some hks
  obtain ⟨b1, b2⟩ : ((needW x).any fun w => decide (w = "")) = false ∧ ((!decide (lackW ks x = 0)) && !(decide (lackW ks x = 1) && shortB (hdW x))) = false := by
    unfold lineB at hb
    rw [hks] at hb
    have hb : (!((needW x).any fun w => decide (w = "")) && !((!decide (lackW ks x = 0)) && !(decide (lackW ks x = 1) && shortB (hdW x)))) = true := hb
    rw [Bool.and_eq_true, Bool.not_eq_true', Bool.not_eq_true'] at hb
    exact hb
  obtain ⟨ws, hws⟩ := split_hd x
  obtain ⟨vs, hvs⟩ := wds_hd x
  have few := wds_few x
  show SD K _ [.sh (.str x), .no, .no, .no] { nx := fun _ => D.lst ((wdsOf x).map .str) = D.non, rt := RSh K (.lst ((wdsOf x).map .str)) }
  refine sd_seq (sd_asg (d := .lst ((Txt.split x " ").map .str)) (ed_eo (eo_split (ed_var rfl) ed_str (by decide +kernel) (by omega))) ?_)
  have ix0 : ∀ (ρ : List Sl) (l : List Str), ρ[1]? = some (.sh (.lst ((hdW x :: l).map .str))) → ED K (tOp (rIxL K) (tVar 1) (tC (.int 0))) ρ (.str (hdW x)) := fun ρ l h => ed_ixL (l := 0) (ed_var h) ed_int rfl rfl
  rw [hws]
  refine sd_seq (sd_if (b := false) (et_is (et_test (ed_kin (ix0 _ ws rfl))) (by rw [kf.has, hks]; rfl)) (fun h => nomatch h) fun _ => sd_next ?_)
  refine sd_seq (sd_asg (d := .lst ((hdW x :: ws).map .str)) (ed_var rfl) ?_)
  refine sd_mid (fun r => r = [.sh (.str x), .sh (.lst ((wdsOf x).map .str)), .sh (.lst ((needW x).map .str)), .no]) (sd_if (b := decide (hdW x = "net")) (et_test (ed_eqS (ix0 _ ws rfl) ed_str)) (fun h => ?_) fun h => sd_next ?_) ?_
  · have h := of_decide_eq_true h
    have lx : 1 ≤ x.length := by
      cases e : x.length with
      | succ k => omega
      | zero =>
        have : TL.tl x = [] := List.length_eq_zero_iff.mp (by rw [← TL.len_tl]; exact e)
        have s2 := sep_sp.split x
        rw [this, TL.spl_nil, hws, List.map_cons] at s2
        have s3 : TL.tl (hdW x) = [] := (List.cons.inj s2).1
        rw [h] at s3
        exact absurd s3 (by decide +kernel)
    have e2 : wdsOf x = Txt.splitMax x " " 2 := by
      rw [splitMax_two sep_sp.tl (by decide +kernel) lx]
      exact if_pos h
    have e3 : needW x = (wdsOf x).take 2 := if_pos h
    refine sd_seq (sd_asg (d := .lst ((wdsOf x).map .str)) (ed_eo (eo_is (eo_splitM (ed_var rfl) ed_str ed_int (by decide +kernel) (by omega) (by omega)) (by rw [e2]))) ?_)
    refine sd_asg (d := .lst ((needW x).map .str)) (ed_eo (eo_is (eo_sl (ds := (wdsOf x).map .str) (ed_var rfl) ep_no (ep_at ed_int)) ?_)) rfl
    rw [e3, List.map_take]
    unfold BV.cutD
    rw [HT.sIx_none, List.drop_zero, Nat.sub_zero]
    have : HT.sIx ((wdsOf x).map D.str).length ((wdsOf x).map D.str).length (some ((2 : Nat) : Int)) = min 2 ((wdsOf x).map D.str).length := HT.sIx_nat _ _ _
    have this : HT.sIx ((wdsOf x).map D.str).length ((wdsOf x).map D.str).length (some 2) = min 2 ((wdsOf x).map D.str).length := this
    rw [this]
    refine congrArg M.lst (List.take_eq_take_iff.mpr ?_)
    omega
  · have h := of_decide_eq_false h
    have e2 : wdsOf x = Txt.split x " " := if_neg h
    have e3 : needW x = wdsOf x := if_neg h
    rw [e3, e2, hws]
    rfl
  rintro r rfl
  refine sd_seq (sd_if (b := false) (et_is (et_test (ed_inL (ds := (needW x).map .str) (d := .str "") ed_str (ed_er (ed_var rfl)) (all_str _) rfl)) (by rw [any_str]; exact b1)) (fun h => nomatch h) fun _ => sd_next ?_)
  rw [hvs] at few ⊢
  refine sd_seq (sd_asg (d := .int (lackW ks x)) (ed_is (ed_i0 (ed_i0 (ed_lenT (ds := ks.map .str) (ed_er (ed_kgetT (ix0 _ vs rfl) hka hkt))) ed_int) (ed_len (ds := (hdW x :: vs).map .str) (ed_er (ed_var rfl)))) ?_) ?_)
  · unfold lackW
    rw [List.length_map, List.length_map, hvs]
  refine sd_seq (sd_if (b := false) (et_is (et_and (et_test (ed_neI (ed_var rfl) ed_int)) fun _ => et_not (et_and (et_test (ed_eqI (ed_var rfl) ed_int)) fun _ => et_is (et_test (ed_inTp (ds := (["fall", "lost"] : List Str).map D.str) (d := .str (hdW x)) (ix0 _ vs rfl) (ed_er (ed_ktup hsh)) (all_str _) rfl)) (any_str _ _))) b2) (fun h => nomatch h) fun _ => sd_next ?_)
  exact sd_ret (ed_var rfl) fun _ _ _ _ z => z
abbrev sp_numat (K : PySem.W.Frag) : Sp := spSh K (fun x : List Str × Nat × Int => ∃ y, x.1[x.2.1]? = some y ∧ numT y = some x.2.2 ∧ y.length ≤ 20000 ∧ Fg y) (fun x => [(true, .lst (x.1.map .str)), (true, .int (x.2.1 : Int))]) (fun x => .int x.2.2)
theorem cal_numat (T : Tx K mg C fI CD fD) : Cal P w K mg base 2 "_number_at" (sp_numat K) := by
  refine T.d__number_at.sh sc__number_at (fun _ => rfl) (by decide) (fun _ _ _ _ _ _ us hl => match us, hl with | [_, _], _ => rfl) (fun f cdv A outer s H E hr x hx => ?_)
  refine ⟨_, (pss_cons (ps_set (i := 2) sc__number_at.nd rfl (Or.inl rfl) (pe_cal (cal_numof T) hr (by first | decide | exact Nat.le_refl _) (by rfl) (pa_cons (pe_ix ix_list (pv 0) (pv 1) (fun _ _ => rfl)) pa_nil))) (pss_cons (ps_if (pt_cmp (pc_isN (pv 2))) pss_never pss_nil) (pss_one (ps_ret (pv 2))))), ?_⟩
  obtain ⟨ws, at_, v⟩ := x
  obtain ⟨y, h1, h2, h3, h4⟩ := hx
  have h1 : ws[at_]? = some y := h1
  have h2 : numT y = some v := h2
  show SD K _ [.sh (.lst (ws.map .str)), .sh (.int (at_ : Int)), .no] { nx := fun _ => D.int v = D.non, rt := RSh K (.int v) }
  refine sd_seq (sd_asg (d := .int v) (ed_is (ed_call y ⟨h3, h4⟩ (ea_sh (ed_ixL (l := at_) (d := .str y) (ed_var rfl) (ed_var rfl) rfl (by rw [List.getElem?_map, h1]; rfl)) ea_nil)) (by show optI (numT y) = _; rw [h2]; rfl)) ?_)
  refine sd_seq (sd_if (b := false) (et_is (et_test (ed_isN (ed_er (ed_var rfl)))) rfl) (fun h => nomatch h) fun _ => sd_next ?_)
  exact sd_ret (ed_var rfl) fun _ _ _ _ z => z
/-- a fall by its numbers -/
def fallD2 (a : Int) (b : Option Int) : D := match b with
  | none => .tup [.str "house", .int a]
  | some b => .tup [.str "tie", .int a, .int b]
abbrev sp_fallof (K : PySem.W.Frag) : Sp := spSh K (fun _ : Int × Option Int => True) (fun x => [(true, .int x.1), (true, optI x.2)]) (fun x => fallD2 x.1 x.2)
theorem cal_fallof (T : Tx K mg C fI CD fD) : Cal P w K mg base 1 "_fall_of" (sp_fallof K) := by
  refine T.d__fall_of.sh sc__fall_of (fun _ => rfl) (by decide) (fun _ _ _ _ _ _ us hl => match us, hl with | [_, _], _ => rfl) (fun f cdv A outer s H E hr x hx => ?_)
  refine ⟨_, (pss_one (ps_ret (pe_ifExp (pt_cmp (pc_isN (pv 1))) (pe_tup (pa_cons pe_str (pa_cons (pv 0) pa_nil))) (pe_tup (pa_cons pe_str (pa_cons (pv 0) (pa_cons (pv 1) pa_nil))))))), ?_⟩
  obtain ⟨a, b⟩ := x
  show SD K _ [.sh (.int a), .sh (optI b)] { nx := fun _ => fallD2 a b = D.non, rt := RSh K (fallD2 a b) }
  cases b with
  | none => exact sd_ret (d := fallD2 a none) (ed_if (b := true) (et_is (et_test (ed_isN (ed_er (ed_var rfl)))) rfl) (fun _ => ed_tup (eb_cons ed_str (eb_cons (ed_var rfl) eb_nil))) fun h => nomatch h) fun _ _ _ _ z => z
  | some b => exact sd_ret (d := fallD2 a (some b)) (ed_if (b := false) (et_is (et_test (ed_isN (ed_er (ed_var rfl)))) rfl) (fun h => nomatch h) fun _ => ed_tup (eb_cons ed_str (eb_cons (ed_var rfl) (eb_cons (ed_var rfl) eb_nil)))) fun _ _ _ _ z => z
/-- numbers and texts that are joined -/
inductive Thg where
  | i (v : Int) | s (x : Str)
def Thg.D : Thg → BV.D
  | .i v => .int v
  | .s x => .str x
def Thg.S : Thg → Str
  | .i v => toString v
  | .s x => x
def Thg.Ok : Thg → Prop
  | .i v => 0 ≤ v ∧ v < 10 ^ 100
  | .s x => x.length ≤ 100
theorem thg_len {t : Thg} (h : t.Ok) : t.S.length ≤ 100 := by
  cases t with
  | i v => exact str_few h.1 h.2
  | s x => exact h
abbrev sp_joined (K : PySem.W.Frag) : Sp := spSh K (fun ts : List Thg => ts.length ≤ 1000 ∧ ∀ t, t ∈ ts → t.Ok) (fun ts => [(true, .lst (ts.map Thg.D))]) (fun ts => .str (Txt.join " " (ts.map Thg.S)))
theorem cal_joined (T : Tx K mg C fI CD fD) : Cal P w K mg base 1 "_joined" (sp_joined K) := by
  refine T.d__joined.sh sc__joined (fun _ => rfl) (by decide) (fun _ _ _ _ _ _ us hl => match us, hl with | [_], _ => rfl) (fun f cdv A outer s H E hr ts hx => ?_)
  refine ⟨_, (pss_one (ps_ret (pe_join pe_str (pe_lc (own := [("thing", 1)]) rfl sc__joined.nd (pi_list (pv 0)) (blkOk_by (N := N__joined) (sc := defScope s__joined) (by decide +kernel)) (fun _ _ _ _ _ => (pg_name (i := 1) sc__joined.nd rfl (Or.inl rfl))) (fun _ _ _ _ _ => pts_nil) (fun _ _ _ _ _ => (pe_callTy cr_strIS (by rfl) T.z_str (by decide +kernel) (pa_cons (pv 1) pa_nil))))))), ?_⟩
  obtain ⟨hl, hk⟩ := hx
  have hl : ts.length ≤ 1000 := hl
  show SD K _ [.sh (.lst (ts.map Thg.D)), .no] { nx := fun _ => D.str (Txt.join " " (ts.map Thg.S)) = D.non, rt := RSh K (.str (Txt.join " " (ts.map Thg.S))) }
  have sum : ∀ l : List Thg, (∀ t, t ∈ l → t.Ok) → ((l.map Thg.S).map (·.length)).sum ≤ 100 * l.length := fun l => by
    induction l with
    | nil => intro _; exact Nat.le_refl _
    | cons t l ih =>
      intro h
      rw [List.map_cons, List.map_cons, List.sum_cons, List.length_cons]
      have := ih fun t ht => h t (List.mem_cons_of_mem _ ht)
      have := thg_len (h t List.mem_cons_self)
      omega
  refine sd_ret (d := .str (Txt.join " " (ts.map Thg.S))) (ed_joinL (ys := ts.map Thg.S) ed_str (ed_er (ed_eo (eo_is (eo_lc (xs := ts) (emb := fun t => .sh t.D) (f := fun _ => true) (v := fun t => .str t.S) (ei_c (ei_mm (f := Thg.D) (w := Sl.sh) (ei_l (ed_var rfl)))) (by omega)
    fun i t ht => bg_name (by simp) ⟨et_yes, fun _ => by
      have ok := hk t (List.mem_of_getElem? ht)
      cases t with
      | i v => exact ed_strISi (ed_var rfl) (log_few ok.1 ok.2)
      | s x => exact ed_strISs (ed_var rfl)⟩) (by rw [List.filter_eq_self.mpr fun _ _ => rfl, List.map_map]; rfl)))) ?_) fun _ _ _ _ z => z
  have e1 : (" " : Str).length = 1 := by decide +kernel
  have := sum ts hk
  rw [e1, List.length_map]
  omega
abbrev sp_pnet (K : PySem.W.Frag) (C : Addr) : Sp := spSh K (fun x : Str × Nat × List Tie => TxOk x.1 ∧ rdOf x.1 = .ok (x.2.1 : Int) x.2.2) (fun x => [(true, .str x.1)]) (fun x => netD C x.2.1 (srtT (x.2.2.map lf)))
theorem cal_pnet (T : Tx K mg C fI CD fD) : Cal P w K mg base 7 "_net" (sp_pnet K C) := by
  refine T.d__net.sh sc__net (fun _ => rfl) (by decide) (fun _ _ _ _ _ _ us hl => match us, hl with | [_], _ => rfl) (fun f cdv A outer s H E hr x hx => ?_)
  refine ⟨_, (pss_one (ps_ret (pe_cal (cal_readnet T) hr (by first | decide | exact Nat.le_refl _) (by rfl) (pa_cons (pv 0) pa_nil)))), ?_⟩
  exact sd_ret (ed_call x hx (ea_sh (ed_var rfl) ea_nil)) fun _ _ _ _ z => z
noncomputable abbrev sp_pweigh (K : PySem.W.Frag) (C : Addr) : Sp := spSh K (fun x : (Nat × List Tie) × (Nat × Nat) × Int × Int => NetFacts x.1.1 x.1.2 ∧ wOf x.1.2 x.2.1.1 x.2.1.2 = some x.2.2.1 ∧ 1 ≤ x.2.2.2) (fun x => [(true, netD C x.1.1 x.1.2), (true, .int x.2.1.1), (true, .int x.2.1.2), (true, .int x.2.2.2)]) (fun x => netD C x.1.1 (chW x.1.2 x.2.1.1 x.2.1.2 x.2.2.2))
theorem cal_pweigh (T : Tx K mg C fI CD fD) : Cal P w K mg base 7 "_weigh" (sp_pweigh K C) := by
  refine T.d__weigh.sh sc__weigh (fun _ => rfl) (by decide) (fun _ _ _ _ _ _ us hl => match us, hl with | [_, _, _, _], _ => rfl) (fun f cdv A outer s H E hr x hx => ?_)
  refine ⟨_, (pss_cons (ps_expr (pe_cal (cal_untied T) hr (by first | decide | exact Nat.le_refl _) (by rfl) (pa_cons (pv 0) (pa_cons (pv 1) (pa_cons (pv 2) pa_nil))))) (pss_cons (ps_expr (pe_cal (cal_rweight T) hr (by first | decide | exact Nat.le_refl _) (by rfl) (pa_cons (pv 3) pa_nil))) (pss_one (ps_ret (pe_cal (cal_weighed T) hr (by first | decide | exact Nat.le_refl _) (by rfl) (pa_cons (pv 0) (pa_cons (pv 1) (pa_cons (pv 2) (pa_cons (pv 3) pa_nil))))))))), ?_⟩
  obtain ⟨⟨n, ts⟩, ⟨a, b⟩, w0, v⟩ := x
  have hx' := hx
  obtain ⟨F, hw, hv⟩ := hx
  show SD K _ [.sh (netD C n ts), .sh (.int (a : Int)), .sh (.int (b : Int)), .sh (.int v)] { nx := fun _ => netD C n (chW ts a b v) = D.non, rt := RSh K (netD C n (chW ts a b v)) }
  refine sd_seq (sd_drop (d := .non) (ed_er (ed_call (n, ts, a, b) ⟨F, w0, hw⟩ (ea_sh (ed_var rfl) (ea_sh (ed_var rfl) (ea_sh (ed_var rfl) ea_nil))))) ?_)
  refine sd_seq (sd_drop (d := .non) (ed_er (ed_call v hv (ea_sh (ed_var rfl) ea_nil))) ?_)
  exact sd_ret (ed_call ((n, ts), (a, b), w0, v) hx' (ea_sh (ed_var rfl) (ea_sh (ed_var rfl) (ea_sh (ed_var rfl) (ea_sh (ed_var rfl) ea_nil))))) fun _ _ _ _ z => z
abbrev sp_pshow (K : PySem.W.Frag) (C : Addr) : Sp := spSh K (fun x : Nat × List Tie => NetFacts x.1 x.2 ∧ ∀ t, t ∈ x.2 → t.2.2.1 < 10 ^ 100 ∧ t.2.2.2 < 10 ^ 100) (fun x => [(true, netD C x.1 x.2)]) (fun x => .str (netS x.1 x.2))
theorem cal_pshow (T : Tx K mg C fI CD fD) : Cal P w K mg base 2 "_show" (sp_pshow K C) := by
  refine T.d__show.sh sc__show (fun _ => rfl) (by decide) (fun _ _ _ _ _ _ us hl => match us, hl with | [_], _ => rfl) (fun f cdv A outer s H E hr x hx => ?_)
  refine ⟨_, (pss_one (ps_ret (pe_cal (cal_ntext T) hr (by first | decide | exact Nat.le_refl _) (by rfl) (pa_cons (pv 0) pa_nil)))), ?_⟩
  exact sd_ret (ed_call x hx (ea_sh (ed_var rfl) ea_nil)) fun _ _ _ _ z => z
noncomputable def tabS (n : Nat) (ts : List Tie) (t : Nat) : Str := Txt.join " " ((nxT n ts t).map hsS)
noncomputable abbrev sp_ptable (K : PySem.W.Frag) (C : Addr) : Sp := spSh K (fun x : Nat × List Tie × Nat => NetFacts x.1 x.2.1 ∧ x.2.2 < x.1) (fun x => [(true, netD C x.1 x.2.1), (true, .int x.2.2)]) (fun x => .str (tabS x.1 x.2.1 x.2.2))
theorem cal_ptable (T : Tx K mg C fI CD fD) : Cal P w K mg base 7 "_table" (sp_ptable K C) := by
  refine T.d__table.sh sc__table (fun _ => rfl) (by decide) (fun _ _ _ _ _ _ us hl => match us, hl with | [_, _], _ => rfl) (fun f cdv A outer s H E hr x hx => ?_)
  refine ⟨_, (pss_one (ps_ret (pe_cal (cal_ttext T) hr (by first | decide | exact Nat.le_refl _) (by rfl) (pa_cons (pe_cal (cal_ntab T) hr (by first | decide | exact Nat.le_refl _) (by rfl) (pa_cons (pv 0) (pa_cons (pv 1) pa_nil))) pa_nil)))), ?_⟩
  obtain ⟨n, ts, t⟩ := x
  obtain ⟨F, ht⟩ := hx
  have F : NetFacts n ts := F
  have ht : t < n := ht
  refine sd_ret (ed_call (nxT n ts t) ?_ (ea_sh (ed_eo (eo_call (n, ts, t) ⟨F, ht⟩ (ea_sh (ed_var rfl) (ea_sh (ed_var rfl) ea_nil)))) ea_nil)) fun _ _ _ _ z => z
  have n2 := F.n2
  exact ⟨nxT_ok F, by show (nxT n ts t).length ≤ 12; rw [List.length_map, List.length_range]; omega⟩
/-- what is told of a way -/
noncomputable def wayS (n : Nat) (ts : List Tie) (t a : Nat) : Str := match Ds.at_ (DT n ts t) a with
  | none => "none"
  | some _ => Txt.join " " ((wayL n ts t a).map fun h : Nat => toString (h : Int))
theorem wayF_lt {n t : Nat} {ts : List Tie} (hn : 0 < n) : ∀ (f a : Nat), a < n → ∀ h, h ∈ wayF n ts t f a → h < n
  | 0, a, ha, h, hm => by rw [List.mem_singleton.mp hm]; exact ha
  | f + 1, a, ha, h, hm => by
    have hm : h ∈ (if a = t then [a] else a :: wayF n ts t f ((stL n ts (Ds.DL (edgesT ts) n t) a).headD 0)) := hm
    split at hm
    · rw [List.mem_singleton.mp hm]; exact ha
    · rcases List.mem_cons.mp hm with rfl | hm
      · exact ha
      · refine wayF_lt hn f _ ?_ h hm
        unfold stL
        cases e : (List.range n).filter (onB ts (Ds.DL (edgesT ts) n t) a) with
        | nil => exact hn
        | cons b l => exact List.mem_range.mp (List.mem_filter.mp (by rw [e]; exact List.mem_cons_self : b ∈ (List.range n).filter (onB ts (Ds.DL (edgesT ts) n t) a))).1
theorem way_few2 (n : Nat) (ts : List Tie) (t : Nat) : ∀ f a, (wayF n ts t f a).length ≤ f + 1
  | 0, a => Nat.le_refl 1
  | f + 1, a => by
    show (if a = t then [a] else a :: wayF n ts t f ((stL n ts (Ds.DL (edgesT ts) n t) a).headD 0)).length ≤ f + 2
    split
    · exact Nat.succ_le_succ (Nat.zero_le _)
    · rw [List.length_cons]
      exact Nat.succ_le_succ (way_few2 n ts t f _)
noncomputable abbrev sp_pway (K : PySem.W.Frag) (C : Addr) : Sp := spSh K (fun x : Nat × List Tie × Nat × Nat => NetFacts x.1 x.2.1 ∧ x.2.2.1 < x.1 ∧ x.2.2.2 < x.1) (fun x => [(true, netD C x.1 x.2.1), (true, .int x.2.2.2), (true, .int x.2.2.1)]) (fun x => .str (wayS x.1 x.2.1 x.2.2.1 x.2.2.2))
theorem cal_pway (T : Tx K mg C fI CD fD) : Cal P w K mg base 7 "_way" (sp_pway K C) := by
  refine T.d__way.sh sc__way (fun _ => rfl) (by decide) (fun _ _ _ _ _ _ us hl => match us, hl with | [_, _, _], _ => rfl) (fun f cdv A outer s H E hr x hx => ?_)
  refine ⟨_, (pss_cons (ps_set (i := 3) sc__way.nd rfl (Or.inl rfl) (pe_cal (cal_lway T) hr (by first | decide | exact Nat.le_refl _) (by rfl) (pa_cons (pv 0) (pa_cons (pv 1) (pa_cons (pv 2) pa_nil))))) (pss_one (ps_ret (pe_ifExp (pt_cmp (pc_isN (pv 3))) pe_str (pe_cal (cal_joined T) hr (by first | decide | exact Nat.le_refl _) (by rfl) (pa_cons (pv 3) pa_nil)))))), ?_⟩
  obtain ⟨n, ts, t, a⟩ := x
  have hx' := hx
  obtain ⟨F, ht, ha⟩ := hx
  have F : NetFacts n ts := F
  have ht : t < n := ht
  have ha : a < n := ha
  have n2 := F.n2
  show SD K _ [.sh (netD C n ts), .sh (.int (a : Int)), .sh (.int (t : Int)), .no] { nx := fun _ => D.str (wayS n ts t a) = D.non, rt := RSh K (.str (wayS n ts t a)) }
  cases e : Ds.at_ (DT n ts t) a with
  | none =>
    have ew : wayS n ts t a = "none" := by unfold wayS; rw [e]
    rw [ew]
    refine sd_seq (sd_asg (d := .non) (ed_callL (n, ts, t, a) ⟨hx', e⟩ (ea_sh (ed_var rfl) (ea_sh (ed_var rfl) (ea_sh (ed_var rfl) ea_nil)))) ?_)
    exact sd_ret (d := .str "none") (ed_if (b := true) (et_is (et_test (ed_isN (ed_er (ed_var rfl)))) rfl) (fun _ => ed_str) fun h => nomatch h) fun _ _ _ _ z => z
  | some v =>
    have ew : wayS n ts t a = Txt.join " " ((wayL n ts t a).map fun h : Nat => toString (h : Int)) := by unfold wayS; rw [e]
    rw [ew]
    refine sd_seq (sd_asgO (m := .lst (natsD (wayL n ts t a))) (eo_callR (n, ts, t, a) ⟨hx', v, e⟩ (ea_sh (ed_var rfl) (ea_sh (ed_var rfl) (ea_sh (ed_var rfl) ea_nil)))) (by simp) ?_)
    refine sd_share (n := 3) rfl ?_
    have big : (12 : Int) < 10 ^ 100 := by decide +kernel
    refine sd_ret (d := .str (Txt.join " " ((wayL n ts t a).map fun h : Nat => toString (h : Int)))) (ed_if (b := false) (et_is (et_test (ed_isN (ed_er (ed_var rfl)))) rfl) (fun h => nomatch h) fun _ => ed_is (ed_call ((wayL n ts t a).map fun h : Nat => Thg.i (h : Int)) ⟨?_, fun g hg => ?_⟩ (ea_sh (ed_is (ed_var rfl) ?_) ea_nil)) ?_) fun _ _ _ _ z => z
    · show ((wayL n ts t a).map fun h : Nat => Thg.i (h : Int)).length ≤ 1000
      rw [List.length_map]
      have := way_few2 n ts t n a
      unfold wayL
      omega
    · obtain ⟨h, hh, rfl⟩ := List.mem_map.mp hg
      have := wayF_lt (by omega) n a ha h hh
      exact ⟨by omega, by omega⟩
    · unfold natsD
      rw [List.map_map]
      rfl
    · rw [List.map_map]
      rfl
def Fll.A : Fll → Int
  | .tie a _ => a
  | .house e => e
def Fll.B : Fll → Option Int
  | .tie _ b => some (b : Int)
  | .house _ => none
theorem fallD2_is (f : Fll) : fallD2 f.A f.B = f.D := by cases f <;> rfl
abbrev sp_pfall (K : PySem.W.Frag) (C : Addr) : Sp := spSh K (fun x : Nat × List Tie × Fll => NetFacts x.1 x.2.1 ∧ FllOk x.1 x.2.1 x.2.2) (fun x => [(true, netD C x.1 x.2.1), (true, .int x.2.2.A), (true, optI x.2.2.B)]) (fun x => netD C x.1 (lessT x.2.2 x.2.1))
theorem body_pfall (T : Tx K mg C fI CD fD) {f : Addr} (hf : mg "_fall" = some (.ref f)) (n j : Nat) (hn : n + (1 - j) = 3) (hB : ∀ (T : Addr) (kV doc pm : Value) (an : Option Addr) (cdv ct : Value) (us its : List Value), us.length = n → its.length = [V.non].length →
      ∃ k, bindArgs (PySem.W.fnOf "_fall" "_fall" (defArgs s__fall) (defBody s__fall) (defScope s__fall) (.ref T) kV doc pm an cdv ct) ⟨us, []⟩ = seqItems? (.ref T) >>= k ∧ k (some its.toArray) = pure ([("net" : Str), "a", "b"].zip (us ++ its.drop j))) : CalF P w K mg base 7 f (sp_pfall K C) ([V.non].drop j) := by
  refine T.d__fall.sh hf sc__fall (fun _ => rfl) (by decide) n j (List.cons_ne_nil _ _) hn hB (fun cdv A outer s H E hr x hx => ?_)
  refine ⟨_, (pss_one (ps_ret (pe_met (met_without T) T.cN hr (by first | decide | exact Nat.le_refl _) (pv 0) (pa_cons (pe_cal (cal_fallof T) hr (by first | decide | exact Nat.le_refl _) (by rfl) (pa_cons (pv 1) (pa_cons (pv 2) pa_nil))) pa_nil)))), ?_⟩
  obtain ⟨m, ts, fl⟩ := x
  have hx' := hx
  obtain ⟨F, ok⟩ := hx
  show SD K _ [.sh (netD C m ts), .sh (.int fl.A), .sh (optI fl.B)] { nx := fun _ => netD C m (lessT fl ts) = D.non, rt := RSh K (netD C m (lessT fl ts)) }
  exact sd_ret (ed_meth (m, ts, fl) hx' (ed_var rfl) (by decide +kernel) (ea_sh (d := fl.D) (ed_is (ed_call (fl.A, fl.B) trivial (ea_sh (ed_var rfl) (ea_sh (ed_var rfl) ea_nil))) (fallD2_is fl)) ea_nil) rfl) fun _ _ _ _ z => z
theorem cal_pfall3 (T : Tx K mg C fI CD fD) {f : Addr} (hf : mg "_fall" = some (.ref f)) : CalF P w K mg base 7 f (sp_pfall K C) [] :=
  body_pfall T hf 3 1 rfl fun _ _ _ _ _ _ _ us its hu hi => match us, its, hu, hi with | [_, _, _], [_], _, _ => ⟨_, rfl, rfl⟩
theorem cal_pfall2 (T : Tx K mg C fI CD fD) {f : Addr} (hf : mg "_fall" = some (.ref f)) : CalF P w K mg base 7 f (sp_pfall K C) [.non] :=
  body_pfall T hf 2 0 rfl fun _ _ _ _ _ _ _ us its hu hi => match us, its, hu, hi with | [_, _], [_], _, _ => ⟨_, rfl, rfl⟩
/-- nets by names, each with how the law's dict tells it -/
abbrev St : Type := List (Str × B91)
def getS (S : St) (x : Str) : Option B91 := (S.find? fun p => decide (p.1 = x)).map (·.2)
def hasN (S : St) (x : Str) : Bool := S.any fun p => decide (p.1 = x)
def putS (S : St) (x : Str) (e : B91) : St := if hasN S x = true then S.map (fun p => if p.1 = x then (p.1, e) else p) else S ++ [(x, e)]
def dropS (S : St) (x : Str) : St := S.filter fun p => decide (p.1 ≠ x)
def nmK (S : St) : List Key := (S.map (·.1)).map Sum.inr
def netsD (C : Addr) (S : St) : List D := S.map fun p => netD C p.2.1.1 p.2.1.2
def lawD (S : St) : List D := S.map fun p => dkNet p.2
theorem getS_has (S : St) (x : Str) : (getS S x).isSome = hasN S x := by
  unfold getS hasN
  rw [Option.isSome_map]
  induction S with
  | nil => rfl
  | cons p S ih =>
    rw [List.find?_cons, List.any_cons]
    cases decide (p.1 = x) with
    | true => rfl
    | false => rw [Bool.false_or]; exact ih
theorem look_S (f : Str × B91 → D) (S : St) (x : Str) : lookK (nmK S) (S.map f) (.inr x) = (S.find? fun p => decide (p.1 = x)).map f := by
  unfold lookK nmK
  induction S with
  | nil => rfl
  | cons p S ih =>
    rw [List.map_cons, List.map_cons, List.map_cons, List.zip_cons_cons, List.find?_cons, List.find?_cons]
    show Option.map _ (match decide ((Sum.inr p.1 : Key) = Sum.inr x) with | true => _ | false => _) = _
    by_cases c : p.1 = x
    · rw [decide_eq_true c, decide_eq_true (show (Sum.inr p.1 : Key) = Sum.inr x by rw [c])]
      rfl
    · rw [decide_eq_false c, decide_eq_false (show ¬ (Sum.inr p.1 : Key) = Sum.inr x from fun z => c (by injection z))]
      exact ih
theorem look_nets (C : Addr) (S : St) (x : Str) : lookK (nmK S) (netsD C S) (.inr x) = (getS S x).map fun e => netD C e.1.1 e.1.2 := by
  unfold netsD
  rw [look_S]
  unfold getS
  rw [Option.map_map]
  rfl
theorem look_law (S : St) (x : Str) : lookK (nmK S) (lawD S) (.inr x) = (getS S x).map dkNet := by
  unfold lawD
  rw [look_S]
  unfold getS
  rw [Option.map_map]
  rfl
theorem has_K (S : St) (x : Str) : hasS (nmK S) (.inr x) = hasN S x := by
  unfold hasS hasN nmK
  rw [List.any_map, List.any_map]
  refine congrArg (fun f => S.any f) (funext fun p => ?_)
  exact decide_eq_decide.mpr ⟨fun z => Sum.inr.inj z, fun z => congrArg Sum.inr z⟩
theorem put_K (S : St) (x : Str) (e : B91) : nmK (putS S x e) = putSk (nmK S) (.inr x) := by
  unfold putSk
  rw [has_K]
  unfold putS
  by_cases h : hasN S x = true
  · rw [if_pos h, if_pos h]
    unfold nmK
    refine congrArg (List.map Sum.inr) ?_
    rw [List.map_map]
    refine List.map_congr_left fun p _ => ?_
    show (if p.1 = x then (p.1, e) else p).1 = p.1
    split <;> rfl
  · rw [if_neg h, if_neg h]
    unfold nmK
    rw [List.map_append, List.map_append]
    rfl
theorem put_f (f : B91 → D) (S : St) (x : Str) (e : B91) : (putS S x e).map (fun p => f p.2) = putSd (nmK S) (S.map fun p => f p.2) (.inr x) (f e) := by
  unfold putSd
  rw [has_K]
  unfold putS
  by_cases h : hasN S x = true
  · rw [if_pos h, if_pos h]
    unfold nmK
    rw [List.map_map, List.map_map, List.zip_map', List.map_map]
    refine List.map_congr_left fun p _ => ?_
    show f (if p.1 = x then (p.1, e) else p).2 = if (Sum.inr p.1 : Key) = Sum.inr x then f e else f p.2
    by_cases c : p.1 = x
    · rw [if_pos c, if_pos (by rw [c])]
    · rw [if_neg c, if_neg (fun z => c (by injection z))]
  · rw [if_neg h, if_neg h, List.map_append]
    rfl
theorem drop_K (S : St) (x : Str) : nmK (dropS S x) = dropSk (nmK S) (.inr x) := by
  unfold dropSk dropS nmK
  rw [List.map_map, List.map_map, List.filter_map]
  refine congrArg (List.map _) (List.filter_congr fun p _ => ?_)
  exact decide_eq_decide.mpr ⟨fun h z => h (Sum.inr.inj z), fun h z => h (congrArg Sum.inr z)⟩
theorem drop_f (f : B91 → D) (S : St) (x : Str) : (dropS S x).map (fun p => f p.2) = dropSd (nmK S) (S.map fun p => f p.2) (.inr x) := by
  unfold dropSd dropS nmK
  rw [List.map_map, List.zip_map', List.filter_map, List.map_map]
  refine congrArg (List.map _) (List.filter_congr fun p _ => ?_)
  exact decide_eq_decide.mpr ⟨fun h z => h (Sum.inr.inj z), fun h z => h (congrArg Sum.inr z)⟩
theorem netD_nok (C : Addr) (n : Int) (ts : List Tie) : NoK (netD C n ts) := by
  refine .obj fun d hd => ?_
  simp only [List.mem_cons, List.not_mem_nil, or_false] at hd
  rcases hd with rfl | rfl | rfl
  · exact .int _
  · refine .tup fun d hd => ?_
    obtain ⟨t, _, rfl⟩ := List.mem_map.mp hd
    refine .tup fun d hd => ?_
    simp only [List.mem_cons, List.not_mem_nil, or_false] at hd
    rcases hd with rfl | rfl | rfl | rfl <;> exact .int _
  · refine .dct fun d hd => ?_
    unfold wVals at hd
    obtain ⟨t, _, hd⟩ := List.mem_flatMap.mp hd
    simp only [List.mem_cons, List.not_mem_nil, or_false] at hd
    rcases hd with rfl | rfl <;> exact .int _
/-- the desk, as a thing that is only looked at -/
abbrev deskD (C CD : Addr) (S : St) : D := .obj CD ["_nets"] [.dki (nmK S) (netsD C S)]
abbrev deskM (C : Addr) (S : St) : M := .dks (nmK S) (netsD C S)
abbrev deskA (CD p : Addr) : D := .obj CD ["_nets"] [.at p]
abbrev sp_desk (K : PySem.W.Frag) (CD : Addr) : Sp := spNewP K CD ["_nets"] (fun ps => [.at (ps.headD 0)]) [.dks [] []]
theorem mak_desk (T : Tx K mg C fI CD fD) : Mak P w K mg base 1 "Desk" CD (sp_desk K CD) := by
  obtain ⟨fd, F⟩ := T.d_Desk___init__
  refine mak_P T.mkD T.mgD F sc_Desk___init__ rfl (by decide) (fun _ _ _ _ _ _ us hl => match us, hl with | [_], _ => rfl) (fun cdv A outer s H E hr => ?_)
  refine ⟨_, (pss_one (ps_fld (pv 0) pe_dnewK rfl)), fun self => ?_⟩
  show SD K _ [.own (.ins self CD [] []), .no] _
  refine sd_ph (z := 1) rfl rfl ?_
  exact sd_fldN (n := 0) (z := 1) rfl eo_dnewS rfl T.cD T.n__nets (by simp) (by decide) fun q _ => ⟨[(q, .dks [] [])], 1, rfl, rfl, rfl⟩
/-- what a line's names must be -/
def NmsOk (S : St) (ks ws : List Str) : Prop := ∀ p, p ∈ ks.zip ws → (p.1 = "new" → nmB p.2 = true) ∧ (p.1 = "name" → hasN S p.2 = true)
abbrev sp_rnames (K : PySem.W.Frag) (C CD : Addr) : Sp := spSh K (fun x : St × List Str × Str × List Str => NmsOk x.1 x.2.1 x.2.2.2 ∧ ∀ y, y ∈ x.2.2.2 → y.length ≤ 50000) (fun x => [(true, deskD C CD x.1), (true, .tup (x.2.1.map .str)), (true, .lst ((x.2.2.1 :: x.2.2.2).map .str))]) (fun _ => .non)
theorem met_rnames (T : Tx K mg C fI CD fD) : Met P w K mg base 2 CD "_refuse_names" (sp_rnames K C CD) := by
  refine met_sh T.d_Desk__refuse_names sc_Desk__refuse_names (fun _ => rfl) (by decide) (fun _ _ _ _ _ _ us hl => match us, hl with | [_, _, _], _ => rfl) (fun f cdv A outer s H E hr x hx => ?_)
  have hu := hu_of hr
  refine ⟨_, (pss_one (ps_for PassesOwn.never rfl (pi_zipM (by rfl) T.z_zip (pa_cons (pv 1) (pa_cons (pe_slice sl_list (pv 2) (po_some pe_int) po_none) pa_nil))) (pg_tup rfl (pgs_cons (pg_name (i := 3) sc_Desk__refuse_names.nd rfl (Or.inl rfl)) (pgs_cons (pg_name (i := 4) sc_Desk__refuse_names.nd rfl (Or.inl rfl)) pgs_nil))) (pss_cons (ps_if (PW.pt (pw_and (pt_cmpR op_eq (pv 3) pe_str (nomark _)) (pw_and1 (pt_not (pt_val (pe_cal (cal_isname T) hr (by first | decide | exact Nat.le_refl _) (by rfl) (pa_cons (pv 4) pa_nil))))))) pss_never pss_nil) (pss_one (ps_if (PW.pt (pw_and (pt_cmpR op_eq (pv 3) pe_str (nomark _)) (pw_and1 (pt_cmp (pc_dnotin hu (pv 4) (pe_fld (pv 0) rfl)))))) pss_never pss_nil))))), ?_⟩
  obtain ⟨S, ks, w0, ws⟩ := x
  obtain ⟨hk, hl⟩ := hx
  have hk : NmsOk S ks ws := hk
  have hl : ∀ y, y ∈ ws → y.length ≤ 50000 := hl
  show SD K _ [.sh (deskD C CD S), .sh (.tup (ks.map .str)), .sh (.lst ((w0 :: ws).map .str)), .no, .no] { nx := fun _ => D.non = D.non, rt := RSh K .non }
  have cut : BV.cutD ((w0 :: ws).map D.str) (some 1) none = ws.map D.str := by
    rw [List.map_cons]
    exact cut_1t _ _
  refine sd_forI (xs := ks.zip ws) (emb := fun p : Str × Str => .sh (.tup [.str p.1, .str p.2])) (ei_is (ei_zM (ds := ks.map .str) (es := ws.map .str) (eb_cons (ed_var rfl) (eb_cons (ed_is (ed_eo (eo_sl (ed_var rfl) (ep_at ed_int) ep_no)) (by rw [cut])) eb_nil))) (by rw [List.zip_map, List.map_map]; rfl)) (fun l r => ∃ z3 z4, r = [.sh (deskD C CD S), .sh (.tup (ks.map .str)), .sh (.lst ((w0 :: ws).map .str)), z3, z4]) ⟨_, _, rfl⟩ ?_ ?_
  · rintro l ⟨k, y⟩ r hp ⟨z3, z4, rfl⟩
    refine ⟨[3, 4], bg_tup rfl (bgs_cons (bg_name (by simp) (bgs_cons (bg_name (by simp) (bgs_nil ?_)))))⟩
    obtain ⟨h1, h2⟩ := hk (k, y) (List.mem_of_getElem? hp)
    have h1 : k = "new" → nmB y = true := h1
    have h2 : k = "name" → hasN S y = true := h2
    have yl := hl y (List.of_mem_zip (List.mem_of_getElem? hp)).2
    show SD K _ [.sh (deskD C CD S), .sh (.tup (ks.map .str)), .sh (.lst ((w0 :: ws).map .str)), .sh (.str k), .sh (.str y)] _
    refine sd_seq (sd_if (b := decide (k = "new") && !nmB y) (et_and (et_test (ed_eqS (ed_var rfl) ed_str)) fun _ => et_not (et_B (ed_call y yl (ea_sh (ed_var rfl) ea_nil)))) (fun h => ?_) fun _ => sd_next ?_)
    · exfalso
      rw [Bool.and_eq_true, decide_eq_true_eq, Bool.not_eq_true'] at h
      rw [h1 h.1] at h
      exact Bool.noConfusion h.2
    refine sd_if (b := decide (k = "name") && !hasN S y) (et_and (et_test (ed_eqS (ed_var rfl) ed_str)) fun _ => et_is (et_test (ed_dninS (ks := nmK S) (ds := netsD C S) (ed_var rfl) (ed_er (ed_fld (l := 0) (ed_var rfl) T.cD T.n__nets (by decide +kernel) rfl rfl)))) (by rw [look_nets, Option.isSome_map, getS_has])) (fun h => ?_) fun _ => sd_next ⟨_, _, rfl⟩
    · exfalso
      rw [Bool.and_eq_true, decide_eq_true_eq, Bool.not_eq_true'] at h
      rw [h2 h.1] at h
      exact Bool.noConfusion h.2
  · rintro r ⟨z3, z4, rfl⟩
    exact rfl
/-- what a word of a kind stands for -/
def hdOf (C : Addr) (S : St) (p : Str × Str) : Option D := if p.1 = "name" then (getS S p.2).map fun e => netD C e.1.1 e.1.2 else if p.1 = "number" then (numT p.2).map D.int else if p.1 = "word" then some (.str p.2) else none
def handD (C : Addr) (S : St) (ks ws : List Str) : List D := (ks.zip ws).filterMap (hdOf C S)
theorem hand_nok (C : Addr) (S : St) (ks ws : List Str) : ∀ d, d ∈ handD C S ks ws → NoK d := fun d hd => by
  obtain ⟨p, _, h⟩ := List.mem_filterMap.mp hd
  unfold hdOf at h
  split at h
  · obtain ⟨e, _, rfl⟩ := Option.map_eq_some_iff.mp h
    exact netD_nok C _ _
  · split at h
    · obtain ⟨v, _, rfl⟩ := Option.map_eq_some_iff.mp h
      exact .int v
    · split at h
      · cases h; exact .str _
      · cases h
def HndOk (S : St) (ks ws : List Str) : Prop := ∀ p, p ∈ ks.zip ws → (p.1 = "name" → hasN S p.2 = true) ∧ (p.1 = "number" → (∃ v, numT p.2 = some v) ∧ p.2.length ≤ 20000 ∧ Fg p.2)
abbrev sp_handed (K : PySem.W.Frag) (C CD : Addr) : Sp := spOw K (fun x : St × List Str × Str × List Str => HndOk x.1 x.2.1 x.2.2.2 ∧ x.2.2.2.length ≤ x.2.1.length ∧ x.2.1.length ≤ 10) (fun x => [(true, deskD C CD x.1), (true, .tup (x.2.1.map .str)), (true, .lst ((x.2.2.1 :: x.2.2.2).map .str))]) (fun x => .lst (handD C x.1 x.2.1 x.2.2.2))
theorem met_handed (T : Tx K mg C fI CD fD) : Met P w K mg base 3 CD "_handed" (sp_handed K C CD) := by
  refine met_ow T.d_Desk__handed sc_Desk__handed (fun _ => rfl) (by decide) (fun _ _ _ _ _ _ us hl => match us, hl with | [_, _, _], _ => rfl) (fun f cdv A outer s H E hr x hx => ?_)
  have hu := hu_of hr
  refine ⟨_, (pss_cons (ps_set (i := 3) sc_Desk__handed.nd rfl (Or.inl rfl) (pe_lst pa_nil)) (pss_cons (ps_for PassesOwn.never rfl (pi_range2 (by rfl) T.z_range (pa_cons pe_int (pa_cons (pe_callB call_len_seq (by rfl) T.z_len PySem.boot_len (pa_cons (pv 2) pa_nil)) pa_nil))) (pg_name (i := 4) sc_Desk__handed.nd rfl (Or.inl rfl)) (pss_one (ps_if (pt_cmpR op_eq (pe_ix ix_tup (pv 1) (pe_op op_sub (pv 4) pe_int) (fun _ _ => rfl)) pe_str (nomark _)) (pss_one (ps_expr (pe_bm PySem.F.plainAttrs_list PySem.F.slot_list_append PySem.F.type_list_append mt_append (pv 3) (pa_cons (pe_dget hu (pe_fld (pv 0) rfl) (pe_ix ix_list (pv 2) (pv 4) (fun _ _ => rfl)) (fun _ _ => rfl)) pa_nil)))) (pss_one (ps_if (pt_cmpR op_eq (pe_ix ix_tup (pv 1) (pe_op op_sub (pv 4) pe_int) (fun _ _ => rfl)) pe_str (nomark _)) (pss_one (ps_expr (pe_bm PySem.F.plainAttrs_list PySem.F.slot_list_append PySem.F.type_list_append mt_append (pv 3) (pa_cons (pe_cal (cal_numat T) hr (by first | decide | exact Nat.le_refl _) (by rfl) (pa_cons (pv 2) (pa_cons (pv 4) pa_nil))) pa_nil)))) (pss_one (ps_if (pt_cmpR op_eq (pe_ix ix_tup (pv 1) (pe_op op_sub (pv 4) pe_int) (fun _ _ => rfl)) pe_str (nomark _)) (pss_one (ps_expr (pe_bm PySem.F.plainAttrs_list PySem.F.slot_list_append PySem.F.type_list_append mt_append (pv 3) (pa_cons (pe_ix ix_list (pv 2) (pv 4) (fun _ _ => rfl)) pa_nil)))) pss_nil))))))) (pss_one (ps_ret (pv 3))))), ?_⟩
  obtain ⟨S, ks, w0, ws⟩ := x
  obtain ⟨hk, hl, hl2⟩ := hx
  have hk : HndOk S ks ws := hk
  have hl : ws.length ≤ ks.length := hl
  have hl2 : ks.length ≤ 10 := hl2
  show SD K _ [.sh (deskD C CD S), .sh (.tup (ks.map .str)), .sh (.lst ((w0 :: ws).map .str)), .no, .no] { nx := fun _ => False, rt := ROwn K (.lst (handD C S ks ws)) }
  refine sd_seq (sd_asgO (eo_lst eb_nil) (by simp) ?_)
  let fr (l : Nat) (z : Sl) : List Sl := [.sh (deskD C CD S), .sh (.tup (ks.map .str)), .sh (.lst ((w0 :: ws).map .str)), .own (.lst (((ks.zip ws).take l).filterMap (hdOf C S))), z]
  have lz : (ks.zip ws).length = ws.length := by rw [List.length_zip]; omega
  refine sd_seq (sd_forR2 (i := 1) (j := ((ws.length + 1 : Nat) : Int)) (eb_cons ed_int (eb_cons (ed_is (ed_len (ds := (w0 :: ws).map .str) (ed_er (ed_var rfl))) (by rw [List.length_map, List.length_cons])) eb_nil)) (by omega) (fun l r => ∃ z, r = fr l z) ⟨_, rfl⟩ ?_ ?_)
  · rintro l r hlt ⟨z, rfl⟩
    have hlt : l < ws.length := by omega
    have hy : ws[l]? = some ws[l] := List.getElem?_eq_getElem hlt
    have hkl : l < ks.length := by omega
    have hkk : ks[l]? = some ks[l] := List.getElem?_eq_getElem hkl
    have hz : (ks.zip ws)[l]? = some (ks[l], ws[l]) := List.getElem?_zip_eq_some.mpr ⟨hkk, hy⟩
    have hp := hk _ (List.mem_of_getElem? hz)
    obtain ⟨h1, h2⟩ := hp
    generalize ks[l] = k at hkk hz h1 h2
    generalize ws[l] = y at hy hz h1 h2
    have h1 : k = "name" → hasN S y = true := h1
    have h2 : k = "number" → (∃ v, numT y = some v) ∧ y.length ≤ 20000 ∧ Fg y := h2
    have nx : ∀ d, hdOf C S (k, y) = some d → ((ks.zip ws).take (l + 1)).filterMap (hdOf C S) = ((ks.zip ws).take l).filterMap (hdOf C S) ++ [d] := fun d h => by
      rw [take_snoc hz, List.filterMap_append, List.filterMap_cons, h]
      rfl
    have nn : hdOf C S (k, y) = none → ((ks.zip ws).take (l + 1)).filterMap (hdOf C S) = ((ks.zip ws).take l).filterMap (hdOf C S) := fun h => by
      rw [take_snoc hz, List.filterMap_append, List.filterMap_cons, h]
      exact List.append_nil _
    have few : (((ks.zip ws).take l).filterMap (hdOf C S)).length < 100000 := by
      refine Nat.lt_of_le_of_lt (List.length_filterMap_le _ _) ?_
      rw [List.length_take]
      omega
    have wl : ∀ ρ : List Sl, ρ[2]? = some (.sh (.lst ((w0 :: ws).map .str))) → ρ[4]? = some (.sh (.int (1 + (l : Int)))) → ED K (tOp (rIxL K) (tVar 2) (tVar 4)) ρ (.str y) := fun ρ e1 e2 => ed_ixL (l := l + 1) (ed_var e1) (ed_var e2) (by omega) (by rw [List.getElem?_map, List.getElem?_cons_succ, hy]; rfl)
    have kl : ∀ ρ : List Sl, ρ[1]? = some (.sh (.tup (ks.map .str))) → ρ[4]? = some (.sh (.int (1 + (l : Int)))) → ED K (tOp (rIxT K) (tVar 1) (tOp (rI0 fun i j => .int (i - j)) (tVar 4) (tC (.int 1)))) ρ (.str k) := fun ρ e1 e2 => ed_ixT (l := l) (ed_var e1) (ed_i0 (ed_var e2) ed_int) (by omega) (by rw [List.getElem?_map, hkk]; rfl)
    refine sd_if (b := decide (k = "name")) (et_test (ed_eqS (kl _ rfl rfl) ed_str)) (fun h => ?_) fun h => ?_
    · have h := of_decide_eq_true h
      have hh := h1 h
      rw [← getS_has] at hh
      obtain ⟨e, he⟩ := Option.isSome_iff_exists.mp hh
      have hd : hdOf C S (k, y) = some (netD C e.1.1 e.1.2) := by unfold hdOf; rw [if_pos h]; show (getS S y).map _ = _; rw [he]; rfl
      refine sd_app (n := 3) rfl (ed_dgetSs (ks := nmK S) (ds := netsD C S) (ed_fld (l := 0) (ed_var rfl) T.cD T.n__nets (by decide +kernel) rfl rfl) (wl _ rfl rfl) (by rw [look_nets, he]; rfl)) few ⟨.sh (.int (1 + (l : Int))), ?_⟩
      show _ = [_, _, _, Sl.own (M.lst (((ks.zip ws).take (l + 1)).filterMap (hdOf C S))), _]
      rw [nx _ hd]
      rfl
    have n1 := of_decide_eq_false h
    refine sd_if (b := decide (k = "number")) (et_test (ed_eqS (kl _ rfl rfl) ed_str)) (fun h => ?_) fun h => ?_
    · have h := of_decide_eq_true h
      obtain ⟨⟨v, hv⟩, h3, h4⟩ := h2 h
      have hd : hdOf C S (k, y) = some (.int v) := by unfold hdOf; rw [if_neg n1, if_pos h]; show (numT y).map _ = _; rw [hv]; rfl
      refine sd_app (n := 3) rfl (ed_call (w0 :: ws, l + 1, v) ⟨y, by rw [List.getElem?_cons_succ]; exact hy, hv, h3, h4⟩ (ea_sh (ed_var rfl) (ea_sh (ed_is (ed_var rfl) (congrArg D.int (show (1 + (l : Int)) = ((l + 1 : Nat) : Int) by omega))) ea_nil))) few ⟨.sh (.int (1 + (l : Int))), ?_⟩
      show _ = [_, _, _, Sl.own (M.lst (((ks.zip ws).take (l + 1)).filterMap (hdOf C S))), _]
      rw [nx _ hd]
      rfl
    have n2 := of_decide_eq_false h
    refine sd_if (b := decide (k = "word")) (et_test (ed_eqS (kl _ rfl rfl) ed_str)) (fun h => ?_) fun h => sd_next ⟨.sh (.int (1 + (l : Int))), ?_⟩
    · have h := of_decide_eq_true h
      have hd : hdOf C S (k, y) = some (.str y) := by unfold hdOf; rw [if_neg n1, if_neg n2, if_pos h]
      refine sd_app (n := 3) rfl (wl _ rfl rfl) few ⟨.sh (.int (1 + (l : Int))), ?_⟩
      show _ = [_, _, _, Sl.own (M.lst (((ks.zip ws).take (l + 1)).filterMap (hdOf C S))), _]
      rw [nx _ hd]
      rfl
    · have n3 := of_decide_eq_false h
      have hd : hdOf C S (k, y) = none := by unfold hdOf; rw [if_neg n1, if_neg n2, if_neg n3]
      show _ = [_, _, _, Sl.own (M.lst (((ks.zip ws).take (l + 1)).filterMap (hdOf C S))), _]
      rw [nn hd]
      rfl
  · rintro r ⟨z, rfl⟩
    have e : (((ws.length + 1 : Nat) : Int) - 1).toNat = (ks.zip ws).length := by rw [lz]; omega
    rw [e]
    show SD K _ [.sh (deskD C CD S), .sh (.tup (ks.map .str)), .sh (.lst ((w0 :: ws).map .str)), .own (.lst (((ks.zip ws).take (ks.zip ws).length).filterMap (hdOf C S))), z] _
    rw [List.take_length]
    exact sd_retVar (n := 3) rfl fun _ _ _ _ z => z
theorem kd_cons (k : Str) (v : Value) (l : List (Str × Value)) (x : Str) : kdAt ((k, v) :: l) x = if k = x then some v else kdAt l x := by
  unfold kdAt
  rw [List.find?_cons]
  show Option.map _ (match decide (k = x) with | true => _ | false => _) = _
  by_cases c : k = x
  · rw [decide_eq_true c, if_pos c]; rfl
  · rw [decide_eq_false c, if_neg c]
theorem kd_hit {k : Str} {v : Value} {l : List (Str × Value)} {x : Str} (h : k = x) : kdAt ((k, v) :: l) x = some v := by rw [kd_cons, if_pos h]
theorem kd_miss {k : Str} {v : Value} {l : List (Str × Value)} {x : Str} (h : ¬ k = x) : kdAt ((k, v) :: l) x = kdAt l x := by rw [kd_cons, if_neg h]
/-- a line that is no refused one -/
structure LnOk (S : St) (line w0 : Str) (ws ks : List Str) : Prop where
  good : lineB line = true
  len : line.length ≤ 20000
  wds : wdsOf line = w0 :: ws
  kin : kindsOf w0 = some ks
  nms : NmsOk S ks ws
  hnd : HndOk S ks ws
theorem LnOk.hd {S : St} {line w0 : Str} {ws ks : List Str} (L : LnOk S line w0 ws ks) : hdW line = w0 := by
  obtain ⟨vs, e⟩ := wds_hd line
  rw [L.wds] at e
  exact (List.cons.inj e).1.symm
theorem LnOk.few {S : St} {line w0 : Str} {ws ks : List Str} (L : LnOk S line w0 ws ks) : ws.length ≤ ks.length := by
  have h := L.good
  unfold lineB at h
  rw [L.hd, L.kin] at h
  have h : (!((needW line).any fun w => decide (w = "")) && !((!decide (lackW ks line = 0)) && !(decide (lackW ks line = 1) && shortB w0))) = true := h
  rw [Bool.and_eq_true] at h
  have h2 := h.2
  unfold lackW at h2
  rw [L.wds, List.length_cons] at h2
  by_cases c : ws.length ≤ ks.length
  · exact c
  · rw [decide_eq_false (by omega), decide_eq_false (show ¬ ((ks.length : Int) + 1 - ((ws.length + 1 : Nat) : Int) = 1) by omega)] at h2
    exact Bool.noConfusion h2
theorem kinds_few {x : Str} {ks : List Str} (h : kindsOf x = some ks) : ks.length ≤ 10 := by
  unfold kindsOf at h
  obtain ⟨p, hp, rfl⟩ := Option.map_eq_some_iff.mp h
  have m := List.mem_of_find?_eq_some hp
  have all : ∀ q, q ∈ kindsL → q.2.length ≤ 10 := by decide +kernel
  exact all p m
theorem LnOk.wl {S : St} {line w0 : Str} {ws ks : List Str} (L : LnOk S line w0 ws ks) : ∀ y, y ∈ ws → y.length ≤ 50000 := fun y hy => by
  have hl := L.len
  have hm : y ∈ wdsOf line := by rw [L.wds]; exact List.mem_cons_of_mem _ hy
  unfold wdsOf at hm
  have sp : ∀ z, z ∈ Txt.split line " " → z.length ≤ line.length := fun z hz => by
    have i := (sep_sp.inf hz).length_le
    rw [← TL.len_tl, ← TL.len_tl] at i
    exact i
  split at hm
  · rename_i hn
    have l1 : 1 ≤ line.length := by
      cases e : line.length with
      | succ k => omega
      | zero =>
        have t0 : TL.tl line = [] := List.length_eq_zero_iff.mp (by rw [← TL.len_tl]; exact e)
        obtain ⟨vs, hv⟩ := split_hd line
        have s2 := sep_sp.split line
        rw [t0, TL.spl_nil, hv, List.map_cons] at s2
        have s3 : TL.tl (hdW line) = [] := (List.cons.inj s2).1
        rw [hn] at s3
        exact absurd s3 (by decide +kernel)
    rw [← splitMax_two sep_sp.tl (by decide +kernel) l1] at hm
    have := partMax_short hm
    omega
  · have := sp y hm
    omega
/-- what is told of a line that only looks -/
inductive Rdl (S : St) : Str → List Str → Str → Prop
  | shw {x : Str} {e : B91} (h : getS S x = some e) (o : dkOk e) : Rdl S "show" [x] (netS e.1.1 e.1.2)
  | tbl {x y : Str} {e : B91} {t : Nat} (h : getS S x = some e) (o : dkOk e) (ht : numT y = some (t : Int)) (lt : t < e.1.1) : Rdl S "table" [x, y] (tabS e.1.1 e.1.2 t)
  | wyl {x y z : Str} {e : B91} {t a : Nat} (h : getS S x = some e) (o : dkOk e) (ha : numT y = some (a : Int)) (la : a < e.1.1) (ht : numT z = some (t : Int)) (lt : t < e.1.1) : Rdl S "way" [x, y, z] (wayS e.1.1 e.1.2 t a)
/-- what becomes of the nets by a line that makes one -/
inductive Mkl (S : St) : Str → Str → List Str → (Nat × List Tie) → Prop
  | net {x y : Str} {n : Nat} {hs : List Tie} (h : TxOk y) (r : rdOf y = .ok (n : Int) hs) : Mkl S "net" x [y] (n, srtT (hs.map lf))
  | weigh {x ya yb yw : Str} {e : B91} {a b : Nat} {w0 v : Int} (h : getS S x = some e) (o : dkOk e) (ha : numT ya = some (a : Int)) (hb : numT yb = some (b : Int)) (hw : numT yw = some v) (hv : 1 ≤ v) (ht : wOf e.1.2 a b = some w0) : Mkl S "weigh" x [ya, yb, yw] (e.1.1, chW e.1.2 a b v)
  | tie {x one ya yb : Str} {e : B91} {a b : Nat} {w0 : Int} (h : getS S one = some e) (o : dkOk e) (ha : numT ya = some (a : Int)) (hb : numT yb = some (b : Int)) (ht : wOf e.1.2 a b = some w0) : Mkl S "fall" x [one, ya, yb] (e.1.1, lessT (.tie a b) e.1.2)
  | house {x one ya : Str} {e : B91} {a : Nat} (h : getS S one = some e) (o : dkOk e) (ha : numT ya = some (a : Int)) (lt : a < e.1.1) : Mkl S "fall" x [one, ya] (e.1.1, lessT (.house a) e.1.2)
/-- what a desk is -/
structure DeskOk (S : St) : Prop where
  few : S.length < 64
  nm : ∀ p, p ∈ S → p.1.length ≤ 100
theorem hdOf_name {C : Addr} {S : St} {x : Str} {e : B91} (h : getS S x = some e) : hdOf C S ("name", x) = some (netD C e.1.1 e.1.2) := by
  unfold hdOf
  rw [if_pos rfl]
  show (getS S x).map _ = _
  rw [h]
  rfl
theorem hdOf_num {C : Addr} {S : St} {x : Str} {v : Int} (h : numT x = some v) : hdOf C S ("number", x) = some (.int v) := by
  unfold hdOf
  rw [if_neg (show ¬ ("number" : Str) = "name" by decide +kernel), if_pos rfl]
  show (numT x).map D.int = _
  rw [h]
  rfl
theorem hdOf_word (C : Addr) (S : St) (x : Str) : hdOf C S ("word", x) = some (.str x) := by
  unfold hdOf
  rw [if_neg (show ¬ ("word" : Str) = "name" by decide +kernel), if_neg (show ¬ ("word" : Str) = "number" by decide +kernel), if_pos rfl]
theorem hdOf_new (C : Addr) (S : St) (x : Str) : hdOf C S ("new", x) = none := by
  unfold hdOf
  rw [if_neg (show ¬ ("new" : Str) = "name" by decide +kernel), if_neg (show ¬ ("new" : Str) = "number" by decide +kernel), if_neg (show ¬ ("new" : Str) = "word" by decide +kernel)]
theorem handD_some {C : Addr} {S : St} {k x : Str} {ks ws : List Str} {d : D} (h : hdOf C S (k, x) = some d) : handD C S (k :: ks) (x :: ws) = d :: handD C S ks ws := by
  unfold handD
  rw [List.zip_cons_cons, List.filterMap_cons, h]
theorem handD_none {C : Addr} {S : St} {k x : Str} {ks ws : List Str} (h : hdOf C S (k, x) = none) : handD C S (k :: ks) (x :: ws) = handD C S ks ws := by
  unfold handD
  rw [List.zip_cons_cons, List.filterMap_cons, h]
theorem handD_nil (C : Addr) (S : St) (ks : List Str) : handD C S ks [] = [] := by
  unfold handD
  rw [List.zip_nil_right]
  rfl
theorem LnOk.ks_is {S : St} {line w0 : Str} {ws ks ks' : List Str} (L : LnOk S line w0 ws ks) (h : kindsOf w0 = some ks') : ks = ks' := by
  rw [L.kin] at h
  exact Option.some.inj h
theorem Rdl.heads {S : St} {w0 a : Str} {ws : List Str} (R : Rdl S w0 ws a) : w0 = "show" ∨ w0 = "table" ∨ w0 = "way" := by
  cases R with
  | shw => exact .inl rfl
  | tbl => exact .inr (.inl rfl)
  | wyl => exact .inr (.inr rfl)
theorem all_ln (S : St) : LnOk S "all" "all" [] [] where
  good := by decide +kernel
  len := by decide +kernel
  wds := by decide +kernel
  kin := by decide +kernel
  nms := fun p h => by cases h
  hnd := fun p h => by cases h
theorem kinds_net : kindsOf "net" = some (["new", "word"] : List Str) := by decide +kernel
theorem kinds_weigh : kindsOf "weigh" = some (["name", "number", "number", "number"] : List Str) := by decide +kernel
theorem kinds_fall : kindsOf "fall" = some (["new", "name", "number", "number"] : List Str) := by decide +kernel
theorem Mkl.heads {S : St} {w0 x : Str} {ws : List Str} {e : Nat × List Tie} (R : Mkl S w0 x ws e) : w0 = "net" ∨ w0 = "weigh" ∨ w0 = "fall" := by
  cases R with
  | net => exact .inl rfl
  | weigh => exact .inr (.inl rfl)
  | tie => exact .inr (.inr rfl)
  | house => exact .inr (.inr rfl)
/-- what a line that changes the desk is answered, and what the desk then holds -/
inductive TelM (S : St) (line : Str) : Str → St → Prop
  | mk {w0 x : Str} {ws ks : List Str} {e : B91} (L : LnOk S line w0 (x :: ws) ks) (m : Mkl S w0 x ws e.1) : TelM S line x (putS S x e)
  | drop {x : Str} {ks : List Str} (L : LnOk S line "drop" [x] ks) (h : hasN S x = true) : TelM S line x (dropS S x)
/-- what a line that only looks is answered -/
def TelR (S : St) (line ans : Str) : Prop := (∃ w0 ws ks, LnOk S line w0 ws ks ∧ Rdl S w0 ws ans) ∨ (line = "all" ∧ ans = Txt.join " " (srtS (S.map (·.1))))
abbrev sp_tellR (K : PySem.W.Frag) (C CD : Addr) : Sp := spSh K (fun x : St × Str × Str => DeskOk x.1 ∧ TelR x.1 x.2.1 x.2.2) (fun x => [(true, deskD C CD x.1), (true, .str x.2.1)]) (fun x => .str x.2.2)
theorem met_tellR (T : Tx K mg C fI CD fD) (U : Dkx w K mg) : Met P w K mg base 9 CD "tell" (sp_tellR K C CD) := by
  obtain ⟨d_KINDS, as, kf⟩ := U.kd
  have hg_KINDS := kf.g
  have hk_KINDS := kf.k
  obtain ⟨d_MAKERS, m0, m1, m2, hg_MAKERS, hk_MAKERS, gm0, gm1, gm2⟩ := U.MAKERS
  obtain ⟨d_TELLERS, t0, t1, t2, t3, t4, t5, t6, t7, hg_TELLERS, hk_TELLERS, g0, g1, g2, g3, g4, g5, g6, g7⟩ := U.TELLERS
  refine met_sh T.d_Desk_tell sc_Desk_tell (fun _ => rfl) (by decide) (fun _ _ _ _ _ _ us hl => match us, hl with | [_, _], _ => rfl) (fun f cdv A outer s H E hr x hx => ?_)
  have hu := hu_of hr
  have hu64 := hu64_of hr
  obtain ⟨S, line, ans⟩ := x
  obtain ⟨hS, hx⟩ := hx
  have hS : DeskOk S := hS
  have hx : TelR S line ans := hx
  obtain ⟨w0, ws, ks, L, what⟩ : ∃ w0 ws ks, LnOk S line w0 ws ks ∧ (Rdl S w0 ws ans ∨ w0 = "all" ∧ ans = Txt.join " " (srtS (S.map (·.1)))) := by
    rcases hx with ⟨w0, ws, ks, L, R⟩ | ⟨rfl, e⟩
    · exact ⟨w0, ws, ks, L, .inl R⟩
    · exact ⟨_, _, _, all_ln S, .inr ⟨rfl, e⟩⟩
  have nb : (w0 = "show" ∨ w0 = "table" ∨ w0 = "way") ∨ w0 = "all" := what.imp Rdl.heads (·.1)
  obtain ⟨kk, fk, sp, dvs, hkk, cf, call⟩ : ∃ kk fk sp dvs, kk ≤ 8 ∧ CalF P w K mg base kk fk sp dvs ∧ (Rdl S w0 ws ans → kdAt [("show", Value.ref t0), ("table", .ref t1), ("way", .ref t2), ("spare", .ref t3), ("lost", .ref t4), ("hand", .ref t5), ("trees", .ref t6), ("order", .ref t7)] w0 = some (.ref fk) ∧ ∀ ρ te, ρ[6]? = some (.sh (.at fk)) → ED K te ρ (.lst (handD C S ks ws)) → ED K (tCallLS K 6 fk sp dvs E0 te) ρ (.str ans)) := by
    rcases what with R | ⟨hw, _⟩
    · cases R with
      | @shw x e h o =>
        have o : DkD e.1.1 e.1.2 e.2.1 e.2.2 := o
        refine ⟨2, t0, _, _, by decide, (cal_pshow T).toF g0, fun _ => ⟨kd_hit rfl, fun ρ te h6 hte => ?_⟩⟩
        rw [L.ks_is (show kindsOf "show" = some (["name"] : List Str) by decide +kernel), handD_some (hdOf_name h), handD_nil] at hte
        exact ed_callLS (dds := []) (e.1.1, e.1.2) ⟨o.F, o.bd⟩ h6 hte rfl (fun _ => .nil)
      | @tbl x y e t h o ht lt =>
        have o : DkD e.1.1 e.1.2 e.2.1 e.2.2 := o
        refine ⟨7, t1, _, _, by decide, (cal_ptable T).toF g1, fun _ => ⟨(kd_miss (by decide +kernel)).trans (kd_hit rfl), fun ρ te h6 hte => ?_⟩⟩
        rw [L.ks_is (show kindsOf "table" = some (["name", "number"] : List Str) by decide +kernel), handD_some (hdOf_name h), handD_some (hdOf_num ht), handD_nil] at hte
        exact ed_callLS (dds := []) (e.1.1, e.1.2, t) ⟨o.F, lt⟩ h6 hte rfl (fun _ => .nil)
      | @wyl x y z e t a h o ha la ht lt =>
        have o : DkD e.1.1 e.1.2 e.2.1 e.2.2 := o
        refine ⟨7, t2, _, _, by decide, (cal_pway T).toF g2, fun _ => ⟨(kd_miss (by decide +kernel)).trans ((kd_miss (by decide +kernel)).trans (kd_hit rfl)), fun ρ te h6 hte => ?_⟩⟩
        rw [L.ks_is (show kindsOf "way" = some (["name", "number", "number"] : List Str) by decide +kernel), handD_some (hdOf_name h), handD_some (hdOf_num ha), handD_some (hdOf_num ht), handD_nil] at hte
        exact ed_callLS (dds := []) (e.1.1, e.1.2, t, a) ⟨o.F, lt, la⟩ h6 hte rfl (fun _ => .nil)
    · refine ⟨2, t0, _, _, by decide, (cal_pshow T).toF g0, fun R => ?_⟩
      rcases R.heads with h | h | h <;> · rw [hw] at h; exact absurd h (by decide +kernel)
  refine ⟨_, (pss_cons (ps_set (i := 2) sc_Desk_tell.nd rfl (Or.inl rfl) (pe_cal (cal_wordsof T U) hr (by first | decide | exact Nat.le_refl _) (by rfl) (pa_cons (pv 1) pa_nil))) (pss_cons (ps_set (i := 3) sc_Desk_tell.nd rfl (Or.inl rfl) (pe_kget hk_KINDS (pe_glob (v := .ref d_KINDS) rfl hg_KINDS rfl) (pe_ix ix_list (pv 2) pe_int (fun _ _ => rfl)) (fun _ _ => rfl))) (pss_cons (ps_expr (pe_met (met_rnames T) T.cD hr (by first | decide | exact Nat.le_refl _) (pv 0) (pa_cons (pv 3) (pa_cons (pv 2) pa_nil)))) (pss_cons (ps_set (i := 4) sc_Desk_tell.nd rfl (Or.inl rfl) (pe_met (met_handed T) T.cD hr (by first | decide | exact Nat.le_refl _) (pv 0) (pa_cons (pv 3) (pa_cons (pv 2) pa_nil)))) (pss_cons (ps_if (pt_cmp (pc_kin hk_MAKERS (pe_ix ix_list (pv 2) pe_int (fun _ _ => rfl)) (pe_glob (v := .ref d_MAKERS) rfl hg_MAKERS rfl))) (pss_cons (ps_set (i := 5) sc_Desk_tell.nd rfl (Or.inl rfl) (pe_kget hk_MAKERS (pe_glob (v := .ref d_MAKERS) rfl hg_MAKERS rfl) (pe_ix ix_list (pv 2) pe_int (fun _ _ => rfl)) (fun _ _ => rfl))) (pss_cons (ps_dput hu (pe_fld (pv 0) rfl) (pe_ix ix_list (pv 2) pe_int (fun _ _ => rfl)) (pe_callF (i := 5) cf hr (by first | decide | exact Nat.le_refl _ | assumption) rfl (Or.inl rfl) (pv 4)) rfl) (pss_one (ps_ret (pe_ix ix_list (pv 2) pe_int (fun _ _ => rfl)))))) pss_nil) (pss_cons (ps_if (pt_cmpR op_eq (pe_ix ix_list (pv 2) pe_int (fun _ _ => rfl)) pe_str (nomark _)) (pss_cons (ps_ddel (pe_fld (pv 0) rfl) (pe_ix ix_list (pv 2) pe_int (fun _ _ => rfl))) (pss_one (ps_ret (pe_ix ix_list (pv 2) pe_int (fun _ _ => rfl))))) pss_nil) (pss_cons (ps_if (pt_cmpR op_eq (pe_ix ix_list (pv 2) pe_int (fun _ _ => rfl)) pe_str (nomark _)) (pss_one (ps_ret (pe_cal (cal_joined T) hr (by first | decide | exact Nat.le_refl _) (by rfl) (pa_cons (pe_callB (cr_sortK rfl) (by rfl) T.z_sorted (by decide +kernel) (pa_cons (pe_fld (pv 0) rfl) pa_nil)) pa_nil)))) pss_nil) (pss_cons (ps_set (i := 6) sc_Desk_tell.nd rfl (Or.inl rfl) (pe_kget hk_TELLERS (pe_glob (v := .ref d_TELLERS) rfl hg_TELLERS rfl) (pe_ix ix_list (pv 2) pe_int (fun _ _ => rfl)) (fun _ _ => rfl))) (pss_one (ps_ret (pe_callF (i := 6) cf hr (by first | decide | exact Nat.le_refl _ | assumption) rfl (Or.inl rfl) (pv 4)))))))))))), ?_⟩
  show SD K _ [.sh (deskD C CD S), .sh (.str line), .no, .no, .no, .no, .no, .no] { nx := fun _ => D.str ans = D.non, rt := RSh K (.str ans) }
  have e0 := L.wds
  obtain ⟨ka, hka, hkt⟩ := kf.some L.kin
  refine sd_seq (sd_asg (d := .lst ((w0 :: ws).map .str)) (ed_is (ed_call line ⟨L.good, Nat.le_trans L.len (by decide)⟩ (ea_sh (ed_var rfl) ea_nil)) (by rw [e0])) ?_)
  have ix0 : ∀ ρ : List Sl, ρ[2]? = some (.sh (.lst ((w0 :: ws).map .str))) → ED K (tOp (rIxL K) (tVar 2) (tC (.int 0))) ρ (.str w0) := fun ρ h => ed_ixL (l := 0) (ed_var h) ed_int rfl rfl
  refine sd_seq (sd_asg (d := .tup (ks.map .str)) (ed_kgetT (ix0 _ rfl) hka hkt) ?_)
  refine sd_seq (sd_drop (d := .non) (ed_er (ed_meth (S, ks, w0, ws) ⟨L.nms, L.wl⟩ (ed_var rfl) (by decide +kernel) (ea_sh (ed_var rfl) (ea_sh (ed_var rfl) ea_nil)) rfl)) ?_)
  refine sd_seq (sd_asgO (m := .lst (handD C S ks ws)) (eo_meth (S, ks, w0, ws) ⟨L.hnd, L.few, kinds_few L.kin⟩ (ed_var rfl) (by decide +kernel) (ea_sh (ed_var rfl) (ea_sh (ed_var rfl) ea_nil)) rfl) (by simp) ?_)
  refine sd_share (n := 4) rfl ?_
  show SD K _ [.sh (deskD C CD S), .sh (.str line), .sh (.lst ((w0 :: ws).map .str)), .sh (.tup (ks.map .str)), .sh (.lst (handD C S ks ws)), .no, .no, .no] _
  refine sd_seq (sd_if (b := false) (et_is (et_test (ed_kin (ix0 _ rfl))) ?_) (fun h => nomatch h) fun _ => sd_next ?_)
  · rcases nb with (rfl | rfl | rfl) | rfl <;> rfl
  refine sd_seq (sd_if (b := false) (et_is (et_test (ed_eqS (ix0 _ rfl) ed_str)) ?_) (fun h => nomatch h) fun _ => sd_next ?_)
  · rcases nb with (rfl | rfl | rfl) | rfl <;> decide +kernel
  refine sd_seq (sd_if (b := decide (w0 = "all")) (et_test (ed_eqS (ix0 _ rfl) ed_str)) (fun h => ?_) fun h => sd_next ?_)
  · have h := of_decide_eq_true h
    obtain ⟨-, ha⟩ := what.resolve_left fun R => by rcases R.heads with e | e | e <;> · rw [h] at e; exact absurd e (by decide +kernel)
    rw [ha]
    have pm : (srtS (S.map (·.1))).Perm (S.map (·.1)) := List.mergeSort_perm _ leS
    have few := hS.few
    refine sd_ret (d := .str (Txt.join " " (srtS (S.map (·.1))))) (ed_is (ed_call ((srtS (S.map (·.1))).map Thg.s) ⟨?_, fun t ht => ?_⟩ (ea_sh (ed_is (ed_eo (eo_sortK (ks := S.map (·.1)) (ed_er (ed_fld (l := 0) (ed_var rfl) T.cD T.n__nets (by decide +kernel) rfl rfl)) (by rw [List.length_map]; exact few))) (by rw [List.map_map]; rfl)) ea_nil)) (by rw [List.map_map]; exact congrArg (fun l => D.str (Txt.join " " l)) (List.map_id _))) fun _ _ _ _ z => z
    · show ((srtS (S.map (·.1))).map Thg.s).length ≤ 1000
      rw [List.length_map, pm.length_eq, List.length_map]
      omega
    · obtain ⟨x, hx, rfl⟩ := List.mem_map.mp ht
      obtain ⟨p, hp, rfl⟩ := List.mem_map.mp (pm.mem_iff.mp hx)
      exact hS.nm p hp
  · have h := of_decide_eq_false h
    have R := what.resolve_right fun e => h e.1
    obtain ⟨c1, c2⟩ := call R
    refine sd_seq (sd_asg (d := .at fk) (ed_kgetF (ix0 _ rfl) c1) ?_)
    exact sd_ret (c2 _ _ rfl (ed_var rfl)) fun _ _ _ _ z => z
abbrev sp_tellM (K : PySem.W.Frag) (C CD : Addr) : Sp := spMt K (fun x : St × Str × Str × St => DeskOk x.1 ∧ TelM x.1 x.2.1 x.2.2.1 x.2.2.2) (fun x ps => [(true, deskA CD (ps.headD 0)), (true, .str x.2.1)]) (fun x _ => [deskM C x.1]) (fun x (y : Str × St) => y = x.2.2) (fun _ => 0) (fun y _ => .str y.1) (fun y _ => [deskM C y.2])
theorem met_tellM (T : Tx K mg C fI CD fD) (U : Dkx w K mg) : Met P w K mg base 9 CD "tell" (sp_tellM K C CD) := by
  obtain ⟨d_KINDS, as, kf⟩ := U.kd
  have hg_KINDS := kf.g
  have hk_KINDS := kf.k
  obtain ⟨d_MAKERS, m0, m1, m2, hg_MAKERS, hk_MAKERS, gm0, gm1, gm2⟩ := U.MAKERS
  obtain ⟨d_TELLERS, t0, t1, t2, t3, t4, t5, t6, t7, hg_TELLERS, hk_TELLERS, g0, g1, g2, g3, g4, g5, g6, g7⟩ := U.TELLERS
  refine met_mt T.d_Desk_tell sc_Desk_tell (fun _ _ => rfl) (by decide) (fun _ _ _ _ _ _ us hl => match us, hl with | [_, _], _ => rfl) (fun f cdv A outer s H E hr x hx => ?_)
  have hu := hu_of hr
  have hu64 := hu64_of hr
  obtain ⟨S, line, nm, S'⟩ := x
  obtain ⟨hS, hx⟩ := hx
  have hS : DeskOk S := hS
  have hx : TelM S line nm S' := hx
  obtain ⟨w0, ws, ks, L, what⟩ : ∃ w0 ws ks, LnOk S line w0 (nm :: ws) ks ∧ ((∃ e : B91, Mkl S w0 nm ws e.1 ∧ S' = putS S nm e) ∨ w0 = "drop" ∧ hasN S nm = true ∧ S' = dropS S nm) := by
    cases hx with
    | mk L m => exact ⟨_, _, _, L, .inl ⟨_, m, rfl⟩⟩
    | drop L h => exact ⟨_, _, _, L, .inr ⟨rfl, h, rfl⟩⟩
  have nb : (w0 = "net" ∨ w0 = "weigh" ∨ w0 = "fall") ∨ w0 = "drop" := what.imp (fun ⟨_, m, _⟩ => m.heads) (·.1)
  obtain ⟨kk, fk, sp, dvs, hkk, cf, call⟩ : ∃ kk fk sp dvs, kk ≤ 8 ∧ CalF P w K mg base kk fk sp dvs ∧ (∀ e : Nat × List Tie, Mkl S w0 nm ws e → kdAt [("net", Value.ref m0), ("weigh", .ref m1), ("fall", .ref m2)] w0 = some (.ref fk) ∧ ∀ ρ te, ρ[5]? = some (.sh (.at fk)) → ED K te ρ (.lst (handD C S ks (nm :: ws))) → ED K (tCallLS K 5 fk sp dvs E0 te) ρ (netD C e.1 e.2)) := by
    rcases what with ⟨⟨e1, e2⟩, m, _⟩ | ⟨hw, _⟩
    · have m : Mkl S w0 nm ws e1 := m
      cases m with
      | @net x y n hs h r =>
        refine ⟨7, m0, _, _, by decide, (cal_pnet T).toF gm0, fun e' m' => ?_⟩
        cases m' with
        | @net x y n' hs' h' r' =>
          refine ⟨kd_hit rfl, fun ρ te h5 hte => ?_⟩
          rw [L.ks_is kinds_net, handD_none (hdOf_new C S _), handD_some (hdOf_word C S _), handD_nil] at hte
          exact ed_callLS (dds := []) (_, n', hs') ⟨h', r'⟩ h5 hte rfl (fun _ => .nil)
      | @weigh x ya yb yw e1 a b w1 v h o ha hb hw hv ht =>
        refine ⟨7, m1, _, _, by decide, (cal_pweigh T).toF gm1, fun e' m' => ?_⟩
        cases m' with
        | @weigh x ya yb yw e1 a b w1 v h o ha hb hw hv ht =>
          have o : DkD e1.1.1 e1.1.2 e1.2.1 e1.2.2 := o
          refine ⟨(kd_miss (by decide +kernel)).trans (kd_hit rfl), fun ρ te h5 hte => ?_⟩
          rw [L.ks_is kinds_weigh, handD_some (hdOf_name h), handD_some (hdOf_num ha), handD_some (hdOf_num hb), handD_some (hdOf_num hw), handD_nil] at hte
          exact ed_callLS (dds := []) ((e1.1.1, e1.1.2), (a, b), w1, v) ⟨o.F, ht, hv⟩ h5 hte rfl (fun _ => .nil)
      | @tie x one ya yb e1 a b w1 h o ha hb ht =>
        refine ⟨7, m2, _, _, by decide, cal_pfall3 T gm2, fun e' m' => ?_⟩
        cases m' with
        | @tie x one ya yb e1 a b w1 h o ha hb ht =>
          have o : DkD e1.1.1 e1.1.2 e1.2.1 e1.2.2 := o
          refine ⟨(kd_miss (by decide +kernel)).trans ((kd_miss (by decide +kernel)).trans (kd_hit rfl)), fun ρ te h5 hte => ?_⟩
          rw [L.ks_is kinds_fall, handD_none (hdOf_new C S _), handD_some (hdOf_name h), handD_some (hdOf_num ha), handD_some (hdOf_num hb), handD_nil] at hte
          exact ed_callLS (dds := []) (e1.1.1, e1.1.2, Fll.tie a b) ⟨o.F, w1, ht⟩ h5 hte rfl (fun _ => .nil)
      | @house x one ya e1 a h o ha lt =>
        refine ⟨7, m2, _, _, by decide, cal_pfall2 T gm2, fun e' m' => ?_⟩
        cases m' with
        | @house x one ya e1 a h o ha lt =>
          have o : DkD e1.1.1 e1.1.2 e1.2.1 e1.2.2 := o
          refine ⟨(kd_miss (by decide +kernel)).trans ((kd_miss (by decide +kernel)).trans (kd_hit rfl)), fun ρ te h5 hte => ?_⟩
          rw [L.ks_is kinds_fall, handD_none (hdOf_new C S _), handD_some (hdOf_name h), handD_some (hdOf_num ha), handD_nil] at hte
          exact ed_callLS (dds := [.non]) (e1.1.1, e1.1.2, Fll.house a) ⟨o.F, lt⟩ h5 hte rfl (fun _ => All2.cons .non All2.nil)
    · refine ⟨2, t0, _, _, by decide, (cal_pshow T).toF g0, fun e R => ?_⟩
      rcases R.heads with h | h | h <;> · rw [hw] at h; exact absurd h (by decide +kernel)
  refine ⟨_, (pss_cons (ps_set (i := 2) sc_Desk_tell.nd rfl (Or.inl rfl) (pe_cal (cal_wordsof T U) hr (by first | decide | exact Nat.le_refl _) (by rfl) (pa_cons (pv 1) pa_nil))) (pss_cons (ps_set (i := 3) sc_Desk_tell.nd rfl (Or.inl rfl) (pe_kget hk_KINDS (pe_glob (v := .ref d_KINDS) rfl hg_KINDS rfl) (pe_ix ix_list (pv 2) pe_int (fun _ _ => rfl)) (fun _ _ => rfl))) (pss_cons (ps_expr (pe_met (met_rnames T) T.cD hr (by first | decide | exact Nat.le_refl _) (pv 0) (pa_cons (pv 3) (pa_cons (pv 2) pa_nil)))) (pss_cons (ps_set (i := 4) sc_Desk_tell.nd rfl (Or.inl rfl) (pe_met (met_handed T) T.cD hr (by first | decide | exact Nat.le_refl _) (pv 0) (pa_cons (pv 3) (pa_cons (pv 2) pa_nil)))) (pss_cons (ps_if (pt_cmp (pc_kin hk_MAKERS (pe_ix ix_list (pv 2) pe_int (fun _ _ => rfl)) (pe_glob (v := .ref d_MAKERS) rfl hg_MAKERS rfl))) (pss_cons (ps_set (i := 5) sc_Desk_tell.nd rfl (Or.inl rfl) (pe_kget hk_MAKERS (pe_glob (v := .ref d_MAKERS) rfl hg_MAKERS rfl) (pe_ix ix_list (pv 2) pe_int (fun _ _ => rfl)) (fun _ _ => rfl))) (pss_cons (ps_dput hu (pe_fld (pv 0) rfl) (pe_ix ix_list (pv 2) pe_int (fun _ _ => rfl)) (pe_callF (i := 5) cf hr (by first | decide | exact Nat.le_refl _ | assumption) rfl (Or.inl rfl) (pv 4)) rfl) (pss_one (ps_ret (pe_ix ix_list (pv 2) pe_int (fun _ _ => rfl)))))) pss_nil) (pss_cons (ps_if (pt_cmpR op_eq (pe_ix ix_list (pv 2) pe_int (fun _ _ => rfl)) pe_str (nomark _)) (pss_cons (ps_ddel (pe_fld (pv 0) rfl) (pe_ix ix_list (pv 2) pe_int (fun _ _ => rfl))) (pss_one (ps_ret (pe_ix ix_list (pv 2) pe_int (fun _ _ => rfl))))) pss_nil) (pss_cons (ps_if (pt_cmpR op_eq (pe_ix ix_list (pv 2) pe_int (fun _ _ => rfl)) pe_str (nomark _)) (pss_one (ps_ret (pe_cal (cal_joined T) hr (by first | decide | exact Nat.le_refl _) (by rfl) (pa_cons (pe_callB (cr_sortK rfl) (by rfl) T.z_sorted (by decide +kernel) (pa_cons (pe_fld (pv 0) rfl) pa_nil)) pa_nil)))) pss_nil) (pss_cons (ps_set (i := 6) sc_Desk_tell.nd rfl (Or.inl rfl) (pe_kget hk_TELLERS (pe_glob (v := .ref d_TELLERS) rfl hg_TELLERS rfl) (pe_ix ix_list (pv 2) pe_int (fun _ _ => rfl)) (fun _ _ => rfl))) (pss_one (ps_ret (pe_callF (i := 6) cf hr (by first | decide | exact Nat.le_refl _ | assumption) rfl (Or.inl rfl) (pv 4)))))))))))), fun qs lq => ?_⟩
  obtain ⟨p, rfl⟩ : ∃ p, qs = [p] := match qs, lq with | [p], _ => ⟨p, rfl⟩
  show SD K _ [.sh (deskA CD p), .sh (.str line), .no, .no, .no, .no, .no, .ph [(p, deskM C S)]] { nx := fun _ => False, rt := RMt K (fun y : Str × St => y = (nm, S')) [p] (fun _ => 0) (fun y _ => .str y.1) (fun y _ => [deskM C y.2]) }
  have e0 := L.wds
  obtain ⟨ka, hka, hkt⟩ := kf.some L.kin
  refine sd_seq (sd_asg (d := .lst ((w0 :: nm :: ws).map .str)) (ed_is (ed_call line ⟨L.good, Nat.le_trans L.len (by decide)⟩ (ea_sh (ed_var rfl) ea_nil)) (by rw [e0])) ?_)
  have ix0 : ∀ ρ : List Sl, ρ[2]? = some (.sh (.lst ((w0 :: nm :: ws).map .str))) → ED K (tOp (rIxL K) (tVar 2) (tC (.int 0))) ρ (.str w0) := fun ρ h => ed_ixL (l := 0) (ed_var h) ed_int rfl rfl
  have ix1 : ∀ ρ : List Sl, ρ[2]? = some (.sh (.lst ((w0 :: nm :: ws).map .str))) → ED K (tOp (rIxL K) (tVar 2) (tC (.int 1))) ρ (.str nm) := fun ρ h => ed_ixL (l := 1) (ed_var h) ed_int rfl rfl
  refine sd_seq (sd_asg (d := .tup (ks.map .str)) (ed_kgetT (ix0 _ rfl) hka hkt) ?_)
  have fl : FlD [(p, deskM C S)] (deskA CD p) (deskD C CD S) := FlD.obj1 (.at List.mem_cons_self)
  refine sd_seq (sd_drop (d := .non) (ed_er (ed_methD (z := 7) (S, ks, w0, nm :: ws) ⟨L.nms, L.wl⟩ (ed_var rfl) (by decide +kernel) (ea_sh (ed_var rfl) (ea_sh (ed_var rfl) ea_nil)) rfl (fls_cons fl (fls_eq (fls_eq fls_nil))) .non)) ?_)
  refine sd_seq (sd_asgO (m := .lst (handD C S ks (nm :: ws))) (eo_methD (z := 7) (S, ks, w0, nm :: ws) ⟨L.hnd, L.few, kinds_few L.kin⟩ (ed_var rfl) (by decide +kernel) (ea_sh (ed_var rfl) (ea_sh (ed_var rfl) ea_nil)) rfl (fls_cons fl (fls_eq (fls_eq fls_nil))) (hand_nok C S ks (nm :: ws))) (by simp) ?_)
  refine sd_share (n := 4) rfl ?_
  show SD K _ [.sh (deskA CD p), .sh (.str line), .sh (.lst ((w0 :: nm :: ws).map .str)), .sh (.tup (ks.map .str)), .sh (.lst (handD C S ks (nm :: ws))), .no, .no, .ph [(p, deskM C S)]] _
  have fld : ∀ ρ : List Sl, ρ[0]? = some (.sh (deskA CD p)) → ED K (tFld K (tVar 0) "_nets") ρ (.at p) := fun ρ h => ed_fld (l := 0) (ed_var h) T.cD T.n__nets (by decide +kernel) rfl rfl
  have few := hS.few
  refine sd_seq (sd_if (b := !decide (w0 = "drop")) (et_is (et_test (ed_kin (ix0 _ rfl))) ?_) (fun h => ?_) fun h => sd_next ?_)
  · rcases nb with (rfl | rfl | rfl) | rfl <;> rfl
  · have h : w0 ≠ "drop" := fun z => by rw [decide_eq_true z] at h; exact Bool.noConfusion h
    obtain ⟨e, m, rfl⟩ := what.resolve_right fun z => h z.1
    obtain ⟨c1, c2⟩ := call e.1 m
    refine sd_seq (sd_asg (d := .at fk) (ed_kgetF (ix0 _ rfl) c1) ?_)
    refine sd_seq (sd_dputSP (l := 0) (z := 7) (c2 _ _ rfl (ed_var rfl)) (fld _ rfl) (ix1 _ rfl) rfl rfl (by unfold nmK; rw [List.length_map, List.length_map]; omega) ?_)
    refine sd_retM (z := 7) (new := []) (R := fun y : Str × St => y = (nm, putS S nm e)) (nn := fun _ => 0) (dd := fun y _ => .str y.1) (mm := fun y _ => [deskM C y.2]) (nm, putS S nm e) rfl (ix1 _ rfl) rfl rfl rfl rfl ?_ fun _ _ _ _ z => z
    show [M.dks (putSk (nmK S) (.inr nm)) (putSd (nmK S) (netsD C S) (.inr nm) (netD C e.1.1 e.1.2))] = [deskM C (putS S nm e)]
    unfold deskM
    rw [put_K]
    unfold netsD
    rw [put_f (fun e => netD C e.1.1 e.1.2)]
  · have h : w0 = "drop" := by
      by_cases z : w0 = "drop"
      · exact z
      · rw [decide_eq_false z] at h; exact Bool.noConfusion h
    obtain ⟨-, hh, rfl⟩ := what.resolve_left fun ⟨_, m, _⟩ => by rcases m.heads with e | e | e <;> · rw [h] at e; exact absurd e (by decide +kernel)
    refine sd_seq (sd_if (b := true) (et_is (et_test (ed_eqS (ix0 _ rfl) ed_str)) (decide_eq_true h)) (fun _ => ?_) fun h => nomatch h)
    refine sd_seq (sd_ddelSP (l := 0) (z := 7) (fld _ rfl) (ix1 _ rfl) rfl rfl (by rw [has_K]; exact hh) ?_)
    refine sd_retM (z := 7) (new := []) (R := fun y : Str × St => y = (nm, dropS S nm)) (nn := fun _ => 0) (dd := fun y _ => .str y.1) (mm := fun y _ => [deskM C y.2]) (nm, dropS S nm) rfl (ix1 _ rfl) rfl rfl rfl rfl ?_ fun _ _ _ _ z => z
    show [M.dks (dropSk (nmK S) (.inr nm)) (dropSd (nmK S) (netsD C S) (.inr nm))] = [deskM C (dropS S nm)]
    unfold deskM
    rw [drop_K]
    unfold netsD
    rw [drop_f (fun e => netD C e.1.1 e.1.2)]
/-- names from letters -/
theorem nmB_tl {x : Str} {l : List Nat} (h : TL.tl x = l) (h1 : 1 ≤ l.length) (h2 : l.length ≤ 8) (h3 : ∀ c, c ∈ l → isLt c = true) : nmB x = true := by
  unfold nmB
  have e : x.length = l.length := by rw [TL.len_tl, h]
  have e2 : x.cps.toList = l := h
  rw [e, e2, decide_eq_true h1, decide_eq_true h2, Bool.true_and, Bool.true_and]
  exact List.all_eq_true.mpr h3
theorem tl_cut (x : Str) (i j : Nat) (hij : i ≤ j) (hj : j ≤ x.length) : TL.tl (cutS x (some (i : Int)) (some (j : Int))) = ((TL.tl x).drop i).take (j - i) := by
  show ((TL.tl x).drop (HT.sIx x.length 0 (some (i : Int)))).take (HT.sIx x.length x.length (some (j : Int)) - HT.sIx x.length 0 (some (i : Int))) = _
  rw [HT.sIx_nat, HT.sIx_nat, Nat.min_eq_left hj, Nat.min_eq_left (Nat.le_trans hij hj)]
theorem tl_cut0 (x : Str) (j : Nat) (hj : j ≤ x.length) : TL.tl (cutS x none (some (j : Int))) = (TL.tl x).take j := by
  show ((TL.tl x).drop (HT.sIx x.length 0 none)).take (HT.sIx x.length x.length (some (j : Int)) - HT.sIx x.length 0 none) = _
  rw [HT.sIx_none, HT.sIx_nat, List.drop_zero, Nat.sub_zero, Nat.min_eq_left hj]
theorem joinL_nil : ∀ l : List (List Nat), TL.joinL [] l = l.flatten
  | [] => rfl
  | [p] => (List.append_nil p).symm
  | p :: q :: r => by
    have ih := joinL_nil (q :: r)
    show p ++ ([] ++ TL.joinL [] (q :: r)) = p ++ (q :: r).flatten
    rw [ih, List.nil_append]
theorem tl_sgn (c : Nat) : TL.tl (sgn c) = [c] := rfl
theorem tl_join0 (cs : List Nat) : TL.tl (Txt.join "" (cs.map sgn)) = cs := by
  rw [TL.join_eq, TL.tl_join]
  have e : TL.tl ("" : Str) = [] := by decide +kernel
  rw [e, joinL_nil, List.map_map]
  induction cs with
  | nil => rfl
  | cons c cs ih => rw [List.map_cons, List.flatten_cons, ih]; rfl
theorem let_at (m : Nat) (h : m < 26) : ∃ c, ("abcdefghijklmnopqrstuvwxyz" : Str).cps.toList[m]? = some c ∧ isLt c = true := by
  have ln : ("abcdefghijklmnopqrstuvwxyz" : Str).cps.toList.length = 26 := by decide +kernel
  have e : ("abcdefghijklmnopqrstuvwxyz" : Str).cps.toList[m]? = some (("abcdefghijklmnopqrstuvwxyz" : Str).cps.toList[m]'(by rw [ln]; exact h)) := List.getElem?_eq_getElem _
  refine ⟨_, e, ?_⟩
  rw [← let_mem]
  exact decide_eq_true (List.mem_of_getElem? e)
def leads : List Str := ["", "net", "all", "none", "tie", "house", "", "over"]
theorem leads_lt : ∀ x, x ∈ leads → TL.tl x = TL.tl x ∧ ∀ c, c ∈ TL.tl x → isLt c = true := by decide +kernel
theorem leads_len : ∀ x, x ∈ leads → x.length ≤ 5 := by decide +kernel
/-- an index of a letter -/
def lix (m : Nat) : Nat := (("abcdefghijklmnopqrstuvwxyz" : Str).cps.toList).getD m 97
theorem lix_at (m : Nat) (h : m < 26) : ("abcdefghijklmnopqrstuvwxyz" : Str).cps.toList[m]? = some (lix m) ∧ isLt (lix m) = true := by
  obtain ⟨c, h1, h2⟩ := let_at m h
  have : lix m = c := by unfold lix; rw [List.getD_eq_getElem?_getD, h1]; rfl
  rw [this]
  exact ⟨h1, h2⟩
/-- one of the names -/
theorem word_ok {b : List Nat} {p z c : Nat} (hb : b.length = 8) (hl : ∀ c, c ∈ b → isLt c = true) (hc : isLt c = true) (h1 : p < z) (h2 : z ≤ 8) : 1 ≤ (b.take p ++ [c] ++ (b.drop (p + 1)).take (z - (p + 1))).length ∧ (b.take p ++ [c] ++ (b.drop (p + 1)).take (z - (p + 1))).length ≤ 8 ∧ ∀ d, d ∈ b.take p ++ [c] ++ (b.drop (p + 1)).take (z - (p + 1)) → isLt d = true := by
  have e : (b.take p ++ [c] ++ (b.drop (p + 1)).take (z - (p + 1))).length = p + 1 + (z - (p + 1)) := by
    rw [List.length_append, List.length_append, List.length_take, List.length_take, List.length_drop, hb]
    show min p 8 + 1 + min (z - (p + 1)) (8 - (p + 1)) = _
    omega
  refine ⟨by omega, by omega, fun d hd => ?_⟩
  rcases List.mem_append.mp hd with h | h
  · rcases List.mem_append.mp h with h | h
    · exact hl d (List.take_subset _ _ h)
    · rw [List.mem_singleton.mp h]
      exact hc
  · exact hl d (List.drop_subset _ _ (List.take_subset _ _ h))
abbrev sp_dwords (K : PySem.W.Frag) : Sp := spE K (fun x : List Int × Nat => Dw x.1 ∧ 9 ≤ x.1.length ∧ x.2 ≤ 5) (fun x => [(true, .lst (x.1.map .int)), (true, .int (x.2 : Int))]) (fun x d => ∃ ns : List Str, d = .lst (ns.map .str) ∧ ns.length = x.2 ∧ ∀ n, n ∈ ns → nmB n = true)
theorem cal_dwords (T : Tx K mg C fI CD fD) : Cal P w K mg base 1 "_law_words" (sp_dwords K) := by
  refine T.d__law_words.e sc__law_words (fun _ => rfl) (by decide) (fun _ _ _ _ _ _ us hl => match us, hl with | [_, _], _ => rfl) (fun f cdv A outer s H E hr x hx => ?_)
  have hu := hu_of hr
  refine ⟨_, (pss_cons (ps_set (i := 2) sc__law_words.nd rfl (Or.inr rfl) pe_str) (pss_cons (ps_set (i := 3) sc__law_words.nd rfl (Or.inl rfl) (pe_op op_add pe_int (pe_op op_mod (pe_ix ix_list (pv 0) pe_int (fun _ _ => rfl)) pe_int))) (pss_cons (ps_set (i := 4) sc__law_words.nd rfl (Or.inl rfl) (pe_ix ix_list (pe_lst (pa_cons pe_str (pa_cons pe_str (pa_cons pe_str (pa_cons pe_str (pa_cons pe_str (pa_cons pe_str (pa_cons pe_str (pa_cons pe_str pa_nil))))))))) (pe_op op_mod (pe_op op_fdiv (pe_ix ix_list (pv 0) pe_int (fun _ _ => rfl)) pe_int) pe_int) (fun _ _ => rfl))) (pss_cons (ps_set (i := 5) sc__law_words.nd rfl (Or.inl rfl) (pe_slice sl_str (pe_op op_add_str (pv 4) (pe_join pe_str (pe_lc (own := [("_law_number", 11)]) rfl sc__law_words.nd (pi_list (pe_slice sl_list (pv 0) (po_some pe_int) (po_some pe_int))) (blkOk_by (N := N__law_words) (sc := defScope s__law_words) (by decide +kernel)) (fun _ _ _ _ _ => (pg_name (i := 11) sc__law_words.nd rfl (Or.inl rfl))) (fun _ _ _ _ _ => pts_nil) (fun _ _ _ _ _ => (pe_ix ix_str (pv 2) (pe_op op_mod (pe_op op_fdiv (pv 11) pe_int) pe_int) (fun _ _ => rfl)))))) po_none (po_some pe_int))) (pss_cons (ps_set (i := 6) sc__law_words.nd rfl (Or.inl rfl) (pe_op op_mod (pe_op op_fdiv (pe_ix ix_list (pv 0) pe_int (fun _ _ => rfl)) pe_int) (pv 3))) (pss_cons (ps_set (i := 7) sc__law_words.nd rfl (Or.inl rfl) (pe_lst pa_nil)) (pss_cons (ps_for PassesOwn.never rfl (pi_range1 (by rfl) T.z_range (pa_cons (pv 1) pa_nil)) (pg_name (i := 8) sc__law_words.nd rfl (Or.inl rfl)) (pss_cons (ps_set (i := 9) sc__law_words.nd rfl (Or.inl rfl) (pe_ix ix_str (pv 2) (pe_op op_mod (pe_op op_add (pe_bm PySem.F.plainAttrs_str PySem.F.slot_str_find PySem.F.type_str_find mt_findS (pv 2) (pa_cons (pe_ix ix_str (pv 5) (pv 6) (fun _ _ => rfl)) pa_nil)) (pe_op op_mul pe_int (pv 8))) pe_int) (fun _ _ => rfl))) (pss_cons (ps_set (i := 10) sc__law_words.nd rfl (Or.inl rfl) (pe_op op_add_str (pe_op op_add_str (pe_slice sl_str (pv 5) po_none (po_some (pv 6))) (pv 9)) (pe_slice sl_str (pv 5) (po_some (pe_op op_add (pv 6) pe_int)) (po_some (pv 3))))) (pss_cons (ps_if (pt_cmpR op_eq (pe_op op_mod (pe_op op_fdiv (pe_ix ix_list (pv 0) pe_int (fun _ _ => rfl)) pe_int) pe_int) pe_int (nomark _)) (pss_one (ps_set (i := 10) sc__law_words.nd rfl (Or.inl rfl) (pe_slice sl_str (pv 5) po_none (po_some (pe_op op_add (pv 8) pe_int))))) pss_nil) (pss_one (ps_expr (pe_bm PySem.F.plainAttrs_list PySem.F.slot_list_append PySem.F.type_list_append mt_append (pv 7) (pa_cons (pv 10) pa_nil)))))))) (pss_one (ps_ret (pv 7)))))))))), ?_⟩
  obtain ⟨ys, m⟩ := x
  obtain ⟨hd, hl, hm⟩ := hx
  have hd : Dw ys := hd
  have hl : 9 ≤ ys.length := hl
  have hm : m ≤ 5 := hm
  have ix : ∀ (ρ : List Sl) (k : Nat), k < ys.length → ρ[0]? = some (.sh (.lst (ys.map .int))) → ED K (tOp (rIxL K) (tVar 0) (tC (.int (k : Int)))) ρ (.int (ys.getD k 0)) := fun ρ k hk h => ed_ixL (l := k) (ed_var h) ed_int rfl (dw_at hk)
  obtain ⟨-, z1, z2⟩ := hd.at (k := 0) (by omega)
  obtain ⟨y0, hy0⟩ : ∃ y, ys.getD 0 0 = y := ⟨_, rfl⟩
  rw [hy0] at z1 z2
  have ix0 : ∀ (ρ : List Sl), ρ[0]? = some (.sh (.lst (ys.map .int))) → ED K (tOp (rIxL K) (tVar 0) (tC (.int 0))) ρ (.int y0) := fun ρ h => ed_is (ix ρ 0 (by omega) h) (by rw [hy0])
  show SD K _ [.sh (.lst (ys.map .int)), .sh (.int (m : Int)), .no, .no, .no, .no, .no, .no, .no, .no, .no, .no] { nx := fun _ => False, rt := RE K fun d => ∃ ns : List Str, d = .lst (ns.map .str) ∧ ns.length = m ∧ ∀ n, n ∈ ns → nmB n = true }
  refine sd_seq (sd_asg (d := .str "abcdefghijklmnopqrstuvwxyz") ed_str ?_)
  refine sd_seq (sd_asg (d := .int (1 + y0 % 8)) (ed_i0 ed_int (ed_iC (ix0 _ rfl) ed_int (by walk_at "side"))) ?_)
  obtain ⟨z, hz⟩ : ∃ z : Nat, 1 + y0 % 8 = (z : Int) := ⟨(1 + y0 % 8).toNat, by omega⟩
  rw [hz]
  have hz8 : 1 ≤ z ∧ z ≤ 8 := by omega
  obtain ⟨ld, hld⟩ : ∃ ld, leads[(y0 / 8 % 8).toNat]? = some ld := ⟨_, List.getElem?_eq_getElem (show (y0 / 8 % 8).toNat < 8 by omega)⟩
  have ldm := List.mem_of_getElem? hld
  refine sd_seq (sd_asg (d := .str ld) (ed_ixL (l := (y0 / 8 % 8).toNat) (ds := leads.map D.str) (ed_eo (eo_lst (eb_cons ed_str (eb_cons ed_str (eb_cons ed_str (eb_cons ed_str (eb_cons ed_str (eb_cons ed_str (eb_cons ed_str (eb_cons ed_str eb_nil)))))))))) (ed_iC (ed_iC (ix0 _ rfl) ed_int (by walk_at "side")) ed_int (by walk_at "side")) (by omega) (by rw [List.getElem?_map, hld]; rfl)) ?_)
  let cs : List Nat := ((ys.take 9).drop 1).map fun y => lix (y / 64 % 26).toNat
  have lcs : cs.length = 8 := by
    show (((ys.take 9).drop 1).map fun y => lix (y / 64 % 26).toNat).length = 8
    rw [List.length_map, List.length_drop, List.length_take]
    omega
  have ltcs : ∀ c, c ∈ cs → isLt c = true := fun c hc => by
    obtain ⟨y, hy, rfl⟩ := List.mem_map.mp hc
    have := hd y (List.take_subset _ _ (List.drop_subset _ _ hy))
    exact (lix_at _ (by omega)).2
  let B : Str := cutS (ld ++ Txt.join "" (cs.map sgn)) none (some 8)
  have l1 : (Txt.join "" (cs.map sgn)).length = 8 := by rw [TL.len_tl, tl_join0]; exact lcs
  have l2 := leads_len ld ldm
  have l3 : (ld ++ Txt.join "" (cs.map sgn)).length = ld.length + 8 := by rw [TL.len_tl, TL.tl_append, List.length_append, ← TL.len_tl, ← TL.len_tl, l1]
  have tB : TL.tl B = (TL.tl ld ++ cs).take 8 := by
    have e := tl_cut0 (ld ++ Txt.join "" (cs.map sgn)) 8 (by omega)
    rw [TL.tl_append, tl_join0] at e
    exact e
  have lB : (TL.tl B).length = 8 := by
    rw [tB, List.length_take, List.length_append, lcs]
    omega
  have bB : B.length = 8 := by rw [TL.len_tl]; exact lB
  have ltB : ∀ c, c ∈ TL.tl B → isLt c = true := fun c hc => by
    rw [tB] at hc
    rcases List.mem_append.mp (List.take_subset _ _ hc) with h | h
    · exact (leads_lt ld ldm).2 c h
    · exact ltcs c h
  refine sd_seq (sd_asg (d := .str B) (ed_slS (ed_catS (ed_var rfl) (ed_joinL (ys := cs.map sgn) ed_str (ed_er (ed_eo (eo_is (eo_lc (xs := (ys.take 9).drop 1) (emb := fun y => Sl.sh (.int y)) (f := fun _ => true) (v := fun y => .str (sgn (lix (y / 64 % 26).toNat))) (ei_c (ei_is (ei_l (ed_eo (eo_is (eo_sl (ed_var rfl) (ep_at ed_int) (ep_at ed_int)) (congrArg M.lst (cut_ab ys 1 9 (by omega) (by omega)))))) (by rw [List.map_map]; rfl))) (by rw [List.length_drop, List.length_take]; omega)
    fun i y hy => bg_name (by simp) ⟨et_yes, fun _ => by
      have := hd y (List.take_subset _ _ (List.drop_subset _ _ (List.mem_of_getElem? hy)))
      exact ed_ixS (l := (y / 64 % 26).toNat) (ed_var rfl) (ed_iC (ed_iC (ed_var rfl) ed_int (by walk_at "side")) ed_int (by walk_at "side")) (by omega) (lix_at _ (by omega)).1 (by decide +kernel)⟩) (by rw [List.filter_eq_self.mpr fun _ _ => rfl, List.map_map, List.map_map]; rfl)))) (by
        have e : ("" : Str).length = 0 := by decide +kernel
        rw [e, Nat.mul_zero, Nat.add_zero, List.map_map]
        have e2 : cs.map ((fun x : Str => x.length) ∘ sgn) = cs.map fun _ => 1 := List.map_congr_left fun c _ => rfl
        rw [e2, List.map_const', List.sum_replicate_nat, lcs]
        omega)) (by omega)) ep_no (ep_at ed_int) (by omega)) ?_)
  obtain ⟨pl, hpl⟩ : ∃ p : Nat, y0 / 64 % (z : Int) = (p : Int) := ⟨(y0 / 64 % (z : Int)).toNat, (Int.toNat_of_nonneg (Int.emod_nonneg _ (by omega))).symm⟩
  have lpl : pl < z := by
    have := Int.emod_lt_of_pos (y0 / 64) (show (0 : Int) < (z : Int) by omega)
    omega
  refine sd_seq (sd_asg (d := .int (pl : Int)) (ed_is (ed_iC (ed_iC (ix0 _ rfl) ed_int (by walk_at "side")) (ed_var rfl) (show (0 : Int) < (z : Int) by omega)) (by rw [hpl])) ?_)
  refine sd_seq (sd_asgO (eo_lst eb_nil) (by simp) ?_)
  let fr (ns : List Str) (c1 c2 c3 : Sl) : List Sl := [.sh (.lst (ys.map .int)), .sh (.int (m : Int)), .sh (.str "abcdefghijklmnopqrstuvwxyz"), .sh (.int (z : Int)), .sh (.str ld), .sh (.str B), .sh (.int (pl : Int)), .own (.lst (ns.map .str)), c1, c2, c3, .no]
  obtain ⟨cp, hcp⟩ : ∃ c, B.cps.toList[pl]? = some c := ⟨_, List.getElem?_eq_getElem (show pl < B.cps.toList.length by rw [len_cps]; omega)⟩
  refine sd_seq (sd_forR1 (eb_cons (ed_var rfl) eb_nil) (by omega) (fun l r => ∃ ns c1 c2 c3, r = fr ns c1 c2 c3 ∧ ns.length = l ∧ ∀ n, n ∈ ns → nmB n = true) ⟨[], _, _, _, rfl, rfl, fun n h => by cases h⟩ ?_ ?_)
  · rintro l r hlt ⟨ns, c1, c2, c3, rfl, ln, hn⟩
    have hlt : l < m := by omega
    let q : Nat := ((Txt.find "abcdefghijklmnopqrstuvwxyz" (sgn cp) + 5 * (l : Int)) % 26).toNat
    have q1 : (Txt.find "abcdefghijklmnopqrstuvwxyz" (sgn cp) + 5 * (l : Int)) % 26 = (q : Int) := (Int.toNat_of_nonneg (Int.emod_nonneg _ (by decide))).symm
    have q2 : q < 26 := by
      have := Int.emod_lt_of_pos (Txt.find "abcdefghijklmnopqrstuvwxyz" (sgn cp) + 5 * (l : Int)) (show (0 : Int) < 26 by decide)
      omega
    generalize q = q at q1 q2
    obtain ⟨a1, a2⟩ := lix_at q q2
    refine sd_seq (sd_asg (d := .str (sgn (lix q))) (ed_ixS (l := q) (ed_var rfl) (ed_iC (ed_i0 (ed_findS (ed_var rfl) (ed_ixS (l := pl) (ed_var rfl) (ed_var rfl) rfl hcp (by omega))) (ed_iC ed_int (ed_var rfl) (by walk_at "side"))) ed_int (by walk_at "side")) q1 a1 (by decide +kernel)) ?_)
    let W : Str := cutS B none (some (pl : Int)) ++ sgn (lix q) ++ cutS B (some ((pl : Int) + 1)) (some (z : Int))
    have t1 : TL.tl (cutS B none (some (pl : Int))) = (TL.tl B).take pl := tl_cut0 B pl (by omega)
    have t2 : TL.tl (cutS B (some ((pl : Int) + 1)) (some (z : Int))) = ((TL.tl B).drop (pl + 1)).take (z - (pl + 1)) := tl_cut B (pl + 1) z (by omega) (by omega)
    have lt1 : (cutS B none (some (pl : Int))).length ≤ 8 := by rw [TL.len_tl, t1, List.length_take]; omega
    have lt2 : (cutS B (some ((pl : Int) + 1)) (some (z : Int))).length ≤ 8 := by rw [TL.len_tl, t2, List.length_take, List.length_drop]; omega
    have tW : TL.tl W = (TL.tl B).take pl ++ [lix q] ++ ((TL.tl B).drop (pl + 1)).take (z - (pl + 1)) := by
      show TL.tl (cutS B none (some (pl : Int)) ++ sgn (lix q) ++ cutS B (some ((pl : Int) + 1)) (some (z : Int))) = _
      rw [TL.tl_append, TL.tl_append, t1, t2, tl_sgn]
    obtain ⟨w1, w2, w3⟩ := word_ok lB ltB a2 lpl hz8.2
    have okW : nmB W = true := nmB_tl tW w1 w2 w3
    have ls : (sgn (lix q)).length = 1 := rfl
    have lc : (cutS B none (some (pl : Int)) ++ sgn (lix q)).length ≤ 9 := by rw [TL.len_tl, TL.tl_append, List.length_append, ← TL.len_tl, ← TL.len_tl, ls]; omega
    refine sd_seq (sd_asg (d := .str W) (ed_catS (ed_catS (ed_slS (ed_var rfl) ep_no (ep_at (ed_var rfl)) (by omega)) (ed_var rfl) (by rw [ls]; omega)) (ed_slS (ed_var rfl) (ep_at (ed_i0 (ed_var rfl) ed_int)) (ep_at (ed_var rfl)) (by omega)) (by omega)) ?_)
    have okV : nmB (cutS B none (some ((l : Int) + 1))) = true := by
      have t3 : TL.tl (cutS B none (some ((l : Int) + 1))) = (TL.tl B).take (l + 1) := tl_cut0 B (l + 1) (by omega)
      exact nmB_tl t3 (by rw [List.length_take]; omega) (by rw [List.length_take]; omega) fun c hc => ltB c (List.take_subset _ _ hc)
    generalize W = W at okW
    refine sd_mid (fun r => ∃ wd, nmB wd = true ∧ r = fr ns (.sh (.int (l : Int))) (.sh (.str (sgn (lix q)))) (.sh (.str wd))) (sd_if (et_test (ed_eqI (ed_iC (ed_iC (ix0 _ rfl) ed_int (by walk_at "side")) ed_int (by walk_at "side")) ed_int)) (fun _ => sd_asg (d := .str (cutS B none (some ((l : Int) + 1)))) (ed_slS (ed_var rfl) ep_no (ep_at (ed_i0 (ed_var rfl) ed_int)) (by omega)) ⟨_, okV, rfl⟩) fun _ => sd_next ⟨_, okW, rfl⟩) ?_
    rintro r ⟨wd, hwd, rfl⟩
    refine sd_app (n := 7) rfl (ed_var rfl) (by rw [List.length_map]; omega) ⟨ns ++ [wd], .sh (.int (l : Int)), .sh (.str (sgn (lix q))), .sh (.str wd), ?_, by rw [List.length_append]; exact congrArg (· + 1) ln, fun n h => ?_⟩
    · show _ = [_, _, _, _, _, _, _, Sl.own (.lst ((ns ++ [wd]).map .str)), _, _, _, _]
      rw [List.map_append]
      rfl
    · rcases List.mem_append.mp h with h | h
      · exact hn n h
      · rw [List.mem_singleton.mp h]; exact hwd
  · rintro r ⟨ns, c1, c2, c3, rfl, ln, hn⟩
    refine sd_share (n := 7) rfl ?_
    exact sd_retE (d := .lst (ns.map .str)) (ed_var rfl) ⟨ns, rfl, by omega, hn⟩ fun _ _ _ _ z => z
/-- the tie of a pair -/
noncomputable def tieP (ts : List Tie) (p : Nat × Nat) : Tie := ((p.1 : Int), (p.2 : Int), (wOf ts p.1 p.2).getD 0, (wOf ts p.2 p.1).getD 0)
theorem tieP_all {n : Nat} {ts : List Tie} (F : NetFacts n ts) : ((allP n ts).filter fun p => decide (p.1 < p.2)).map (tieP ts) = ts := by
  rw [up_ties F, List.map_map]
  refine (List.map_congr_left fun t ht => ?_).trans (List.map_id _)
  obtain ⟨h1, h2, h3, h4⟩ := tie_two F ht
  show tieP ts (prNat t) = t
  unfold tieP
  rw [h1, h2, h3, h4]
  rfl
theorem lf_tieP {ts : List Tie} {p : Nat × Nat} (h : p.1 < p.2) {t : Tie} (f : Flip (tieP ts p) t) : lf t = tieP ts p := by
  rcases f with rfl | rfl
  · unfold lf
    rw [if_pos (show (tieP ts p).1 < (tieP ts p).2.1 by show (p.1 : Int) < (p.2 : Int); omega)]
  · unfold lf
    rw [if_neg (show ¬ ((tieP ts p).2.1 < (tieP ts p).1) by show ¬ ((p.2 : Int) < (p.1 : Int)); omega)]
/-- the ties laid so far -/
structure Sprd (ts : List Tie) (ps : List (Nat × Nat)) (hs : List Tie) : Prop where
  pm : (hs.map lf).Perm ((ps.filter fun p => decide (p.1 < p.2)).map (tieP ts))
  ea : ∀ t, t ∈ hs → ∃ p, p ∈ ps ∧ p.1 < p.2 ∧ Flip (tieP ts p) t
theorem Sprd.not {ts : List Tie} {ps : List (Nat × Nat)} {hs : List Tie} {p : Nat × Nat} (h : Sprd ts ps hs) (hp : ¬ p.1 < p.2) : Sprd ts (ps ++ [p]) hs := by
  refine ⟨?_, fun t ht => ?_⟩
  · rw [List.filter_append, List.filter_cons, decide_eq_false hp]
    show (hs.map lf).Perm ((ps.filter _ ++ []).map (tieP ts))
    rw [List.append_nil]
    exact h.pm
  · obtain ⟨q, a, b⟩ := h.ea t ht
    exact ⟨q, List.mem_append_left _ a, b⟩
theorem Sprd.yes {ts : List Tie} {ps : List (Nat × Nat)} {hs : List Tie} {p : Nat × Nat} {t : Tie} (j : Nat) (h : Sprd ts ps hs) (hp : p.1 < p.2) (f : Flip (tieP ts p) t) : Sprd ts (ps ++ [p]) (hs.take j ++ [t] ++ hs.drop j) := by
  refine ⟨?_, fun u hu => ?_⟩
  · rw [List.filter_append, List.filter_cons, decide_eq_true hp, List.append_assoc, List.map_append (f := tieP ts)]
    have e := lf_tieP hp f
    have a : ((hs.take j ++ ([t] ++ hs.drop j)).map lf).Perm (tieP ts p :: hs.map lf) := by
      have := (List.perm_middle (a := t) (l₁ := hs.take j) (l₂ := hs.drop j)).map lf
      rw [List.take_append_drop, List.map_cons, e] at this
      exact this
    refine a.trans ?_
    show (tieP ts p :: hs.map lf).Perm ((ps.filter _).map (tieP ts) ++ [tieP ts p])
    exact ((h.pm.cons _).trans (List.perm_append_singleton _ _).symm)
  · rcases List.mem_append.mp hu with hu | hu
    · rcases List.mem_append.mp hu with hu | hu
      · obtain ⟨q, a, b⟩ := h.ea u (List.take_subset _ _ hu)
        exact ⟨q, List.mem_append_left _ a, b⟩
      · rw [List.mem_singleton.mp hu]
        exact ⟨p, List.mem_append_right _ List.mem_cons_self, hp, f⟩
    · obtain ⟨q, a, b⟩ := h.ea u (List.drop_subset _ _ hu)
      exact ⟨q, List.mem_append_left _ a, b⟩
theorem Sprd.all {n : Nat} {ts hs : List Tie} (F : NetFacts n ts) (h : Sprd ts (allP n ts) hs) : Hd n ts hs := by
  have e := tieP_all F
  refine ⟨F, ⟨by have := h.pm; rw [e] at this; exact this, fun t ht => ?_⟩⟩
  obtain ⟨p, hp, hl, f⟩ := h.ea t ht
  refine ⟨tieP ts p, ?_, f⟩
  have m : tieP ts p ∈ ((allP n ts).filter fun p => decide (p.1 < p.2)).map (tieP ts) := List.mem_map.mpr ⟨p, List.mem_filter.mpr ⟨hp, decide_eq_true hl⟩, rfl⟩
  rw [e] at m
  exact m
theorem allP_few {n : Nat} {ts : List Tie} {kk : List (Nat × Nat)} {ds : List D} (O : DkD n ts kk ds) : (allP n ts).length ≤ 132 := by
  have e := congrArg List.length (sort_is O.F O.pm)
  unfold sortKs at e
  rw [List.length_mergeSort, List.length_map, List.length_map] at e
  rw [← e]
  exact O.few
theorem Hd.nums {n : Nat} {ts hs : List Tie} {kk : List (Nat × Nat)} {ds : List D} (X : Hd n ts hs) (O : DkD n ts kk ds) : ∀ t, t ∈ hs → NumOk t := fun t ht => by
  obtain ⟨u, hu, f⟩ := X.h.ea t ht
  have := O.nums u hu
  rcases f with rfl | rfl
  · exact this
  · exact ⟨this.2.1, this.1, this.2.2.2, this.2.2.1⟩
abbrev sp_spread (K : PySem.W.Frag) : Sp := spE K (fun x : B91 × Int => dkOk x.1 ∧ 0 ≤ x.2) (fun x => [(true, dkNet x.1), (true, .int x.2)]) (fun x d => ∃ hs : List Tie, Hd x.1.1.1 x.1.1.2 hs ∧ d = .str (netS x.1.1.1 hs))
theorem cal_spread (T : Tx K mg C fI CD fD) : Cal P w K mg base 2 "_law_spread" (sp_spread K) := by
  refine T.d__law_spread.e sc__law_spread (fun _ => rfl) (by decide) (fun _ _ _ _ _ _ us hl => match us, hl with | [_, _], _ => rfl) (fun f cdv A outer s H E hr x hx => ?_)
  have hu := hu_of hr
  have hu64 := hu64_of hr
  refine ⟨_, (pss_cons (ps_asg (pv 0) (pg_tup rfl (pgs_cons (pg_name (i := 2) sc__law_spread.nd rfl (Or.inl rfl)) (pgs_cons (pg_name (i := 3) sc__law_spread.nd rfl (Or.inl rfl)) pgs_nil)))) (pss_cons (ps_set (i := 4) sc__law_spread.nd rfl (Or.inl rfl) (pe_lst pa_nil)) (pss_cons (ps_for PassesOwn.never rfl (pi_enum (by rfl) T.z_enumerate (pa_cons (pe_callB (cr_sortT rfl hu64) (by rfl) T.z_sorted (by decide +kernel) (pa_cons (pv 3) pa_nil)) pa_nil)) (pg_tup rfl (pgs_cons (pg_name (i := 5) sc__law_spread.nd rfl (Or.inl rfl)) (pgs_cons (pg_tup rfl (pgs_cons (pg_name (i := 6) sc__law_spread.nd rfl (Or.inl rfl)) (pgs_cons (pg_name (i := 7) sc__law_spread.nd rfl (Or.inl rfl)) pgs_nil))) pgs_nil))) (pss_one (ps_if (pt_cmpR op_lt (pv 6) (pv 7) (nomark _)) (pss_cons (ps_set (i := 8) sc__law_spread.nd rfl (Or.inl rfl) (pe_ix ix_list (pe_lst (pa_cons (pe_tup (pa_cons (pv 6) (pa_cons (pv 7) pa_nil))) (pa_cons (pe_tup (pa_cons (pv 7) (pa_cons (pv 6) pa_nil))) pa_nil))) (pe_op op_mod (pe_op op_fdiv (pv 1) (pe_op op_add (pv 5) pe_int)) pe_int) (fun _ _ => rfl))) (pss_one (ps_expr (pe_bm PySem.F.plainAttrs_list PySem.F.slot_list_insert PySem.F.type_list_insert mt_insert (pv 4) (pa_cons (pe_op op_mod (pe_op op_fdiv (pv 1) (pe_op op_add (pv 5) pe_int)) (pe_op op_add (pe_callB call_len_seq (by rfl) T.z_len PySem.boot_len (pa_cons (pv 4) pa_nil)) pe_int)) (pa_cons (pe_cal (cal_tiew T) hr (by first | decide | exact Nat.le_refl _) (by rfl) (pa_cons (pv 3) (pa_cons (pe_ix ix_tup (pv 8) pe_int (fun _ _ => rfl)) (pa_cons (pe_ix ix_tup (pv 8) pe_int (fun _ _ => rfl)) pa_nil)))) pa_nil)))))) pss_nil))) (pss_one (ps_ret (pe_join pe_str (pe_op op_cat (pe_lst (pa_cons (pe_callTy call_str_int (by rfl) T.z_str (by decide +kernel) (pa_cons (pv 2) pa_nil)) pa_nil)) (pv 4)))))))), ?_⟩
  obtain ⟨⟨⟨n, ts⟩, kk, ds⟩, v⟩ := x
  obtain ⟨O, hv⟩ := hx
  have O : DkD n ts kk ds := O
  have hv : 0 ≤ v := hv
  have n2 := O.F.n2
  have al := sort_alike kk
  have big : (12 : Int) < 10 ^ 100 := by decide +kernel
  have lf := allP_few O
  show SD K _ [.sh (.tup [.int (n : Int), dkDct kk ds]), .sh (.int v), .no, .no, .no, .no, .no, .no, .no] { nx := fun _ => False, rt := RE K fun d => ∃ hs : List Tie, Hd n ts hs ∧ d = .str (netS n hs) }
  refine sd_seq (sd_asgG (d := .tup [.int (n : Int), dkDct kk ds]) (ed_var rfl) (vs := [2, 3]) (bg_tup rfl (bgs_cons (bg_name (by simp) (bgs_cons (bg_name (by simp) (bgs_nil ?_)))))))
  refine sd_seq (sd_asgO (eo_lst eb_nil) (by simp) ?_)
  let fr (hs : List Tie) (c1 c2 c3 c4 : Sl) : List Sl := [.sh (.tup [.int (n : Int), dkDct kk ds]), .sh (.int v), .sh (.int (n : Int)), .sh (dkDct kk ds), .own (.lst (hs.map fun t => .str (tieS t))), c1, c2, c3, c4]
  refine sd_seq (sd_forI (xs := List.range (allP n ts).length) (emb := fun l => .sh (.tup [.int (l : Int), ((allP n ts).map fun p => tupK (pk2 p)).getD l .non])) (ei_is (ei_e (ds := (allP n ts).map fun p => tupK (pk2 p)) (eb_cons (ed_eo (eo_is (eo_sortT (ks := kk.map pk2) (ds := ds) (ed_var rfl) al.1 al.2) (by rw [sort_is O.F O.pm, List.map_map]; rfl))) eb_nil)) (by rw [List.length_map])) (fun l r => ∃ hs c1 c2 c3 c4, r = fr hs c1 c2 c3 c4 ∧ Sprd ts ((allP n ts).take l) hs) ⟨[], _, _, _, _, rfl, ⟨.refl _, fun t ht => by cases ht⟩⟩ ?_ ?_)
  · rintro l x r hp ⟨hs, c1, c2, c3, c4, rfl, hI⟩
    obtain ⟨hl, e⟩ := List.getElem?_eq_some_iff.mp hp
    rw [List.getElem_range] at e
    subst e
    rw [List.length_range] at hl
    obtain ⟨p, hp⟩ : ∃ p, (allP n ts)[l]? = some p := ⟨_, List.getElem?_eq_getElem hl⟩
    have eg : ((allP n ts).map fun p => tupK (pk2 p)).getD l .non = .tup [.int (p.1 : Int), .int (p.2 : Int)] := by
      rw [List.getD_eq_getElem?_getD, List.getElem?_map, hp]
      rfl
    have tk := take_snoc hp
    show ∃ vs, BG K vs _ (.sh (.tup [.int (l : Int), ((allP n ts).map fun p => tupK (pk2 p)).getD l .non])) _ _
    rw [eg]
    refine ⟨[5, 6, 7], bg_tup rfl (bgs_cons (bg_name (by simp) (bgs_cons (bg_tup rfl (bgs_cons (bg_name (by simp) (bgs_cons (bg_name (by simp) (bgs_nil (bgs_nil ?_))))))))))⟩
    show SD K _ [.sh (.tup [.int (n : Int), dkDct kk ds]), .sh (.int v), .sh (.int (n : Int)), .sh (dkDct kk ds), .own (.lst (hs.map fun t => .str (tieS t))), .sh (.int (l : Int)), .sh (.int (p.1 : Int)), .sh (.int (p.2 : Int)), c4] _
    refine sd_if (b := decide (p.1 < p.2)) (et_is (et_test (ed_b0 (ed_var rfl) (ed_var rfl))) (decide_eq_decide.mpr (by omega))) (fun h => ?_) fun h => sd_next ⟨hs, _, _, _, _, rfl, ?_⟩
    · have h := of_decide_eq_true h
      obtain ⟨w1, hw1⟩ := (all_mem O.F).mp (List.mem_of_getElem? hp)
      obtain ⟨w2, hw2⟩ := wOf_back O.F hw1
      have z1 := Int.emod_nonneg (v / ((l : Int) + 1)) (show (2 : Int) ≠ 0 by decide)
      have z2 := Int.emod_lt_of_pos (v / ((l : Int) + 1)) (show (0 : Int) < 2 by decide)
      obtain ⟨q, u1, u2, e1, e2, e3, fl⟩ : ∃ (q : Nat × Nat) (u1 u2 : Int), ([.tup [.int (p.1 : Int), .int (p.2 : Int)], .tup [.int (p.2 : Int), .int (p.1 : Int)]] : List D)[(v / ((l : Int) + 1) % 2).toNat]? = some (.tup [.int (q.1 : Int), .int (q.2 : Int)]) ∧ wOf ts q.1 q.2 = some u1 ∧ wOf ts q.2 q.1 = some u2 ∧ Flip (tieP ts p) ((q.1 : Int), (q.2 : Int), u1, u2) := by
        rcases (show (v / ((l : Int) + 1) % 2).toNat = 0 ∨ (v / ((l : Int) + 1) % 2).toNat = 1 by omega) with e | e <;> rw [e]
        · exact ⟨p, w1, w2, rfl, hw1, hw2, .inl (by unfold tieP; rw [hw1, hw2]; rfl)⟩
        · exact ⟨(p.2, p.1), w2, w1, rfl, hw2, hw1, .inr (by unfold tieP; rw [hw1, hw2]; rfl)⟩
      refine sd_seq (sd_asg (d := .tup [.int (q.1 : Int), .int (q.2 : Int)]) (ed_ixL (l := (v / ((l : Int) + 1) % 2).toNat) (ed_eo (eo_lst (eb_cons (ed_tup (eb_cons (ed_var rfl) (eb_cons (ed_var rfl) eb_nil))) (eb_cons (ed_tup (eb_cons (ed_var rfl) (eb_cons (ed_var rfl) eb_nil))) eb_nil)))) (ed_iC (ed_iC (ed_var rfl) (ed_i0 (ed_var rfl) ed_int) ⟨by omega, by omega⟩) ed_int (by walk_at "side")) (by omega) e1) ?_)
      have lh : hs.length ≤ 132 := by
        have := hI.pm.length_eq
        rw [List.length_map, List.length_map] at this
        have := List.length_filter_le (fun p : Nat × Nat => decide (p.1 < p.2)) ((allP n ts).take l)
        rw [List.length_take] at this
        omega
      have y1 := Int.emod_nonneg (v / ((l : Int) + 3)) (show ((hs.length : Int) + 1) ≠ 0 by omega)
      have y2 := Int.emod_lt_of_pos (v / ((l : Int) + 3)) (show (0 : Int) < (hs.length : Int) + 1 by omega)
      obtain ⟨j, hj⟩ : ∃ j : Nat, v / ((l : Int) + 3) % ((hs.length : Int) + 1) = (j : Int) := ⟨_, (Int.toNat_of_nonneg y1).symm⟩
      refine sd_insAt (l := j) (i := v / ((l : Int) + 3) % (((hs.map fun t => D.str (tieS t)).length : Int) + 1)) (d := .str (tieS ((q.1 : Int), (q.2 : Int), u1, u2))) (fun p xs i y H Q a1 a2 a3 a4 q => ⟨p, xs, i, y, rfl, rfl, a1, a2, a3, a4, q⟩) rfl (ed_iC (ed_iC (ed_var rfl) (ed_i0 (ed_var rfl) ed_int) ⟨by omega, by omega⟩) (ed_i0 (ed_len (er_own rfl)) ed_int) (by rw [List.length_map]; omega)) (ed_call (((n, ts), kk, ds), q, u1, u2) ⟨O, e2, e3⟩ (ea_sh (ed_var rfl) (ea_sh (ed_ixT (l := 0) (ed_var rfl) ed_int rfl rfl) (ea_sh (ed_ixT (l := 1) (ed_var rfl) ed_int rfl rfl) ea_nil)))) (by rw [List.length_map]; exact hj) (by rw [List.length_map]; omega) (by rw [List.length_map]; omega) ⟨hs.take j ++ [((q.1 : Int), (q.2 : Int), u1, u2)] ++ hs.drop j, .sh (.int (l : Int)), .sh (.int (p.1 : Int)), .sh (.int (p.2 : Int)), .sh (.tup [.int (q.1 : Int), .int (q.2 : Int)]), ?_, ?_⟩
      · show _ = [_, _, _, _, Sl.own (.lst ((hs.take j ++ [((q.1 : Int), (q.2 : Int), u1, u2)] ++ hs.drop j).map fun t => .str (tieS t))), _, _, _, _]
        rw [List.map_append, List.map_append, List.map_take, List.map_drop]
        rfl
      · rw [tk]
        exact hI.yes j h fl
    · rw [tk]
      exact hI.not (of_decide_eq_false h)
  · rintro r ⟨hs, c1, c2, c3, c4, rfl, hI⟩
    rw [List.length_range] at hI
    rw [List.take_length] at hI
    have X := hI.all O.F
    have num := X.nums O
    have few := X.few
    have sum := ties_len num
    refine sd_retE (d := .str (netS n hs)) (ed_joinL (ys := toString (n : Int) :: hs.map tieS) ed_str (ed_er (ed_eo (eo_is (eo_catV (n := 4) (ds := [.str (toString (n : Int))]) (es := hs.map fun t => .str (tieS t)) (eo_lst (eb_cons (ed_strI (ed_var rfl) (log_few (by omega) (by omega))) eb_nil)) rfl (by rw [List.length_map]; show 1 + _ ≤ 100000; omega)) (by rw [List.map_cons, List.map_map]; rfl)))) ?_) ⟨hs, X, rfl⟩ fun _ _ _ _ z => z
    have e1 : (" " : Str).length = 1 := by decide +kernel
    have l0 := str_few (i := (n : Int)) (by omega) (by omega)
    rw [List.map_cons, List.sum_cons, List.length_cons, List.length_map, e1]
    omega
theorem dfw_sym (f : Fll) (a b : Nat) : fwB f a b = fwB f b a := by
  cases f with
  | tie c d =>
    show decide _ = decide _
    exact decide_eq_decide.mpr ⟨fun h => by omega, fun h => by omega⟩
  | house e => exact Bool.or_comm _ _
theorem dw_less {n x y : Nat} {ts : List Tie} {f : Fll} {w : Int} (F : NetFacts n ts) : wOf (lessT f ts) x y = some w ↔ wOf ts x y = some w ∧ fwB f x y = false := by
  constructor
  · intro h
    obtain ⟨u, hu, e⟩ := edges_mem (wOf_mem h)
    obtain ⟨hu, hf⟩ := List.mem_filter.mp hu
    have hf : fwB f u.1.toNat u.2.1.toNat = false := by
      cases q : fwB f u.1.toNat u.2.1.toNat with
      | false => rfl
      | true => rw [q] at hf; cases hf
    rcases e with e | e <;> cases e
    · exact ⟨mem_wOf F (List.mem_flatMap.mpr ⟨u, hu, by simp⟩), hf⟩
    · exact ⟨mem_wOf F (List.mem_flatMap.mpr ⟨u, hu, by simp⟩), by rw [dfw_sym]; exact hf⟩
  · rintro ⟨h, hf⟩
    obtain ⟨u, hu, e⟩ := edges_mem (wOf_mem h)
    rcases e with e | e <;> cases e
    · exact mem_wOf (F.less f) (List.mem_flatMap.mpr ⟨u, List.mem_filter.mpr ⟨hu, by rw [hf]; rfl⟩, by simp⟩)
    · exact mem_wOf (F.less f) (List.mem_flatMap.mpr ⟨u, List.mem_filter.mpr ⟨hu, by rw [dfw_sym, hf]; rfl⟩, by simp⟩)
/-- a dict told key by key -/
theorem lookD_map (g : Nat × Nat → D) (k : Nat × Nat) : ∀ l : List (Nat × Nat), lookD ((l.map pk2).map intK) (l.map g) (intK (pk2 k)) = if k ∈ l then some (g k) else none
  | [] => rfl
  | p :: l => by
    have ih := lookD_map g k l
    unfold lookD at ih ⊢
    rw [List.map_cons, List.map_cons, List.map_cons, List.zip_cons_cons, List.find?_cons]
    by_cases c : p = k
    · subst c
      rw [if_pos List.mem_cons_self]
      show Option.map _ (match decide (intK (pk2 p) = intK (pk2 p)) with | true => _ | false => _) = _
      rw [decide_eq_true rfl]
      rfl
    · have ne : ¬ intK (pk2 p) = intK (pk2 k) := fun z => c (by
        have := intK2 z
        exact Prod.ext (by omega) (by omega))
      show Option.map _ (match decide (intK (pk2 p) = intK (pk2 k)) with | true => _ | false => _) = _
      rw [decide_eq_false ne]
      refine ih.trans ?_
      by_cases m : k ∈ l
      · rw [if_pos m, if_pos (List.mem_cons_of_mem _ m)]
      · rw [if_neg m, if_neg fun z => (List.mem_cons.mp z).elim (fun e => c e.symm) m]
/-- the pairs that are kept -/
noncomputable def keptP (n : Nat) (ts : List Tie) (f : Fll) : List (Nat × Nat) := (allP n ts).filter fun p => !fwB f p.1 p.2
noncomputable def valP (ts : List Tie) (p : Nat × Nat) : D := .int ((wOf ts p.1 p.2).getD 0)
theorem kept_mem {n : Nat} {ts : List Tie} (F : NetFacts n ts) (f : Fll) {p : Nat × Nat} : p ∈ keptP n ts f ↔ ∃ v, wOf (lessT f ts) p.1 p.2 = some v := by
  unfold keptP
  rw [List.mem_filter, all_mem F, Bool.not_eq_true']
  exact ⟨fun ⟨⟨v, hv⟩, h⟩ => ⟨v, (dw_less F).mpr ⟨hv, h⟩⟩, fun ⟨v, hv⟩ => ⟨⟨v, ((dw_less F).mp hv).1⟩, ((dw_less F).mp hv).2⟩⟩
theorem kept_nd (n : Nat) (ts : List Tie) (f : Fll) : (keptP n ts f).Nodup := (((sq_so n).filter _).filter _).imp PLt.ne
theorem DkD.less {n : Nat} {ts : List Tie} {kk : List (Nat × Nat)} {ds : List D} (O : DkD n ts kk ds) (f : Fll) : DkD n (lessT f ts) (keptP n ts f) ((keptP n ts f).map (valP ts)) := by
  have F := O.F
  refine ⟨F.less f, ?_, by rw [List.length_map], fun a b => ?_, fun t ht => O.bd t (List.mem_filter.mp ht).1⟩
  · exact (List.perm_ext_iff_of_nodup (kept_nd n ts f) (keysN_nd (F.less f))).mpr fun p => (kept_mem F f).trans (keysN_mem (F.less f)).symm
  · show lookD _ _ (intK (pk2 (a, b))) = _
    rw [lookD_map]
    by_cases c : (a, b) ∈ keptP n ts f
    · rw [if_pos c]
      obtain ⟨v, hv⟩ := (kept_mem F f).mp c
      have hv : wOf (lessT f ts) a b = some v := hv
      rw [hv]
      unfold valP
      rw [show wOf ts (a, b).1 (a, b).2 = some v from ((dw_less F).mp hv).1]
      rfl
    · rw [if_neg c]
      cases h : wOf (lessT f ts) a b with
      | none => rfl
      | some v => exact absurd ((kept_mem F f).mpr ⟨v, h⟩) c
/-- two numbers, the lesser first -/
def two (a b : Int) : List Int := if a ≤ b then [a, b] else [b, a]
theorem two_perm (a b : Int) : (two a b).Perm [a, b] := by
  unfold two
  split
  · exact .refl _
  · exact .swap _ _ _
theorem two_up (a b : Int) : (two a b).Pairwise (· ≤ ·) := by
  unfold two
  split
  · exact List.pairwise_pair.mpr (by assumption)
  · exact List.pairwise_pair.mpr (by omega)
theorem two_eq (a b c d : Nat) : decide (two (a : Int) (b : Int) = two (c : Int) (d : Int)) = fwB (.tie c d) a b := by
  refine decide_eq_decide.mpr ⟨fun h => ?_, fun h => ?_⟩
  · unfold two at h
    split at h <;> split at h <;> (simp only [List.cons.injEq, and_true] at h; omega)
  · rcases h with ⟨rfl, rfl⟩ | ⟨rfl, rfl⟩
    · rfl
    · unfold two
      split <;> split <;> simp only [List.cons.injEq, and_true] <;> omega
/-- what falls, as the law tells it -/
def Fll.L : Fll → List Int
  | .tie a b => [(a : Int), (b : Int)]
  | .house e => [(e : Int)]
noncomputable abbrev dkLess (x : B91) (f : Fll) : B91 := ((x.1.1, lessT f x.1.2), keptP x.1.1 x.1.2 f, (keptP x.1.1 x.1.2 f).map (valP x.1.2))
noncomputable abbrev sp_lwithout (K : PySem.W.Frag) : Sp := spSh K (fun x : B91 × Fll => dkOk x.1) (fun x => [(true, dkNet x.1), (true, .lst (x.2.L.map .int))]) (fun x => dkNet (dkLess x.1 x.2))
theorem cal_lwithout (T : Tx K mg C fI CD fD) : Cal P w K mg base 1 "_law_without" (sp_lwithout K) := by
  refine T.d__law_without.sh sc__law_without (fun _ => rfl) (by decide) (fun _ _ _ _ _ _ us hl => match us, hl with | [_, _], _ => rfl) (fun f cdv A outer s H E hr x hx => ?_)
  have hu := hu_of hr
  have hu64 := hu64_of hr
  refine ⟨_, (pss_cons (ps_set (i := 2) sc__law_without.nd rfl (Or.inl rfl) pe_dnewT) (pss_cons (ps_for PassesOwn.never rfl (pi_list (pe_callB (cr_sortT rfl hu64) (by rfl) T.z_sorted (by decide +kernel) (pa_cons (pe_ix ix_tup (pv 0) pe_int (fun _ _ => rfl)) pa_nil))) (pg_name (i := 3) sc__law_without.nd rfl (Or.inl rfl)) (pss_one (ps_if (PW.pt (pw_or (PW.pt (pw_and (pt_cmpR op_eq (pe_callB call_len_seq (by rfl) T.z_len PySem.boot_len (pa_cons (pv 1) pa_nil)) pe_int (nomark _)) (pw_and1 (pt_cmpR op_notIn_seq (pe_ix ix_list (pv 1) pe_int (fun _ _ => rfl)) (pv 3) (by with_unfolding_all rfl))))) (pw_or1 (PW.pt (pw_and (pt_cmpR op_eq (pe_callB call_len_seq (by rfl) T.z_len PySem.boot_len (pa_cons (pv 1) pa_nil)) pe_int (nomark _)) (pw_and1 (pt_cmpR (op_neD hu64) (pe_callB cr_sortedIT (by rfl) T.z_sorted (by decide +kernel) (pa_cons (pv 3) pa_nil)) (pe_callB cr_sortedI (by rfl) T.z_sorted (by decide +kernel) (pa_cons (pv 1) pa_nil)) (nomark _)))))))) (pss_one (ps_dput hu (pv 2) (pv 3) (pe_dgetT hu (pe_ix ix_tup (pv 0) pe_int (fun _ _ => rfl)) (pv 3) (fun _ _ => rfl)) rfl)) pss_nil))) (pss_one (ps_ret (pe_tup (pa_cons (pe_ix ix_tup (pv 0) pe_int (fun _ _ => rfl)) (pa_cons (pv 2) pa_nil))))))), ?_⟩
  obtain ⟨⟨⟨n, ts⟩, kk, ds⟩, fl⟩ := x
  have O : DkD n ts kk ds := hx
  have al := sort_alike kk
  have lf := allP_few O
  show SD K _ [.sh (.tup [.int (n : Int), dkDct kk ds]), .sh (.lst (fl.L.map .int)), .no, .no] _
  refine sd_seq (sd_asgO eo_dnew (by simp) ?_)
  let Q (l : Nat) : List (Nat × Nat) := ((allP n ts).take l).filter fun p => !fwB fl p.1 p.2
  have wd : ∀ ρ : List Sl, ρ[0]? = some (.sh (.tup [.int (n : Int), dkDct kk ds])) → ED K (tOp (rIxT K) (tVar 0) (tC (.int 1))) ρ (dkDct kk ds) := fun ρ h => ed_ixT (l := 1) (ed_var h) ed_int rfl rfl
  let fr (q : List (Nat × Nat)) (z : Sl) : List Sl := [.sh (.tup [.int (n : Int), dkDct kk ds]), .sh (.lst (fl.L.map .int)), .own (.dct ((q.map pk2).map intK) (q.map (valP ts))), z]
  refine sd_seq (sd_forI (xs := allP n ts) (emb := fun p => .sh (.tph (pk2 p))) (ei_is (ei_l (ed_eo (eo_sortTH (ks := kk.map pk2) (ds := ds) (wd _ rfl) al.1 al.2))) (by rw [sort_is O.F O.pm, List.map_map, List.map_map]; rfl)) (fun l r => ∃ z, r = fr (Q l) z) ⟨_, rfl⟩ ?_ ?_)
  · rintro l p r hp ⟨z, rfl⟩
    refine ⟨[3], bg_name (by simp) ?_⟩
    obtain ⟨v, hv⟩ := (all_mem O.F).mp (List.mem_of_getElem? hp)
    have lq : (Q l).length ≤ 132 := by
      have := List.length_filter_le (fun p : Nat × Nat => !fwB fl p.1 p.2) ((allP n ts).take l)
      rw [List.length_take] at this
      show (((allP n ts).take l).filter fun p => !fwB fl p.1 p.2).length ≤ 132
      omega
    have tk : (allP n ts).take (l + 1) = (allP n ts).take l ++ [p] := take_snoc hp
    show SD K _ [.sh (.tup [.int (n : Int), dkDct kk ds]), .sh (.lst (fl.L.map .int)), .own (.dct (((Q l).map pk2).map intK) ((Q l).map (valP ts))), .sh (.tph (pk2 p))] _
    have len : ∀ ρ : List Sl, ρ[1]? = some (.sh (.lst (fl.L.map .int))) → ED K (tCB (fun xs H Q => ∃ p ys, xs = [V.ref p] ∧ (SqL K H p ys ∨ SqT K H p ys) ∧ Q (V.int (ys.length : Int)) H) (tCons (tVar 1) tNil)) ρ (.int (fl.L.length : Int)) := fun ρ h => ed_is (ed_len (ed_er (ed_var h))) (by rw [List.length_map])
    refine sd_if (b := !fwB fl p.1 p.2) (et_is (et_or (et_and (et_test (ed_eqI (len _ rfl) ed_int)) fun h => et_is (b := !fwB fl p.1 p.2) ?_ rfl) fun _ => et_and (et_test (ed_eqI (len _ rfl) ed_int)) fun h => et_is (b := !fwB fl p.1 p.2) ?_ rfl) ?_) (fun h => ?_) fun h => sd_next ⟨.sh (.tph (pk2 p)), ?_⟩
    · cases fl with
      | tie c d => cases h
      | house e =>
        refine et_is (et_test (ed_notInTp (d := .int (e : Int)) (ds := [.int (p.1 : Int), .int (p.2 : Int)]) (ed_ixL (l := 0) (ed_var rfl) ed_int rfl rfl) (ed_er (ed_tphT (is := pk2 p) (ed_var rfl))) rfl rfl)) ?_
        show (!(decide ((p.1 : Int) = (e : Int)) || (decide ((p.2 : Int) = (e : Int)) || false))) = !(decide (e = p.1) || decide (e = p.2))
        rw [Bool.or_false]
        exact congrArg (! ·) (congr (congrArg _ (decide_eq_decide.mpr (by omega))) (decide_eq_decide.mpr (by omega)))
    · cases fl with
      | house e => cases h
      | tie c d =>
        refine et_is (et_test (ed_neG (ed_er (ed_eo (eo_sortIT (ns := [(p.1 : Int), (p.2 : Int)]) (ed_tphT (is := pk2 p) (ed_var rfl)) (two_perm _ _) (two_up _ _)))) (ed_er (ed_eo (eo_sortI (ns := [(c : Int), (d : Int)]) (ed_var rfl) (two_perm _ _) (two_up _ _)))) (flt_ints _) (flt_ints _))) ?_
        rw [eqv_lstI, two_eq]
    · cases fl with
      | tie c d => exact Bool.true_and _
      | house e => exact (congrArg (· || _) (Bool.true_and _)).trans (Bool.or_false _)
    · have e : Q (l + 1) = Q l ++ [p] := by
        show ((allP n ts).take (l + 1)).filter _ = _
        rw [tk, List.filter_append, List.filter_cons, h]
        rfl
      have nin : intK (pk2 p) ∉ ((Q l).map pk2).map intK := fun m => by
        obtain ⟨k, hk, ek⟩ := List.mem_map.mp m
        obtain ⟨q, hq, rfl⟩ := List.mem_map.mp hk
        have := intK2 ek
        have eq : q = p := Prod.ext (by omega) (by omega)
        subst eq
        have nd : ((allP n ts).take l ++ [q]).Nodup := by
          rw [← tk]
          exact (((sq_so n).filter _).imp PLt.ne).sublist (List.take_sublist _ _)
        exact (List.nodup_append.mp nd).2.2 q (List.mem_filter.mp hq).1 q List.mem_cons_self rfl
      refine sd_dputTH (n := 2) (is := pk2 p) rfl (ed_dgetTS (is := pk2 p) (wd _ rfl) (ed_tphT (ed_var rfl)) (d := valP ts p) ((O.lk p.1 p.2).trans (by unfold valP; rw [hv]; rfl))) (ed_var rfl) nin (by rw [List.length_map, List.length_map]; omega) ⟨.sh (.tph (pk2 p)), ?_⟩
      show _ = [_, _, Sl.own (.dct (((Q (l + 1)).map pk2).map intK) ((Q (l + 1)).map (valP ts))), _]
      rw [e, List.map_append, List.map_append, List.map_append]
      rfl
    · have e : Q (l + 1) = Q l := by
        show ((allP n ts).take (l + 1)).filter _ = _
        rw [tk, List.filter_append, List.filter_cons, h]
        exact List.append_nil _
      show _ = [_, _, Sl.own (.dct (((Q (l + 1)).map pk2).map intK) ((Q (l + 1)).map (valP ts))), _]
      rw [e]
  · rintro r ⟨z, rfl⟩
    have e : Q (allP n ts).length = keptP n ts fl := by
      show ((allP n ts).take (allP n ts).length).filter _ = _
      rw [List.take_length]
      rfl
    rw [e]
    refine sd_shareD (n := 2) rfl ?_
    exact sd_ret (ed_tup (eb_cons (ed_ixT (l := 0) (ed_var rfl) ed_int rfl rfl) (eb_cons (ed_var rfl) eb_nil))) fun _ _ _ _ z => z
/-- a word -/
def Wd (w : Str) : Prop := 32 ∉ TL.tl w ∧ TL.tl w ≠ []
instance (w : Str) : Decidable (Wd w) := by unfold Wd; infer_instance
theorem Wd.ne {w : Str} (h : Wd w) : ¬ w = "" := fun z => h.2 (by rw [z]; decide +kernel)
theorem wd_nm {x : Str} (h : nmB x = true) : Wd x ∧ 1 ≤ x.length ∧ x.length ≤ 8 := by
  unfold nmB at h
  rw [Bool.and_eq_true, Bool.and_eq_true, decide_eq_true_eq, decide_eq_true_eq] at h
  obtain ⟨⟨h1, h2⟩, h3⟩ := h
  refine ⟨⟨fun z => ?_, fun z => ?_⟩, h1, h2⟩
  · have := List.all_eq_true.mp h3 32 z
    exact absurd this (by decide)
  · rw [TL.len_tl, z] at h1
    exact absurd h1 (by decide)
theorem wd_num {i : Int} (h : 0 ≤ i) : Wd (toString i : Str) := by
  refine ⟨num_free h (.inl (by decide)), fun z => ?_⟩
  rw [tl_nat h] at z
  exact TL.numL_ne _ z
theorem len_num {i : Int} (h : 0 ≤ i) (hi : i < 10 ^ 25) : (toString i : Str).length ≤ 25 ∧ Fg (toString i : Str) := by
  have l : (toString i : Str).length ≤ 25 := by
    rw [TL.len_tl, tl_nat h]
    exact TL.numL_len (by decide) (by show i.toNat < 10 ^ 25; omega)
  exact ⟨l, Fg.short (by omega)⟩
theorem split_ws {ws : List Str} (hn : ws ≠ []) (h : ∀ w, w ∈ ws → Wd w) : Txt.split (Txt.join " " ws) " " = ws := TL.split_join tl_sp (by decide +kernel) hn fun w hw => (h w hw).1
theorem join_len {ws : List Str} {m : Nat} (h : ∀ w, w ∈ ws → w.length ≤ m) : (Txt.join " " ws).length ≤ (m + 1) * ws.length := by
  rw [TL.len_tl, tl_joinS]
  have c := joinL_lenC 32 (ws.map TL.tl)
  have s : ∀ l : List Str, (∀ w, w ∈ l → w.length ≤ m) → ((l.map TL.tl).map (·.length)).sum ≤ m * l.length := fun l => by
    induction l with
    | nil => intro _; exact Nat.le_refl 0
    | cons w l ih =>
      intro h
      have i := ih fun v hv => h v (List.mem_cons_of_mem _ hv)
      have w0 := h w List.mem_cons_self
      rw [TL.len_tl] at w0
      rw [List.map_cons, List.map_cons, List.sum_cons, List.length_cons, Nat.mul_succ]
      omega
  have := s ws h
  rw [List.length_map] at c
  rw [Nat.add_mul]
  omega
/-- a line from its words -/
theorem ln_of {S : St} {w0 : Str} {ws ks : List Str} (hk : kindsOf w0 = some ks) (hn : ¬ w0 = "net") (hw : ∀ w, w ∈ w0 :: ws → Wd w) (hl : ws.length = ks.length ∨ ws.length + 1 = ks.length ∧ shortB w0 = true)
    (hm : ∀ w, w ∈ w0 :: ws → w.length ≤ 100) (nms : NmsOk S ks ws) (hnd : HndOk S ks ws) : LnOk S (Txt.join " " (w0 :: ws)) w0 ws ks := by
  have s := split_ws (List.cons_ne_nil w0 ws) hw
  have kf := kinds_few hk
  have e0 : hdW (Txt.join " " (w0 :: ws)) = w0 := by unfold hdW; rw [s]; rfl
  have e1 : wdsOf (Txt.join " " (w0 :: ws)) = w0 :: ws := by unfold wdsOf; rw [e0, if_neg hn, s]
  have e2 : needW (Txt.join " " (w0 :: ws)) = w0 :: ws := by unfold needW; rw [e0, if_neg hn, e1]
  have e3 : ((w0 :: ws).any fun w => decide (w = "")) = false := List.any_eq_false.mpr fun w h => by
    rw [decide_eq_false (hw w h).ne]
    exact Bool.false_ne_true
  refine ⟨?_, ?_, e1, hk, nms, hnd⟩
  · unfold lineB
    rw [e0, hk]
    show (!((needW (Txt.join " " (w0 :: ws))).any fun w => decide (w = "")) && !((!decide (lackW ks (Txt.join " " (w0 :: ws)) = 0)) && !(decide (lackW ks (Txt.join " " (w0 :: ws)) = 1) && shortB w0))) = true
    have el : lackW ks (Txt.join " " (w0 :: ws)) = (ks.length : Int) + 1 - ((ws.length : Int) + 1) := by
      unfold lackW
      rw [e1, List.length_cons]
      omega
    rw [e2, e3, el]
    rcases hl with h | ⟨h, hs⟩
    · rw [decide_eq_true (by omega : (ks.length : Int) + 1 - ((ws.length : Int) + 1) = 0)]
      rfl
    · rw [decide_eq_true (by omega : (ks.length : Int) + 1 - ((ws.length : Int) + 1) = 1), hs, Bool.and_true]
      exact Bool.and_eq_true_iff.mpr ⟨rfl, by rw [Bool.not_true, Bool.and_false]; rfl⟩
  · have := join_len (m := 100) hm
    rw [List.length_cons] at this
    omega
theorem spl_app {s : Nat} : ∀ (a acc r : List Nat), s ∉ a → TL.spl [s] 0 acc (a ++ s :: r) = (acc ++ a) :: TL.spl [s] 0 [] r
  | [], acc, r, _ => by
    rw [List.nil_append, spl1_hit, List.append_nil]
  | c :: a, acc, r, h => by
    rw [List.cons_append, spl1_miss (fun z => h (by rw [z]; exact List.mem_cons_self)), spl_app a _ r fun z => h (List.mem_cons_of_mem _ z), List.append_assoc]
    rfl
theorem tl_inj : ∀ {l m : List Str}, l.map TL.tl = m.map TL.tl → l = m
  | [], [], _ => rfl
  | [], _ :: _, h => by cases h
  | _ :: _, [], h => by cases h
  | a :: l, b :: m, h => by
    rw [List.map_cons, List.map_cons] at h
    obtain ⟨h1, h2⟩ := List.cons.inj h
    rw [TL.ext_tl h1, tl_inj h2]
theorem split_nm {nm tx : Str} (h : 32 ∉ TL.tl nm) : Txt.split ("net " ++ nm ++ " " ++ tx) " " = ("net" : Str) :: nm :: Txt.split tx " " := by
  refine tl_inj ?_
  have tn : TL.tl ("net " : Str) = TL.tl ("net" : Str) ++ [32] := by decide +kernel
  rw [sep_sp.split, List.map_cons, List.map_cons, sep_sp.split, TL.tl_append, TL.tl_append, TL.tl_append, tl_sp, tn]
  have e : TL.tl ("net" : Str) ++ [32] ++ TL.tl nm ++ [32] ++ TL.tl tx = TL.tl ("net" : Str) ++ 32 :: (TL.tl nm ++ 32 :: TL.tl tx) := by simp only [List.append_assoc, List.cons_append, List.nil_append]
  rw [e, spl_app _ _ _ (by decide +kernel), spl_app _ _ _ h]
  rfl
theorem join_split (tx : Str) : Txt.join " " (Txt.split tx " ") = tx := TL.ext_tl (by rw [tl_joinS, sep_sp.split, join_spl, List.nil_append])
/-- the line of a net -/
theorem ln_net {S : St} {nm tx : Str} (hn : nmB nm = true) (hl : tx.length ≤ 19000) : LnOk S ("net " ++ nm ++ " " ++ tx) "net" [nm, tx] ["new", "word"] := by
  obtain ⟨w, _, l8⟩ := wd_nm hn
  have s := split_nm (tx := tx) w.1
  have e0 : hdW ("net " ++ nm ++ " " ++ tx) = "net" := by unfold hdW; rw [s]; rfl
  have e1 : wdsOf ("net " ++ nm ++ " " ++ tx) = [("net" : Str), nm, tx] := by
    unfold wdsOf
    rw [e0, if_pos rfl, s]
    obtain ⟨c, r, e⟩ := sep_sp.ne tx
    rw [e]
    show [("net" : Str), nm, Txt.join " " (c :: r)] = _
    rw [← e, join_split]
  have e2 : needW ("net " ++ nm ++ " " ++ tx) = [("net" : Str), nm] := by unfold needW; rw [e0, if_pos rfl, e1]; rfl
  have e3 : (([("net" : Str), nm] : List Str).any fun w => decide (w = "")) = false := by
    rw [List.any_cons, List.any_cons, decide_eq_false w.ne]
    decide +kernel
  refine ⟨?_, ?_, e1, kinds_net, fun p hp => ?_, fun p hp => ?_⟩
  · unfold lineB
    rw [e0, kinds_net]
    show (!((needW ("net " ++ nm ++ " " ++ tx)).any fun w => decide (w = "")) && !((!decide (lackW ["new", "word"] ("net " ++ nm ++ " " ++ tx) = 0)) && _)) = true
    have el : lackW ["new", "word"] ("net " ++ nm ++ " " ++ tx) = 0 := by
      unfold lackW
      rw [e1]
      rfl
    rw [e2, e3, el]
    rfl
  · rw [TL.len_tl, TL.tl_append, TL.tl_append, TL.tl_append, List.length_append, List.length_append, List.length_append, ← TL.len_tl nm, ← TL.len_tl tx, tl_sp]
    have : (TL.tl ("net " : Str)).length = 4 := by decide +kernel
    rw [this]
    show 4 + nm.length + 1 + tx.length ≤ 20000
    omega
  · have hp : p = (("new" : Str), nm) ∨ p = (("word" : Str), tx) := by simpa using hp
    rcases hp with rfl | rfl
    · exact ⟨fun _ => hn, fun z => absurd z (show ¬ ("new" : Str) = "name" by decide +kernel)⟩
    · exact ⟨fun z => absurd z (show ¬ ("word" : Str) = "new" by decide +kernel), fun z => absurd z (show ¬ ("word" : Str) = "name" by decide +kernel)⟩
  · have hp : p = (("new" : Str), nm) ∨ p = (("word" : Str), tx) := by simpa using hp
    rcases hp with rfl | rfl
    · exact ⟨fun z => absurd z (show ¬ ("new" : Str) = "name" by decide +kernel), fun z => absurd z (show ¬ ("new" : Str) = "number" by decide +kernel)⟩
    · exact ⟨fun z => absurd z (show ¬ ("word" : Str) = "name" by decide +kernel), fun z => absurd z (show ¬ ("word" : Str) = "number" by decide +kernel)⟩
def WdOk (S : St) (k w : Str) : Prop := (k = "new" → nmB w = true) ∧ (k = "name" → hasN S w = true) ∧ (k = "number" → (∃ v, numT w = some v) ∧ w.length ≤ 20000 ∧ Fg w)
theorem wds_ok {S : St} {ks ws : List Str} (h : ∀ p, p ∈ ks.zip ws → WdOk S p.1 p.2) : NmsOk S ks ws ∧ HndOk S ks ws := ⟨fun p hp => ⟨(h p hp).1, (h p hp).2.1⟩, fun p hp => (h p hp).2⟩
theorem wo_new {S : St} {w : Str} (h : nmB w = true) : WdOk S "new" w := ⟨fun _ => h, fun z => absurd z (by decide +kernel), fun z => absurd z (by decide +kernel)⟩
theorem wo_name {S : St} {w : Str} (h : hasN S w = true) : WdOk S "name" w := ⟨fun z => absurd z (by decide +kernel), fun _ => h, fun z => absurd z (by decide +kernel)⟩
theorem wo_num {S : St} {i : Int} (h : 0 ≤ i) (hi : i < 10 ^ 25) : WdOk S "number" (toString i : Str) := ⟨fun z => absurd z (by decide +kernel), fun z => absurd z (by decide +kernel), fun _ => ⟨⟨i, numT_nat h⟩, by have := (len_num h hi).1; omega, (len_num h hi).2⟩⟩
theorem has_of {S : St} {x : Str} {e : B91} (h : getS S x = some e) : hasN S x = true := by rw [← getS_has, h]; rfl
structure WO (S : St) (k w : Str) : Prop where
  wd : Wd w
  len : w.length ≤ 100
  ok : WdOk S k w
theorem WO.new {S : St} {w : Str} (h : nmB w = true) : WO S "new" w := ⟨(wd_nm h).1, by have := (wd_nm h).2; omega, wo_new h⟩
theorem WO.name {S : St} {w : Str} (h : nmB w = true) (hs : hasN S w = true) : WO S "name" w := ⟨(wd_nm h).1, by have := (wd_nm h).2; omega, wo_name hs⟩
theorem WO.num {S : St} {i : Int} (h : 0 ≤ i) (hi : i < 10 ^ 25) : WO S "number" (toString i : Str) := ⟨wd_num h, by have := (len_num h hi).1; omega, wo_num h hi⟩
abbrev WsOk (S : St) (ps : List (Str × Str)) : Prop := ∀ p, p ∈ ps → WO S p.1 p.2
theorem wk_nil {S : St} : WsOk S [] := fun p h => by cases h
theorem wk_cons {S : St} {k w : Str} {ps : List (Str × Str)} (h : WO S k w) (r : WsOk S ps) : WsOk S ((k, w) :: ps) := fun p hp => by
  rcases List.mem_cons.mp hp with rfl | hp
  · exact h
  · exact r p hp
theorem zip_ps : ∀ (ps : List (Str × Str)) (more : List Str), (ps.map (·.1) ++ more).zip (ps.map (·.2)) = ps
  | [], more => by simp
  | p :: ps, more => by
    rw [List.map_cons, List.map_cons, List.cons_append, List.zip_cons_cons, zip_ps ps more]
theorem ln_ps {S : St} {w0 : Str} (ps : List (Str × Str)) (more : List Str) (hk : kindsOf w0 = some (ps.map (·.1) ++ more)) (hn : ¬ w0 = "net") (h0 : Wd w0 ∧ w0.length ≤ 100) (hm : more = [] ∨ more.length = 1 ∧ shortB w0 = true) (h : WsOk S ps) : LnOk S (Txt.join " " (w0 :: ps.map (·.2))) w0 (ps.map (·.2)) (ps.map (·.1) ++ more) := by
  obtain ⟨a, b⟩ := wds_ok (S := S) (ks := ps.map (·.1) ++ more) (ws := ps.map (·.2)) fun p hp => by
    rw [zip_ps] at hp
    exact (h p hp).ok
  refine ln_of hk hn (fun w hw => ?_) ?_ (fun w hw => ?_) a b
  · rcases List.mem_cons.mp hw with rfl | hw
    · exact h0.1
    · obtain ⟨p, hp, rfl⟩ := List.mem_map.mp hw
      exact (h p hp).wd
  · rcases hm with rfl | ⟨hm, hs⟩
    · exact .inl (by simp)
    · exact .inr ⟨by simp [hm], hs⟩
  · rcases List.mem_cons.mp hw with rfl | hw
    · exact h0.2
    · obtain ⟨p, hp, rfl⟩ := List.mem_map.mp hw
      exact (h p hp).len
theorem wOf_ne {n a b : Nat} {ts : List Tie} {w : Int} (F : NetFacts n ts) (h : wOf ts a b = some w) : a ≠ b := by
  obtain ⟨u, hu, e⟩ := edges_mem (wOf_mem h)
  have := F.lt u hu
  rcases e with e | e <;> cases e <;> omega
theorem has_put {ks : List (List Key)} {q : List Key} (h : q ∈ ks) : putKs ks q = ks := by
  unfold putKs
  rw [if_pos]
  unfold hasK
  exact List.any_eq_true.mpr ⟨q, h, decide_eq_true rfl⟩
/-- a weight told anew -/
theorem DkD.ch {n a b : Nat} {ts : List Tie} {kk : List (Nat × Nat)} {ds : List D} {w0 v : Int} (O : DkD n ts kk ds) (hw : wOf ts a b = some w0) (hv : 1 ≤ v ∧ v < 10 ^ 100) : DkD n (chW ts a b v) kk (putL ((kk.map pk2).map intK) ds (intK [(a : Int), (b : Int)]) (.int v)) ∧ putKs ((kk.map pk2).map intK) (intK [(a : Int), (b : Int)]) = (kk.map pk2).map intK := by
  have F := O.F
  have ab := wOf_ne F hw
  have G := chW_facts (a := a) (b := b) F hv.1
  have mem : intK [(a : Int), (b : Int)] ∈ (kk.map pk2).map intK := by
    rw [List.map_map]
    exact List.mem_map.mpr ⟨(a, b), O.pm.mem_iff.mpr ((keysN_mem F).mpr ⟨w0, hw⟩), rfl⟩
  have pk := has_put mem
  have ln : ((kk.map pk2).map intK).length = ds.length := by rw [List.length_map, List.length_map]; exact O.ln
  have pl := (put_len (q := intK [(a : Int), (b : Int)]) (x := D.int v) ln).1
  refine ⟨⟨G, ?_, ?_, fun c d => ?_, fun t ht => ?_⟩, pk⟩
  · refine (List.perm_ext_iff_of_nodup (O.pm.nodup_iff.mpr (keysN_nd F)) (keysN_nd G)).mpr fun p => ?_
    rw [O.pm.mem_iff, keysN_mem F, keysN_mem G, wOf_ch F ab hv.1]
    by_cases c : p.1 = a ∧ p.2 = b
    · rw [if_pos c, c.1, c.2, hw]
      exact ⟨fun _ => ⟨v, rfl⟩, fun _ => ⟨w0, rfl⟩⟩
    · rw [if_neg c]
  · rw [pk, List.length_map, List.length_map] at pl
    exact pl
  · have e := look_put (q := intK [(a : Int), (b : Int)]) (j := intK [(c : Int), (d : Int)]) (x := D.int v) ln
    rw [pk] at e
    rw [e, O.lk, wOf_ch F ab hv.1, hw]
    by_cases q : c = a ∧ d = b
    · rw [if_pos (by rw [q.1, q.2]), if_pos q]
      rfl
    · rw [if_neg (fun z => q (by have := intK2 z; omega)), if_neg q]
  · unfold chW at ht
    obtain ⟨u, hu, rfl⟩ := List.mem_map.mp ht
    have := O.bd u hu
    unfold chT
    split
    · exact ⟨hv.2, this.2⟩
    · split
      · exact ⟨this.1, hv.2⟩
      · exact this
theorem inj_map {α β : Type} (f : α → β) : ∀ (L : List α), (L.map f).Nodup → ∀ p q, p ∈ L → q ∈ L → f p = f q → p = q := fun L => by
  induction L with
  | nil => intro _ p q hp; cases hp
  | cons r L ih =>
    intro nd p q hp hq he
    obtain ⟨n1, n2⟩ := List.nodup_cons.mp nd
    rcases List.mem_cons.mp hp with ep | hp' <;> rcases List.mem_cons.mp hq with eq | hq'
    · rw [ep, eq]
    · exact absurd (List.mem_map.mpr ⟨q, hq', by rw [← he, ep]⟩) n1
    · exact absurd (List.mem_map.mpr ⟨p, hp', by rw [he, eq]⟩) n1
    · exact ih n2 p q hp' hq' he
theorem nd_map {α β : Type} (f : α → β) {L kk : List α} (few : (L.map f).Nodup) (nd : kk.Nodup) (inn : ∀ p, p ∈ kk → p ∈ L) : (kk.map f).Nodup :=
  List.pairwise_map.mpr (nd.imp_of_mem fun {p q} hp hq ne he => ne (inj_map f L few p q (inn p hp) (inn q hq) he))
theorem hash_map (w : World) (f : Nat × Nat → Int) (h : ∀ p, reduceHash (Builtin.Tuple.tupleHashOf ((intK (pk2 p)).map (keyH w))) = f p) (kk : List (Nat × Nat)) (nd : (kk.map f).Nodup) : BV.Hashed w ((kk.map pk2).map intK) := by
  have e : kk.map f = kk.map (fun p => reduceHash (Builtin.Tuple.tupleHashOf ((intK (pk2 p)).map (keyH w)))) := List.map_congr_left fun p _ => (h p).symm
  rw [e] at nd
  have g : ∀ (F : List Key → Int) (kk : List (Nat × Nat)), ((kk.map pk2).map intK).map F = kk.map fun p => F (intK (pk2 p)) := fun F kk => by
    induction kk with
    | nil => rfl
    | cons p kk ih => rw [List.map_cons, List.map_cons, List.map_cons, List.map_cons, ih]
  unfold BV.Hashed
  rw [g]
  exact nd
theorem hash_is (w : World) (p : Nat × Nat) : reduceHash (Builtin.Tuple.tupleHashOf ((intK (pk2 p)).map (keyH w))) = hashP p := by
  unfold hashP
  refine congrArg (fun l => reduceHash (Builtin.Tuple.tupleHashOf l)) ?_
  rfl
theorem in_sq {p : Nat × Nat} (h1 : p.1 < 12) (h2 : p.2 < 12) : p ∈ (List.range 12).flatMap fun a => (List.range 12).map fun b => (a, b) :=
  List.mem_flatMap.mpr ⟨p.1, List.mem_range.mpr h1, List.mem_map.mpr ⟨p.2, List.mem_range.mpr h2, rfl⟩⟩
theorem hash_all {n : Nat} {ts : List Tie} {kk : List (Nat × Nat)} {ds : List D} (O : DkD n ts kk ds) (w : World) : BV.Hashed w ((kk.map pk2).map intK) := by
  refine hash_map w hashP (hash_is w) kk (nd_map hashP hashP_few (O.pm.nodup_iff.mpr (keysN_nd O.F)) fun p hp => ?_)
  obtain ⟨v, hv⟩ := (keysN_mem O.F).mp (O.pm.mem_iff.mp hp)
  have := wOf_lt O.F hv
  have n2 := O.F.n2
  exact in_sq (by omega) (by omega)
theorem getS_mem {S : St} {x : Str} {e : B91} (h : getS S x = some e) : (x, e) ∈ S := by
  unfold getS at h
  obtain ⟨p, hp, rfl⟩ := Option.map_eq_some_iff.mp h
  have := of_decide_eq_true (p := p.1 = x) (List.find?_some (p := fun p : Str × B91 => decide (p.1 = x)) hp)
  have m := List.mem_of_find?_eq_some hp
  rw [← this]
  exact m
theorem mem_get {S : St} {x : Str} (h : x ∈ S.map (·.1)) : ∃ e, getS S x = some e := by
  obtain ⟨p, hp, rfl⟩ := List.mem_map.mp h
  have : hasN S p.1 = true := List.any_eq_true.mpr ⟨p, hp, decide_eq_true rfl⟩
  rw [← getS_has] at this
  exact Option.isSome_iff_exists.mp this
structure StOk (S : St) : Prop where
  nm : ∀ p, p ∈ S → nmB p.1 = true
  ok : ∀ p, p ∈ S → dkOk p.2
  few : S.length < 64
theorem StOk.desk {S : St} (h : StOk S) : DeskOk S := ⟨h.few, fun p hp => by have := (wd_nm (h.nm p hp)).2; omega⟩
theorem join_two (a b : Str) : Txt.join " " [a, b] = a ++ " " ++ b := TL.ext_tl (by
  rw [tl_joinS, TL.tl_append, TL.tl_append, tl_sp, List.append_assoc]
  rfl)
theorem drop_line (nm : Str) : "drop " ++ nm = Txt.join " " ["drop", nm] := by
  rw [join_two]
  exact TL.ext_tl (by
    rw [TL.tl_append, TL.tl_append, TL.tl_append, tl_sp]
    exact congrArg (· ++ TL.tl nm) (show TL.tl ("drop " : Str) = TL.tl ("drop" : Str) ++ [32] by decide +kernel))
/-- a deed, told -/
def DeedR (S : St) (d : D) : Prop := ∃ (nm line : Str) (S' : St), TelM S line nm S' ∧ nmB nm = true ∧ ((d = .tup [.str nm, .non, .str line] ∧ S' = dropS S nm ∧ hasN S nm = true) ∨ ∃ e : B91, d = .tup [.str nm, dkNet e, .str line] ∧ S' = putS S nm e ∧ dkOk e)
theorem deed_drop {S : St} {nm : Str} (h : nmB nm = true) (hs : hasN S nm = true) : DeedR S (.tup [.str nm, .non, .str ("drop " ++ nm)]) := by
  refine ⟨nm, _, _, .drop (ks := ["name"]) ?_ hs, h, .inl ⟨rfl, rfl, hs⟩⟩
  rw [drop_line]
  exact ln_ps [("name", nm)] [] (show kindsOf "drop" = some (["name"] : List Str) by decide +kernel) (by decide +kernel) (by decide +kernel) (.inl rfl) (wk_cons (.name h hs) wk_nil)
theorem deed_tx {e : B91} {hs : List Tie} (X : Hd e.1.1 e.1.2 hs) (few : e.1.2.length ≤ 40) (ws : ∀ t, t ∈ e.1.2 → (1 ≤ t.2.2.1 ∧ t.2.2.1 ≤ 60) ∧ 1 ≤ t.2.2.2 ∧ t.2.2.2 ≤ 60) : (netS e.1.1 hs).length ≤ 1800 ∧ TxOk (netS e.1.1 hs) := by
  have l : hs.length ≤ 40 := by
    have := X.h.pm.length_eq
    rw [List.length_map] at this
    omega
  have n2 := X.F.n2
  have n7 : ∀ t, t ∈ hs → N7 t := fun t ht => by
    obtain ⟨u, hu, f⟩ := X.h.ea t ht
    have a := X.F.lt u hu
    have b := ws u hu
    rcases f with rfl | rfl
    · exact ⟨by omega, by omega, by omega, by omega⟩
    · exact ⟨by show 0 ≤ u.2.1 ∧ u.2.1 < _; omega, by show 0 ≤ u.1 ∧ u.1 < _; omega, by show 0 ≤ u.2.2.2 ∧ u.2.2.2 < _; omega, by show 0 ≤ u.2.2.1 ∧ u.2.2.1 < _; omega⟩
  have tx := tx_netB n2.2 l (by decide) n7
  exact ⟨by rw [TL.len_tl]; exact tx.len, ok_of (n := 1800) (by decide) ⟨tx.len, tx.fg, Nat.le_trans tx.cnt (by decide), tx.pl⟩⟩
theorem deed_net {S : St} {nm : Str} {e : B91} {hs : List Tie} (h : nmB nm = true) (o : dkOk e) (X : Hd e.1.1 e.1.2 hs) (tx : (netS e.1.1 hs).length ≤ 1800 ∧ TxOk (netS e.1.1 hs)) : DeedR S (.tup [.str nm, dkNet e, .str ("net " ++ nm ++ " " ++ netS e.1.1 hs)]) := by
  have o' : DkD e.1.1 e.1.2 e.2.1 e.2.2 := o
  have m := Mkl.net (S := S) (x := nm) tx.2 (rd_hd X (X.nums o'))
  rw [srt_hd X] at m
  exact ⟨nm, _, _, .mk (ln_net h (by have := tx.1; omega)) m, h, .inr ⟨e, rfl, rfl, o⟩⟩
theorem deed_weigh {S : St} {nm : Str} {e : B91} {a b : Nat} {w0 v : Int} (h : nmB nm = true) (hg : getS S nm = some e) (o : dkOk e) (hw : wOf e.1.2 a b = some w0) (hv : 1 ≤ v ∧ v < 10 ^ 25) : DeedR S (.tup [.str nm, .tup [.int (e.1.1 : Int), .dct (putKs ((e.2.1.map pk2).map intK) (intK [(a : Int), (b : Int)])) (putL ((e.2.1.map pk2).map intK) e.2.2 (intK [(a : Int), (b : Int)]) (.int v))], .str (Txt.join " " ["weigh", nm, toString (a : Int), toString (b : Int), toString v])]) := by
  have o' : DkD e.1.1 e.1.2 e.2.1 e.2.2 := o
  have big : (10 : Int) ^ 25 < 10 ^ 100 := by decide +kernel
  obtain ⟨o2, pk⟩ := o'.ch hw ⟨hv.1, by omega⟩
  have lt := wOf_lt o'.F hw
  have n2 := o'.F.n2
  have b25 : (12 : Int) < 10 ^ 25 := by decide +kernel
  rw [pk]
  have L := ln_ps (S := S) (w0 := "weigh") [("name", nm), ("number", toString (a : Int)), ("number", toString (b : Int)), ("number", toString v)] [] kinds_weigh (by decide +kernel) (by decide +kernel) (.inl rfl) (wk_cons (.name h (has_of hg)) (wk_cons (.num (by omega) (by omega)) (wk_cons (.num (by omega) (by omega)) (wk_cons (.num (by omega) hv.2) wk_nil))))
  exact ⟨nm, _, _, .mk (e := ((e.1.1, chW e.1.2 a b v), e.2.1, _)) L (Mkl.weigh hg o (numT_nat (by omega)) (numT_nat (by omega)) (numT_nat (by omega)) hv.1 hw), h, .inr ⟨((e.1.1, chW e.1.2 a b v), e.2.1, putL ((e.2.1.map pk2).map intK) e.2.2 (intK [(a : Int), (b : Int)]) (.int v)), rfl, rfl, o2⟩⟩
theorem deed_fall {S : St} {nm one : Str} {e : B91} {fl : Fll} (h : nmB nm = true) (h1 : nmB one = true) (hg : getS S one = some e) (o : dkOk e) (hf : FllOk e.1.1 e.1.2 fl) : DeedR S (.tup [.str nm, dkNet (dkLess e fl), .str (Txt.join " " ("fall" :: nm :: one :: fl.L.map fun i => toString i))]) := by
  have o' : DkD e.1.1 e.1.2 e.2.1 e.2.2 := o
  have n2 := o'.F.n2
  have b25 : (12 : Int) < 10 ^ 25 := by decide +kernel
  cases fl with
  | tie a b =>
    obtain ⟨w0, hw⟩ := hf
    have lt := wOf_lt o'.F hw
    have L := ln_ps (S := S) (w0 := "fall") [("new", nm), ("name", one), ("number", toString (a : Int)), ("number", toString (b : Int))] [] kinds_fall (by decide +kernel) (by decide +kernel) (.inl rfl) (wk_cons (.new h) (wk_cons (.name h1 (has_of hg)) (wk_cons (.num (by omega) (by omega)) (wk_cons (.num (by omega) (by omega)) wk_nil))))
    exact ⟨nm, _, _, .mk (e := dkLess e (.tie a b)) L (Mkl.tie hg o (numT_nat (by omega)) (numT_nat (by omega)) hw), h, .inr ⟨_, rfl, rfl, o'.less _⟩⟩
  | house a =>
    have hf : a < e.1.1 := hf
    have L := ln_ps (S := S) (w0 := "fall") [("new", nm), ("name", one), ("number", toString (a : Int))] ["number"] kinds_fall (by decide +kernel) (by decide +kernel) (.inr ⟨rfl, by decide +kernel⟩) (wk_cons (.new h) (wk_cons (.name h1 (has_of hg)) (wk_cons (.num (by omega) (by omega)) wk_nil)))
    exact ⟨nm, _, _, .mk (e := dkLess e (.house a)) L (Mkl.house hg o (numT_nat (by omega)) hf), h, .inr ⟨_, rfl, rfl, o'.less _⟩⟩
abbrev stD (S : St) : D := .dki (nmK S) (lawD S)
abbrev sp_deed (K : PySem.W.Frag) : Sp := spE K (fun x : St × List Str × List Int => StOk x.1 ∧ x.2.1.length = 5 ∧ (∀ n, n ∈ x.2.1 → nmB n = true) ∧ Dw x.2.2 ∧ 26 ≤ x.2.2.length ∧ x.2.2.length ≤ 100) (fun x => [(true, stD x.1), (true, .lst (x.2.1.map .str)), (true, .lst (x.2.2.map .int))]) (fun x d => DeedR x.1 d)
theorem cal_deed (T : Tx K mg C fI CD fD) : Cal P w K mg base 3 "_law_deed" (sp_deed K) := by
  refine T.d__law_deed.e sc__law_deed (fun _ => rfl) (by decide) (fun _ _ _ _ _ _ us hl => match us, hl with | [_, _, _], _ => rfl) (fun f cdv A outer s H E hr x hx => ?_)
  have hu := hu_of hr
  have hu64 := hu64_of hr
  refine ⟨_, (pss_cons (ps_set (i := 3) sc__law_deed.nd rfl (Or.inl rfl) (pe_ix ix_list (pe_lst (pa_cons pe_str (pa_cons pe_str (pa_cons pe_str (pa_cons pe_str (pa_cons pe_str (pa_cons pe_str (pa_cons pe_str (pa_cons pe_str pa_nil))))))))) (pe_op op_mod (pe_ix ix_list (pv 2) pe_int (fun _ _ => rfl)) pe_int) (fun _ _ => rfl))) (pss_cons (ps_set (i := 4) sc__law_deed.nd rfl (Or.inl rfl) (pe_ix ix_list (pv 1) (pe_op op_mod (pe_ix ix_list (pv 2) pe_int (fun _ _ => rfl)) (pe_callB call_len_seq (by rfl) T.z_len PySem.boot_len (pa_cons (pv 1) pa_nil))) (fun _ _ => rfl))) (pss_cons (ps_if (pt_cmpR (op_eqE hu64) (pv 0) pe_dnewK (nomark _)) (pss_one (ps_set (i := 3) sc__law_deed.nd rfl (Or.inl rfl) pe_str)) pss_nil) (pss_cons (ps_if (pt_cmpR op_in_seq (pv 3) (pe_tup (pa_cons pe_str (pa_cons pe_str pa_nil))) (by with_unfolding_all rfl)) (pss_one (ps_set (i := 4) sc__law_deed.nd rfl (Or.inl rfl) (pe_ix ix_list (pe_callTy (cr_listK rfl) (by rfl) T.z_list (by decide +kernel) (pa_cons (pv 0) pa_nil)) (pe_op op_mod (pe_ix ix_list (pv 2) pe_int (fun _ _ => rfl)) (pe_callB cr_lenR (by rfl) T.z_len PySem.boot_len (pa_cons (pv 0) pa_nil))) (fun _ _ => rfl)))) pss_nil) (pss_cons (ps_if (pt_cmpR op_eq (pv 3) pe_str (nomark _)) (pss_one (ps_ret (pe_tup (pa_cons (pv 4) (pa_cons pe_non (pa_cons (pe_op op_add_str pe_str (pv 4)) pa_nil)))))) pss_nil) (pss_cons (ps_if (pt_cmpR op_eq (pv 3) pe_str (nomark _)) (pss_cons (ps_set (i := 5) sc__law_deed.nd rfl (Or.inl rfl) (pe_cal (cal_dnet T) hr (by first | decide | exact Nat.le_refl _) (by rfl) (pa_cons (pe_slice sl_list (pv 2) (po_some pe_int) po_none) pa_nil))) (pss_one (ps_ret (pe_tup (pa_cons (pv 4) (pa_cons (pv 5) (pa_cons (pe_op op_add_str (pe_op op_add_str (pe_op op_add_str pe_str (pv 4)) pe_str) (pe_cal (cal_spread T) hr (by first | decide | exact Nat.le_refl _) (by rfl) (pa_cons (pv 5) (pa_cons (pe_ix ix_list (pv 2) pe_int (fun _ _ => rfl)) pa_nil)))) pa_nil))))))) pss_nil) (pss_cons (ps_if (PW.pt (pw_and (pt_cmpR op_eq (pv 3) pe_str (nomark _)) (pw_and1 (pt_cmpR (op_neE hu64) (pe_ix ix_tup (pe_dget hu (pv 0) (pv 4) (fun _ _ => rfl)) pe_int (fun _ _ => rfl)) pe_dnewK (nomark _))))) (pss_cons (ps_asg (pe_dget hu (pv 0) (pv 4) (fun _ _ => rfl)) (pg_tup rfl (pgs_cons (pg_name (i := 6) sc__law_deed.nd rfl (Or.inl rfl)) (pgs_cons (pg_name (i := 7) sc__law_deed.nd rfl (Or.inl rfl)) pgs_nil)))) (pss_cons (ps_asg (pe_ix ix_list (pe_callB (cr_sortT rfl hu64) (by rfl) T.z_sorted (by decide +kernel) (pa_cons (pv 7) pa_nil)) (pe_op op_mod (pe_ix ix_list (pv 2) pe_int (fun _ _ => rfl)) (pe_callB cr_lenR (by rfl) T.z_len PySem.boot_len (pa_cons (pv 7) pa_nil))) (fun _ _ => rfl)) (pg_tup rfl (pgs_cons (pg_name (i := 8) sc__law_deed.nd rfl (Or.inl rfl)) (pgs_cons (pg_name (i := 9) sc__law_deed.nd rfl (Or.inl rfl)) pgs_nil)))) (pss_cons (ps_set (i := 10) sc__law_deed.nd rfl (Or.inl rfl) (pe_ix ix_list (pv 2) pe_int (fun _ _ => rfl))) (pss_cons (ps_set (i := 11) sc__law_deed.nd rfl (Or.inl rfl) (pe_ix ix_list (pe_lst (pa_cons (pe_op op_add pe_int (pe_op op_mod (pv 10) pe_int)) (pa_cons (pe_op op_add pe_int (pe_op op_mod (pv 10) pe_int)) (pa_cons pe_int (pa_cons pe_int (pa_cons (pe_op op_add (pe_op op_pow pe_int pe_int) (pv 10)) pa_nil)))))) (pe_op op_mod (pe_op op_fdiv (pv 10) pe_int) pe_int) (fun _ _ => rfl))) (pss_cons (ps_set (i := 12) sc__law_deed.nd rfl (Or.inl rfl) (pe_callTy (cr_dictT hu64) (by rfl) T.z_dict (by decide +kernel) (pa_cons (pv 7) pa_nil))) (pss_cons (ps_dput hu (pv 12) (pe_tup (pa_cons (pv 8) (pa_cons (pv 9) pa_nil))) (pv 11) rfl) (pss_one (ps_ret (pe_tup (pa_cons (pv 4) (pa_cons (pe_tup (pa_cons (pv 6) (pa_cons (pv 12) pa_nil))) (pa_cons (pe_join pe_str (pe_lst (pa_cons pe_str (pa_cons (pv 4) (pa_cons (pe_callTy call_str_int (by rfl) T.z_str (by decide +kernel) (pa_cons (pv 8) pa_nil)) (pa_cons (pe_callTy call_str_int (by rfl) T.z_str (by decide +kernel) (pa_cons (pv 9) pa_nil)) (pa_cons (pe_callTy call_str_int (by rfl) T.z_str (by decide +kernel) (pa_cons (pv 11) pa_nil)) pa_nil))))))) pa_nil)))))))))))) pss_nil) (pss_cons (ps_set (i := 13) sc__law_deed.nd rfl (Or.inl rfl) (pe_ix ix_list (pe_callTy (cr_listK rfl) (by rfl) T.z_list (by decide +kernel) (pa_cons (pv 0) pa_nil)) (pe_op op_mod (pe_ix ix_list (pv 2) pe_int (fun _ _ => rfl)) (pe_callB cr_lenR (by rfl) T.z_len PySem.boot_len (pa_cons (pv 0) pa_nil))) (fun _ _ => rfl))) (pss_cons (ps_set (i := 14) sc__law_deed.nd rfl (Or.inl rfl) (pe_lst (pa_cons (pe_op op_mod (pe_ix ix_list (pv 2) pe_int (fun _ _ => rfl)) (pe_ix ix_tup (pe_dget hu (pv 0) (pv 13) (fun _ _ => rfl)) pe_int (fun _ _ => rfl))) pa_nil))) (pss_cons (ps_set (i := 15) sc__law_deed.nd rfl (Or.inl rfl) (pe_callB (cr_sortT rfl hu64) (by rfl) T.z_sorted (by decide +kernel) (pa_cons (pe_ix ix_tup (pe_dget hu (pv 0) (pv 13) (fun _ _ => rfl)) pe_int (fun _ _ => rfl)) pa_nil))) (pss_cons (ps_if (PW.pt (pw_and (pt_cmpR op_eq (pe_op op_mod (pe_ix ix_list (pv 2) pe_int (fun _ _ => rfl)) pe_int) pe_int (nomark _)) (pw_and1 (pt_cmpR (op_neD hu64) (pv 15) (pe_lst pa_nil) (nomark _))))) (pss_one (ps_set (i := 14) sc__law_deed.nd rfl (Or.inl rfl) (pe_callTy call_list_of (by rfl) T.z_list (by decide +kernel) (pa_cons (pe_ix ix_list (pv 15) (pe_op op_mod (pe_ix ix_list (pv 2) pe_int (fun _ _ => rfl)) (pe_callB call_len_seq (by rfl) T.z_len PySem.boot_len (pa_cons (pv 15) pa_nil))) (fun _ _ => rfl)) pa_nil)))) pss_nil) (pss_cons (ps_set (i := 16) sc__law_deed.nd rfl (Or.inl rfl) (pe_join pe_str (pe_op op_cat (pe_lst (pa_cons pe_str (pa_cons (pv 4) (pa_cons (pv 13) pa_nil)))) (pe_lc (own := [("_law_house", 17)]) rfl sc__law_deed.nd (pi_list (pv 14)) (blkOk_by (N := N__law_deed) (sc := defScope s__law_deed) (by decide +kernel)) (fun _ _ _ _ _ => (pg_name (i := 17) sc__law_deed.nd rfl (Or.inl rfl))) (fun _ _ _ _ _ => pts_nil) (fun _ _ _ _ _ => (pe_callTy call_str_int (by rfl) T.z_str (by decide +kernel) (pa_cons (pv 17) pa_nil))))))) (pss_one (ps_ret (pe_tup (pa_cons (pv 4) (pa_cons (pe_cal (cal_lwithout T) hr (by first | decide | exact Nat.le_refl _) (by rfl) (pa_cons (pe_dget hu (pv 0) (pv 13) (fun _ _ => rfl)) (pa_cons (pv 14) pa_nil))) (pa_cons (pv 16) pa_nil)))))))))))))))))), ?_⟩
  obtain ⟨S, ns, ys⟩ := x
  obtain ⟨hS, n5, hn, hd, l26, l100⟩ := hx
  have hS : StOk S := hS
  have n5 : ns.length = 5 := n5
  have hn : ∀ n, n ∈ ns → nmB n = true := hn
  have hd : Dw ys := hd
  have l26 : 26 ≤ ys.length := l26
  have l100 : ys.length ≤ 100 := l100
  have few := hS.few
  let fr (c3 c4 c5 c6 c7 c8 c9 c10 c11 c12 c13 c14 c15 c16 : Sl) : List Sl := [.sh (stD S), .sh (.lst (ns.map .str)), .sh (.lst (ys.map .int)), c3, c4, c5, c6, c7, c8, c9, c10, c11, c12, c13, c14, c15, c16, .no]
  have ix : ∀ (ρ : List Sl) (k : Nat), k < ys.length → ρ[2]? = some (.sh (.lst (ys.map .int))) → ED K (tOp (rIxL K) (tVar 2) (tC (.int (k : Int)))) ρ (.int (ys.getD k 0)) := fun ρ k hk h => ed_ixL (l := k) (ed_var h) ed_int rfl (dw_at hk)
  have y0 := (hd.at (k := 0) (by omega)).2
  have y1 := (hd.at (k := 1) (by omega)).2
  have y2 := (hd.at (k := 2) (by omega)).2
  have y3 := (hd.at (k := 3) (by omega)).2
  have y4 := (hd.at (k := 4) (by omega)).2
  show SD K _ (fr .no .no .no .no .no .no .no .no .no .no .no .no .no .no) { nx := fun _ => False, rt := RE K fun d => DeedR S d }
  have lsl : ((nmK S).map fun _ => ()).length = S.length := by unfold nmK; rw [List.length_map, List.length_map, List.length_map]
  have len : ∀ ρ : List Sl, ρ[0]? = some (.sh (stD S)) → ED K (tCB rLenR (tCons (tVar 0) tNil)) ρ (.int (S.length : Int)) := fun ρ h => ed_is (ed_lenK (ed_er (ed_var h))) (by unfold nmK; rw [List.length_map, List.length_map])
  have pick : S ≠ [] → ∃ (j : Nat) (one : Str) (e : B91), ys.getD 2 0 % (S.length : Int) = (j : Int) ∧ (S.map (·.1))[j]? = some one ∧ getS S one = some e ∧ nmB one = true ∧ dkOk e := fun ne => by
    have l0 : 0 < S.length := List.length_pos_iff.mpr ne
    have z1 := Int.emod_nonneg (ys.getD 2 0) (show (S.length : Int) ≠ 0 by omega)
    have z2 := Int.emod_lt_of_pos (ys.getD 2 0) (show (0 : Int) < (S.length : Int) by omega)
    have lj : (ys.getD 2 0 % (S.length : Int)).toNat < (S.map (·.1)).length := by rw [List.length_map]; omega
    have m := List.getElem_mem lj
    obtain ⟨e, he⟩ := mem_get m
    have me := getS_mem he
    exact ⟨_, _, e, (Int.toNat_of_nonneg z1).symm, List.getElem?_eq_getElem lj, he, hS.nm _ me, hS.ok _ me⟩
  have oneAt : ∀ (ρ : List Sl) (j : Nat) (one : Str), ρ[0]? = some (.sh (stD S)) → ρ[2]? = some (.sh (.lst (ys.map .int))) → S ≠ [] → ys.getD 2 0 % (S.length : Int) = (j : Int) → (S.map (·.1))[j]? = some one → ED K (tOp (rIxL K) (tCB rListK (tCons (tVar 0) tNil)) (tOp (rI (fun x j => 0 < j) fun i j => V.int (i % j)) (tOp (rIxL K) (tVar 2) (tC (V.int 2))) (tCB rLenR (tCons (tVar 0) tNil)))) ρ (.str one) := fun ρ j one h0 h2 ne hj h => by
    have l0 : 0 < S.length := List.length_pos_iff.mpr ne
    exact ed_ixL (l := j) (ed_eo (eo_listK (ks := S.map fun p : Str × B91 => p.1) (ed_er (ed_var h0)))) (ed_iC (ix ρ 2 (by omega) h2) (len ρ h0) (by show (0 : Int) < _; omega)) hj (by rw [List.getElem?_map, h]; rfl)
  let KL : List Str := ["net", "weigh", "fall", "drop", "weigh", "net", "fall", "weigh"]
  obtain ⟨kd, hkd⟩ : ∃ kd, KL[(ys.getD 0 0 % 8).toNat]? = some kd := ⟨_, List.getElem?_eq_getElem (show (ys.getD 0 0 % 8).toNat < 8 by omega)⟩
  have kd4 : ∀ k, k ∈ KL → k = "net" ∨ k = "weigh" ∨ k = "fall" ∨ k = "drop" := by decide +kernel
  have kd4 := kd4 kd (List.mem_of_getElem? hkd)
  refine sd_seq (sd_asg (d := .str kd) (ed_ixL (l := (ys.getD 0 0 % 8).toNat) (ds := KL.map D.str) (ed_eo (eo_lst (eb_cons ed_str (eb_cons ed_str (eb_cons ed_str (eb_cons ed_str (eb_cons ed_str (eb_cons ed_str (eb_cons ed_str (eb_cons ed_str eb_nil)))))))))) (ed_iC (ix _ 0 (by omega) rfl) ed_int (by walk_at "side")) (by omega) (by rw [List.getElem?_map, hkd]; rfl)) ?_)
  obtain ⟨n0, hn0⟩ : ∃ n0, ns[(ys.getD 1 0 % 5).toNat]? = some n0 := ⟨_, List.getElem?_eq_getElem (show (ys.getD 1 0 % 5).toNat < ns.length by omega)⟩
  have b0 := hn n0 (List.mem_of_getElem? hn0)
  refine sd_seq (sd_asg (d := .str n0) (ed_ixL (l := (ys.getD 1 0 % 5).toNat) (ed_var rfl) (ed_iC (ix _ 1 (by omega) rfl) (ed_is (ed_len (ds := ns.map .str) (ed_er (ed_var rfl))) (show D.int ((ns.map D.str).length : Int) = .int 5 by rw [List.length_map, n5]; rfl)) (by show (0 : Int) < 5; decide)) (by omega) (by rw [List.getElem?_map, hn0]; rfl)) ?_)
  -- the kind
  refine sd_mid (fun r => ∃ kd : Str, (kd = "net" ∨ kd = "weigh" ∨ kd = "fall" ∨ kd = "drop") ∧ (S = [] → kd = "net") ∧ r = fr (.sh (.str kd)) (.sh (.str n0)) .no .no .no .no .no .no .no .no .no .no .no .no) (sd_if (et_test (ed_emK (ed_er (ed_var rfl)))) (fun _ => sd_asg (d := .str "net") ed_str ⟨"net", .inl rfl, fun _ => rfl, rfl⟩) fun h => sd_next ⟨kd, kd4, fun z => by subst z; exact absurd h (by decide), rfl⟩) ?_
  clear kd4 hkd
  rintro r ⟨kd, kd4, kde, rfl⟩
  -- the name
  refine sd_mid (fun r => ∃ nm : Str, nmB nm = true ∧ (kd = "weigh" ∨ kd = "drop" → ∃ e, getS S nm = some e ∧ dkOk e) ∧ r = fr (.sh (.str kd)) (.sh (.str nm)) .no .no .no .no .no .no .no .no .no .no .no .no) (sd_if (b := decide ("weigh" = kd) || (decide ("drop" = kd) || false)) (et_is (et_test (ed_inTp (ds := (["weigh", "drop"] : List Str).map D.str) (d := .str kd) (ed_var rfl) (ed_er (ed_tup (eb_cons ed_str (eb_cons ed_str eb_nil)))) (all_str _) rfl)) (any_str _ _)) (fun h => ?_) fun h => sd_next ⟨n0, b0, fun z => ?_, rfl⟩) ?_
  · have ne : S ≠ [] := fun z => by
      rw [kde z] at h
      exact absurd h (by decide +kernel)
    obtain ⟨j, one, e, hj, h1, h2, h3, h4⟩ := pick ne
    exact sd_asg (d := .str one) (oneAt _ j one rfl rfl ne hj h1) ⟨one, h3, fun _ => ⟨e, h2, h4⟩, rfl⟩
  · exfalso
    rcases z with rfl | rfl <;> exact absurd h (by decide +kernel)
  rintro r ⟨nm, bn, gn, rfl⟩
  refine sd_seq (sd_if (b := decide (kd = "drop")) (et_test (ed_eqS (ed_var rfl) ed_str)) (fun h => ?_) fun h1 => sd_next ?_)
  · obtain ⟨e, he, o⟩ := gn (.inr (of_decide_eq_true h))
    have ln := (wd_nm bn).2
    have l5 : ("drop " : Str).length = 5 := by decide +kernel
    exact sd_retE (ed_tup (eb_cons (ed_var rfl) (eb_cons ed_non (eb_cons (ed_catS ed_str (ed_var rfl) (by rw [l5]; omega)) eb_nil)))) (deed_drop bn (has_of he)) fun _ _ _ _ z => z
  refine sd_seq (sd_if (b := decide (kd = "net")) (et_test (ed_eqS (ed_var rfl) ed_str)) (fun h => ?_) fun h2 => sd_next ?_)
  · have dz : Dw (ys.drop 6) := fun y hy => hd y (List.drop_subset _ _ hy)
    have lz : 20 ≤ (ys.drop 6).length ∧ (ys.drop 6).length ≤ 100 := by rw [List.length_drop]; omega
    have cut : BV.cutD (ys.map D.int) (some 6) none = (ys.drop 6).map D.int := by
      have e := HT.sIx_nat (ys.map D.int).length 0 6
      have e : HT.sIx (ys.map D.int).length 0 (some 6) = min 6 (ys.map D.int).length := e
      unfold BV.cutD
      rw [e, HT.sIx_none, List.length_map, Nat.min_eq_left (by omega), List.map_drop, List.take_of_length_le]
      rw [List.length_drop, List.length_map]
      exact Nat.le_refl _
    generalize ys.drop 6 = zs at dz lz cut
    obtain ⟨O, eD⟩ := dkT_dk dz lz.1
    have DK : DkOk (dkSize (zs.getD 1 0)) (pairsTo (dkN zs) (dkN zs)) (dkT zs) := dk_ok (wide ((zs.take 6).drop 2)) (wide ((zs.take 20).drop 6)) (zs.getD 1 0) (dkSize_bd (zs.getD 1 0)) (pairsTo (dkN zs) (dkN zs))
    let e : B91 := ((dkN zs, dkT zs), keysN (dkT zs), wVals (dkT zs))
    refine sd_seq (sd_asg (d := dkNet e) (ed_is (ed_call zs ⟨dz, lz.1, lz.2⟩ (ea_sh (ed_eo (eo_is (eo_sl (ed_var rfl) (ep_at ed_int) ep_no) (congrArg M.lst cut))) ea_nil)) (by show D.tup [.int (dkN zs : Int), dctD (dkT zs)] = _; rw [eD])) ?_)
    have l4 : ("net " : Str).length = 4 := by decide +kernel
    have l1 : (" " : Str).length = 1 := by decide +kernel
    have ln := (wd_nm bn).2
    have c1 : ("net " ++ nm : Str).length = 4 + nm.length := by rw [TL.len_tl, TL.tl_append, List.length_append, ← TL.len_tl, ← TL.len_tl, l4]
    have c2 : ("net " ++ nm ++ " " : Str).length = 4 + nm.length + 1 := by rw [TL.len_tl, TL.tl_append, List.length_append, ← TL.len_tl, ← TL.len_tl, c1, l1]
    refine sd_retW (em_tup (ema_cons (em_ed (ed_var rfl) ?_)))
    refine ema_cons (em_ed (ed_var rfl) ?_)
    refine ema_cons (em_op (em_ed (ed_catS (x := "net " ++ nm) (y := " ") (ed_catS ed_str (ed_var rfl) (by rw [l4]; omega)) ed_str (by rw [c1, l1]; omega)) ?_))
    refine em_callE (ema_cons (em_ed (ed_var rfl) (ema_cons (em_ed (ix _ 3 (by omega) rfl) (ema_nil ?_)))))
    refine ⟨(e, ys.getD 3 0), ⟨O, y3.1⟩, rfl, fun d hd => ?_⟩
    obtain ⟨hs, X, rfl⟩ := hd
    have X : Hd e.1.1 e.1.2 hs := X
    have tx := deed_tx X DK.few DK.ws
    have tl := tx.1
    refine ⟨.str ("net " ++ nm ++ " " ++ netS e.1.1 hs), ?_, ema_nil ⟨by show 3 ≤ 100000; decide, fun H0 S0 v H' r => ⟨_, deed_net bn O X tx, r⟩⟩⟩
    intro T H v u h1 h2 Q q
    exact ⟨_, _, h1.str_inv, h2.str_inv, by rw [sizeLine_eq, c2]; show 4 + nm.length + 1 + (netS e.1.1 hs).length ≤ _; omega, q _ (.str _)⟩
  have ne : S ≠ [] := fun z => by
    rw [kde z] at h2
    exact absurd h2 (by decide +kernel)
  have sumJ : ∀ l : List Str, (∀ x, x ∈ l → x.length ≤ 100) → l.length ≤ 5 → (l.map (·.length)).sum + l.length * (" " : Str).length ≤ 16777216 := fun l hl h5 => by
    have l1 : (" " : Str).length = 1 := by decide +kernel
    have s : ∀ l : List Str, (∀ x, x ∈ l → x.length ≤ 100) → (l.map (·.length)).sum ≤ 100 * l.length := fun l => by
      induction l with
      | nil => intro _; exact Nat.le_refl 0
      | cons x l ih =>
        intro h
        have := ih fun y hy => h y (List.mem_cons_of_mem _ hy)
        have := h x List.mem_cons_self
        rw [List.map_cons, List.sum_cons, List.length_cons]
        omega
    have := s l hl
    rw [l1]
    omega
  have lnm := (wd_nm bn).2
  have b25 : (12 : Int) < 10 ^ 25 := by decide +kernel
  have b100 : (10 : Int) ^ 25 < 10 ^ 100 := by decide +kernel
  have dg : ∀ (ρ : List Sl) (i : Nat) (x : Str) (e : B91), ρ[0]? = some (.sh (stD S)) → ρ[i]? = some (.sh (.str x)) → getS S x = some e → ED K (tDGet (tVar 0) (tVar i)) ρ (dkNet e) := fun ρ i x e h0 hi he => ed_dgetSs (ks := nmK S) (ds := lawD S) (ed_var h0) (ed_var hi) (by rw [look_law, he]; rfl)
  refine sd_seq (sd_if (b := decide (kd = "weigh") && (true ^^ (((match getS S nm with | some e => e.2.1 | none => []).map pk2).map intK).length == 0)) (et_and (et_test (ed_eqS (ed_var rfl) ed_str)) fun h => ?_) (fun h => ?_) fun h3 => sd_next ?_)
  · obtain ⟨e, he, o⟩ := gn (.inl (of_decide_eq_true h))
    rw [he]
    exact et_test (ed_emT2 (ed_er (ed_ixT (l := 1) (dg _ 4 nm e rfl rfl he) ed_int rfl rfl)))
  · rw [Bool.and_eq_true] at h
    obtain ⟨e, he, o⟩ := gn (.inl (of_decide_eq_true h.1))
    have h2 := h.2
    rw [he] at h2
    obtain ⟨⟨n, ts⟩, kk, ds⟩ := e
    have O : DkD n ts kk ds := o
    have n2 := O.F.n2
    have al := sort_alike kk
    have lk : (allP n ts).length = kk.length := by
      have e := congrArg List.length (sort_is O.F O.pm)
      unfold sortKs at e
      rw [List.length_mergeSort, List.length_map, List.length_map] at e
      exact e.symm
    have l0 : 0 < kk.length := by
      cases hk : kk with
      | nil => rw [hk] at h2; cases h2
      | cons a l => exact Nat.succ_pos _
    have kf := O.few
    have z1 := Int.emod_nonneg (ys.getD 3 0) (show (kk.length : Int) ≠ 0 by omega)
    have z2 := Int.emod_lt_of_pos (ys.getD 3 0) (show (0 : Int) < (kk.length : Int) by omega)
    obtain ⟨j, hj⟩ : ∃ j : Nat, ys.getD 3 0 % (kk.length : Int) = (j : Int) := ⟨_, (Int.toNat_of_nonneg z1).symm⟩
    obtain ⟨⟨a, b⟩, hp⟩ : ∃ p, (allP n ts)[j]? = some p := ⟨_, List.getElem?_eq_getElem (show j < (allP n ts).length by omega)⟩
    obtain ⟨w0, hw⟩ := (all_mem O.F).mp (List.mem_of_getElem? hp)
    have hw : wOf ts a b = some w0 := hw
    have lt := wOf_lt O.F hw
    refine sd_seq (sd_asgG (d := dkNet ((n, ts), kk, ds)) (dg _ 4 nm _ rfl rfl he) (vs := [6, 7]) (bg_tup rfl (bgs_cons (bg_name (by simp) (bgs_cons (bg_name (by simp) (bgs_nil ?_)))))))
    refine sd_seq (sd_asgG (d := .tup [.int (a : Int), .int (b : Int)]) (ed_ixL (l := j) (ds := (allP n ts).map fun p => tupK (pk2 p)) (ed_eo (eo_is (eo_sortT (ks := kk.map pk2) (ds := ds) (ed_var rfl) al.1 al.2) (by rw [sort_is O.F O.pm, List.map_map]; rfl))) (ed_iC (ix _ 3 (by omega) rfl) (ed_is (ed_lenTR (ed_er (ed_var rfl))) (show _ = D.int (kk.length : Int) by rw [List.length_map, List.length_map])) (by show (0 : Int) < _; omega)) hj (by rw [List.getElem?_map, hp]; rfl)) (vs := [8, 9]) (bg_tup rfl (bgs_cons (bg_name (by simp) (bgs_cons (bg_name (by simp) (bgs_nil ?_)))))))
    refine sd_seq (sd_asg (d := .int (ys.getD 4 0)) (ix _ 4 (by omega) rfl) ?_)
    generalize ys.getD 4 0 = y at y4
    obtain ⟨v, hv, v1, v2⟩ : ∃ v : Int, ([1 + y % 12, 1 + y % 60, 61, 1000, 10 ^ 20 + y] : List Int)[(y / 64 % 5).toNat]? = some v ∧ 1 ≤ v ∧ v < 10 ^ 25 := by
      rcases (show (y / 64 % 5).toNat = 0 ∨ (y / 64 % 5).toNat = 1 ∨ (y / 64 % 5).toNat = 2 ∨ (y / 64 % 5).toNat = 3 ∨ (y / 64 % 5).toNat = 4 by omega) with e | e | e | e | e <;> rw [e]
      · exact ⟨_, rfl, by omega, by omega⟩
      · exact ⟨_, rfl, by omega, by omega⟩
      · exact ⟨_, rfl, by omega, by omega⟩
      · exact ⟨_, rfl, by omega, by omega⟩
      · exact ⟨_, rfl, by omega, by omega⟩
    refine sd_seq (sd_asg (d := .int v) (ed_ixL (l := (y / 64 % 5).toNat) (ds := ([1 + y % 12, 1 + y % 60, 61, 1000, 10 ^ 20 + y] : List Int).map D.int) (ed_eo (eo_lst (eb_cons (ed_i0 ed_int (ed_iC (ed_var rfl) ed_int (by walk_at "side"))) (eb_cons (ed_i0 ed_int (ed_iC (ed_var rfl) ed_int (by walk_at "side"))) (eb_cons ed_int (eb_cons ed_int (eb_cons (ed_i0 (ed_iC ed_int ed_int (by unfold CPow; decide)) (ed_var rfl)) eb_nil))))))) (ed_iC (ed_iC (ed_var rfl) ed_int (by walk_at "side")) ed_int (by walk_at "side")) (by omega) (by rw [List.getElem?_map, hv]; rfl)) ?_)
    refine sd_seq (sd_asgO (eo_dictT (ed_var rfl) (hash_all O w)) (show 12 < 18 by decide) ?_)
    refine sd_seq (sd_dputU (n := 12) (ks := (kk.map pk2).map intK) (ds := ds) (is := [(a : Int), (b : Int)]) rfl (ed_var rfl) (eb_cons (ed_var rfl) (eb_cons (ed_var rfl) eb_nil)) (hl := by rw [List.length_map, List.length_map]; omega) (k := ?_))
    refine sd_shareD (n := 12) rfl ?_
    have la := len_num (i := (a : Int)) (by omega) (by omega)
    have lb := len_num (i := (b : Int)) (by omega) (by omega)
    have lv := len_num (i := v) (by omega) v2
    refine sd_retE (ed_tup (eb_cons (ed_var rfl) (eb_cons (ed_tup (eb_cons (ed_var rfl) (eb_cons (ed_var rfl) eb_nil))) (eb_cons (ed_joinL (ys := ["weigh", nm, toString (a : Int), toString (b : Int), toString v]) ed_str (ed_er (ed_eo (eo_lst (eb_cons ed_str (eb_cons (ed_var rfl) (eb_cons (ed_strI (ed_var rfl) (log_few (by omega) (by omega))) (eb_cons (ed_strI (ed_var rfl) (log_few (by omega) (by omega))) (eb_cons (ed_strI (ed_var rfl) (log_few (by omega) (by omega))) eb_nil)))))))) (sumJ _ (fun x hx => ?_) (by show 5 ≤ 5; decide))) eb_nil)))) (deed_weigh bn he o hw ⟨v1, v2⟩) fun _ _ _ _ z => z
    simp only [List.mem_cons, List.not_mem_nil, or_false] at hx
    rcases hx with rfl | rfl | rfl | rfl | rfl
    · decide +kernel
    · omega
    · omega
    · omega
    · omega
  obtain ⟨j, one, e, hj, h1, he, b1, o⟩ := pick ne
  obtain ⟨⟨n, ts⟩, kk, ds⟩ := e
  have O : DkD n ts kk ds := o
  have n2 := O.F.n2
  have al := sort_alike kk
  have lone := (wd_nm b1).2
  have lf := allP_few O
  refine sd_seq (sd_asg (d := .str one) (oneAt _ j one rfl rfl ne hj h1) ?_)
  obtain ⟨h0, hh0⟩ : ∃ h0 : Nat, ys.getD 3 0 % (n : Int) = (h0 : Int) := ⟨_, (Int.toNat_of_nonneg (Int.emod_nonneg _ (by omega))).symm⟩
  have lh0 : h0 < n := by
    have := Int.emod_lt_of_pos (ys.getD 3 0) (show (0 : Int) < (n : Int) by omega)
    omega
  let PL : D := .lst ((allP n ts).map fun p => tupK (pk2 p))
  refine sd_seq (sd_asgO (m := .lst ((Fll.house h0).L.map .int)) (eo_is (eo_lst (eb_cons (ed_iC (ix _ 3 (by omega) rfl) (ed_ixT (l := 0) (dg _ 13 one _ rfl rfl he) ed_int rfl rfl) (show (0 : Int) < (n : Int) by omega)) eb_nil)) (by rw [hh0]; rfl)) (show 14 < 18 by decide) ?_)
  refine sd_seq (sd_asgO (eo_is (eo_sortT (ks := kk.map pk2) (ds := ds) (ed_ixT (l := 1) (dg _ 13 one _ rfl rfl he) ed_int rfl rfl) al.1 al.2) (show _ = M.lst ((allP n ts).map fun p => tupK (pk2 p)) by rw [sort_is O.F O.pm, List.map_map]; rfl)) (show 15 < 18 by decide) ?_)
  refine sd_share (n := 15) rfl ?_
  refine sd_mid (fun r => ∃ fl : Fll, FllOk n ts fl ∧ r = fr (.sh (.str kd)) (.sh (.str nm)) .no .no .no .no .no .no .no .no (.sh (.str one)) (.own (.lst (fl.L.map .int))) (.sh PL) .no) (sd_if (b := decide (ys.getD 4 0 % 2 = 1) && !((allP n ts).map fun p => tupK (pk2 p)).isEmpty) (et_and (et_test (ed_eqI (ed_iC (ix _ 4 (by omega) rfl) ed_int (by walk_at "side")) ed_int)) fun _ => et_is (et_test (ed_neG (d := PL) (d' := .lst []) (ed_er (ed_var rfl)) (ed_er (ed_eo (eo_lst eb_nil))) ?_ ?_)) ?_) (fun h => ?_) fun _ => sd_next ⟨.house h0, lh0, rfl⟩) ?_
  · exact Flt.up (k := 2) (Flt.lst fun d hd => by
      obtain ⟨p, _, rfl⟩ := List.mem_map.mp hd
      exact flt_tupI _) (by decide)
  · exact Flt.up (k := 1) (Flt.lst (k := 0) fun d hd => by cases hd) (by decide)
  · show (!PyData.eqv (D.lst ((allP n ts).map fun p => tupK (pk2 p))).py (D.lst []).py) = _
    cases (allP n ts).map fun p => tupK (pk2 p) with
    | nil => unfold D.py; simp only [D.pys, PyData.eqv, PyData.eqvAll]; rfl
    | cons d l => unfold D.py; simp only [D.pys, PyData.eqv, PyData.eqvAll]; rfl
  · rw [Bool.and_eq_true] at h
    have l0 : 0 < (allP n ts).length := by
      have h2 := h.2
      cases hk : allP n ts with
      | nil => rw [hk] at h2; cases h2
      | cons a l => exact Nat.succ_pos _
    obtain ⟨i, hi⟩ : ∃ i : Nat, ys.getD 3 0 % ((allP n ts).length : Int) = (i : Int) := ⟨_, (Int.toNat_of_nonneg (Int.emod_nonneg _ (by omega))).symm⟩
    have li := Int.emod_lt_of_pos (ys.getD 3 0) (show (0 : Int) < ((allP n ts).length : Int) by omega)
    obtain ⟨⟨a, b⟩, hp⟩ : ∃ p, (allP n ts)[i]? = some p := ⟨_, List.getElem?_eq_getElem (show i < (allP n ts).length by omega)⟩
    obtain ⟨w0, hw⟩ := (all_mem O.F).mp (List.mem_of_getElem? hp)
    exact sd_asgO (m := .lst ((Fll.tie a b).L.map .int)) (eo_listTp (ed_ixL (l := i) (ds := (allP n ts).map fun p => tupK (pk2 p)) (ed_var rfl) (ed_iC (ix _ 3 (by omega) rfl) (ed_is (ed_len (ds := (allP n ts).map fun p => tupK (pk2 p)) (ed_er (ed_var rfl))) (congrArg (fun n : Nat => D.int (n : Int)) (List.length_map _))) (show (0 : Int) < _ by omega)) hi (by rw [List.getElem?_map, hp]; rfl))) (show 14 < 18 by decide) ⟨.tie a b, ⟨w0, hw⟩, rfl⟩
  rintro r ⟨fl, hf, rfl⟩
  refine sd_share (n := 14) rfl ?_
  have lfl : fl.L.length ≤ 2 := by cases fl <;> first | exact Nat.le_refl 2 | exact Nat.le_succ 1
  have nfl : ∀ i, i ∈ fl.L → 0 ≤ i ∧ i < 12 := fun i hi => by
    cases fl with
    | tie a b =>
      obtain ⟨w0, hw⟩ := hf
      have := wOf_lt O.F hw
      have hi : i = (a : Int) ∨ i = (b : Int) := by simpa [Fll.L] using hi
      omega
    | house a =>
      have hf : a < n := hf
      have hi : i = (a : Int) := by simpa [Fll.L] using hi
      omega
  refine sd_seq (sd_asg (d := .str (Txt.join " " ("fall" :: nm :: one :: fl.L.map fun i => toString i))) (ed_joinL (ys := "fall" :: nm :: one :: fl.L.map fun i => toString i) ed_str (ed_er (ed_eo (eo_is (eo_cat (ds := [.str "fall", .str nm, .str one]) (es := fl.L.map fun i => .str (toString i)) (eo_lst (eb_cons ed_str (eb_cons (ed_var rfl) (eb_cons (ed_var rfl) eb_nil)))) (eo_is (eo_lc (xs := fl.L) (emb := fun i => .sh (.int i)) (f := fun _ => true) (v := fun i => .str (toString i)) (ei_c (ei_is (ei_l (ed_var rfl)) (by rw [List.map_map]; rfl))) (by omega)
    fun i y hy => bg_name (by simp) ⟨et_yes, fun _ => by
      have := nfl y (List.mem_of_getElem? hy)
      exact ed_strI (ed_var rfl) (log_few (by omega) (by omega))⟩) (by rw [List.filter_eq_self.mpr fun _ _ => rfl])) (by rw [List.length_map]; show 3 + _ ≤ 100000; omega)) (by rw [List.map_cons, List.map_cons, List.map_cons, List.map_map]; rfl)))) (sumJ _ (fun x hx => ?_) (by rw [List.length_cons, List.length_cons, List.length_cons, List.length_map]; omega))) ?_)
  · rcases List.mem_cons.mp hx with rfl | hx
    · decide +kernel
    rcases List.mem_cons.mp hx with rfl | hx
    · omega
    rcases List.mem_cons.mp hx with rfl | hx
    · omega
    obtain ⟨i, hi, rfl⟩ := List.mem_map.mp hx
    have := nfl i hi
    have := len_num (i := i) (by omega) (by omega)
    omega
  exact sd_retE (ed_tup (eb_cons (ed_var rfl) (eb_cons (ed_call (((n, ts), kk, ds), fl) O (ea_sh (dg _ 13 one _ rfl rfl he) (ea_sh (ed_var rfl) ea_nil))) (eb_cons (ed_var rfl) eb_nil)))) (deed_fall bn b1 he o hf) fun _ _ _ _ z => z
/-- what a deed is, done -/
def DoneR (S : St) (d : D) (S' : St) : Prop := ∃ nm line : Str, (d = .tup [.str nm, .non, .str line] ∧ S' = dropS S nm ∧ hasN S nm = true) ∨ ∃ e : B91, d = .tup [.str nm, dkNet e, .str line] ∧ S' = putS S nm e
abbrev lawM (S : St) : M := .dks (nmK S) (lawD S)
abbrev sp_done (K : PySem.W.Frag) : Sp := spMt K (fun x : St × D × St => x.1.length < 64 ∧ DoneR x.1 x.2.1 x.2.2) (fun x ps => [(true, .at (ps.headD 0)), (true, x.2.1)]) (fun x _ => [lawM x.1]) (fun y y' => y' = y) (fun _ => 0) (fun _ _ => .non) (fun x _ => [lawM x.2.2])
theorem cal_done (T : Tx K mg C fI CD fD) : Cal P w K mg base 1 "_law_done" (sp_done K) := by
  refine T.d__law_done.mtN sc__law_done (fun _ _ => rfl) (by decide) (fun _ _ _ _ _ _ us hl => match us, hl with | [_, _], _ => rfl) (fun _ _ h => h) (fun f cdv A outer s H E hr x hx => ?_)
  have hu := hu_of hr
  have hu64 := hu64_of hr
  refine ⟨_, (pss_one (ps_if (pt_cmp (pc_isN (pe_ix ix_tup (pv 1) pe_int (fun _ _ => rfl)))) (pss_one (ps_expr (pe_dpop1 (pv 0) (pe_ix ix_tup (pv 1) pe_int (fun _ _ => rfl)) ⟨rfl, rfl, rfl, rfl⟩))) (pss_one (ps_dput hu (pv 0) (pe_ix ix_tup (pv 1) pe_int (fun _ _ => rfl)) (pe_ix ix_tup (pv 1) pe_int (fun _ _ => rfl)) rfl)))), fun qs lq => ?_⟩
  obtain ⟨S, d, S'⟩ := x
  obtain ⟨few, hx⟩ := hx
  have few : S.length < 64 := few
  have hx : DoneR S d S' := hx
  obtain ⟨nm, line, h⟩ := hx
  obtain ⟨p, rfl⟩ : ∃ p, qs = [p] := match qs, lq with | [p], _ => ⟨p, rfl⟩
  show SD K _ [.sh (.at p), .sh d, .ph [(p, lawM S)]] { nx := fun ρ' => ρ'[2]? = some (.ph [(p, lawM S')]), rt := fun _ _ _ _ => False }
  rcases h with ⟨rfl, rfl, hs⟩ | ⟨e, rfl, rfl⟩
  · refine sd_if (b := true) (et_is (et_test (ed_isN (ed_er (ed_ixT (l := 1) (ed_var rfl) ed_int rfl rfl)))) rfl) (fun _ => ?_) fun h => nomatch h
    refine sd_dpopSP (l := 0) (z := 2) (ed_var rfl) (ed_ixT (l := 0) (ed_var rfl) ed_int rfl rfl) rfl rfl (by rw [has_K]; exact hs) ?_
    show some (Sl.ph [(p, M.dks (dropSk (nmK S) (.inr nm)) (dropSd (nmK S) (lawD S) (.inr nm)))]) = some (.ph [(p, lawM (dropS S nm))])
    unfold lawM
    rw [drop_K]
    unfold lawD
    rw [drop_f dkNet]
  · refine sd_if (b := false) (et_is (et_test (ed_isN (ed_er (ed_ixT (l := 1) (ed_var rfl) ed_int rfl rfl)))) rfl) (fun h => nomatch h) fun _ => ?_
    refine sd_dputSP (l := 0) (z := 2) (ed_ixT (l := 1) (d := dkNet e) (ed_var rfl) ed_int rfl rfl) (ed_var rfl) (ed_ixT (l := 0) (ed_var rfl) ed_int rfl rfl) rfl rfl (by unfold nmK; rw [List.length_map, List.length_map]; omega) ?_
    show some (Sl.ph [(p, M.dks (putSk (nmK S) (.inr nm)) (putSd (nmK S) (lawD S) (.inr nm) (dkNet e)))]) = some (.ph [(p, lawM (putS S nm e))])
    unfold lawM
    rw [put_K]
    unfold lawD
    rw [put_f dkNet]
theorem kinds_show : kindsOf "show" = some (["name"] : List Str) := by decide +kernel
theorem kinds_table : kindsOf "table" = some (["name", "number"] : List Str) := by decide +kernel
theorem kinds_way : kindsOf "way" = some (["name", "number", "number"] : List Str) := by decide +kernel
theorem join_three (a b c : Str) : Txt.join " " [a, b, c] = a ++ " " ++ b ++ " " ++ c := TL.ext_tl (by
  rw [tl_joinS, TL.tl_append, TL.tl_append, TL.tl_append, TL.tl_append, tl_sp, List.append_assoc, List.append_assoc, List.append_assoc]
  rfl)
theorem show_line (nm : Str) : "show " ++ nm = Txt.join " " ["show", nm] := by
  rw [join_two]
  exact TL.ext_tl (by
    rw [TL.tl_append, TL.tl_append, TL.tl_append, tl_sp]
    exact congrArg (· ++ TL.tl nm) (show TL.tl ("show " : Str) = TL.tl ("show" : Str) ++ [32] by decide +kernel))
theorem table_line (nm x : Str) : "table " ++ nm ++ " " ++ x = Txt.join " " ["table", nm, x] := by
  rw [join_three]
  exact TL.ext_tl (by
    simp only [TL.tl_append, tl_sp]
    exact congrArg (fun l => l ++ TL.tl nm ++ [32] ++ TL.tl x) (show TL.tl ("table " : Str) = TL.tl ("table" : Str) ++ [32] by decide +kernel))
theorem tel_show {S : St} {nm : Str} {e : B91} (hn : nmB nm = true) (h : getS S nm = some e) (o : dkOk e) : TelR S ("show " ++ nm) (netS e.1.1 e.1.2) := by
  rw [show_line]
  exact .inl ⟨_, _, _, ln_ps [("name", nm)] [] kinds_show (by decide +kernel) (by decide +kernel) (.inl rfl) (wk_cons (.name hn (has_of h)) wk_nil), .shw h o⟩
theorem tel_table {S : St} {nm : Str} {e : B91} {t : Nat} (hn : nmB nm = true) (h : getS S nm = some e) (o : dkOk e) (ht : t < e.1.1) : TelR S ("table " ++ nm ++ " " ++ toString (t : Int)) (tabS e.1.1 e.1.2 t) := by
  have o' : DkD e.1.1 e.1.2 e.2.1 e.2.2 := o
  have n2 := o'.F.n2
  have b25 : (12 : Int) < 10 ^ 25 := by decide +kernel
  rw [table_line]
  exact .inl ⟨_, _, _, ln_ps [("name", nm), ("number", toString (t : Int))] [] kinds_table (by decide +kernel) (by decide +kernel) (.inl rfl) (wk_cons (.name hn (has_of h)) (wk_cons (.num (by omega) (by omega)) wk_nil)), .tbl h o (numT_nat (by omega)) ht⟩
theorem tel_way {S : St} {nm : Str} {e : B91} {t a : Nat} (hn : nmB nm = true) (h : getS S nm = some e) (o : dkOk e) (ht : t < e.1.1) (ha : a < e.1.1) : TelR S (Txt.join " " ["way", nm, toString (a : Int), toString (t : Int)]) (wayS e.1.1 e.1.2 t a) := by
  have o' : DkD e.1.1 e.1.2 e.2.1 e.2.2 := o
  have n2 := o'.F.n2
  have b25 : (12 : Int) < 10 ^ 25 := by decide +kernel
  exact .inl ⟨_, _, _, ln_ps [("name", nm), ("number", toString (a : Int)), ("number", toString (t : Int))] [] kinds_way (by decide +kernel) (by decide +kernel) (.inl rfl) (wk_cons (.name hn (has_of h)) (wk_cons (.num (by omega) (by omega)) (wk_cons (.num (by omega) (by omega)) wk_nil))), .wyl h o (numT_nat (by omega)) ha (numT_nat (by omega)) ht⟩
theorem sum_100 {l : List Str} (h : ∀ x, x ∈ l → x.length ≤ 100) : (l.map (·.length)).sum ≤ 100 * l.length := by
  induction l with
  | nil => exact Nat.le_refl 0
  | cons x l ih =>
    have := ih fun y hy => h y (List.mem_cons_of_mem _ hy)
    have := h x List.mem_cons_self
    rw [List.map_cons, List.sum_cons, List.length_cons]
    omega
theorem join_ok {l : List Str} (h : ∀ x, x ∈ l → x.length ≤ 100) (h2 : l.length ≤ 1000) : (l.map (·.length)).sum + l.length * (" " : Str).length ≤ 16777216 := by
  have l1 : (" " : Str).length = 1 := by decide +kernel
  have := sum_100 h
  rw [l1]
  omega
theorem hs_few {n : Nat} (h : n ≤ 12) {o : Option Nat} (ho : ∀ x, o = some x → x < n) : (hsS o).length ≤ 100 := by
  cases o with
  | none => decide +kernel
  | some x =>
    have := ho x rfl
    have b25 : (12 : Int) < 10 ^ 25 := by decide +kernel
    have := (len_num (i := ((x : Nat) : Int)) (by omega) (by omega)).1
    show (toString ((x : Nat) : Int) : Str).length ≤ 100
    omega
theorem dnx_lt {n t h x : Nat} {ts : List Tie} (hx : nx n ts t h = some x) : x < n := by
  have m : x ∈ stL n ts (DT n ts t) h := List.mem_of_head? hx
  exact List.mem_range.mp (List.mem_filter.mp m).1
theorem dnx_hd {n t h c : Nat} {ts : List Tie} {l : List Nat} (e : stL n ts (DT n ts t) h = c :: l) : nx n ts t h = some c := by
  unfold nx
  rw [e]
  rfl
abbrev sp_toldwell (K : PySem.W.Frag) (C CD : Addr) : Sp := spSh K (fun x : St × Str × B91 × Nat × Nat => StOk x.1 ∧ getS x.1 x.2.1 = some x.2.2.1 ∧ x.2.2.2.1 < x.2.2.1.1.1 ∧ x.2.2.2.2 < x.2.2.1.1.1) (fun x => [(true, deskD C CD x.1), (true, .str x.2.1), (true, dkNet x.2.2.1), (true, .int x.2.2.2.1), (true, .int x.2.2.2.2)]) (fun _ => .bl true)
set_option maxHeartbeats 2000000 in
theorem cal_toldwell (T : Tx K mg C fI CD fD) (U : Dkx w K mg) : Cal P w K mg base 10 "_law_told_well" (sp_toldwell K C CD) := by
  refine T.d__law_told_well.sh sc__law_told_well (fun _ => rfl) (by decide) (fun _ _ _ _ _ _ us hl => match us, hl with | [_, _, _, _, _], _ => rfl) (fun f cdv A outer s H E hr x hx => ?_)
  have hu := hu_of hr
  have hu64 := hu64_of hr
  refine ⟨_, (pss_cons (ps_set (i := 5) sc__law_told_well.nd rfl (Or.inr rfl) (pe_cal (cal_dfar T) hr (by first | decide | exact Nat.le_refl _) (by rfl) (pa_cons (pv 2) (pa_cons (pv 4) pa_nil)))) (pss_cons (ps_setLc (own := [("_law_house", 10)]) (i := 6) rfl sc__law_told_well.nd rfl rfl (sw_true rfl rfl rfl (by decide +kernel)) (pi_range1 (by rfl) T.z_range (pa_cons (pe_ix ix_tup (pv 2) pe_int (fun _ _ => rfl)) pa_nil)) (blkOk_by (N := N__law_told_well) (sc := defScope s__law_told_well) (by decide +kernel)) (fun _ _ _ _ _ => (pg_name (i := 10) sc__law_told_well.nd rfl (Or.inl rfl))) (fun _ _ _ _ _ => pts_nil) (fun _ _ _ _ _ => (pe_cal (cal_dnext T) hr (by first | decide | exact Nat.le_refl _) (by rfl) (pa_cons (pv 2) (pa_cons (pv 5) (pa_cons (pv 10) (pa_cons (pv 4) pa_nil))))))) (pss_cons (ps_set (i := 7) sc__law_told_well.nd rfl (Or.inl rfl) (pe_join pe_str (pe_lc (own := [("_law_house", 10)]) rfl sc__law_told_well.nd (pi_list (pv 6)) (blkOk_by (N := N__law_told_well) (sc := defScope s__law_told_well) (by decide +kernel)) (fun _ _ _ _ _ => (pg_name (i := 10) sc__law_told_well.nd rfl (Or.inl rfl))) (fun _ _ _ _ _ => pts_nil) (fun _ _ _ _ _ => (pe_ix (ix_listK K rfl) (pe_lst (pa_cons pe_str (pa_cons (pe_callTy cr_strO (by rfl) T.z_str (by decide +kernel) (pa_cons (pv 10) pa_nil)) pa_nil))) (pe_callTy call_int1 (by rfl) T.z_int (by decide +kernel) (pa_cons (pe_cmp (pc_notN (pv 10))) pa_nil)) (fun _ _ => rfl)))))) (pss_cons (ps_if (PW.pt (pw_or (pt_cmpR op_ne (pe_met (met_tellR T U) T.cD hr (by first | decide | exact Nat.le_refl _) (pv 0) (pa_cons (pe_op op_add_str pe_str (pv 1)) pa_nil)) (pe_cal (cal_dtext T) hr (by first | decide | exact Nat.le_refl _) (by rfl) (pa_cons (pv 2) pa_nil)) (nomark _)) (pw_or1 (pt_cmpR op_ne (pe_met (met_tellR T U) T.cD hr (by first | decide | exact Nat.le_refl _) (pv 0) (pa_cons (pe_op op_add_str (pe_op op_add_str (pe_op op_add_str pe_str (pv 1)) pe_str) (pe_callTy call_str_int (by rfl) T.z_str (by decide +kernel) (pa_cons (pv 4) pa_nil))) pa_nil)) (pv 7) (nomark _))))) (pss_one (ps_ret pe_bl)) pss_nil) (pss_cons (ps_set (i := 8) sc__law_told_well.nd rfl (Or.inl rfl) (pe_lst (pa_cons (pv 3) pa_nil))) (pss_cons (ps_while PassesOwn.never (PW.pt (pw_and (pt_cmp (pc_din hu (pv 3) (pv 5))) (pw_and1 (pt_cmpR op_ne (pe_ix ix_list (pv 8) (pe_un un_neg pe_int) (fun _ _ => rfl)) (pv 4) (nomark _))))) (pss_one (ps_expr (pe_bm PySem.F.plainAttrs_list PySem.F.slot_list_append PySem.F.type_list_append mt_append (pv 8) (pa_cons (pe_ix ix_list (pv 6) (pe_ix ix_list (pv 8) (pe_un un_neg pe_int) (fun _ _ => rfl)) (fun _ _ => rfl)) pa_nil))))) (pss_cons (ps_set (i := 9) sc__law_told_well.nd rfl (Or.inl rfl) pe_str) (pss_cons (ps_if (pt_cmp (pc_din hu (pv 3) (pv 5))) (pss_one (ps_set (i := 9) sc__law_told_well.nd rfl (Or.inl rfl) (pe_join pe_str (pe_lc (own := [("_law_house", 10)]) rfl sc__law_told_well.nd (pi_list (pv 8)) (blkOk_by (N := N__law_told_well) (sc := defScope s__law_told_well) (by decide +kernel)) (fun _ _ _ _ _ => (pg_name (i := 10) sc__law_told_well.nd rfl (Or.inl rfl))) (fun _ _ _ _ _ => pts_nil) (fun _ _ _ _ _ => (pe_callTy cr_strO (by rfl) T.z_str (by decide +kernel) (pa_cons (pv 10) pa_nil))))))) pss_nil) (pss_one (ps_ret (pe_cmpR op_eq (pe_met (met_tellR T U) T.cD hr (by first | decide | exact Nat.le_refl _) (pv 0) (pa_cons (pe_join pe_str (pe_lst (pa_cons pe_str (pa_cons (pv 1) (pa_cons (pe_callTy call_str_int (by rfl) T.z_str (by decide +kernel) (pa_cons (pv 3) pa_nil)) (pa_cons (pe_callTy call_str_int (by rfl) T.z_str (by decide +kernel) (pa_cons (pv 4) pa_nil)) pa_nil)))))) pa_nil)) (pv 9) (nomark _)))))))))))), ?_⟩
  obtain ⟨S, nm, e, a, t⟩ := x
  obtain ⟨hS, he, ha, ht⟩ := hx
  have hS : StOk S := hS
  have he : getS S nm = some e := he
  have hm := getS_mem he
  have bn : nmB nm = true := hS.nm _ hm
  have o : dkOk e := hS.ok _ hm
  obtain ⟨⟨n, ts⟩, kk, ds⟩ := e
  have O : DkD n ts kk ds := o
  have ha : a < n := ha
  have ht : t < n := ht
  have n2 := O.F.n2
  have lnm := (wd_nm bn).2
  have b25 : (12 : Int) < 10 ^ 25 := by decide +kernel
  have b100 : (10 : Int) ^ 25 < 10 ^ 100 := by decide +kernel
  have la := (len_num (i := (a : Int)) (by omega) (by omega)).1
  have lt := (len_num (i := (t : Int)) (by omega) (by omega)).1
  let N : D := dkNet ((n, ts), kk, ds)
  show SD K _ [.sh (deskD C CD S), .sh (.str nm), .sh N, .sh (.int (a : Int)), .sh (.int (t : Int)), .no, .no, .no, .no, .no, .no] { nx := fun _ => D.bl true = D.non, rt := RSh K (.bl true) }
  refine sd_seq (sd_asgO (eo_call (((n, ts), kk, ds), t) ⟨O, ht⟩ (ea_sh (ed_var rfl) (ea_sh (ed_var rfl) ea_nil))) (by simp) ?_)
  refine sd_shareK (n := 5) rfl (fun k hk => ?_) fun xs fs _ _ hl => ?_
  · cases k with
    | inl i => exact ⟨i, rfl⟩
    | inr x => cases hk
  have hF : FarI n ts t (xs.map Sum.inl) fs := fun a => by
    rw [hl]
    exact fX_at _ _
  show SD K _ [.sh (deskD C CD S), .sh (.str nm), .sh N, .sh (.int (a : Int)), .sh (.int (t : Int)), .sh (.dki (xs.map Sum.inl) fs), .no, .no, .no, .no, .no] _
  refine sd_seq (sd_asgO (eo_is (eo_lc (xs := List.range n) (emb := fun k : Nat => .sh (.int (k : Int))) (f := fun _ => true) (v := fun h : Nat => oN (nx n ts t h)) (ei_c (ei_r1 (i := (n : Int)) (eb_cons (ed_ixT (l := 0) (ed_var rfl) ed_int rfl rfl) eb_nil) (by omega))) (by rw [List.length_range]; omega)
    fun i h hh => bg_name (by simp) ⟨et_yes, fun _ => ed_call (((n, ts), kk, ds), (xs.map Sum.inl, fs), t, h) ⟨O, hF, ht, by have := List.mem_range.mp (List.mem_of_getElem? hh); exact this⟩ (ea_sh (ed_var rfl) (ea_sh (ed_var rfl) (ea_sh (ed_var rfl) (ea_sh (ed_var rfl) ea_nil))))⟩) (by rw [List.filter_eq_self.mpr fun _ _ => rfl])) (by simp) ?_)
  refine sd_share (n := 6) rfl ?_
  let NX : D := .lst ((List.range n).map fun h => oN (nx n ts t h))
  let FR : D := .dki (xs.map Sum.inl) fs
  show SD K _ [.sh (deskD C CD S), .sh (.str nm), .sh N, .sh (.int (a : Int)), .sh (.int (t : Int)), .sh FR, .sh NX, .no, .no, .no, .no] _
  refine sd_seq (sd_asg (d := .str (tabS n ts t)) (ed_is (ed_joinL (ys := (List.range n).map fun h => hsS (nx n ts t h)) ed_str (ed_er (ed_eo (eo_is (eo_lc (xs := List.range n) (emb := fun h : Nat => .sh (oN (nx n ts t h))) (f := fun _ => true) (v := fun h : Nat => .str (hsS (nx n ts t h))) (ei_c (ei_mm (f := fun h : Nat => oN (nx n ts t h)) (w := Sl.sh) (ei_l (ed_var rfl)))) (by rw [List.length_range]; omega)
    fun i h hh => bg_name (by simp) ⟨et_yes, fun _ => by
      cases hx : nx n ts t h with
      | none => exact ed_ixL (l := 0) (ds := [.str "-", .str "None"]) (ed_eo (eo_lst (eb_cons ed_str (eb_cons (ed_strO none (ed_var rfl) fun i h => by cases h) eb_nil)))) (ed_intB (ed_notN (ed_er (ed_var rfl)))) rfl rfl
      | some x =>
        have := dnx_lt hx
        exact ed_ixL (l := 1) (ds := [.str "-", .str (toString (x : Int))]) (ed_eo (eo_lst (eb_cons ed_str (eb_cons (ed_strO (some (x : Int)) (ed_var rfl) fun i h => by cases h; exact log_few (by omega) (by omega)) eb_nil)))) (ed_intB (ed_notN (ed_er (ed_var rfl)))) rfl rfl⟩) (by rw [List.filter_eq_self.mpr fun _ _ => rfl, List.map_map]; rfl)))) (join_ok (fun x hx => ?_) (by rw [List.length_map, List.length_range]; omega))) (by unfold tabS; rw [List.map_map]; rfl)) ?_)
  · obtain ⟨h, _, rfl⟩ := List.mem_map.mp hx
    exact hs_few n2.2 fun x hx => dnx_lt hx
  have l5 : ("show " : Str).length = 5 := by decide +kernel
  have l6 : ("table " : Str).length = 6 := by decide +kernel
  have l1 : (" " : Str).length = 1 := by decide +kernel
  have c1 : ("table " ++ nm : Str).length = 6 + nm.length := by rw [TL.len_tl, TL.tl_append, List.length_append, ← TL.len_tl, ← TL.len_tl, l6]
  have c2 : ("table " ++ nm ++ " " : Str).length = 6 + nm.length + 1 := by rw [TL.len_tl, TL.tl_append, List.length_append, ← TL.len_tl, ← TL.len_tl, c1, l1]
  refine sd_seq (sd_if (b := false || false) (et_or ?_ fun _ => ?_) (fun h => nomatch h) fun _ => sd_next ?_)
  · refine et_is (et_test (ed_neS (x := netS n ts) (y := netS n ts) ?_ ?_)) (by rw [decide_eq_true rfl]; rfl)
    · exact ed_meth (S, "show " ++ nm, netS n ts) ⟨hS.desk, tel_show (e := ((n, ts), kk, ds)) bn he o⟩ (ed_var rfl) (by decide +kernel) (ea_sh (ed_catS (x := "show ") (y := nm) ed_str (ed_var rfl) (by rw [l5]; omega)) ea_nil) rfl
    · exact ed_call ((n, ts), kk, ds) O (ea_sh (ed_var rfl) ea_nil)
  · refine et_is (et_test (ed_neS (x := tabS n ts t) (y := tabS n ts t) ?_ (ed_var rfl))) (by rw [decide_eq_true rfl]; rfl)
    refine ed_meth (S, "table " ++ nm ++ " " ++ toString (t : Int), tabS n ts t) ⟨hS.desk, tel_table (e := ((n, ts), kk, ds)) bn he o ht⟩ (ed_var rfl) (by decide +kernel) ?_ rfl
    refine ea_sh (ed_catS (x := "table " ++ nm ++ " ") (y := toString (t : Int)) ?_ (ed_strI (ed_var rfl) (log_few (by omega) (by omega))) (by rw [c2]; omega)) ea_nil
    exact ed_catS (x := "table " ++ nm) (y := " ") (ed_catS (x := "table ") (y := nm) ed_str (ed_var rfl) (by rw [l6]; omega)) ed_str (by rw [c1, l1]; omega)
  refine sd_seq (sd_asgO (m := .lst (natsD [a])) (eo_lst (eb_cons (ed_var rfl) eb_nil)) (by simp) ?_)
  have far : ∀ ρ : List Sl, ρ[3]? = some (.sh (.int (a : Int))) → ρ[5]? = some (.sh FR) → ED K (tDIn (tVar 3) (tVar 5)) ρ (.bl (dd n ts t a).isSome) := fun ρ h3 h5 => ed_is (ed_dinI (ed_var h3) (ed_var h5)) (by rw [hF a, Option.isSome_map])
  let fr (L : List Nat) : List Sl := [.sh (deskD C CD S), .sh (.str nm), .sh N, .sh (.int (a : Int)), .sh (.int (t : Int)), .sh FR, .sh NX, .sh (.str (tabS n ts t)), .own (.lst (natsD L)), .no, .no]
  refine sd_mid (fun r => ∃ L, r = fr L ∧ ∀ x, dd n ts t a = some x → L = wayL n ts t a) ?_ ?_
  · cases hv : dd n ts t a with
    | none =>
      refine sd_while (fun _ r => r = fr [a]) 0 rfl ?_
      rintro f r rfl
      exact ⟨false && false, BV.et_and (a := false) (b := false) (et_B (ed_is (far _ rfl rfl) (by rw [hv]; rfl))) (fun h => absurd h (by decide)), fun h => absurd h (by decide), fun _ => ⟨[a], rfl, fun x h => by cases h⟩⟩
    | some v =>
      refine sd_while (fun f r => ∃ p b, r = fr (p ++ [b]) ∧ WayI n ts t a f p b) n ⟨[], a, rfl, way_start ha hv⟩ ?_
      rintro f r ⟨p, b, rfl, I⟩
      have hlast : ED K (tOp (rIxL K) (tVar 8) (tUn (rU fun i => .int (-i)) (tC (.int 1)))) (fr (p ++ [b])) (.int (b : Int)) := ed_lastO rfl (ed_neg ed_int) (natsD_pos p b) (natsD_last p b)
      refine ⟨true && !decide ((b : Int) = (t : Int)), et_and (et_B (ed_is (far _ rfl rfl) (by rw [hv]; rfl))) fun _ => et_test (ed_neI hlast (ed_var rfl)), fun h => ?_, fun h => ?_⟩
      · have hbt : b ≠ t := fun z => by
          subst z
          rw [decide_eq_true rfl] at h
          cases h
        obtain ⟨c, l, g, e, rfl, I'⟩ := way_more O.F ht I hbt
        refine sd_app (n := 8) rfl (d := .int (c : Int)) (ed_ixL (l := b) (ds := (List.range n).map fun h => oN (nx n ts t h)) (ed_var rfl) hlast rfl ?_) ?_ ⟨g, by omega, p ++ [b], c, ?_, I'⟩
        · rw [List.getElem?_map, List.getElem?_range I.an]
          show some (oN (nx n ts t b)) = _
          rw [dnx_hd e]
          rfl
        · have := I.few
          rw [List.length_map, List.length_append]
          show p.length + 1 < 100000
          omega
        · show _ = [_, _, _, _, _, _, _, _, Sl.own (.lst (natsD (p ++ [b] ++ [c]))), _, _]
          rw [natsD_snoc (p ++ [b])]
          rfl
      · have hbt : b = t := by
          have h : decide ((b : Int) = (t : Int)) = true := by
            cases q : decide ((b : Int) = (t : Int)) with
            | true => rfl
            | false => rw [q] at h; cases h
          have := of_decide_eq_true h
          omega
        subst hbt
        refine ⟨p ++ [b], rfl, fun x _ => ?_⟩
        have e := I.all
        rw [way_t] at e
        exact e
  rintro r ⟨L, rfl, hL⟩
  refine sd_seq (sd_asg (d := .str "none") ed_str ?_)
  refine sd_share (n := 8) rfl ?_
  refine sd_mid (fun r => r = [.sh (deskD C CD S), .sh (.str nm), .sh N, .sh (.int (a : Int)), .sh (.int (t : Int)), .sh FR, .sh NX, .sh (.str (tabS n ts t)), .sh (.lst (natsD L)), .sh (.str (wayS n ts t a)), .no]) (sd_if (b := (dd n ts t a).isSome) (et_B (far _ rfl rfl)) (fun h => ?_) fun h => sd_next ?_) ?_
  · obtain ⟨x, hx⟩ := Option.isSome_iff_exists.mp h
    have eL := hL x hx
    have ew : wayS n ts t a = Txt.join " " ((wayL n ts t a).map fun h : Nat => toString (h : Int)) := by
      have hx : Ds.at_ (DT n ts t) a = some x := hx
      unfold wayS
      rw [hx]
    subst eL
    have wf := way_few2 n ts t n a
    have wl := wayF_lt (n := n) (t := t) (ts := ts) (by omega) n a ha
    refine sd_asg (d := .str (wayS n ts t a)) (ed_is (ed_joinL (ys := (wayL n ts t a).map fun h : Nat => toString (h : Int)) ed_str (ed_er (ed_eo (eo_is (eo_lc (xs := wayL n ts t a) (emb := fun h : Nat => .sh (.int (h : Int))) (f := fun _ => true) (v := fun h : Nat => .str (toString (h : Int))) (ei_c (ei_mm (f := fun h : Nat => D.int (h : Int)) (w := Sl.sh) (ei_l (ed_var rfl)))) (by unfold wayL; omega)
      fun i h hh => bg_name (by simp) ⟨et_yes, fun _ => by
        have := wl h (List.mem_of_getElem? hh)
        exact ed_strO (some (h : Int)) (ed_var rfl) fun i e => by cases e; exact log_few (by omega) (by omega)⟩) (by rw [List.filter_eq_self.mpr fun _ _ => rfl, List.map_map]; rfl)))) (join_ok (fun x hx => ?_) (by rw [List.length_map]; unfold wayL; omega))) (by rw [ew])) rfl
    obtain ⟨h, hh, rfl⟩ := List.mem_map.mp hx
    have := wl h hh
    have := (len_num (i := (h : Int)) (by omega) (by omega)).1
    omega
  · have ew : wayS n ts t a = "none" := by
      have hx : Ds.at_ (DT n ts t) a = none := by
        cases q : dd n ts t a with
        | none => exact q
        | some x => rw [q] at h; cases h
      unfold wayS
      rw [hx]
    rw [ew]
    rfl
  rintro r rfl
  have l3 : ("way" : Str).length ≤ 100 := by decide +kernel
  refine sd_ret (d := .bl true) (ed_is (ed_eqS (x := wayS n ts t a) (y := wayS n ts t a) (ed_meth (S, Txt.join " " ["way", nm, toString (a : Int), toString (t : Int)], wayS n ts t a) ⟨hS.desk, tel_way (e := ((n, ts), kk, ds)) bn he o ht ha⟩ (ed_var rfl) (by decide +kernel) (ea_sh (ed_joinL (ys := ["way", nm, toString (a : Int), toString (t : Int)]) ed_str (ed_er (ed_eo (eo_lst (eb_cons ed_str (eb_cons (ed_var rfl) (eb_cons (ed_strI (ed_var rfl) (log_few (by omega) (by omega))) (eb_cons (ed_strI (ed_var rfl) (log_few (by omega) (by omega))) eb_nil))))))) (join_ok (fun x hx => ?_) (by show 4 ≤ 1000; decide))) ea_nil) rfl) (ed_var rfl)) (by rw [decide_eq_true rfl])) fun _ _ _ _ z => z
  simp only [List.mem_cons, List.not_mem_nil, or_false] at hx
  rcases hx with rfl | rfl | rfl | rfl
  · exact l3
  · omega
  · omega
  · omega
theorem lookD_ix : ∀ {ks : List (List Key)} {ds : List D} {i : Nat} {k : List Key} {d : D}, ks.Nodup → ks[i]? = some k → ds[i]? = some d → lookD ks ds k = some d
  | [], _, i, _, _, _, h, _ => by cases h
  | _ :: _, [], i, _, _, _, _, h => by cases h
  | q :: ks, x :: ds, 0, k, d, _, h1, h2 => by
    cases h1
    cases h2
    unfold lookD
    rw [List.zip_cons_cons, List.find?_cons, decide_eq_true rfl]
    rfl
  | q :: ks, x :: ds, i + 1, k, d, nd, h1, h2 => by
    obtain ⟨n1, n2⟩ := List.nodup_cons.mp nd
    have ih := lookD_ix n2 h1 h2
    have ne : ¬ q = k := fun z => n1 (z ▸ List.mem_of_getElem? h1)
    unfold lookD at ih ⊢
    rw [List.zip_cons_cons, List.find?_cons, decide_eq_false ne]
    exact ih
theorem DkD.ints {n : Nat} {ts : List Tie} {kk : List (Nat × Nat)} {ds : List D} (O : DkD n ts kk ds) : ∀ d, d ∈ ds → ∃ v, d = .int v := fun d hd => by
  obtain ⟨i, hi, rfl⟩ := List.mem_iff_getElem.mp hd
  have ki : i < kk.length := by rw [O.ln]; exact hi
  have nd : ((kk.map pk2).map intK).Nodup := by
    rw [List.map_map]
    refine List.pairwise_map.mpr ((O.pm.nodup_iff.mpr (keysN_nd O.F)).imp fun {p q} ne z => ne ?_)
    have := intK2 z
    exact Prod.ext (by omega) (by omega)
  have e := lookD_ix (ds := ds) (i := i) (k := intK (pk2 kk[i])) (d := ds[i]) nd (by rw [List.getElem?_map, List.getElem?_map, List.getElem?_eq_getElem ki]; rfl) (List.getElem?_eq_getElem hi)
  have l := O.lk kk[i].1 kk[i].2
  have l : lookD ((kk.map pk2).map intK) ds (intK (pk2 kk[i])) = (wOf ts kk[i].1 kk[i].2).map D.int := l
  rw [e] at l
  cases q : wOf ts kk[i].1 kk[i].2 with
  | none => rw [q] at l; cases l
  | some v => rw [q] at l; exact ⟨v, Option.some.inj l⟩
theorem dk_nok {e : B91} (o : dkOk e) : NoK (dkNet e) := by
  have o : DkD e.1.1 e.1.2 e.2.1 e.2.2 := o
  refine .tup fun d hd => ?_
  simp only [List.mem_cons, List.not_mem_nil, or_false] at hd
  rcases hd with rfl | rfl
  · exact .int _
  · refine .dct fun d hd => ?_
    obtain ⟨v, rfl⟩ := o.ints d hd
    exact .int v
theorem deed_nok {S : St} {d : D} (h : DeedR S d) : NoK d := by
  obtain ⟨nm, line, S', _, _, ⟨rfl, _⟩ | ⟨e, rfl, _, o⟩⟩ := h
  · refine .tup fun d hd => ?_
    simp only [List.mem_cons, List.not_mem_nil, or_false] at hd
    rcases hd with rfl | rfl | rfl
    · exact .str _
    · exact .non
    · exact .str _
  · refine .tup fun d hd => ?_
    simp only [List.mem_cons, List.not_mem_nil, or_false] at hd
    rcases hd with rfl | rfl | rfl
    · exact .str _
    · exact dk_nok o
    · exact .str _
theorem putS_len (S : St) (x : Str) (e : B91) : (putS S x e).length ≤ S.length + 1 := by
  unfold putS
  split
  · rw [List.length_map]; exact Nat.le_succ _
  · rw [List.length_append]; exact Nat.le_refl _
theorem StOk.put {S : St} {x : Str} {e : B91} (h : StOk S) (hx : nmB x = true) (o : dkOk e) (l : S.length < 63) : StOk (putS S x e) := by
  have lp := putS_len S x e
  refine ⟨fun p hp => ?_, fun p hp => ?_, by omega⟩
  all_goals
    unfold putS at hp
    split at hp
    · obtain ⟨q, hq, rfl⟩ := List.mem_map.mp hp
      split
      · first | exact h.nm q hq | exact o
      · first | exact h.nm q hq | exact h.ok q hq
    · rcases List.mem_append.mp hp with hp | hp
      · first | exact h.nm p hp | exact h.ok p hp
      · rw [List.mem_singleton.mp hp]
        first | exact hx | exact o
theorem StOk.drop {S : St} (h : StOk S) (x : Str) : StOk (dropS S x) := ⟨fun p hp => h.nm p (List.mem_filter.mp hp).1, fun p hp => h.ok p (List.mem_filter.mp hp).1, Nat.lt_of_le_of_lt (List.length_filter_le _ _) h.few⟩
theorem ok_neS {K : PySem.W.Frag} (x y : Str) : OpOk K rNe (.str x) (.str y) (.bl (!decide (x = y))) := fun T H v u h1 h2 Q q => by
  rw [h1.str_inv, h2.str_inv]
  refine ⟨rfl, ?_⟩
  rw [show decide (V.str x = V.str y) = decide (x = y) from decide_eq_decide.mpr ⟨fun z => by injection z, fun z => by rw [z]⟩]
  exact q _ (.bl _)
theorem cells_cut (ns : List Int) : ∃ cs : List Int, BV.cutD (ns.map D.int) (some 1) (some 25) = cs.map D.int ∧ cs.length ≤ 24 := by
  have e1 : HT.sIx (ns.map D.int).length 0 (some 1) = min 1 (ns.map D.int).length := HT.sIx_nat _ _ _
  have e2 : HT.sIx (ns.map D.int).length (ns.map D.int).length (some 25) = min 25 (ns.map D.int).length := HT.sIx_nat _ _ _
  unfold BV.cutD
  rw [e1, e2, ← List.map_drop, ← List.map_take]
  refine ⟨_, rfl, ?_⟩
  rw [List.length_take, List.length_drop, List.length_map]
  omega
theorem tel_all (S : St) : TelR S "all" (Txt.join " " (srtS (S.map (·.1)))) := .inr ⟨rfl, rfl⟩
set_option maxHeartbeats 2000000 in
theorem law_fn (T : Tx K mg C fI CD fD) (U : Dkx w K mg) {fa : Addr} (hfa : mg "law" = some (.ref fa)) : ∃ fd : FuncData, (∀ (s : Shared) (v : Value), BindsTo s fd ⟨[v], []⟩ [("_law_script", v)]) ∧ ∀ base : Heap, FnOk P w K mg base CX0 11 fa fd ["_law_script"] (spLaw K) := by
  refine T.d_law.law hfa sc_law (fun _ => rfl) (by decide) (fun _ _ _ _ _ _ us hl => match us, hl with | [_], _ => rfl) (fun base f cdv A outer s H E hr ns hx => ?_)
  have hu := hu_of hr
  have hu64 := hu64_of hr
  refine ⟨_, (pss_cons (ps_set (i := 1) sc_law.nd rfl (Or.inl rfl) (pe_cal (cal_dwords T) hr (by first | decide | exact Nat.le_refl _) (by rfl) (pa_cons (pe_cal (cal_draws T) hr (by first | decide | exact Nat.le_refl _) (by rfl) (pa_cons (pe_cal (cal_cell_at T) hr (by first | decide | exact Nat.le_refl _) (by rfl) (pa_cons (pv 0) (pa_cons pe_int pa_nil))) (pa_cons pe_int pa_nil))) (pa_cons pe_int pa_nil)))) (pss_cons (ps_set (i := 2) sc_law.nd rfl (Or.inl rfl) (pe_mak0 (mak_desk T) hr (by first | decide | exact Nat.le_refl _) (by rfl))) (pss_cons (ps_set (i := 3) sc_law.nd rfl (Or.inl rfl) pe_dnewK) (pss_cons (ps_for PassesOwn.never rfl (pi_list (pe_op op_cat (pe_lst (pa_cons pe_int (pa_cons pe_int pa_nil))) (pe_slice sl_list (pv 0) (po_some pe_int) (po_some pe_int)))) (pg_name (i := 4) sc_law.nd rfl (Or.inl rfl)) (pss_cons (ps_set (i := 5) sc_law.nd rfl (Or.inl rfl) (pe_cal (cal_draws T) hr (by first | decide | exact Nat.le_refl _) (by rfl) (pa_cons (pv 4) (pa_cons pe_int pa_nil)))) (pss_cons (ps_set (i := 6) sc_law.nd rfl (Or.inl rfl) (pe_cal (cal_deed T) hr (by first | decide | exact Nat.le_refl _) (by rfl) (pa_cons (pv 3) (pa_cons (pv 1) (pa_cons (pv 5) pa_nil))))) (pss_cons (ps_if (pt_cmpR op_ne (pe_met (met_tellM T U) T.cD hr (by first | decide | exact Nat.le_refl _) (pv 2) (pa_cons (pe_ix ix_tup (pv 6) pe_int (fun _ _ => rfl)) pa_nil)) (pe_ix ix_tup (pv 6) pe_int (fun _ _ => rfl)) (nomark _)) (pss_one (ps_ret pe_bl)) pss_nil) (pss_cons (ps_expr (pe_cal (cal_done T) hr (by first | decide | exact Nat.le_refl _) (by rfl) (pa_cons (pv 3) (pa_cons (pv 6) pa_nil)))) (pss_cons (ps_if (pt_cmpR op_ne (pe_met (met_tellR T U) T.cD hr (by first | decide | exact Nat.le_refl _) (pv 2) (pa_cons pe_str pa_nil)) (pe_join pe_str (pe_callB cr_sortedS (by rfl) T.z_sorted (by decide +kernel) (pa_cons (pe_callTy (cr_listK rfl) (by rfl) T.z_list (by decide +kernel) (pa_cons (pv 3) pa_nil)) pa_nil))) (nomark _)) (pss_one (ps_ret pe_bl)) pss_nil) (pss_one (ps_for PassesOwn.never rfl (pi_list (pe_callTy (cr_listK rfl) (by rfl) T.z_list (by decide +kernel) (pa_cons (pv 3) pa_nil))) (pg_name (i := 7) sc_law.nd rfl (Or.inl rfl)) (pss_cons (ps_set (i := 8) sc_law.nd rfl (Or.inl rfl) (pe_ix ix_tup (pe_dget hu (pv 3) (pv 7) (fun _ _ => rfl)) pe_int (fun _ _ => rfl))) (pss_one (ps_if (pt_not (pt_val (pe_cal (cal_toldwell T U) hr (by first | decide | exact Nat.le_refl _) (by rfl) (pa_cons (pv 2) (pa_cons (pv 7) (pa_cons (pe_dget hu (pv 3) (pv 7) (fun _ _ => rfl)) (pa_cons (pe_op op_mod (pe_ix ix_list (pv 5) pe_int (fun _ _ => rfl)) (pv 8)) (pa_cons (pe_op op_mod (pe_ix ix_list (pv 5) pe_int (fun _ _ => rfl)) (pv 8)) pa_nil)))))))) (pss_one (ps_ret pe_bl)) pss_nil))))))))))) (pss_one (ps_ret pe_bl)))))), ?_⟩
  have hx : ns.length ≤ 63 := hx
  show SD K _ [.sh (.lst (ns.map .int)), .no, .no, .no, .no, .no, .no, .no, .no, .no] _
  refine sd_ph (z := 9) rfl rfl ?_
  refine sd_seq (sd_asgE (draws (ns.getD 0 0) 9, 5) ⟨draws_dw _ _, by rw [draws_len]; exact Nat.le_refl 9, Nat.le_refl 5⟩ (ea_sh (ed_eo (eo_call (ns.getD 0 0, 9) (by show 9 ≤ 66; decide) (ea_sh (ed_call (ns, 0) hx (ea_sh (ed_var rfl) (ea_sh ed_int ea_nil))) (ea_sh ed_int ea_nil)))) (ea_sh ed_int ea_nil)) fun dn hdn => ?_)
  obtain ⟨nm5, rfl, l5, h5⟩ := hdn
  have l5 : nm5.length = 5 := l5
  refine sd_seq (sd_asgW (em_en (z := 9) (es := []) en_make0 rfl fun ps lp nd hn => ?_))
  obtain ⟨p, rfl⟩ : ∃ p, ps = [p] := match ps, lp with | [p], _ => ⟨p, rfl⟩
  show SD K _ [.sh (.lst (ns.map .int)), .sh (.lst (nm5.map .str)), .sh (deskA CD p), .no, .no, .no, .no, .no, .no, .ph [(p, deskM C [])]] _
  refine sd_seq (sd_asgW (em_eo (z := 9) eo_dnewS rfl fun q hq => ?_))
  refine sd_perm (z := 9) rfl (List.Perm.swap _ _ _) ?_
  let fr (S : St) (c4 c5 c6 c7 c8 : Sl) : List Sl := [.sh (.lst (ns.map .int)), .sh (.lst (nm5.map .str)), .sh (deskA CD p), .sh (.at q), c4, c5, c6, c7, c8, .ph [(p, deskM C S), (q, lawM S)]]
  obtain ⟨cs, ec, lc⟩ := cells_cut ns
  refine sd_seq (sd_forI (xs := 0 :: 3 :: cs) (emb := fun c => .sh (.int c)) (ei_is (ei_l (ed_eo (eo_cat (ds := [.int 0, .int 3]) (es := cs.map D.int) (eo_lst (eb_cons ed_int (eb_cons ed_int eb_nil))) (eo_is (eo_sl (ed_var rfl) (ep_at ed_int) (ep_at ed_int)) (congrArg M.lst ec)) (by rw [List.length_map]; show 2 + _ ≤ 100000; omega)))) (by rw [List.map_append, List.map_map]; rfl)) (fun l r => ∃ S c4 c5 c6 c7 c8, r = fr S c4 c5 c6 c7 c8 ∧ StOk S ∧ S.length ≤ l) ⟨[], _, _, _, _, _, rfl, ⟨(fun p h => by cases h), (fun p h => by cases h), by decide⟩, Nat.le_refl 0⟩ ?_ ?_)
  · rintro l c r hp ⟨S, c4, c5, c6, c7, c8, rfl, hS, hl⟩
    have ll : l < 26 := by
      have := (List.getElem?_eq_some_iff.mp hp).1
      rw [List.length_cons, List.length_cons] at this
      omega
    refine ⟨[4], bg_name (by simp) ?_⟩
    refine sd_seq (sd_asgO (eo_call (c, 30) (by show 30 ≤ 66; decide) (ea_sh (ed_var rfl) (ea_sh ed_int ea_nil))) (show 5 < 10 by decide) ?_)
    refine sd_share (n := 5) rfl ?_
    have dw := draws_dw c 30
    have dl := draws_len c 30
    show SD K _ (fr S (.sh (.int c)) (.sh (.lst ((draws c 30).map .int))) c6 c7 c8) _
    generalize draws c 30 = ys at dw dl
    refine sd_seq (sd_asgW (em_callED (z := 9) (S, nm5, ys) ⟨hS, l5, h5, dw, by rw [dl]; decide, by rw [dl]; decide⟩ (ea_sh (ed_var rfl) (ea_sh (ed_var rfl) (ea_sh (ed_var rfl) ea_nil))) rfl (fls_cons (.at (List.mem_cons_of_mem _ List.mem_cons_self)) (fls_eq (fls_eq fls_nil))) (fun d h => deed_nok h) fun d hd => ?_))
    obtain ⟨nm, line, S', m, bn, what⟩ := (show DeedR S d from hd)
    obtain ⟨dv, rfl, dn, hS', hl'⟩ : ∃ dv, d = .tup [.str nm, dv, .str line] ∧ DoneR S d S' ∧ StOk S' ∧ S'.length ≤ l + 1 := by
      rcases what with ⟨rfl, rfl, h⟩ | ⟨e, rfl, rfl, o⟩
      · exact ⟨.non, rfl, ⟨nm, line, .inl ⟨rfl, rfl, h⟩⟩, hS.drop nm, by have := List.length_filter_le (fun p : Str × B91 => decide (p.1 ≠ nm)) S; show (S.filter _).length ≤ _; omega⟩
      · exact ⟨dkNet e, rfl, ⟨nm, line, .inr ⟨e, rfl, rfl⟩⟩, hS.put bn o (by omega), by have := putS_len S nm e; omega⟩
    show SD K _ (fr S (.sh (.int c)) (.sh (.lst (ys.map .int))) (.sh (.tup [.str nm, dv, .str line])) c7 c8) _
    refine sd_seq (sd_ifW (emt_test (em_op (em_methM (z := 9) (ls := [(p, deskM C S)]) (rs := [(q, lawM S)]) (S, line, nm, S') ⟨hS.desk, m⟩ (ed_var rfl) (by decide +kernel) rfl rfl (ea_sh (ed_ixT (l := 2) (ed_var rfl) ed_int rfl rfl) ea_nil) (fun a ha => by rw [List.mem_singleton.mp ha]) rfl fun y new hy hn => em_ed (ed_ixT (l := 0) (d := .str nm) (ed_var rfl) ed_int rfl rfl) ?_))))
    have hy : y = (nm, S') := hy
    subst hy
    cases List.eq_nil_of_length_eq_zero hn
    refine ⟨_, ok_neS nm nm, false, by rw [decide_eq_true rfl]; rfl, fun h => (nomatch h), fun _ => sd_next ?_⟩
    show SD K _ [.sh (.lst (ns.map .int)), .sh (.lst (nm5.map .str)), .sh (deskA CD p), .sh (.at q), .sh (.int c), .sh (.lst (ys.map .int)), .sh (.tup [.str nm, dv, .str line]), c7, c8, .ph [(p, deskM C S'), (q, lawM S)]] _
    refine sd_perm (z := 9) rfl (List.Perm.swap _ _ _) ?_
    refine sd_seq (sd_dropW (em_callM (z := 9) (ema_eb (eb_cons (ed_var rfl) (eb_cons (ed_var rfl) eb_nil)) ⟨(S, .tup [.str nm, dv, .str line], S'), [(q, lawM S)], [(p, deskM C S')], ⟨hS.few, dn⟩, rfl, rfl, rfl, fun y new hy hn => ?_⟩)))
    have hy : y = (S, .tup [.str nm, dv, .str line], S') := hy
    subst hy
    cases List.eq_nil_of_length_eq_zero hn
    show SD K _ [.sh (.lst (ns.map .int)), .sh (.lst (nm5.map .str)), .sh (deskA CD p), .sh (.at q), .sh (.int c), .sh (.lst (ys.map .int)), .sh (.tup [.str nm, dv, .str line]), c7, c8, .ph [(q, lawM S'), (p, deskM C S')]] _
    refine sd_perm (z := 9) rfl (List.Perm.swap _ _ _) ?_
    show SD K _ (fr S' (.sh (.int c)) (.sh (.lst (ys.map .int))) (.sh (.tup [.str nm, dv, .str line])) c7 c8) _
    clear hS hl what m dn
    generalize S' = S at *
    have hS := hS'
    have few := hS.few
    let nms : List Str := S.map fun p : Str × B91 => p.1
    have lnm : nms.length < 64 := by show (S.map fun p : Str × B91 => p.1).length < 64; rw [List.length_map]; exact few
    have fp : FlD [(p, deskM C S), (q, lawM S)] (deskA CD p) (deskD C CD S) := FlD.obj1 (.at List.mem_cons_self)
    have mq : (q, M.dks (nmK S) (lawD S)) ∈ [(p, deskM C S), (q, lawM S)] := List.mem_cons_of_mem _ List.mem_cons_self
    have pm : (srtS nms).Perm nms := List.mergeSort_perm _ leS
    have short : ∀ x, x ∈ nms → x.length ≤ 100 := fun x hx => by
      obtain ⟨p, hp, rfl⟩ := List.mem_map.mp hx
      have := (wd_nm (hS.nm p hp)).2
      show p.1.length ≤ 100
      omega
    refine sd_seq (sd_if (b := false) ?_ (fun h => nomatch h) fun _ => sd_next ?_)
    · refine et_is (et_test (ed_neS (x := Txt.join " " (srtS nms)) (y := Txt.join " " (srtS nms)) ?_ ?_)) (by rw [decide_eq_true rfl]; rfl)
      · exact ed_methD (K := K) (z := 9) (pre := fun x : St × Str × Str => DeskOk x.1 ∧ TelR x.1 x.2.1 x.2.2) (args := fun x => [(true, deskD C CD x.1), (true, .str x.2.1)]) (res := fun x => .str x.2.2) (S, "all", Txt.join " " (srtS nms)) ⟨hS.desk, tel_all S⟩ (ed_var rfl) (by decide +kernel) (ea_sh ed_str ea_nil) rfl (fls_cons fp (fls_eq fls_nil)) (.str _)
      · refine ed_joinL (ys := srtS nms) ed_str (ed_er (ed_eo (eo_sortSS (ed_er (ed_eo (eo_listK (ks := nms) (ds := lawD S) (er_atS (z := 9) (ed_var rfl) rfl mq)))) lnm))) (join_ok (fun x hx => short x (pm.mem_iff.mp hx)) (by rw [pm.length_eq]; omega))
    refine sd_forI (xs := nms) (emb := fun x => .sh (.str x)) (ei_is (ei_l (ed_eo (eo_listK (ks := nms) (ds := lawD S) (er_atS (z := 9) (ed_var rfl) rfl mq)))) (by rw [List.map_map]; rfl)) (fun _ r => ∃ c7 c8, r = fr S (.sh (.int c)) (.sh (.lst (ys.map .int))) (.sh (.tup [.str nm, dv, .str line])) c7 c8) ⟨_, _, rfl⟩ ?_ ?_
    · rintro k x r hx ⟨c7, c8, rfl⟩
      refine ⟨[7], bg_name (by simp) ?_⟩
      obtain ⟨e, he⟩ := mem_get (List.mem_of_getElem? hx)
      have o := hS.ok _ (getS_mem he)
      have o : dkOk e := o
      have O : DkD e.1.1 e.1.2 e.2.1 e.2.2 := o
      have n2 := O.F.n2
      have dg : ∀ ρ : List Sl, ρ[3]? = some (.sh (.at q)) → ρ[7]? = some (.sh (.str x)) → ρ[9]? = some (.ph [(p, deskM C S), (q, lawM S)]) → ED K (tDGet (tVar 3) (tVar 7)) ρ (dkNet e) := fun ρ h3 h7 h9 => ed_dgetSP (z := 9) (ed_var h3) h9 mq (ed_var h7) (by rw [look_law, he]; rfl)
      refine sd_seq (sd_asg (d := .int (e.1.1 : Int)) (ed_ixT (l := 0) (dg _ rfl rfl rfl) ed_int rfl rfl) ?_)
      have ix : ∀ (ρ : List Sl) (k : Nat), k < ys.length → ρ[5]? = some (.sh (.lst (ys.map .int))) → ED K (tOp (rIxL K) (tVar 5) (tC (.int (k : Int)))) ρ (.int (ys.getD k 0)) := fun ρ k hk h => ed_ixL (l := k) (ed_var h) ed_int rfl (dw_at hk)
      obtain ⟨a, ea, la⟩ : ∃ a : Nat, ys.getD 27 0 % (e.1.1 : Int) = (a : Int) ∧ a < e.1.1 := by
        have z1 := Int.emod_nonneg (ys.getD 27 0) (show (e.1.1 : Int) ≠ 0 by omega)
        have z2 := Int.emod_lt_of_pos (ys.getD 27 0) (show (0 : Int) < (e.1.1 : Int) by omega)
        exact ⟨_, (Int.toNat_of_nonneg z1).symm, by omega⟩
      obtain ⟨t, et, lt⟩ : ∃ t : Nat, ys.getD 28 0 % (e.1.1 : Int) = (t : Int) ∧ t < e.1.1 := by
        have z1 := Int.emod_nonneg (ys.getD 28 0) (show (e.1.1 : Int) ≠ 0 by omega)
        have z2 := Int.emod_lt_of_pos (ys.getD 28 0) (show (0 : Int) < (e.1.1 : Int) by omega)
        exact ⟨_, (Int.toNat_of_nonneg z1).symm, by omega⟩
      refine sd_if (b := !true) (et_not (et_B (ed_callD (z := 9) (S, x, e, a, t) ⟨hS, he, la, lt⟩ (ea_sh (ed_var rfl) (ea_sh (ed_var rfl) (ea_sh (dg _ rfl rfl rfl) (ea_sh (d := .int (a : Int)) (ed_is (ed_iC (ix _ 27 (by omega) rfl) (ed_var rfl) (show (0 : Int) < (e.1.1 : Int) by omega)) (congrArg D.int ea)) (ea_sh (d := .int (t : Int)) (ed_is (ed_iC (ix _ 28 (by omega) rfl) (ed_var rfl) (show (0 : Int) < (e.1.1 : Int) by omega)) (congrArg D.int et)) ea_nil))))) rfl (fls_cons fp (fls_eq (fls_eq (fls_eq (fls_eq fls_nil))))) (.bl true)))) (fun h => nomatch h) fun _ => sd_next ⟨_, _, rfl⟩
    · rintro r ⟨c7, c8, rfl⟩
      exact ⟨S, _, _, _, _, _, rfl, hS, hl'⟩
  · rintro r ⟨S, c4, c5, c6, c7, c8, rfl, hS, hl⟩
    exact sd_ret ed_bl fun _ _ _ _ z => z
end
theorem all_mk {l : PySem.W.OpenLaw} {w : World} {K : PySem.W.Frag} {h : Heap} {mg : Str → Option Value} {fa C CD f0 f1 f2 f3 f4 f5 f6 f7 f8 f9 f10 f11 f12 f13 f14 f15 f16 f17 f18 f19 f20 f21 f22 f23 f24 f25 f26 f27 f28 f29 f30 f31 f32 f33 f34 f35 f36 f37 f38 f39 f40 f41 f42 f43 f44 f45 f46 f47 f48 f49 dT49 f50 f51 f52 f53 f54 f55 f56 f57 f58 f59 f60 cT0 k_KINDS k_KINDS0 k_KINDS1 k_KINDS2 k_KINDS3 k_KINDS4 k_KINDS5 k_KINDS6 k_KINDS7 k_KINDS8 k_KINDS9 k_KINDS10 k_KINDS11 k_KINDS12 k_MAKERS k_TELLERS k_TELLERS3 k_TELLERS4 k_TELLERS5 k_TELLERS6 k_TELLERS7 : Addr} (X : K.In h) (G : h.Ns mainGlobals mg) (hfa : mg "law" = some (.ref fa))
    {od0 an0 od1 an1 od2 an2 od3 an3 od4 an4 od5 an5 od6 an6 od7 an7 od8 an8 od9 an9 od10 an10 od11 an11 od12 an12 od13 an13 od14 an14 od15 an15 od16 an16 od17 an17 od18 an18 od19 an19 od20 an20 od21 an21 od22 an22 od23 an23 od24 an24 od25 an25 od26 an26 od27 an27 od28 an28 od29 an29 od30 an30 od31 an31 od32 an32 od33 an33 od34 an34 od35 an35 od36 an36 od37 an37 od38 an38 od39 an39 od40 an40 od41 an41 od42 an42 od43 an43 od44 an44 od45 an45 od46 an46 od47 an47 od48 an48 od49 an49 od50 an50 od51 an51 od52 an52 od53 an53 od54 an54 od55 an55 od56 an56 od57 an57 od58 an58 od59 an59 od60 an60 : Option Addr} {sl0 sl1 sl2 sl3 sl4 sl5 sl6 sl7 sl8 sl9 sl10 sl11 sl12 sl13 sl14 sl15 sl16 sl17 sl18 sl19 sl20 sl21 sl22 sl23 sl24 sl25 sl26 sl27 sl28 sl29 sl30 sl31 sl32 sl33 sl34 sl35 sl36 sl37 sl38 sl39 sl40 sl41 sl42 sl43 sl44 sl45 sl46 sl47 sl48 sl49 sl50 sl51 sl52 sl53 sl54 sl55 sl56 sl57 sl58 sl59 sl60 : Array (Option Value)} {oc0 kV0 dc0 pm0 cd0 ct0 oc1 kV1 dc1 pm1 cd1 ct1 oc2 kV2 dc2 pm2 cd2 ct2 oc3 kV3 dc3 pm3 cd3 ct3 oc4 kV4 dc4 pm4 cd4 ct4 oc5 kV5 dc5 pm5 cd5 ct5 oc6 kV6 dc6 pm6 cd6 ct6 oc7 kV7 dc7 pm7 cd7 ct7 oc8 kV8 dc8 pm8 cd8 ct8 oc9 kV9 dc9 pm9 cd9 ct9 oc10 kV10 dc10 pm10 cd10 ct10 oc11 kV11 dc11 pm11 cd11 ct11 oc12 kV12 dc12 pm12 cd12 ct12 oc13 kV13 dc13 pm13 cd13 ct13 oc14 kV14 dc14 pm14 cd14 ct14 oc15 kV15 dc15 pm15 cd15 ct15 oc16 kV16 dc16 pm16 cd16 ct16 oc17 kV17 dc17 pm17 cd17 ct17 oc18 kV18 dc18 pm18 cd18 ct18 oc19 kV19 dc19 pm19 cd19 ct19 oc20 kV20 dc20 pm20 cd20 ct20 oc21 kV21 dc21 pm21 cd21 ct21 oc22 kV22 dc22 pm22 cd22 ct22 oc23 kV23 dc23 pm23 cd23 ct23 oc24 kV24 dc24 pm24 cd24 ct24 oc25 kV25 dc25 pm25 cd25 ct25 oc26 kV26 dc26 pm26 cd26 ct26 oc27 kV27 dc27 pm27 cd27 ct27 oc28 kV28 dc28 pm28 cd28 ct28 oc29 kV29 dc29 pm29 cd29 ct29 oc30 kV30 dc30 pm30 cd30 ct30 oc31 kV31 dc31 pm31 cd31 ct31 oc32 kV32 dc32 pm32 cd32 ct32 oc33 kV33 dc33 pm33 cd33 ct33 oc34 kV34 dc34 pm34 cd34 ct34 oc35 kV35 dc35 pm35 cd35 ct35 oc36 kV36 dc36 pm36 cd36 ct36 oc37 kV37 dc37 pm37 cd37 ct37 oc38 kV38 dc38 pm38 cd38 ct38 oc39 kV39 dc39 pm39 cd39 ct39 oc40 kV40 dc40 pm40 cd40 ct40 oc41 kV41 dc41 pm41 cd41 ct41 oc42 kV42 dc42 pm42 cd42 ct42 oc43 kV43 dc43 pm43 cd43 ct43 oc44 kV44 dc44 pm44 cd44 ct44 oc45 kV45 dc45 pm45 cd45 ct45 oc46 kV46 dc46 pm46 cd46 ct46 oc47 kV47 dc47 pm47 cd47 ct47 oc48 kV48 dc48 pm48 cd48 ct48 oc49 kV49 dc49 pm49 cd49 ct49 oc50 kV50 dc50 pm50 cd50 ct50 oc51 kV51 dc51 pm51 cd51 ct51 oc52 kV52 dc52 pm52 cd52 ct52 oc53 kV53 dc53 pm53 cd53 ct53 oc54 kV54 dc54 pm54 cd54 ct54 oc55 kV55 dc55 pm55 cd55 ct55 oc56 kV56 dc56 pm56 cd56 ct56 oc57 kV57 dc57 pm57 cd57 ct57 oc58 kV58 dc58 pm58 cd58 ct58 oc59 kV59 dc59 pm59 cd59 ct59 oc60 kV60 dc60 pm60 cd60 ct60 : Value} {t0 t1 t2 t3 t4 t5 tT0_0 tT0_1 : Tok} {ocd49 : Value} {odd49 : Option Addr} {ned49 : Nat} {sld49 : Array (Option Value)} {es_KINDS : Array DictEntry} {ep_KINDS : Nat} {t_k_KINDS0_0 t_k_KINDS0_1 : Tok} {od_k_KINDS0 : Option Addr} {ne_k_KINDS0 : Nat} {sl_k_KINDS0 : Array (Option Value)} {t_k_KINDS1_0 t_k_KINDS1_1 t_k_KINDS1_2 t_k_KINDS1_3 : Tok} {od_k_KINDS1 : Option Addr} {ne_k_KINDS1 : Nat} {sl_k_KINDS1 : Array (Option Value)} {t_k_KINDS2_0 t_k_KINDS2_1 t_k_KINDS2_2 t_k_KINDS2_3 : Tok} {od_k_KINDS2 : Option Addr} {ne_k_KINDS2 : Nat} {sl_k_KINDS2 : Array (Option Value)} {t_k_KINDS3_0 : Tok} {od_k_KINDS3 : Option Addr} {ne_k_KINDS3 : Nat} {sl_k_KINDS3 : Array (Option Value)} {t_k_KINDS4_0 : Tok} {od_k_KINDS4 : Option Addr} {ne_k_KINDS4 : Nat} {sl_k_KINDS4 : Array (Option Value)} {t_k_KINDS5_0 t_k_KINDS5_1 : Tok} {od_k_KINDS5 : Option Addr} {ne_k_KINDS5 : Nat} {sl_k_KINDS5 : Array (Option Value)} {t_k_KINDS6_0 t_k_KINDS6_1 t_k_KINDS6_2 : Tok} {od_k_KINDS6 : Option Addr} {ne_k_KINDS6 : Nat} {sl_k_KINDS6 : Array (Option Value)} {t_k_KINDS7_0 t_k_KINDS7_1 t_k_KINDS7_2 t_k_KINDS7_3 : Tok} {od_k_KINDS7 : Option Addr} {ne_k_KINDS7 : Nat} {sl_k_KINDS7 : Array (Option Value)} {t_k_KINDS8_0 t_k_KINDS8_1 t_k_KINDS8_2 t_k_KINDS8_3 : Tok} {od_k_KINDS8 : Option Addr} {ne_k_KINDS8 : Nat} {sl_k_KINDS8 : Array (Option Value)} {t_k_KINDS9_0 t_k_KINDS9_1 t_k_KINDS9_2 : Tok} {od_k_KINDS9 : Option Addr} {ne_k_KINDS9 : Nat} {sl_k_KINDS9 : Array (Option Value)} {t_k_KINDS10_0 t_k_KINDS10_1 t_k_KINDS10_2 : Tok} {od_k_KINDS10 : Option Addr} {ne_k_KINDS10 : Nat} {sl_k_KINDS10 : Array (Option Value)} {t_k_KINDS11_0 t_k_KINDS11_1 t_k_KINDS11_2 : Tok} {od_k_KINDS11 : Option Addr} {ne_k_KINDS11 : Nat} {sl_k_KINDS11 : Array (Option Value)} {od_k_KINDS12 : Option Addr} {ne_k_KINDS12 : Nat} {sl_k_KINDS12 : Array (Option Value)} {es_MAKERS : Array DictEntry} {ep_MAKERS : Nat} {es_TELLERS : Array DictEntry} {ep_TELLERS : Nat} {odT0 : Option Addr} {nT0 : Nat} {slT0 : Array (Option Value)}
    (aC : PySem.W.nsIn K mainGlobals "Net" = some (some (.ref C)))
    (aCD : PySem.W.nsIn K mainGlobals "Desk" = some (some (.ref CD)))
    (a0 : PySem.W.nsIn K mainGlobals "_law_cell_at" = some (some (.ref f0)))
    (l0 : K.lookup f0 = some ⟨oc0, od0, .func (PySem.W.fnOf "_law_cell_at" "_law_cell_at" (defArgs s__law_cell_at) (defBody s__law_cell_at) (defScope s__law_cell_at) .none kV0 dc0 pm0 an0 cd0 ct0), sl0⟩)
    (c0 : PySem.W.codeIn K cd0 "_law_cell_at" = true)
    (k0 : PySem.W.keepIn K (.ref f0) = true)
    (a1 : PySem.W.nsIn K mainGlobals "_law_mixed" = some (some (.ref f1)))
    (l1 : K.lookup f1 = some ⟨oc1, od1, .func (PySem.W.fnOf "_law_mixed" "_law_mixed" (defArgs s__law_mixed) (defBody s__law_mixed) (defScope s__law_mixed) .none kV1 dc1 pm1 an1 cd1 ct1), sl1⟩)
    (c1 : PySem.W.codeIn K cd1 "_law_mixed" = true)
    (k1 : PySem.W.keepIn K (.ref f1) = true)
    (a2 : PySem.W.nsIn K mainGlobals "is_house" = some (some (.ref f2)))
    (l2 : K.lookup f2 = some ⟨oc2, od2, .func (PySem.W.fnOf "is_house" "is_house" (defArgs s_is_house) (defBody s_is_house) (defScope s_is_house) .none kV2 dc2 pm2 an2 cd2 ct2), sl2⟩)
    (c2 : PySem.W.codeIn K cd2 "is_house" = true)
    (k2 : PySem.W.keepIn K (.ref f2) = true)
    (a3 : PySem.W.nsIn K mainGlobals "refuse_houses" = some (some (.ref f3)))
    (l3 : K.lookup f3 = some ⟨oc3, od3, .func (PySem.W.fnOf "refuse_houses" "refuse_houses" (defArgs s_refuse_houses) (defBody s_refuse_houses) (defScope s_refuse_houses) .none kV3 dc3 pm3 an3 cd3 ct3), sl3⟩)
    (c3 : PySem.W.codeIn K cd3 "refuse_houses" = true)
    (k3 : PySem.W.keepIn K (.ref f3) = true)
    (a4 : PySem.W.nsIn K mainGlobals "pair_of" = some (some (.ref f4)))
    (l4 : K.lookup f4 = some ⟨oc4, od4, .func (PySem.W.fnOf "pair_of" "pair_of" (defArgs s_pair_of) (defBody s_pair_of) (defScope s_pair_of) .none kV4 dc4 pm4 an4 cd4 ct4), sl4⟩)
    (c4 : PySem.W.codeIn K cd4 "pair_of" = true)
    (k4 : PySem.W.keepIn K (.ref f4) = true)
    (a5 : PySem.W.nsIn K mainGlobals "_refuse_count" = some (some (.ref f5)))
    (l5 : K.lookup f5 = some ⟨oc5, od5, .func (PySem.W.fnOf "_refuse_count" "_refuse_count" (defArgs s__refuse_count) (defBody s__refuse_count) (defScope s__refuse_count) .none kV5 dc5 pm5 an5 cd5 ct5), sl5⟩)
    (c5 : PySem.W.codeIn K cd5 "_refuse_count" = true)
    (k5 : PySem.W.keepIn K (.ref f5) = true)
    (a6 : PySem.W.nsIn K mainGlobals "_refuse_pairs" = some (some (.ref f6)))
    (l6 : K.lookup f6 = some ⟨oc6, od6, .func (PySem.W.fnOf "_refuse_pairs" "_refuse_pairs" (defArgs s__refuse_pairs) (defBody s__refuse_pairs) (defScope s__refuse_pairs) .none kV6 dc6 pm6 an6 cd6 ct6), sl6⟩)
    (c6 : PySem.W.codeIn K cd6 "_refuse_pairs" = true)
    (k6 : PySem.W.keepIn K (.ref f6) = true)
    (a7 : PySem.W.nsIn K mainGlobals "_refuse_weights" = some (some (.ref f7)))
    (l7 : K.lookup f7 = some ⟨oc7, od7, .func (PySem.W.fnOf "_refuse_weights" "_refuse_weights" (defArgs s__refuse_weights) (defBody s__refuse_weights) (defScope s__refuse_weights) .none kV7 dc7 pm7 an7 cd7 ct7), sl7⟩)
    (c7 : PySem.W.codeIn K cd7 "_refuse_weights" = true)
    (k7 : PySem.W.keepIn K (.ref f7) = true)
    (a8 : PySem.W.nsIn K mainGlobals "_refuse_ties" = some (some (.ref f8)))
    (l8 : K.lookup f8 = some ⟨oc8, od8, .func (PySem.W.fnOf "_refuse_ties" "_refuse_ties" (defArgs s__refuse_ties) (defBody s__refuse_ties) (defScope s__refuse_ties) .none kV8 dc8 pm8 an8 cd8 ct8), sl8⟩)
    (c8 : PySem.W.codeIn K cd8 "_refuse_ties" = true)
    (k8 : PySem.W.keepIn K (.ref f8) = true)
    (a9 : PySem.W.nsIn K mainGlobals "_lesser_first" = some (some (.ref f9)))
    (l9 : K.lookup f9 = some ⟨oc9, od9, .func (PySem.W.fnOf "_lesser_first" "_lesser_first" (defArgs s__lesser_first) (defBody s__lesser_first) (defScope s__lesser_first) .none kV9 dc9 pm9 an9 cd9 ct9), sl9⟩)
    (c9 : PySem.W.codeIn K cd9 "_lesser_first" = true)
    (k9 : PySem.W.keepIn K (.ref f9) = true)
    (a10 : PySem.W.nsIn K mainGlobals "_weights_of" = some (some (.ref f10)))
    (l10 : K.lookup f10 = some ⟨oc10, od10, .func (PySem.W.fnOf "_weights_of" "_weights_of" (defArgs s__weights_of) (defBody s__weights_of) (defScope s__weights_of) .none kV10 dc10 pm10 an10 cd10 ct10), sl10⟩)
    (c10 : PySem.W.codeIn K cd10 "_weights_of" = true)
    (k10 : PySem.W.keepIn K (.ref f10) = true)
    (a11 : PySem.W.findIn K (.ref C) "__init__" = some (some (.ref f11)))
    (i11 : PySem.W.isFn K (.ref f11) = true)
    (l11 : K.lookup f11 = some ⟨oc11, od11, .func (PySem.W.fnOf "__init__" "Net.__init__" (defArgs s_Net___init__) (defBody s_Net___init__) (defScope s_Net___init__) .none kV11 dc11 pm11 an11 cd11 ct11), sl11⟩)
    (c11 : PySem.W.codeIn K cd11 "Net.__init__" = true)
    (k11 : PySem.W.keepIn K (.ref f11) = true)
    (a12 : PySem.W.findIn K (.ref C) "neighbours" = some (some (.ref f12)))
    (i12 : PySem.W.isFn K (.ref f12) = true)
    (l12 : K.lookup f12 = some ⟨oc12, od12, .func (PySem.W.fnOf "neighbours" "Net.neighbours" (defArgs s_Net_neighbours) (defBody s_Net_neighbours) (defScope s_Net_neighbours) .none kV12 dc12 pm12 an12 cd12 ct12), sl12⟩)
    (c12 : PySem.W.codeIn K cd12 "Net.neighbours" = true)
    (k12 : PySem.W.keepIn K (.ref f12) = true)
    (a13 : PySem.W.findIn K (.ref C) "weight" = some (some (.ref f13)))
    (i13 : PySem.W.isFn K (.ref f13) = true)
    (l13 : K.lookup f13 = some ⟨oc13, od13, .func (PySem.W.fnOf "weight" "Net.weight" (defArgs s_Net_weight) (defBody s_Net_weight) (defScope s_Net_weight) .none kV13 dc13 pm13 an13 cd13 ct13), sl13⟩)
    (c13 : PySem.W.codeIn K cd13 "Net.weight" = true)
    (k13 : PySem.W.keepIn K (.ref f13) = true)
    (a14 : PySem.W.nsIn K mainGlobals "_is_nearer_by" = some (some (.ref f14)))
    (l14 : K.lookup f14 = some ⟨oc14, od14, .func (PySem.W.fnOf "_is_nearer_by" "_is_nearer_by" (defArgs s__is_nearer_by) (defBody s__is_nearer_by) (defScope s__is_nearer_by) .none kV14 dc14 pm14 an14 cd14 ct14), sl14⟩)
    (c14 : PySem.W.codeIn K cd14 "_is_nearer_by" = true)
    (k14 : PySem.W.keepIn K (.ref f14) = true)
    (a15 : PySem.W.nsIn K mainGlobals "distances_to" = some (some (.ref f15)))
    (l15 : K.lookup f15 = some ⟨oc15, od15, .func (PySem.W.fnOf "distances_to" "distances_to" (defArgs s_distances_to) (defBody s_distances_to) (defScope s_distances_to) .none kV15 dc15 pm15 an15 cd15 ct15), sl15⟩)
    (c15 : PySem.W.codeIn K cd15 "distances_to" = true)
    (k15 : PySem.W.keepIn K (.ref f15) = true)
    (a16 : PySem.W.nsIn K mainGlobals "steps_on" = some (some (.ref f16)))
    (l16 : K.lookup f16 = some ⟨oc16, od16, .func (PySem.W.fnOf "steps_on" "steps_on" (defArgs s_steps_on) (defBody s_steps_on) (defScope s_steps_on) .none kV16 dc16 pm16 an16 cd16 ct16), sl16⟩)
    (c16 : PySem.W.codeIn K cd16 "steps_on" = true)
    (k16 : PySem.W.keepIn K (.ref f16) = true)
    (a17 : PySem.W.nsIn K mainGlobals "step_on" = some (some (.ref f17)))
    (l17 : K.lookup f17 = some ⟨oc17, od17, .func (PySem.W.fnOf "step_on" "step_on" (defArgs s_step_on) (defBody s_step_on) (defScope s_step_on) .none kV17 dc17 pm17 an17 cd17 ct17), sl17⟩)
    (c17 : PySem.W.codeIn K cd17 "step_on" = true)
    (k17 : PySem.W.keepIn K (.ref f17) = true)
    (a18 : PySem.W.nsIn K mainGlobals "least_way" = some (some (.ref f18)))
    (l18 : K.lookup f18 = some ⟨oc18, od18, .func (PySem.W.fnOf "least_way" "least_way" (defArgs s_least_way) (defBody s_least_way) (defScope s_least_way) .none kV18 dc18 pm18 an18 cd18 ct18), sl18⟩)
    (c18 : PySem.W.codeIn K cd18 "least_way" = true)
    (k18 : PySem.W.keepIn K (.ref f18) = true)
    (a19 : PySem.W.nsIn K mainGlobals "refuse_table" = some (some (.ref f19)))
    (l19 : K.lookup f19 = some ⟨oc19, od19, .func (PySem.W.fnOf "refuse_table" "refuse_table" (defArgs s_refuse_table) (defBody s_refuse_table) (defScope s_refuse_table) .none kV19 dc19 pm19 an19 cd19 ct19), sl19⟩)
    (c19 : PySem.W.codeIn K cd19 "refuse_table" = true)
    (k19 : PySem.W.keepIn K (.ref f19) = true)
    (a20 : PySem.W.nsIn K mainGlobals "next_table" = some (some (.ref f20)))
    (l20 : K.lookup f20 = some ⟨oc20, od20, .func (PySem.W.fnOf "next_table" "next_table" (defArgs s_next_table) (defBody s_next_table) (defScope s_next_table) .none kV20 dc20 pm20 an20 cd20 ct20), sl20⟩)
    (c20 : PySem.W.codeIn K cd20 "next_table" = true)
    (k20 : PySem.W.keepIn K (.ref f20) = true)
    (a21 : PySem.W.nsIn K mainGlobals "weighed" = some (some (.ref f21)))
    (l21 : K.lookup f21 = some ⟨oc21, od21, .func (PySem.W.fnOf "weighed" "weighed" (defArgs s_weighed) (defBody s_weighed) (defScope s_weighed) .none kV21 dc21 pm21 an21 cd21 ct21), sl21⟩)
    (c21 : PySem.W.codeIn K cd21 "weighed" = true)
    (k21 : PySem.W.keepIn K (.ref f21) = true)
    (a22 : PySem.W.nsIn K mainGlobals "refuse_weight" = some (some (.ref f22)))
    (l22 : K.lookup f22 = some ⟨oc22, od22, .func (PySem.W.fnOf "refuse_weight" "refuse_weight" (defArgs s_refuse_weight) (defBody s_refuse_weight) (defScope s_refuse_weight) .none kV22 dc22 pm22 an22 cd22 ct22), sl22⟩)
    (c22 : PySem.W.codeIn K cd22 "refuse_weight" = true)
    (k22 : PySem.W.keepIn K (.ref f22) = true)
    (a23 : PySem.W.nsIn K mainGlobals "refuse_untied" = some (some (.ref f23)))
    (l23 : K.lookup f23 = some ⟨oc23, od23, .func (PySem.W.fnOf "refuse_untied" "refuse_untied" (defArgs s_refuse_untied) (defBody s_refuse_untied) (defScope s_refuse_untied) .none kV23 dc23 pm23 an23 cd23 ct23), sl23⟩)
    (c23 : PySem.W.codeIn K cd23 "refuse_untied" = true)
    (k23 : PySem.W.keepIn K (.ref f23) = true)
    (a24 : PySem.W.nsIn K mainGlobals "refuse_fall" = some (some (.ref f24)))
    (l24 : K.lookup f24 = some ⟨oc24, od24, .func (PySem.W.fnOf "refuse_fall" "refuse_fall" (defArgs s_refuse_fall) (defBody s_refuse_fall) (defScope s_refuse_fall) .none kV24 dc24 pm24 an24 cd24 ct24), sl24⟩)
    (c24 : PySem.W.codeIn K cd24 "refuse_fall" = true)
    (k24 : PySem.W.keepIn K (.ref f24) = true)
    (a25 : PySem.W.nsIn K mainGlobals "falls_with" = some (some (.ref f25)))
    (l25 : K.lookup f25 = some ⟨oc25, od25, .func (PySem.W.fnOf "falls_with" "falls_with" (defArgs s_falls_with) (defBody s_falls_with) (defScope s_falls_with) .none kV25 dc25 pm25 an25 cd25 ct25), sl25⟩)
    (c25 : PySem.W.codeIn K cd25 "falls_with" = true)
    (k25 : PySem.W.keepIn K (.ref f25) = true)
    (a26 : PySem.W.findIn K (.ref C) "without" = some (some (.ref f26)))
    (i26 : PySem.W.isFn K (.ref f26) = true)
    (l26 : K.lookup f26 = some ⟨oc26, od26, .func (PySem.W.fnOf "without" "Net.without" (defArgs s_Net_without) (defBody s_Net_without) (defScope s_Net_without) .none kV26 dc26 pm26 an26 cd26 ct26), sl26⟩)
    (c26 : PySem.W.codeIn K cd26 "Net.without" = true)
    (k26 : PySem.W.keepIn K (.ref f26) = true)
    (a27 : PySem.W.nsIn K mainGlobals "net_text" = some (some (.ref f27)))
    (l27 : K.lookup f27 = some ⟨oc27, od27, .func (PySem.W.fnOf "net_text" "net_text" (defArgs s_net_text) (defBody s_net_text) (defScope s_net_text) .none kV27 dc27 pm27 an27 cd27 ct27), sl27⟩)
    (c27 : PySem.W.codeIn K cd27 "net_text" = true)
    (k27 : PySem.W.keepIn K (.ref f27) = true)
    (a28 : PySem.W.nsIn K mainGlobals "table_text" = some (some (.ref f28)))
    (l28 : K.lookup f28 = some ⟨oc28, od28, .func (PySem.W.fnOf "table_text" "table_text" (defArgs s_table_text) (defBody s_table_text) (defScope s_table_text) .none kV28 dc28 pm28 an28 cd28 ct28), sl28⟩)
    (c28 : PySem.W.codeIn K cd28 "table_text" = true)
    (k28 : PySem.W.keepIn K (.ref f28) = true)
    (a29 : PySem.W.nsIn K mainGlobals "number_of" = some (some (.ref f29)))
    (l29 : K.lookup f29 = some ⟨oc29, od29, .func (PySem.W.fnOf "number_of" "number_of" (defArgs s_number_of) (defBody s_number_of) (defScope s_number_of) .none kV29 dc29 pm29 an29 cd29 ct29), sl29⟩)
    (c29 : PySem.W.codeIn K cd29 "number_of" = true)
    (k29 : PySem.W.keepIn K (.ref f29) = true)
    (a30 : PySem.W.nsIn K mainGlobals "_tie_of" = some (some (.ref f30)))
    (l30 : K.lookup f30 = some ⟨oc30, od30, .func (PySem.W.fnOf "_tie_of" "_tie_of" (defArgs s__tie_of) (defBody s__tie_of) (defScope s__tie_of) .none kV30 dc30 pm30 an30 cd30 ct30), sl30⟩)
    (c30 : PySem.W.codeIn K cd30 "_tie_of" = true)
    (k30 : PySem.W.keepIn K (.ref f30) = true)
    (a31 : PySem.W.nsIn K mainGlobals "read_net" = some (some (.ref f31)))
    (l31 : K.lookup f31 = some ⟨oc31, od31, .func (PySem.W.fnOf "read_net" "read_net" (defArgs s_read_net) (defBody s_read_net) (defScope s_read_net) .none kV31 dc31 pm31 an31 cd31 ct31), sl31⟩)
    (c31 : PySem.W.codeIn K cd31 "read_net" = true)
    (k31 : PySem.W.keepIn K (.ref f31) = true)
    (a32 : PySem.W.nsIn K mainGlobals "_law_draws" = some (some (.ref f32)))
    (l32 : K.lookup f32 = some ⟨oc32, od32, .func (PySem.W.fnOf "_law_draws" "_law_draws" (defArgs s__law_draws) (defBody s__law_draws) (defScope s__law_draws) .none kV32 dc32 pm32 an32 cd32 ct32), sl32⟩)
    (c32 : PySem.W.codeIn K cd32 "_law_draws" = true)
    (k32 : PySem.W.keepIn K (.ref f32) = true)
    (a33 : PySem.W.nsIn K mainGlobals "_law_wide" = some (some (.ref f33)))
    (l33 : K.lookup f33 = some ⟨oc33, od33, .func (PySem.W.fnOf "_law_wide" "_law_wide" (defArgs s__law_wide) (defBody s__law_wide) (defScope s__law_wide) .none kV33 dc33 pm33 an33 cd33 ct33), sl33⟩)
    (c33 : PySem.W.codeIn K cd33 "_law_wide" = true)
    (k33 : PySem.W.keepIn K (.ref f33) = true)
    (a34 : PySem.W.nsIn K mainGlobals "_law_net" = some (some (.ref f34)))
    (l34 : K.lookup f34 = some ⟨oc34, od34, .func (PySem.W.fnOf "_law_net" "_law_net" (defArgs s__law_net) (defBody s__law_net) (defScope s__law_net) .none kV34 dc34 pm34 an34 cd34 ct34), sl34⟩)
    (c34 : PySem.W.codeIn K cd34 "_law_net" = true)
    (k34 : PySem.W.keepIn K (.ref f34) = true)
    (a35 : PySem.W.nsIn K mainGlobals "_law_tie_word" = some (some (.ref f35)))
    (l35 : K.lookup f35 = some ⟨oc35, od35, .func (PySem.W.fnOf "_law_tie_word" "_law_tie_word" (defArgs s__law_tie_word) (defBody s__law_tie_word) (defScope s__law_tie_word) .none kV35 dc35 pm35 an35 cd35 ct35), sl35⟩)
    (c35 : PySem.W.codeIn K cd35 "_law_tie_word" = true)
    (k35 : PySem.W.keepIn K (.ref f35) = true)
    (a36 : PySem.W.nsIn K mainGlobals "_law_text" = some (some (.ref f36)))
    (l36 : K.lookup f36 = some ⟨oc36, od36, .func (PySem.W.fnOf "_law_text" "_law_text" (defArgs s__law_text) (defBody s__law_text) (defScope s__law_text) .none kV36 dc36 pm36 an36 cd36 ct36), sl36⟩)
    (c36 : PySem.W.codeIn K cd36 "_law_text" = true)
    (k36 : PySem.W.keepIn K (.ref f36) = true)
    (a37 : PySem.W.nsIn K mainGlobals "_law_far" = some (some (.ref f37)))
    (l37 : K.lookup f37 = some ⟨oc37, od37, .func (PySem.W.fnOf "_law_far" "_law_far" (defArgs s__law_far) (defBody s__law_far) (defScope s__law_far) .none kV37 dc37 pm37 an37 cd37 ct37), sl37⟩)
    (c37 : PySem.W.codeIn K cd37 "_law_far" = true)
    (k37 : PySem.W.keepIn K (.ref f37) = true)
    (a38 : PySem.W.nsIn K mainGlobals "_law_next" = some (some (.ref f38)))
    (l38 : K.lookup f38 = some ⟨oc38, od38, .func (PySem.W.fnOf "_law_next" "_law_next" (defArgs s__law_next) (defBody s__law_next) (defScope s__law_next) .none kV38 dc38 pm38 an38 cd38 ct38), sl38⟩)
    (c38 : PySem.W.codeIn K cd38 "_law_next" = true)
    (k38 : PySem.W.keepIn K (.ref f38) = true)
    (a39 : PySem.W.nsIn K mainGlobals "_is_name" = some (some (.ref f39)))
    (l39 : K.lookup f39 = some ⟨oc39, od39, .func (PySem.W.fnOf "_is_name" "_is_name" (defArgs s__is_name) (defBody s__is_name) (defScope s__is_name) .none kV39 dc39 pm39 an39 cd39 ct39), sl39⟩)
    (c39 : PySem.W.codeIn K cd39 "_is_name" = true)
    (k39 : PySem.W.keepIn K (.ref f39) = true)
    (a40 : PySem.W.nsIn K mainGlobals "_words_of" = some (some (.ref f40)))
    (l40 : K.lookup f40 = some ⟨oc40, od40, .func (PySem.W.fnOf "_words_of" "_words_of" (defArgs s__words_of) (defBody s__words_of) (defScope s__words_of) .none kV40 dc40 pm40 an40 cd40 ct40), sl40⟩)
    (c40 : PySem.W.codeIn K cd40 "_words_of" = true)
    (k40 : PySem.W.keepIn K (.ref f40) = true)
    (a41 : PySem.W.nsIn K mainGlobals "_number_at" = some (some (.ref f41)))
    (l41 : K.lookup f41 = some ⟨oc41, od41, .func (PySem.W.fnOf "_number_at" "_number_at" (defArgs s__number_at) (defBody s__number_at) (defScope s__number_at) .none kV41 dc41 pm41 an41 cd41 ct41), sl41⟩)
    (c41 : PySem.W.codeIn K cd41 "_number_at" = true)
    (k41 : PySem.W.keepIn K (.ref f41) = true)
    (a42 : PySem.W.nsIn K mainGlobals "_fall_of" = some (some (.ref f42)))
    (l42 : K.lookup f42 = some ⟨oc42, od42, .func (PySem.W.fnOf "_fall_of" "_fall_of" (defArgs s__fall_of) (defBody s__fall_of) (defScope s__fall_of) .none kV42 dc42 pm42 an42 cd42 ct42), sl42⟩)
    (c42 : PySem.W.codeIn K cd42 "_fall_of" = true)
    (k42 : PySem.W.keepIn K (.ref f42) = true)
    (a43 : PySem.W.nsIn K mainGlobals "_joined" = some (some (.ref f43)))
    (l43 : K.lookup f43 = some ⟨oc43, od43, .func (PySem.W.fnOf "_joined" "_joined" (defArgs s__joined) (defBody s__joined) (defScope s__joined) .none kV43 dc43 pm43 an43 cd43 ct43), sl43⟩)
    (c43 : PySem.W.codeIn K cd43 "_joined" = true)
    (k43 : PySem.W.keepIn K (.ref f43) = true)
    (a44 : PySem.W.nsIn K mainGlobals "_net" = some (some (.ref f44)))
    (l44 : K.lookup f44 = some ⟨oc44, od44, .func (PySem.W.fnOf "_net" "_net" (defArgs s__net) (defBody s__net) (defScope s__net) .none kV44 dc44 pm44 an44 cd44 ct44), sl44⟩)
    (c44 : PySem.W.codeIn K cd44 "_net" = true)
    (k44 : PySem.W.keepIn K (.ref f44) = true)
    (a45 : PySem.W.nsIn K mainGlobals "_weigh" = some (some (.ref f45)))
    (l45 : K.lookup f45 = some ⟨oc45, od45, .func (PySem.W.fnOf "_weigh" "_weigh" (defArgs s__weigh) (defBody s__weigh) (defScope s__weigh) .none kV45 dc45 pm45 an45 cd45 ct45), sl45⟩)
    (c45 : PySem.W.codeIn K cd45 "_weigh" = true)
    (k45 : PySem.W.keepIn K (.ref f45) = true)
    (a46 : PySem.W.nsIn K mainGlobals "_show" = some (some (.ref f46)))
    (l46 : K.lookup f46 = some ⟨oc46, od46, .func (PySem.W.fnOf "_show" "_show" (defArgs s__show) (defBody s__show) (defScope s__show) .none kV46 dc46 pm46 an46 cd46 ct46), sl46⟩)
    (c46 : PySem.W.codeIn K cd46 "_show" = true)
    (k46 : PySem.W.keepIn K (.ref f46) = true)
    (a47 : PySem.W.nsIn K mainGlobals "_table" = some (some (.ref f47)))
    (l47 : K.lookup f47 = some ⟨oc47, od47, .func (PySem.W.fnOf "_table" "_table" (defArgs s__table) (defBody s__table) (defScope s__table) .none kV47 dc47 pm47 an47 cd47 ct47), sl47⟩)
    (c47 : PySem.W.codeIn K cd47 "_table" = true)
    (k47 : PySem.W.keepIn K (.ref f47) = true)
    (a48 : PySem.W.nsIn K mainGlobals "_way" = some (some (.ref f48)))
    (l48 : K.lookup f48 = some ⟨oc48, od48, .func (PySem.W.fnOf "_way" "_way" (defArgs s__way) (defBody s__way) (defScope s__way) .none kV48 dc48 pm48 an48 cd48 ct48), sl48⟩)
    (c48 : PySem.W.codeIn K cd48 "_way" = true)
    (k48 : PySem.W.keepIn K (.ref f48) = true)
    (a49 : PySem.W.nsIn K mainGlobals "_fall" = some (some (.ref f49)))
    (l49 : K.lookup f49 = some ⟨oc49, od49, .func (PySem.W.fnOf "_fall" "_fall" (defArgs s__fall) (defBody s__fall) (defScope s__fall) (.ref dT49) kV49 dc49 pm49 an49 cd49 ct49), sl49⟩)
    (ld49 : K.lookup dT49 = some ⟨ocd49, odd49, .seq #[.none] ned49, sld49⟩)
    (c49 : PySem.W.codeIn K cd49 "_fall" = true)
    (k49 : PySem.W.keepIn K (.ref f49) = true)
    (a50 : PySem.W.findIn K (.ref CD) "__init__" = some (some (.ref f50)))
    (i50 : PySem.W.isFn K (.ref f50) = true)
    (l50 : K.lookup f50 = some ⟨oc50, od50, .func (PySem.W.fnOf "__init__" "Desk.__init__" (defArgs s_Desk___init__) (defBody s_Desk___init__) (defScope s_Desk___init__) .none kV50 dc50 pm50 an50 cd50 ct50), sl50⟩)
    (c50 : PySem.W.codeIn K cd50 "Desk.__init__" = true)
    (k50 : PySem.W.keepIn K (.ref f50) = true)
    (a51 : PySem.W.findIn K (.ref CD) "_refuse_names" = some (some (.ref f51)))
    (i51 : PySem.W.isFn K (.ref f51) = true)
    (l51 : K.lookup f51 = some ⟨oc51, od51, .func (PySem.W.fnOf "_refuse_names" "Desk._refuse_names" (defArgs s_Desk__refuse_names) (defBody s_Desk__refuse_names) (defScope s_Desk__refuse_names) .none kV51 dc51 pm51 an51 cd51 ct51), sl51⟩)
    (c51 : PySem.W.codeIn K cd51 "Desk._refuse_names" = true)
    (k51 : PySem.W.keepIn K (.ref f51) = true)
    (a52 : PySem.W.findIn K (.ref CD) "_handed" = some (some (.ref f52)))
    (i52 : PySem.W.isFn K (.ref f52) = true)
    (l52 : K.lookup f52 = some ⟨oc52, od52, .func (PySem.W.fnOf "_handed" "Desk._handed" (defArgs s_Desk__handed) (defBody s_Desk__handed) (defScope s_Desk__handed) .none kV52 dc52 pm52 an52 cd52 ct52), sl52⟩)
    (c52 : PySem.W.codeIn K cd52 "Desk._handed" = true)
    (k52 : PySem.W.keepIn K (.ref f52) = true)
    (a53 : PySem.W.findIn K (.ref CD) "tell" = some (some (.ref f53)))
    (i53 : PySem.W.isFn K (.ref f53) = true)
    (l53 : K.lookup f53 = some ⟨oc53, od53, .func (PySem.W.fnOf "tell" "Desk.tell" (defArgs s_Desk_tell) (defBody s_Desk_tell) (defScope s_Desk_tell) .none kV53 dc53 pm53 an53 cd53 ct53), sl53⟩)
    (c53 : PySem.W.codeIn K cd53 "Desk.tell" = true)
    (k53 : PySem.W.keepIn K (.ref f53) = true)
    (a54 : PySem.W.nsIn K mainGlobals "_law_words" = some (some (.ref f54)))
    (l54 : K.lookup f54 = some ⟨oc54, od54, .func (PySem.W.fnOf "_law_words" "_law_words" (defArgs s__law_words) (defBody s__law_words) (defScope s__law_words) .none kV54 dc54 pm54 an54 cd54 ct54), sl54⟩)
    (c54 : PySem.W.codeIn K cd54 "_law_words" = true)
    (k54 : PySem.W.keepIn K (.ref f54) = true)
    (a55 : PySem.W.nsIn K mainGlobals "_law_spread" = some (some (.ref f55)))
    (l55 : K.lookup f55 = some ⟨oc55, od55, .func (PySem.W.fnOf "_law_spread" "_law_spread" (defArgs s__law_spread) (defBody s__law_spread) (defScope s__law_spread) .none kV55 dc55 pm55 an55 cd55 ct55), sl55⟩)
    (c55 : PySem.W.codeIn K cd55 "_law_spread" = true)
    (k55 : PySem.W.keepIn K (.ref f55) = true)
    (a56 : PySem.W.nsIn K mainGlobals "_law_without" = some (some (.ref f56)))
    (l56 : K.lookup f56 = some ⟨oc56, od56, .func (PySem.W.fnOf "_law_without" "_law_without" (defArgs s__law_without) (defBody s__law_without) (defScope s__law_without) .none kV56 dc56 pm56 an56 cd56 ct56), sl56⟩)
    (c56 : PySem.W.codeIn K cd56 "_law_without" = true)
    (k56 : PySem.W.keepIn K (.ref f56) = true)
    (a57 : PySem.W.nsIn K mainGlobals "_law_deed" = some (some (.ref f57)))
    (l57 : K.lookup f57 = some ⟨oc57, od57, .func (PySem.W.fnOf "_law_deed" "_law_deed" (defArgs s__law_deed) (defBody s__law_deed) (defScope s__law_deed) .none kV57 dc57 pm57 an57 cd57 ct57), sl57⟩)
    (c57 : PySem.W.codeIn K cd57 "_law_deed" = true)
    (k57 : PySem.W.keepIn K (.ref f57) = true)
    (a58 : PySem.W.nsIn K mainGlobals "_law_done" = some (some (.ref f58)))
    (l58 : K.lookup f58 = some ⟨oc58, od58, .func (PySem.W.fnOf "_law_done" "_law_done" (defArgs s__law_done) (defBody s__law_done) (defScope s__law_done) .none kV58 dc58 pm58 an58 cd58 ct58), sl58⟩)
    (c58 : PySem.W.codeIn K cd58 "_law_done" = true)
    (k58 : PySem.W.keepIn K (.ref f58) = true)
    (a59 : PySem.W.nsIn K mainGlobals "_law_told_well" = some (some (.ref f59)))
    (l59 : K.lookup f59 = some ⟨oc59, od59, .func (PySem.W.fnOf "_law_told_well" "_law_told_well" (defArgs s__law_told_well) (defBody s__law_told_well) (defScope s__law_told_well) .none kV59 dc59 pm59 an59 cd59 ct59), sl59⟩)
    (c59 : PySem.W.codeIn K cd59 "_law_told_well" = true)
    (k59 : PySem.W.keepIn K (.ref f59) = true)
    (a60 : PySem.W.nsIn K mainGlobals "law" = some (some (.ref f60)))
    (l60 : K.lookup f60 = some ⟨oc60, od60, .func (PySem.W.fnOf "law" "law" (defArgs s_law) (defBody s_law) (defScope s_law) .none kV60 dc60 pm60 an60 cd60 ct60), sl60⟩)
    (c60 : PySem.W.codeIn K cd60 "law" = true)
    (k60 : PySem.W.keepIn K (.ref f60) = true)
    (z_len : PySem.W.nsIn K mainGlobals "len" = some none)
    (z_min : PySem.W.nsIn K mainGlobals "min" = some none)
    (z_max : PySem.W.nsIn K mainGlobals "max" = some none)
    (z_set : PySem.W.nsIn K mainGlobals "set" = some none)
    (z_enumerate : PySem.W.nsIn K mainGlobals "enumerate" = some none)
    (z_tuple : PySem.W.nsIn K mainGlobals "tuple" = some none)
    (z_sorted : PySem.W.nsIn K mainGlobals "sorted" = some none)
    (z_range : PySem.W.nsIn K mainGlobals "range" = some none)
    (z_str : PySem.W.nsIn K mainGlobals "str" = some none)
    (z_all : PySem.W.nsIn K mainGlobals "all" = some none)
    (z_int : PySem.W.nsIn K mainGlobals "int" = some none)
    (z_zip : PySem.W.nsIn K mainGlobals "zip" = some none)
    (z_list : PySem.W.nsIn K mainGlobals "list" = some none)
    (z_dict : PySem.W.nsIn K mainGlobals "dict" = some none)
    (gcon0 : PySem.W.nsIn K mainGlobals "LEAST_COUNT" = some (some (.int 2 t0)))
    (gcon1 : PySem.W.nsIn K mainGlobals "GREATEST_COUNT" = some (some (.int 12 t1)))
    (gcon2 : PySem.W.nsIn K mainGlobals "LEAST_WEIGHT" = some (some (.int 1 t2)))
    (gcon3 : PySem.W.nsIn K mainGlobals "FIGURES" = some (some (.str "0123456789" t3)))
    (gcon4 : PySem.W.nsIn K mainGlobals "MOST_LETTERS" = some (some (.int 8 t4)))
    (gcon5 : PySem.W.nsIn K mainGlobals "LETTERS" = some (some (.str "abcdefghijklmnopqrstuvwxyz" t5)))
    (gtup0 : PySem.W.nsIn K mainGlobals "SHORTER" = some (some (.ref cT0)))
    (ltup0 : K.lookup cT0 = some ⟨.type "tuple", odT0, .seq #[.str "fall" tT0_0, .str "lost" tT0_1] nT0, slT0⟩)
    (pg : PySem.W.plainGet K C Str.empty = true)
    (hd : PySem.W.hasDictIn K C = true)
    (po : PySem.W.plainOver K C = true)
    (sa : PySem.W.findIn K (.ref C) "__setattr__" = some (some (.builtin "object.__setattr__")))
    (mk : PySem.W.makesIn K C = true)
    (kc : PySem.W.keepIn K (.ref C) = true)
    (n_count : PySem.W.findIn K (.ref C) "count" = some none)
    (n_ties : PySem.W.findIn K (.ref C) "ties" = some none)
    (n__weights : PySem.W.findIn K (.ref C) "_weights" = some none)
    (pgD : PySem.W.plainGet K CD Str.empty = true)
    (hdD : PySem.W.hasDictIn K CD = true)
    (poD : PySem.W.plainOver K CD = true)
    (saD : PySem.W.findIn K (.ref CD) "__setattr__" = some (some (.builtin "object.__setattr__")))
    (mkD : PySem.W.makesIn K CD = true)
    (kcD : PySem.W.keepIn K (.ref CD) = true)
    (n__nets : PySem.W.findIn K (.ref CD) "_nets" = some none)
    (g_KINDS : PySem.W.nsIn K mainGlobals "KINDS" = some (some (.ref k_KINDS)))
    (lk_KINDS : K.lookup k_KINDS = some ⟨.type "dict", none, .dict es_KINDS ep_KINDS, #[]⟩)
    (en_KINDS : EntsOf w es_KINDS.toList [("net", .ref k_KINDS0), ("weigh", .ref k_KINDS1), ("fall", .ref k_KINDS2), ("drop", .ref k_KINDS3), ("show", .ref k_KINDS4), ("table", .ref k_KINDS5), ("way", .ref k_KINDS6), ("spare", .ref k_KINDS7), ("lost", .ref k_KINDS8), ("hand", .ref k_KINDS9), ("trees", .ref k_KINDS10), ("order", .ref k_KINDS11), ("all", .ref k_KINDS12)])
    (lo_KINDS : (k_KINDS == sysModules) = false)
    (l_k_KINDS0 : K.lookup k_KINDS0 = some ⟨.type "tuple", od_k_KINDS0, .seq #[.str "new" t_k_KINDS0_0, .str "word" t_k_KINDS0_1] ne_k_KINDS0, sl_k_KINDS0⟩)
    (l_k_KINDS1 : K.lookup k_KINDS1 = some ⟨.type "tuple", od_k_KINDS1, .seq #[.str "name" t_k_KINDS1_0, .str "number" t_k_KINDS1_1, .str "number" t_k_KINDS1_2, .str "number" t_k_KINDS1_3] ne_k_KINDS1, sl_k_KINDS1⟩)
    (l_k_KINDS2 : K.lookup k_KINDS2 = some ⟨.type "tuple", od_k_KINDS2, .seq #[.str "new" t_k_KINDS2_0, .str "name" t_k_KINDS2_1, .str "number" t_k_KINDS2_2, .str "number" t_k_KINDS2_3] ne_k_KINDS2, sl_k_KINDS2⟩)
    (l_k_KINDS3 : K.lookup k_KINDS3 = some ⟨.type "tuple", od_k_KINDS3, .seq #[.str "name" t_k_KINDS3_0] ne_k_KINDS3, sl_k_KINDS3⟩)
    (l_k_KINDS4 : K.lookup k_KINDS4 = some ⟨.type "tuple", od_k_KINDS4, .seq #[.str "name" t_k_KINDS4_0] ne_k_KINDS4, sl_k_KINDS4⟩)
    (l_k_KINDS5 : K.lookup k_KINDS5 = some ⟨.type "tuple", od_k_KINDS5, .seq #[.str "name" t_k_KINDS5_0, .str "number" t_k_KINDS5_1] ne_k_KINDS5, sl_k_KINDS5⟩)
    (l_k_KINDS6 : K.lookup k_KINDS6 = some ⟨.type "tuple", od_k_KINDS6, .seq #[.str "name" t_k_KINDS6_0, .str "number" t_k_KINDS6_1, .str "number" t_k_KINDS6_2] ne_k_KINDS6, sl_k_KINDS6⟩)
    (l_k_KINDS7 : K.lookup k_KINDS7 = some ⟨.type "tuple", od_k_KINDS7, .seq #[.str "name" t_k_KINDS7_0, .str "number" t_k_KINDS7_1, .str "number" t_k_KINDS7_2, .str "word" t_k_KINDS7_3] ne_k_KINDS7, sl_k_KINDS7⟩)
    (l_k_KINDS8 : K.lookup k_KINDS8 = some ⟨.type "tuple", od_k_KINDS8, .seq #[.str "name" t_k_KINDS8_0, .str "number" t_k_KINDS8_1, .str "number" t_k_KINDS8_2, .str "number" t_k_KINDS8_3] ne_k_KINDS8, sl_k_KINDS8⟩)
    (l_k_KINDS9 : K.lookup k_KINDS9 = some ⟨.type "tuple", od_k_KINDS9, .seq #[.str "name" t_k_KINDS9_0, .str "number" t_k_KINDS9_1, .str "number" t_k_KINDS9_2] ne_k_KINDS9, sl_k_KINDS9⟩)
    (l_k_KINDS10 : K.lookup k_KINDS10 = some ⟨.type "tuple", od_k_KINDS10, .seq #[.str "name" t_k_KINDS10_0, .str "number" t_k_KINDS10_1, .str "word" t_k_KINDS10_2] ne_k_KINDS10, sl_k_KINDS10⟩)
    (l_k_KINDS11 : K.lookup k_KINDS11 = some ⟨.type "tuple", od_k_KINDS11, .seq #[.str "name" t_k_KINDS11_0, .str "name" t_k_KINDS11_1, .str "number" t_k_KINDS11_2] ne_k_KINDS11, sl_k_KINDS11⟩)
    (l_k_KINDS12 : K.lookup k_KINDS12 = some ⟨.type "tuple", od_k_KINDS12, .seq #[] ne_k_KINDS12, sl_k_KINDS12⟩)
    (g_MAKERS : PySem.W.nsIn K mainGlobals "MAKERS" = some (some (.ref k_MAKERS)))
    (lk_MAKERS : K.lookup k_MAKERS = some ⟨.type "dict", none, .dict es_MAKERS ep_MAKERS, #[]⟩)
    (en_MAKERS : EntsOf w es_MAKERS.toList [("net", .ref f44), ("weigh", .ref f45), ("fall", .ref f49)])
    (lo_MAKERS : (k_MAKERS == sysModules) = false)
    (g_TELLERS : PySem.W.nsIn K mainGlobals "TELLERS" = some (some (.ref k_TELLERS)))
    (lk_TELLERS : K.lookup k_TELLERS = some ⟨.type "dict", none, .dict es_TELLERS ep_TELLERS, #[]⟩)
    (en_TELLERS : EntsOf w es_TELLERS.toList [("show", .ref f46), ("table", .ref f47), ("way", .ref f48), ("spare", .ref k_TELLERS3), ("lost", .ref k_TELLERS4), ("hand", .ref k_TELLERS5), ("trees", .ref k_TELLERS6), ("order", .ref k_TELLERS7)])
    (lo_TELLERS : (k_TELLERS == sysModules) = false)
    (g_k_TELLERS3 : PySem.W.nsIn K mainGlobals "_spare" = some (some (.ref k_TELLERS3)))
    (g_k_TELLERS4 : PySem.W.nsIn K mainGlobals "_lost" = some (some (.ref k_TELLERS4)))
    (g_k_TELLERS5 : PySem.W.nsIn K mainGlobals "_hand" = some (some (.ref k_TELLERS5)))
    (g_k_TELLERS6 : PySem.W.nsIn K mainGlobals "_trees" = some (some (.ref k_TELLERS6)))
    (g_k_TELLERS7 : PySem.W.nsIn K mainGlobals "_order" = some (some (.ref k_TELLERS7))) :
    ∃ fd : FuncData, (∀ (s : Shared) (v : Value), BindsTo s fd ⟨[v], []⟩ [("_law_script", v)]) ∧ ∀ base : Heap, K.In base → base.Ns mainGlobals mg → FnOk l.prog w K mg base CX0 11 fa fd ["_law_script"] (spLaw K) := by
  have T : Tx K mg C f11 CD f50 := { d__law_cell_at := dfn_of X G a0 l0 c0 k0, d__law_mixed := dfn_of X G a1 l1 c1 k1, d_is_house := dfn_of X G a2 l2 c2 k2, d_refuse_houses := dfn_of X G a3 l3 c3 k3, d_pair_of := dfn_of X G a4 l4 c4 k4, d__refuse_count := dfn_of X G a5 l5 c5 k5, d__refuse_pairs := dfn_of X G a6 l6 c6 k6, d__refuse_weights := dfn_of X G a7 l7 c7 k7, d__refuse_ties := dfn_of X G a8 l8 c8 k8, d__lesser_first := dfn_of X G a9 l9 c9 k9, d__weights_of := dfn_of X G a10 l10 c10 k10, d_Net___init__ := ⟨_, fun_mk l11 c11 k11⟩, d_Net_neighbours := ⟨_, _, fun_mk l12 c12 k12, ⟨a12, i12, k12⟩⟩, d_Net_weight := ⟨_, _, fun_mk l13 c13 k13, ⟨a13, i13, k13⟩⟩, d__is_nearer_by := dfn_of X G a14 l14 c14 k14, d_distances_to := dfn_of X G a15 l15 c15 k15, d_steps_on := dfn_of X G a16 l16 c16 k16, d_step_on := dfn_of X G a17 l17 c17 k17, d_least_way := dfn_of X G a18 l18 c18 k18, d_refuse_table := dfn_of X G a19 l19 c19 k19, d_next_table := dfn_of X G a20 l20 c20 k20, d_weighed := dfn_of X G a21 l21 c21 k21, d_refuse_weight := dfn_of X G a22 l22 c22 k22, d_refuse_untied := dfn_of X G a23 l23 c23 k23, d_refuse_fall := dfn_of X G a24 l24 c24 k24, d_falls_with := dfn_of X G a25 l25 c25 k25, d_Net_without := ⟨_, _, fun_mk l26 c26 k26, ⟨a26, i26, k26⟩⟩, d_net_text := dfn_of X G a27 l27 c27 k27, d_table_text := dfn_of X G a28 l28 c28 k28, d_number_of := dfn_of X G a29 l29 c29 k29, d__tie_of := dfn_of X G a30 l30 c30 k30, d_read_net := dfn_of X G a31 l31 c31 k31, d__law_draws := dfn_of X G a32 l32 c32 k32, d__law_wide := dfn_of X G a33 l33 c33 k33, d__law_net := dfn_of X G a34 l34 c34 k34, d__law_tie_word := dfn_of X G a35 l35 c35 k35, d__law_text := dfn_of X G a36 l36 c36 k36, d__law_far := dfn_of X G a37 l37 c37 k37, d__law_next := dfn_of X G a38 l38 c38 k38, d__is_name := dfn_of X G a39 l39 c39 k39, d__words_of := dfn_of X G a40 l40 c40 k40, d__number_at := dfn_of X G a41 l41 c41 k41, d__fall_of := dfn_of X G a42 l42 c42 k42, d__joined := dfn_of X G a43 l43 c43 k43, d__net := dfn_of X G a44 l44 c44 k44, d__weigh := dfn_of X G a45 l45 c45 k45, d__show := dfn_of X G a46 l46 c46 k46, d__table := dfn_of X G a47 l47 c47 k47, d__way := dfn_of X G a48 l48 c48 k48, d__fall := ⟨⟨_, _, ⟨⟨_, _, _, _, _, _, _, _, _, _, rfl, l49, c49, .inr ⟨List.cons_ne_nil _ _, _, _, [.none], _, rfl, ld49, rfl, .cons rfl .nil⟩, .inl rfl⟩, k49⟩, PySem.W.mg_of X G a49⟩⟩, d_Desk___init__ := ⟨_, fun_mk l50 c50 k50⟩, d_Desk__refuse_names := ⟨_, _, fun_mk l51 c51 k51, ⟨a51, i51, k51⟩⟩, d_Desk__handed := ⟨_, _, fun_mk l52 c52 k52, ⟨a52, i52, k52⟩⟩, d_Desk_tell := ⟨_, _, fun_mk l53 c53 k53, ⟨a53, i53, k53⟩⟩, d__law_words := dfn_of X G a54 l54 c54 k54, d__law_spread := dfn_of X G a55 l55 c55 k55, d__law_without := dfn_of X G a56 l56 c56 k56, d__law_deed := dfn_of X G a57 l57 c57 k57, d__law_done := dfn_of X G a58 l58 c58 k58, d__law_told_well := dfn_of X G a59 l59 c59 k59, d_law := dfn_of X G a60 l60 c60 k60, z_len := PySem.W.mg_none_of X G z_len, z_min := PySem.W.mg_none_of X G z_min, z_max := PySem.W.mg_none_of X G z_max, z_set := PySem.W.mg_none_of X G z_set, z_enumerate := PySem.W.mg_none_of X G z_enumerate, z_tuple := PySem.W.mg_none_of X G z_tuple, z_sorted := PySem.W.mg_none_of X G z_sorted, z_range := PySem.W.mg_none_of X G z_range, z_str := PySem.W.mg_none_of X G z_str, z_all := PySem.W.mg_none_of X G z_all, z_int := PySem.W.mg_none_of X G z_int, z_zip := PySem.W.mg_none_of X G z_zip, z_list := PySem.W.mg_none_of X G z_list, z_dict := PySem.W.mg_none_of X G z_dict, c_least := ⟨_, PySem.W.mg_of X G gcon0⟩, c_greatest := ⟨_, PySem.W.mg_of X G gcon1⟩, c_leastw := ⟨_, PySem.W.mg_of X G gcon2⟩, c_fig := ⟨_, PySem.W.mg_of X G gcon3⟩, c_mostl := ⟨_, PySem.W.mg_of X G gcon4⟩, c_letters := ⟨_, PySem.W.mg_of X G gcon5⟩, c_shorter := ⟨_, PySem.W.mg_of X G gtup0, _, _, _, ltup0, rfl, rfl, (show (2 : Nat) ≤ sizeLine by rw [sizeLine_eq]; decide), vals_strs2⟩, cN := ⟨pg, hd, po, sa⟩, mkN := ⟨mk, a11, i11, kc⟩, mgN := PySem.W.mg_of X G aC, n_count := n_count, n_ties := n_ties, n__weights := n__weights, cD := ⟨pgD, hdD, poD, saD⟩, mkD := ⟨mkD, a50, i50, kcD⟩, mgD := PySem.W.mg_of X G aCD, n__nets := n__nets }
  have U : Dkx w K mg := { KINDS := ⟨_, _, _, _, _, _, _, _, _, _, _, _, _, _, PySem.W.mg_of X G g_KINDS, ⟨⟨_, _, lk_KINDS, en_KINDS⟩, (show (["net", "weigh", "fall", "drop", "show", "table", "way", "spare", "lost", "hand", "trees", "order", "all"] : List Str).Nodup by decide +kernel), lo_KINDS⟩, ⟨_, _, _, l_k_KINDS0, rfl, rfl, (show (2 : Nat) ≤ sizeLine by rw [sizeLine_eq]; decide), .cons ⟨_, rfl⟩ (.cons ⟨_, rfl⟩ (.nil))⟩, ⟨_, _, _, l_k_KINDS1, rfl, rfl, (show (4 : Nat) ≤ sizeLine by rw [sizeLine_eq]; decide), .cons ⟨_, rfl⟩ (.cons ⟨_, rfl⟩ (.cons ⟨_, rfl⟩ (.cons ⟨_, rfl⟩ (.nil))))⟩, ⟨_, _, _, l_k_KINDS2, rfl, rfl, (show (4 : Nat) ≤ sizeLine by rw [sizeLine_eq]; decide), .cons ⟨_, rfl⟩ (.cons ⟨_, rfl⟩ (.cons ⟨_, rfl⟩ (.cons ⟨_, rfl⟩ (.nil))))⟩, ⟨_, _, _, l_k_KINDS3, rfl, rfl, (show (1 : Nat) ≤ sizeLine by rw [sizeLine_eq]; decide), .cons ⟨_, rfl⟩ (.nil)⟩, ⟨_, _, _, l_k_KINDS4, rfl, rfl, (show (1 : Nat) ≤ sizeLine by rw [sizeLine_eq]; decide), .cons ⟨_, rfl⟩ (.nil)⟩, ⟨_, _, _, l_k_KINDS5, rfl, rfl, (show (2 : Nat) ≤ sizeLine by rw [sizeLine_eq]; decide), .cons ⟨_, rfl⟩ (.cons ⟨_, rfl⟩ (.nil))⟩, ⟨_, _, _, l_k_KINDS6, rfl, rfl, (show (3 : Nat) ≤ sizeLine by rw [sizeLine_eq]; decide), .cons ⟨_, rfl⟩ (.cons ⟨_, rfl⟩ (.cons ⟨_, rfl⟩ (.nil)))⟩, ⟨_, _, _, l_k_KINDS7, rfl, rfl, (show (4 : Nat) ≤ sizeLine by rw [sizeLine_eq]; decide), .cons ⟨_, rfl⟩ (.cons ⟨_, rfl⟩ (.cons ⟨_, rfl⟩ (.cons ⟨_, rfl⟩ (.nil))))⟩, ⟨_, _, _, l_k_KINDS8, rfl, rfl, (show (4 : Nat) ≤ sizeLine by rw [sizeLine_eq]; decide), .cons ⟨_, rfl⟩ (.cons ⟨_, rfl⟩ (.cons ⟨_, rfl⟩ (.cons ⟨_, rfl⟩ (.nil))))⟩, ⟨_, _, _, l_k_KINDS9, rfl, rfl, (show (3 : Nat) ≤ sizeLine by rw [sizeLine_eq]; decide), .cons ⟨_, rfl⟩ (.cons ⟨_, rfl⟩ (.cons ⟨_, rfl⟩ (.nil)))⟩, ⟨_, _, _, l_k_KINDS10, rfl, rfl, (show (3 : Nat) ≤ sizeLine by rw [sizeLine_eq]; decide), .cons ⟨_, rfl⟩ (.cons ⟨_, rfl⟩ (.cons ⟨_, rfl⟩ (.nil)))⟩, ⟨_, _, _, l_k_KINDS11, rfl, rfl, (show (3 : Nat) ≤ sizeLine by rw [sizeLine_eq]; decide), .cons ⟨_, rfl⟩ (.cons ⟨_, rfl⟩ (.cons ⟨_, rfl⟩ (.nil)))⟩, ⟨_, _, _, l_k_KINDS12, rfl, rfl, (show (0 : Nat) ≤ sizeLine by rw [sizeLine_eq]; decide), .nil⟩⟩, MAKERS := ⟨_, _, _, _, PySem.W.mg_of X G g_MAKERS, ⟨⟨_, _, lk_MAKERS, en_MAKERS⟩, (show (["net", "weigh", "fall"] : List Str).Nodup by decide +kernel), lo_MAKERS⟩, PySem.W.mg_of X G a44, PySem.W.mg_of X G a45, PySem.W.mg_of X G a49⟩, TELLERS := ⟨_, _, _, _, _, _, _, _, _, PySem.W.mg_of X G g_TELLERS, ⟨⟨_, _, lk_TELLERS, en_TELLERS⟩, (show (["show", "table", "way", "spare", "lost", "hand", "trees", "order"] : List Str).Nodup by decide +kernel), lo_TELLERS⟩, PySem.W.mg_of X G a46, PySem.W.mg_of X G a47, PySem.W.mg_of X G a48, PySem.W.mg_of X G g_k_TELLERS3, PySem.W.mg_of X G g_k_TELLERS4, PySem.W.mg_of X G g_k_TELLERS5, PySem.W.mg_of X G g_k_TELLERS6, PySem.W.mg_of X G g_k_TELLERS7⟩ }
  obtain ⟨fd, h1, h2⟩ := law_fn (P := l.prog) (w := w) T U hfa
  exact ⟨fd, h1, fun base _ _ => h2 base⟩
end Sp
end
-- these names are taken, so that no twins of whole heaps are written out (the compiled file)
def PySem.W.Fast.tw14099270674735193306 : Nat := 0
def PySem.W.Fast.tw14198562564005498406 : Nat := 0
def PySem.W.Fast.tw6050148107596977678 : Nat := 0
def PySem.W.Fast.tw15255964256940009684 : Nat := 0
def PySem.W.Fast.tw12412100513140432718 : Nat := 0
def PySem.W.Fast.tw17663286259564329114 : Nat := 0
def PySem.W.Fast.tw12272139591987407277 : Nat := 0
def PySem.W.Fast.tw8043652070467160481 : Nat := 0
def PySem.W.Fast.tw3719740054773457945 : Nat := 0
def PySem.W.Fast.tw1788713384481452340 : Nat := 0
def PySem.W.Fast.tw5531333387782946545 : Nat := 0
def PySem.W.Fast.tw18220308560449438547 : Nat := 0
def PySem.W.Fast.tw7443185874350836629 : Nat := 0
def PySem.W.Fast.tw1910595616971904213 : Nat := 0
def PySem.W.Fast.tw1384678330873012572 : Nat := 0
def PySem.W.Fast.tw1714051357411688847 : Nat := 0
def PySem.W.Fast.tw15399906396734586048 : Nat := 0
def PySem.W.Fast.tw1528267370702214225 : Nat := 0
def PySem.W.Fast.tw14890557278968784861 : Nat := 0
def PySem.W.Fast.tw3565279972859359923 : Nat := 0
def PySem.W.Fast.tw13097643114378814405 : Nat := 0
def PySem.W.Fast.tw5089618648940420263 : Nat := 0
def PySem.W.Fast.tw16135710060392670750 : Nat := 0
def PySem.W.Fast.tw15180423473782083063 : Nat := 0
def PySem.W.Fast.tw11977005965932053823 : Nat := 0
def PySem.W.Fast.tw980237322307477677 : Nat := 0
def PySem.W.Fast.tw8074977398064907106 : Nat := 0
open PySem PySem.W PyProof.Rows
set_option maxHeartbeats 0 in
theorem PySem.Challenge.cw_sparenext_k91_lines_of_a_desk_holds : PySem.Challenge.rw_sparenext_k91_lines_of_a_desk.Holds := by
  w_on; o_law; k_head; (case hw => w_witness2)
  k_fill
  refine L2.walk_ofK (l := PySem.Challenge.rw_sparenext_k91_lines_of_a_desk) (n := 63) (k := 11) (x := "_law_script") (CX := L2.CX0) (sp := BV.spLaw) rfl (by decide) rfl ⟨rfl, by decide, by decide⟩ (fun w h Y => PySem.W.kIn_of Y) ?F (fun _ _ a ns hl _ hS => BV.sp_start hl hS) (fun _ _ _ _ h => h)
  case F =>
    intro w mg fa h KX G hmg
    refine' Sp.all_mk KX G hmg ?aC ?aCD ?a0 ?l0 ?c0 ?k0 ?a1 ?l1 ?c1 ?k1 ?a2 ?l2 ?c2 ?k2 ?a3 ?l3 ?c3 ?k3 ?a4 ?l4 ?c4 ?k4 ?a5 ?l5 ?c5 ?k5 ?a6 ?l6 ?c6 ?k6 ?a7 ?l7 ?c7 ?k7 ?a8 ?l8 ?c8 ?k8 ?a9 ?l9 ?c9 ?k9 ?a10 ?l10 ?c10 ?k10 ?a11 ?i11 ?l11 ?c11 ?k11 ?a12 ?i12 ?l12 ?c12 ?k12 ?a13 ?i13 ?l13 ?c13 ?k13 ?a14 ?l14 ?c14 ?k14 ?a15 ?l15 ?c15 ?k15 ?a16 ?l16 ?c16 ?k16 ?a17 ?l17 ?c17 ?k17 ?a18 ?l18 ?c18 ?k18 ?a19 ?l19 ?c19 ?k19 ?a20 ?l20 ?c20 ?k20 ?a21 ?l21 ?c21 ?k21 ?a22 ?l22 ?c22 ?k22 ?a23 ?l23 ?c23 ?k23 ?a24 ?l24 ?c24 ?k24 ?a25 ?l25 ?c25 ?k25 ?a26 ?i26 ?l26 ?c26 ?k26 ?a27 ?l27 ?c27 ?k27 ?a28 ?l28 ?c28 ?k28 ?a29 ?l29 ?c29 ?k29 ?a30 ?l30 ?c30 ?k30 ?a31 ?l31 ?c31 ?k31 ?a32 ?l32 ?c32 ?k32 ?a33 ?l33 ?c33 ?k33 ?a34 ?l34 ?c34 ?k34 ?a35 ?l35 ?c35 ?k35 ?a36 ?l36 ?c36 ?k36 ?a37 ?l37 ?c37 ?k37 ?a38 ?l38 ?c38 ?k38 ?a39 ?l39 ?c39 ?k39 ?a40 ?l40 ?c40 ?k40 ?a41 ?l41 ?c41 ?k41 ?a42 ?l42 ?c42 ?k42 ?a43 ?l43 ?c43 ?k43 ?a44 ?l44 ?c44 ?k44 ?a45 ?l45 ?c45 ?k45 ?a46 ?l46 ?c46 ?k46 ?a47 ?l47 ?c47 ?k47 ?a48 ?l48 ?c48 ?k48 ?a49 ?l49 ?ld49 ?c49 ?k49 ?a50 ?i50 ?l50 ?c50 ?k50 ?a51 ?i51 ?l51 ?c51 ?k51 ?a52 ?i52 ?l52 ?c52 ?k52 ?a53 ?i53 ?l53 ?c53 ?k53 ?a54 ?l54 ?c54 ?k54 ?a55 ?l55 ?c55 ?k55 ?a56 ?l56 ?c56 ?k56 ?a57 ?l57 ?c57 ?k57 ?a58 ?l58 ?c58 ?k58 ?a59 ?l59 ?c59 ?k59 ?a60 ?l60 ?c60 ?k60 ?z_len ?z_min ?z_max ?z_set ?z_enumerate ?z_tuple ?z_sorted ?z_range ?z_str ?z_all ?z_int ?z_zip ?z_list ?z_dict ?gcon0 ?gcon1 ?gcon2 ?gcon3 ?gcon4 ?gcon5 ?gtup0 ?ltup0 ?pg ?hd ?po ?sa ?mk ?kc ?n_count ?n_ties ?n__weights ?pgD ?hdD ?poD ?saD ?mkD ?kcD ?n__nets ?g_KINDS ?lk_KINDS ?en_KINDS ?lo_KINDS ?l_k_KINDS0 ?l_k_KINDS1 ?l_k_KINDS2 ?l_k_KINDS3 ?l_k_KINDS4 ?l_k_KINDS5 ?l_k_KINDS6 ?l_k_KINDS7 ?l_k_KINDS8 ?l_k_KINDS9 ?l_k_KINDS10 ?l_k_KINDS11 ?l_k_KINDS12 ?g_MAKERS ?lk_MAKERS ?en_MAKERS ?lo_MAKERS ?g_TELLERS ?lk_TELLERS ?en_TELLERS ?lo_TELLERS ?g_k_TELLERS3 ?g_k_TELLERS4 ?g_k_TELLERS5 ?g_k_TELLERS6 ?g_k_TELLERS7
    (case aC => k_is)
    (case aCD => k_is)
    (case a0 => k_is)
    (case l0 => k_is)
    (case c0 => k_is)
    (case k0 => k_is)
    (case a1 => k_is)
    (case l1 => k_is)
    (case c1 => k_is)
    (case k1 => k_is)
    (case a2 => k_is)
    (case l2 => k_is)
    (case c2 => k_is)
    (case k2 => k_is)
    (case a3 => k_is)
    (case l3 => k_is)
    (case c3 => k_is)
    (case k3 => k_is)
    (case a4 => k_is)
    (case l4 => k_is)
    (case c4 => k_is)
    (case k4 => k_is)
    (case a5 => k_is)
    (case l5 => k_is)
    (case c5 => k_is)
    (case k5 => k_is)
    (case a6 => k_is)
    (case l6 => k_is)
    (case c6 => k_is)
    (case k6 => k_is)
    (case a7 => k_is)
    (case l7 => k_is)
    (case c7 => k_is)
    (case k7 => k_is)
    (case a8 => k_is)
    (case l8 => k_is)
    (case c8 => k_is)
    (case k8 => k_is)
    (case a9 => k_is)
    (case l9 => k_is)
    (case c9 => k_is)
    (case k9 => k_is)
    (case a10 => k_is)
    (case l10 => k_is)
    (case c10 => k_is)
    (case k10 => k_is)
    (case a11 => k_is)
    (case i11 => k_is)
    (case l11 => k_is)
    (case c11 => k_is)
    (case k11 => k_is)
    (case a12 => k_is)
    (case i12 => k_is)
    (case l12 => k_is)
    (case c12 => k_is)
    (case k12 => k_is)
    (case a13 => k_is)
    (case i13 => k_is)
    (case l13 => k_is)
    (case c13 => k_is)
    (case k13 => k_is)
    (case a14 => k_is)
    (case l14 => k_is)
    (case c14 => k_is)
    (case k14 => k_is)
    (case a15 => k_is)
    (case l15 => k_is)
    (case c15 => k_is)
    (case k15 => k_is)
    (case a16 => k_is)
    (case l16 => k_is)
    (case c16 => k_is)
    (case k16 => k_is)
    (case a17 => k_is)
    (case l17 => k_is)
    (case c17 => k_is)
    (case k17 => k_is)
    (case a18 => k_is)
    (case l18 => k_is)
    (case c18 => k_is)
    (case k18 => k_is)
    (case a19 => k_is)
    (case l19 => k_is)
    (case c19 => k_is)
    (case k19 => k_is)
    (case a20 => k_is)
    (case l20 => k_is)
    (case c20 => k_is)
    (case k20 => k_is)
    (case a21 => k_is)
    (case l21 => k_is)
    (case c21 => k_is)
    (case k21 => k_is)
    (case a22 => k_is)
    (case l22 => k_is)
    (case c22 => k_is)
    (case k22 => k_is)
    (case a23 => k_is)
    (case l23 => k_is)
    (case c23 => k_is)
    (case k23 => k_is)
    (case a24 => k_is)
    (case l24 => k_is)
    (case c24 => k_is)
    (case k24 => k_is)
    (case a25 => k_is)
    (case l25 => k_is)
    (case c25 => k_is)
    (case k25 => k_is)
    (case a26 => k_is)
    (case i26 => k_is)
    (case l26 => k_is)
    (case c26 => k_is)
    (case k26 => k_is)
    (case a27 => k_is)
    (case l27 => k_is)
    (case c27 => k_is)
    (case k27 => k_is)
    (case a28 => k_is)
    (case l28 => k_is)
    (case c28 => k_is)
    (case k28 => k_is)
    (case a29 => k_is)
    (case l29 => k_is)
    (case c29 => k_is)
    (case k29 => k_is)
    (case a30 => k_is)
    (case l30 => k_is)
    (case c30 => k_is)
    (case k30 => k_is)
    (case a31 => k_is)
    (case l31 => k_is)
    (case c31 => k_is)
    (case k31 => k_is)
    (case a32 => k_is)
    (case l32 => k_is)
    (case c32 => k_is)
    (case k32 => k_is)
    (case a33 => k_is)
    (case l33 => k_is)
    (case c33 => k_is)
    (case k33 => k_is)
    (case a34 => k_is)
    (case l34 => k_is)
    (case c34 => k_is)
    (case k34 => k_is)
    (case a35 => k_is)
    (case l35 => k_is)
    (case c35 => k_is)
    (case k35 => k_is)
    (case a36 => k_is)
    (case l36 => k_is)
    (case c36 => k_is)
    (case k36 => k_is)
    (case a37 => k_is)
    (case l37 => k_is)
    (case c37 => k_is)
    (case k37 => k_is)
    (case a38 => k_is)
    (case l38 => k_is)
    (case c38 => k_is)
    (case k38 => k_is)
    (case a39 => k_is)
    (case l39 => k_is)
    (case c39 => k_is)
    (case k39 => k_is)
    (case a40 => k_is)
    (case l40 => k_is)
    (case c40 => k_is)
    (case k40 => k_is)
    (case a41 => k_is)
    (case l41 => k_is)
    (case c41 => k_is)
    (case k41 => k_is)
    (case a42 => k_is)
    (case l42 => k_is)
    (case c42 => k_is)
    (case k42 => k_is)
    (case a43 => k_is)
    (case l43 => k_is)
    (case c43 => k_is)
    (case k43 => k_is)
    (case a44 => k_is)
    (case l44 => k_is)
    (case c44 => k_is)
    (case k44 => k_is)
    (case a45 => k_is)
    (case l45 => k_is)
    (case c45 => k_is)
    (case k45 => k_is)
    (case a46 => k_is)
    (case l46 => k_is)
    (case c46 => k_is)
    (case k46 => k_is)
    (case a47 => k_is)
    (case l47 => k_is)
    (case c47 => k_is)
    (case k47 => k_is)
    (case a48 => k_is)
    (case l48 => k_is)
    (case c48 => k_is)
    (case k48 => k_is)
    (case a49 => k_is)
    (case l49 => k_is)
    (case ld49 => k_is)
    (case c49 => k_is)
    (case k49 => k_is)
    (case a50 => k_is)
    (case i50 => k_is)
    (case l50 => k_is)
    (case c50 => k_is)
    (case k50 => k_is)
    (case a51 => k_is)
    (case i51 => k_is)
    (case l51 => k_is)
    (case c51 => k_is)
    (case k51 => k_is)
    (case a52 => k_is)
    (case i52 => k_is)
    (case l52 => k_is)
    (case c52 => k_is)
    (case k52 => k_is)
    (case a53 => k_is)
    (case i53 => k_is)
    (case l53 => k_is)
    (case c53 => k_is)
    (case k53 => k_is)
    (case a54 => k_is)
    (case l54 => k_is)
    (case c54 => k_is)
    (case k54 => k_is)
    (case a55 => k_is)
    (case l55 => k_is)
    (case c55 => k_is)
    (case k55 => k_is)
    (case a56 => k_is)
    (case l56 => k_is)
    (case c56 => k_is)
    (case k56 => k_is)
    (case a57 => k_is)
    (case l57 => k_is)
    (case c57 => k_is)
    (case k57 => k_is)
    (case a58 => k_is)
    (case l58 => k_is)
    (case c58 => k_is)
    (case k58 => k_is)
    (case a59 => k_is)
    (case l59 => k_is)
    (case c59 => k_is)
    (case k59 => k_is)
    (case a60 => k_is)
    (case l60 => k_is)
    (case c60 => k_is)
    (case k60 => k_is)
    (case z_len => k_is)
    (case z_min => k_is)
    (case z_max => k_is)
    (case z_set => k_is)
    (case z_enumerate => k_is)
    (case z_tuple => k_is)
    (case z_sorted => k_is)
    (case z_range => k_is)
    (case z_str => k_is)
    (case z_all => k_is)
    (case z_int => k_is)
    (case z_zip => k_is)
    (case z_list => k_is)
    (case z_dict => k_is)
    (case gcon0 => k_is)
    (case gcon1 => k_is)
    (case gcon2 => k_is)
    (case gcon3 => k_is)
    (case gcon4 => k_is)
    (case gcon5 => k_is)
    (case gtup0 => k_is)
    (case ltup0 => k_is)
    (case pg => k_is)
    (case hd => k_is)
    (case po => k_is)
    (case sa => k_is)
    (case mk => k_is)
    (case kc => k_is)
    (case n_count => k_is)
    (case n_ties => k_is)
    (case n__weights => k_is)
    (case pgD => k_is)
    (case hdD => k_is)
    (case poD => k_is)
    (case saD => k_is)
    (case mkD => k_is)
    (case kcD => k_is)
    (case n__nets => k_is)
    (case g_KINDS => k_is)
    (case lk_KINDS => k_is)
    (case en_KINDS => exact .cons ⟨rfl, ⟨_, rfl⟩, rfl⟩ (.cons ⟨rfl, ⟨_, rfl⟩, rfl⟩ (.cons ⟨rfl, ⟨_, rfl⟩, rfl⟩ (.cons ⟨rfl, ⟨_, rfl⟩, rfl⟩ (.cons ⟨rfl, ⟨_, rfl⟩, rfl⟩ (.cons ⟨rfl, ⟨_, rfl⟩, rfl⟩ (.cons ⟨rfl, ⟨_, rfl⟩, rfl⟩ (.cons ⟨rfl, ⟨_, rfl⟩, rfl⟩ (.cons ⟨rfl, ⟨_, rfl⟩, rfl⟩ (.cons ⟨rfl, ⟨_, rfl⟩, rfl⟩ (.cons ⟨rfl, ⟨_, rfl⟩, rfl⟩ (.cons ⟨rfl, ⟨_, rfl⟩, rfl⟩ (.cons ⟨rfl, ⟨_, rfl⟩, rfl⟩ (.nil))))))))))))))
    (case lo_KINDS => rfl)
    (case l_k_KINDS0 => k_is)
    (case l_k_KINDS1 => k_is)
    (case l_k_KINDS2 => k_is)
    (case l_k_KINDS3 => k_is)
    (case l_k_KINDS4 => k_is)
    (case l_k_KINDS5 => k_is)
    (case l_k_KINDS6 => k_is)
    (case l_k_KINDS7 => k_is)
    (case l_k_KINDS8 => k_is)
    (case l_k_KINDS9 => k_is)
    (case l_k_KINDS10 => k_is)
    (case l_k_KINDS11 => k_is)
    (case l_k_KINDS12 => k_is)
    (case g_MAKERS => k_is)
    (case lk_MAKERS => k_is)
    (case en_MAKERS => exact .cons ⟨rfl, ⟨_, rfl⟩, rfl⟩ (.cons ⟨rfl, ⟨_, rfl⟩, rfl⟩ (.cons ⟨rfl, ⟨_, rfl⟩, rfl⟩ (.nil))))
    (case lo_MAKERS => rfl)
    (case g_TELLERS => k_is)
    (case lk_TELLERS => k_is)
    (case en_TELLERS => exact .cons ⟨rfl, ⟨_, rfl⟩, rfl⟩ (.cons ⟨rfl, ⟨_, rfl⟩, rfl⟩ (.cons ⟨rfl, ⟨_, rfl⟩, rfl⟩ (.cons ⟨rfl, ⟨_, rfl⟩, rfl⟩ (.cons ⟨rfl, ⟨_, rfl⟩, rfl⟩ (.cons ⟨rfl, ⟨_, rfl⟩, rfl⟩ (.cons ⟨rfl, ⟨_, rfl⟩, rfl⟩ (.cons ⟨rfl, ⟨_, rfl⟩, rfl⟩ (.nil)))))))))
    (case lo_TELLERS => rfl)
    (case g_k_TELLERS3 => k_is)
    (case g_k_TELLERS4 => k_is)
    (case g_k_TELLERS5 => k_is)
    (case g_k_TELLERS6 => k_is)
    (case g_k_TELLERS7 => k_is)
