import PyProof.Rows.All
import Wide.All
import OpenK.AllK
import Wide.FinOn
import HandS.ForMost
import HandS.ForExc
import HandS.Flow
import HandS.Style
import HandS.Zip
import HandS.TupAny
import HandS.TupMul
import HandS.Conv
import HandS.IsInst
import HandS.Dict
import HandS.WordsDict
import KE.GoesMore
import HandS.Iter
import KE.KDictDisplayH
import HandS.Deep
import HandS.Star
import HandS.TupSets
import PyProof.P3In
import PySem.Challenge.RW_seenatonce_k07_kinds_of_tables
set_option Elab.async false
set_option linter.all false
set_option maxRecDepth 100000
set_option maxHeartbeats 2000000
/-! VS: a value semantics over the layer. -/
namespace VS
open PySem PySem.Spec PyProof.Rows L2

/-- a value with all that it holds; a cell: a list or a dict that may change -/
inductive T where
  | non | bl (b : Bool) | int (i : Int) | str (x : Str) | ty (n : String) | tup (ts : List T) | lst (ts : List T) | frz (ts : List T) | rng (n : Nat) | cell (k : Nat)
inductive Cell where
  | lst (ts : List T) | dic (kvs : List (Key × T)) | dit (kvs : List (List Key × T))
abbrev World := List Cell
inductive R (α : Type) where
  | ok (a : α) (w : World)
  | no
def R.bind {α β : Type} : R α → (α → World → R β) → R β
  | .ok a w, f => f a w
  | .no, _ => .no
theorem bind_ok {α β : Type} {a : α} {w : World} {f : α → World → R β} : (R.ok a w).bind f = f a w := rfl
theorem bind_no {α β : Type} {f : α → World → R β} : (R.no : R α).bind f = .no := rfl

/-! ### what a value of the heap stands for -/
def NdT (hd φ : List Addr) (H : Hp) (a : Addr) (xs : List V) : Prop := H a = some (.tup xs) ∧ a ∉ φ ∧ a ∉ hd
def NdL (hd φ : List Addr) (H : Hp) (a : Addr) (xs : List V) : Prop := H a = some (.lst xs) ∧ a ∉ φ ∧ a ∉ hd
def NdF (K : PySem.W.Frag) (hd φ : List Addr) (H : Hp) (a : Addr) (xs : List V) : Prop := (∃ u, H a = some u ∧ (u = .lst xs ∨ ∃ o, u = .frz o (.lst xs)) ∧ a ∉ φ ∧ a ∉ hd) ∨ SqL K (fun _ => none) a xs
mutual
def Rep (K : PySem.W.Frag) (hd φ : List Addr) (H : Hp) : T → V → Prop
  | .non, v => v = .non
  | .bl b, v => v = .bl b
  | .int i, v => v = .int i
  | .str x, v => v = .str x
  | .ty n, v => v = .ty n
  | .tup ts, v => ∃ a xs, v = .ref a ∧ NdT hd φ H a xs ∧ Reps K hd φ H ts xs
  | .lst ts, v => ∃ a xs, v = .ref a ∧ NdL hd φ H a xs ∧ Reps K hd φ H ts xs
  | .frz ts, v => ∃ a xs, v = .ref a ∧ NdF K hd φ H a xs ∧ Reps K hd φ H ts xs
  | .rng n, v => ∃ a, v = .ref a ∧ H a = some (.rng 0 n) ∧ a ∉ φ ∧ a ∉ hd
  | .cell k, v => ∃ a, v = .ref a ∧ φ[k]? = some a
def Reps (K : PySem.W.Frag) (hd φ : List Addr) (H : Hp) : List T → List V → Prop
  | [], xs => xs = []
  | t :: ts, xs => ∃ x r, xs = x :: r ∧ Rep K hd φ H t x ∧ Reps K hd φ H ts r
end
section
variable {K : PySem.W.Frag} {hd hd' φ φ' : List Addr} {H H' : Hp} {t : T} {v : V} {ts us : List T} {xs ys : List V}
theorem Reps.iff : ∀ {ts : List T} {xs : List V}, Reps K hd φ H ts xs ↔ ts.length = xs.length ∧ ∀ (i : Nat) t x, ts[i]? = some t → xs[i]? = some x → Rep K hd φ H t x
  | [], xs => by
    unfold Reps
    constructor
    · rintro rfl; exact ⟨rfl, fun i t x h => by simp at h⟩
    · rintro ⟨h, _⟩; exact List.eq_nil_of_length_eq_zero h.symm
  | t :: ts, xs => by
    unfold Reps
    constructor
    · rintro ⟨x, r, rfl, h1, h2⟩
      obtain ⟨l, h2⟩ := Reps.iff.mp h2
      refine ⟨by simp [l], fun i u y hu hy => ?_⟩
      cases i with
      | zero => simp at hu hy; subst hu hy; exact h1
      | succ i => exact h2 i u y (by simpa using hu) (by simpa using hy)
    · rintro ⟨l, h⟩
      cases xs with
      | nil => simp at l
      | cons x r =>
        refine ⟨x, r, rfl, h 0 t x rfl rfl, Reps.iff.mpr ⟨by simpa using l, fun i u y hu hy => h (i + 1) u y (by simpa using hu) (by simpa using hy)⟩⟩
theorem Reps.len (h : Reps K hd φ H ts xs) : ts.length = xs.length := (Reps.iff.mp h).1
theorem Reps.at (h : Reps K hd φ H ts xs) {i : Nat} (ht : ts[i]? = some t) : ∃ x, xs[i]? = some x ∧ Rep K hd φ H t x := by
  obtain ⟨l, g⟩ := Reps.iff.mp h
  have hi : i < xs.length := by rw [← l]; exact (List.getElem?_eq_some_iff.mp ht).1
  exact ⟨xs[i], by simp [hi], g i t _ ht (by simp [hi])⟩
theorem Reps.at' (h : Reps K hd φ H ts xs) {i : Nat} {x : V} (hx : xs[i]? = some x) : ∃ t, ts[i]? = some t ∧ Rep K hd φ H t x := by
  obtain ⟨l, g⟩ := Reps.iff.mp h
  have hi : i < ts.length := by rw [l]; exact (List.getElem?_eq_some_iff.mp hx).1
  exact ⟨ts[i], by simp [hi], g i _ x (by simp [hi]) hx⟩
theorem Reps.cons (h1 : Rep K hd φ H t v) (h2 : Reps K hd φ H ts xs) : Reps K hd φ H (t :: ts) (v :: xs) := by unfold Reps; exact ⟨v, xs, rfl, h1, h2⟩
theorem Reps.nil : Reps K hd φ H [] [] := by unfold Reps; rfl
theorem Reps.append (h1 : Reps K hd φ H ts xs) (h2 : Reps K hd φ H us ys) : Reps K hd φ H (ts ++ us) (xs ++ ys) := by
  induction ts generalizing xs with
  | nil => unfold Reps at h1; subst h1; exact h2
  | cons t ts ih =>
    unfold Reps at h1
    obtain ⟨x, r, rfl, a, b⟩ := h1
    exact Reps.cons a (ih b)
theorem Reps.take (h : Reps K hd φ H ts xs) (n : Nat) : Reps K hd φ H (ts.take n) (xs.take n) := by
  obtain ⟨l, g⟩ := Reps.iff.mp h
  refine Reps.iff.mpr ⟨by simp [l], fun i t x h1 h2 => ?_⟩
  rw [List.getElem?_take] at h1 h2
  split at h1
  · rename_i hi
    rw [if_pos hi] at h2
    exact g i t x h1 h2
  · cases h1
theorem Reps.drop (h : Reps K hd φ H ts xs) (n : Nat) : Reps K hd φ H (ts.drop n) (xs.drop n) := by
  obtain ⟨l, g⟩ := Reps.iff.mp h
  refine Reps.iff.mpr ⟨by simp [l], fun i t x h1 h2 => ?_⟩
  rw [List.getElem?_drop] at h1 h2
  exact g _ t x h1 h2
theorem Reps.set (h : Reps K hd φ H ts xs) (r : Rep K hd φ H t v) (n : Nat) : Reps K hd φ H (ts.set n t) (xs.set n v) := by
  obtain ⟨l, g⟩ := Reps.iff.mp h
  refine Reps.iff.mpr ⟨by simp [l], fun i u x h1 h2 => ?_⟩
  rw [List.getElem?_set] at h1 h2
  split at h1
  · rename_i hi
    rw [if_pos hi] at h2
    split at h1
    · rename_i hn
      rw [if_pos (by omega)] at h2
      cases h1; cases h2; exact r
    · cases h1
  · rename_i hi
    rw [if_neg hi] at h2
    exact g i u x h1 h2
theorem Reps.eraseIdx (h : Reps K hd φ H ts xs) (n : Nat) : Reps K hd φ H (ts.eraseIdx n) (xs.eraseIdx n) := by
  rw [List.eraseIdx_eq_take_drop_succ, List.eraseIdx_eq_take_drop_succ]
  exact (h.take n).append (h.drop (n + 1))
theorem Reps.rep (h : Rep K hd φ H t v) (n : Nat) : Reps K hd φ H (List.replicate n t) (List.replicate n v) :=
  Reps.iff.mpr ⟨by simp, fun i u x h1 h2 => by
    rw [List.getElem?_replicate] at h1 h2
    split at h1
    · rename_i hi
      rw [if_pos hi] at h2
      cases h1; cases h2; exact h
    · cases h1⟩
theorem Reps.flat (h : Reps K hd φ H ts xs) : ∀ n : Nat, Reps K hd φ H (List.replicate n ts).flatten (List.replicate n xs).flatten
  | 0 => Reps.nil
  | n + 1 => by
    rw [List.replicate_succ, List.replicate_succ, List.flatten_cons, List.flatten_cons]
    exact h.append (Reps.flat h n)

/-- from one heap to a later one: cells may have come, more may be held apart, tracked objects that are no cells are as they were -/
structure Ext (hd φ : List Addr) (H : Hp) (hd' φ' : List Addr) (H' : Hp) : Prop where
  pre : ∃ more, φ' = φ ++ more ∧ ∀ p ∈ more, H p = none
  held : ∀ a ∈ hd', a ∈ hd ∨ H a = none
  keep : ∀ b o, H b = some o → b ∉ φ → H' b = some o
  there : ∀ b o, H b = some o → ∃ o', H' b = some o'
theorem Ext.refl : Ext hd φ H hd φ H := ⟨⟨[], by simp, fun _ h => by simp at h⟩, fun _ h => .inl h, fun _ _ h _ => h, fun _ o h => ⟨o, h⟩⟩
theorem Ext.fresh (e : Ext hd φ H hd' φ' H') {p : Addr} (h : H' p = none) : H p = none := by
  cases q : H p with
  | none => rfl
  | some o =>
    obtain ⟨o', h'⟩ := e.there p o q
    rw [h] at h'; cases h'
theorem Ext.nin (e : Ext hd φ H hd' φ' H') {b : Addr} {o : HO} (h : H b = some o) (hn : b ∉ φ) : b ∉ φ' := by
  obtain ⟨m, rfl, n⟩ := e.pre
  rw [List.mem_append]
  rintro (z | z)
  · exact hn z
  · rw [n b z] at h; cases h
theorem Ext.nhd (e : Ext hd φ H hd' φ' H') {b : Addr} {o : HO} (h : H b = some o) (hn : b ∉ hd) : b ∉ hd' := fun z => by
  rcases e.held b z with z | z
  · exact hn z
  · rw [z] at h; cases h
theorem Ext.trans {hd1 hd2 φ1 φ2 : List Addr} {H1 H2 : Hp} (a : Ext hd φ H hd1 φ1 H1) (b : Ext hd1 φ1 H1 hd2 φ2 H2) : Ext hd φ H hd2 φ2 H2 := by
  refine ⟨?_, fun c hc => ?_, fun c o hc hn => b.keep c o (a.keep c o hc hn) (a.nin hc hn), fun c o hc => ?_⟩
  · obtain ⟨m1, e1, n1⟩ := a.pre
    obtain ⟨m2, e2, n2⟩ := b.pre
    refine ⟨m1 ++ m2, by rw [e2, e1, List.append_assoc], fun p hp => ?_⟩
    rcases List.mem_append.mp hp with z | z
    · exact n1 p z
    · exact a.fresh (n2 p z)
  · rcases b.held c hc with z | z
    · exact a.held c z
    · exact .inr (a.fresh z)
  · obtain ⟨o', h'⟩ := a.there c o hc
    exact b.there c o' h'
/-- a new object beside -/
theorem Ext.new {p : Addr} {o : HO} (h : H p = none) : Ext hd φ H hd φ (upd H p o) :=
  ⟨⟨[], by simp, fun _ h => by simp at h⟩, fun _ h => .inl h, fun b u hb _ => by rw [upd_ne (ne_of_none hb h)]; exact hb, fun b u hb => by
    by_cases e : b = p
    · subst e; exact ⟨o, upd_same⟩
    · exact ⟨u, by rw [upd_ne e]; exact hb⟩⟩
/-- a cell is written -/
theorem Ext.write {p : Addr} {o : HO} (h : p ∈ φ) : Ext hd φ H hd φ (upd H p o) :=
  ⟨⟨[], by simp, fun _ h => by simp at h⟩, fun _ h => .inl h, fun b u hb hn => by rw [upd_ne (fun (e : b = p) => hn (by rw [e]; exact h))]; exact hb, fun b u hb => by
    by_cases e : b = p
    · subst e; exact ⟨o, upd_same⟩
    · exact ⟨u, by rw [upd_ne e]; exact hb⟩⟩
/-- what was made becomes a cell -/
theorem Ext.cell {p : Addr} (e : Ext hd φ H (p :: hd') φ' H') (h : H p = none) : Ext hd φ H hd' (φ' ++ [p]) H' := by
  obtain ⟨m, rfl, n⟩ := e.pre
  exact ⟨⟨m ++ [p], by rw [List.append_assoc], fun q hq => by
    rcases List.mem_append.mp hq with z | z
    · exact n q z
    · rw [List.mem_singleton.mp z]; exact h⟩, fun a ha => e.held a (List.mem_cons_of_mem _ ha), e.keep, e.there⟩
/-- a new object, held apart -/
theorem Ext.hold {p : Addr} {o : HO} (h : H p = none) : Ext hd φ H (p :: hd) φ (upd H p o) :=
  ⟨⟨[], by simp, fun _ h => by simp at h⟩, fun a ha => (List.mem_cons.mp ha).elim (fun e => .inr (by rw [e]; exact h)) .inl, (Ext.new (hd := hd) (φ := φ) (o := o) h).keep, (Ext.new (hd := hd) (φ := φ) (o := o) h).there⟩
theorem Ext.free {p : Addr} (e : Ext hd φ H (p :: hd') φ' H') : Ext hd φ H hd' φ' H' := ⟨e.pre, fun a ha => e.held a (List.mem_cons_of_mem _ ha), e.keep, e.there⟩

theorem NdT.mono {a : Addr} (e : Ext hd φ H hd' φ' H') (h : NdT hd φ H a xs) : NdT hd' φ' H' a xs := ⟨e.keep _ _ h.1 h.2.1, e.nin h.1 h.2.1, e.nhd h.1 h.2.2⟩
theorem NdL.mono {a : Addr} (e : Ext hd φ H hd' φ' H') (h : NdL hd φ H a xs) : NdL hd' φ' H' a xs := ⟨e.keep _ _ h.1 h.2.1, e.nin h.1 h.2.1, e.nhd h.1 h.2.2⟩
theorem NdF.mono {a : Addr} (e : Ext hd φ H hd' φ' H') (h : NdF K hd φ H a xs) : NdF K hd' φ' H' a xs := by
  rcases h with ⟨o, h, z, h2, h3⟩ | h
  · exact .inl ⟨o, e.keep _ _ h h2, z, e.nin h h2, e.nhd h h3⟩
  · exact .inr h
mutual
theorem Rep.mono (e : Ext hd φ H hd' φ' H') : ∀ {t : T} {v : V}, Rep K hd φ H t v → Rep K hd' φ' H' t v
  | .non, _, h => h
  | .bl _, _, h => h
  | .int _, _, h => h
  | .str _, _, h => h
  | .ty _, _, h => h
  | .tup ts, v, h => by
    unfold Rep at h ⊢
    obtain ⟨a, xs, e1, n, r⟩ := h
    exact ⟨a, xs, e1, n.mono e, Reps.mono e r⟩
  | .lst ts, v, h => by
    unfold Rep at h ⊢
    obtain ⟨a, xs, e1, n, r⟩ := h
    exact ⟨a, xs, e1, n.mono e, Reps.mono e r⟩
  | .frz ts, v, h => by
    unfold Rep at h ⊢
    obtain ⟨a, xs, e1, n, r⟩ := h
    exact ⟨a, xs, e1, n.mono e, Reps.mono e r⟩
  | .rng n, v, h => by
    unfold Rep at h ⊢
    obtain ⟨a, e1, h1, h2, h3⟩ := h
    exact ⟨a, e1, e.keep _ _ h1 h2, e.nin h1 h2, e.nhd h1 h3⟩
  | .cell k, v, h => by
    unfold Rep at h ⊢
    obtain ⟨a, e1, hk⟩ := h
    obtain ⟨m, rfl, _⟩ := e.pre
    exact ⟨a, e1, by rw [List.getElem?_append_left (List.getElem?_eq_some_iff.mp hk).1]; exact hk⟩
theorem Reps.mono (e : Ext hd φ H hd' φ' H') : ∀ {ts : List T} {xs : List V}, Reps K hd φ H ts xs → Reps K hd' φ' H' ts xs
  | [], _, h => by unfold Reps at h ⊢; exact h
  | t :: ts, _, h => by
    unfold Reps at h ⊢
    obtain ⟨x, r, e1, a, b⟩ := h
    exact ⟨x, r, e1, Rep.mono e a, Reps.mono e b⟩
end
/-! how what is held apart changes: a node is outside of what is held afterwards -/
mutual
theorem Rep.held (g : ∀ a o, H a = some o → a ∉ φ → a ∉ hd → a ∉ φ' ∧ a ∉ hd') (c : ∀ (k : Nat) (a : Addr), φ[k]? = some a → φ'[k]? = some a) : ∀ {t : T} {v : V}, Rep K hd φ H t v → Rep K hd' φ' H t v
  | .non, _, h => h
  | .bl _, _, h => h
  | .int _, _, h => h
  | .str _, _, h => h
  | .ty _, _, h => h
  | .tup ts, v, h => by
    unfold Rep at h ⊢
    obtain ⟨a, xs, e1, ⟨n1, n2, n3⟩, r⟩ := h
    exact ⟨a, xs, e1, ⟨n1, g a _ n1 n2 n3⟩, Reps.held g c r⟩
  | .lst ts, v, h => by
    unfold Rep at h ⊢
    obtain ⟨a, xs, e1, ⟨n1, n2, n3⟩, r⟩ := h
    exact ⟨a, xs, e1, ⟨n1, g a _ n1 n2 n3⟩, Reps.held g c r⟩
  | .frz ts, v, h => by
    unfold Rep at h ⊢
    obtain ⟨a, xs, e1, n, r⟩ := h
    refine ⟨a, xs, e1, ?_, Reps.held g c r⟩
    rcases n with ⟨o, n1, z, n2, n3⟩ | n
    · exact .inl ⟨o, n1, z, g a _ n1 n2 n3⟩
    · exact .inr n
  | .rng n, v, h => by
    unfold Rep at h ⊢
    obtain ⟨a, e1, h1, h2, h3⟩ := h
    exact ⟨a, e1, h1, g a _ h1 h2 h3⟩
  | .cell k, v, h => by
    unfold Rep at h ⊢
    obtain ⟨a, e1, hk⟩ := h
    exact ⟨a, e1, c k a hk⟩
theorem Reps.held (g : ∀ a o, H a = some o → a ∉ φ → a ∉ hd → a ∉ φ' ∧ a ∉ hd') (c : ∀ (k : Nat) (a : Addr), φ[k]? = some a → φ'[k]? = some a) : ∀ {ts : List T} {xs : List V}, Reps K hd φ H ts xs → Reps K hd' φ' H ts xs
  | [], _, h => by unfold Reps at h ⊢; exact h
  | t :: ts, _, h => by
    unfold Reps at h ⊢
    obtain ⟨x, r, e1, a, b⟩ := h
    exact ⟨x, r, e1, Rep.held g c a, Reps.held g c b⟩
end

/-! ### the world -/
def CellR (K : PySem.W.Frag) (hd φ : List Addr) (H : Hp) : Cell → Addr → Prop
  | .lst ts, a => ∃ xs, H a = some (.lst xs) ∧ Reps K hd φ H ts xs
  | .dic kvs, a => ∃ ys, H a = some (.dK ys) ∧ ys.map (·.1) = kvs.map (·.1) ∧ Reps K hd φ H (kvs.map (·.2)) (ys.map (·.2))
  | .dit kvs, a => ∃ ys, H a = some (.dT ys) ∧ ys.map (·.1) = kvs.map (·.1) ∧ Reps K hd φ H (kvs.map (·.2)) (ys.map (·.2))
structure WR (K : PySem.W.Frag) (hd φ : List Addr) (H : Hp) (w : World) : Prop where
  len : φ.length = w.length
  nd : φ.Nodup
  apart : ∀ a ∈ φ, a ∉ hd
  there : ∀ a, a ∈ φ ∨ a ∈ hd → ∃ o, H a = some o
  cells : ∀ (k : Nat) c a, w[k]? = some c → φ[k]? = some a → CellR K hd φ H c a
theorem CellR.mono {c : Cell} {a : Addr} (e : Ext hd φ H hd' φ' H') (ha : H' a = H a) (h : CellR K hd φ H c a) : CellR K hd' φ' H' c a := by
  cases c with
  | lst ts => obtain ⟨xs, h1, h2⟩ := h; exact ⟨xs, ha.trans h1, h2.mono e⟩
  | dic kvs => obtain ⟨ys, h1, h2, h3⟩ := h; exact ⟨ys, ha.trans h1, h2, h3.mono e⟩
  | dit kvs => obtain ⟨ys, h1, h2, h3⟩ := h; exact ⟨ys, ha.trans h1, h2, h3.mono e⟩
theorem CellR.held {c : Cell} {a : Addr} (g : ∀ a o, H a = some o → a ∉ φ → a ∉ hd → a ∉ φ' ∧ a ∉ hd') (l : ∀ (k : Nat) (a : Addr), φ[k]? = some a → φ'[k]? = some a) (h : CellR K hd φ H c a) : CellR K hd' φ' H c a := by
  cases c with
  | lst ts => obtain ⟨xs, h1, h2⟩ := h; exact ⟨xs, h1, h2.held g l⟩
  | dic kvs => obtain ⟨ys, h1, h2, h3⟩ := h; exact ⟨ys, h1, h2, h3.held g l⟩
  | dit kvs => obtain ⟨ys, h1, h2, h3⟩ := h; exact ⟨ys, h1, h2, h3.held g l⟩
variable {w w' : World} {p : Addr} {o : HO}
theorem WR.nin (h : WR K hd φ H w) (n : H p = none) : p ∉ φ ∧ p ∉ hd := by
  constructor <;> intro z
  · obtain ⟨o, e⟩ := h.there p (.inl z); rw [n] at e; cases e
  · obtain ⟨o, e⟩ := h.there p (.inr z); rw [n] at e; cases e
theorem WR.new (h : WR K hd φ H w) (n : H p = none) : WR K hd φ (upd H p o) w := by
  refine ⟨h.len, h.nd, h.apart, fun a ha => ?_, fun k c a h1 h2 => (h.cells k c a h1 h2).mono (Ext.new n) ?_⟩
  · obtain ⟨u, e⟩ := h.there a ha
    exact (Ext.new (hd := hd) (φ := φ) n).there a u e
  · rw [upd_ne]
    rintro rfl
    exact (h.nin n).1 (List.mem_of_getElem? h2)
/-- p is held apart from now on: nothing refers to it -/
theorem WR.hold (h : WR K hd φ H w) (n : H p = none) : WR K (p :: hd) φ (upd H p o) w := by
  refine ⟨h.len, h.nd, fun a ha => ?_, fun a ha => ?_, fun k c a h1 h2 => (h.cells k c a h1 h2).mono (Ext.hold n) ?_⟩
  · rw [List.mem_cons]
    rintro (rfl | z)
    · exact (h.nin n).1 ha
    · exact h.apart a ha z
  · rw [List.mem_cons] at ha
    by_cases e : a = p
    · subst e; exact ⟨o, upd_same⟩
    · obtain ⟨u, q⟩ := h.there a (by rcases ha with z | z | z; exact .inl z; exact absurd z e; exact .inr z)
      exact ⟨u, by rw [upd_ne e]; exact q⟩
  · rw [upd_ne]
    rintro rfl
    exact (h.nin n).1 (List.mem_of_getElem? h2)
/-- p is not held any more -/
theorem Rep.free (h : Rep K (p :: hd) φ H t v) : Rep K hd φ H t v := h.held (fun _ _ _ h1 h2 => ⟨h1, fun z => h2 (List.mem_cons_of_mem _ z)⟩) fun _ _ z => z
theorem Reps.free (h : Reps K (p :: hd) φ H ts xs) : Reps K hd φ H ts xs := h.held (fun _ _ _ h1 h2 => ⟨h1, fun z => h2 (List.mem_cons_of_mem _ z)⟩) fun _ _ z => z
theorem WR.free (h : WR K (p :: hd) φ H w) : WR K hd φ H w :=
  ⟨h.len, h.nd, fun a ha z => h.apart a ha (List.mem_cons_of_mem _ z), fun a ha => h.there a (ha.imp id (List.mem_cons_of_mem _)), fun k c a h1 h2 => (h.cells k c a h1 h2).held (fun _ _ _ h1 h2 => ⟨h1, fun z => h2 (List.mem_cons_of_mem _ z)⟩) fun _ _ z => z⟩
/-- what is held becomes a cell -/
theorem cell_g : ∀ a o, H a = some o → a ∉ φ → a ∉ p :: hd → a ∉ φ ++ [p] ∧ a ∉ hd := fun a o _ h1 h2 => by
  rw [List.mem_append, List.mem_singleton, List.mem_cons] at *
  exact ⟨fun z => z.elim h1 fun e => h2 (.inl e), fun z => h2 (.inr z)⟩
theorem cell_l : ∀ (k : Nat) (a : Addr), φ[k]? = some a → (φ ++ [p])[k]? = some a := fun k a h => by
  rw [List.getElem?_append_left (List.getElem?_eq_some_iff.mp h).1]; exact h
theorem Rep.cell (h : Rep K (p :: hd) φ H t v) : Rep K hd (φ ++ [p]) H t v := h.held cell_g cell_l
theorem Reps.cell (h : Reps K (p :: hd) φ H ts xs) : Reps K hd (φ ++ [p]) H ts xs := h.held cell_g cell_l
theorem WR.cell {c : Cell} (h : WR K (p :: hd) φ H w) (hp : p ∉ hd) (hc : CellR K (p :: hd) φ H c p) : WR K hd (φ ++ [p]) H (w ++ [c]) := by
  have np : p ∉ φ := fun z => h.apart p z List.mem_cons_self
  refine ⟨by simp [h.len], ?_, fun a ha => ?_, fun a ha => ?_, fun k c' a h1 h2 => ?_⟩
  · rw [List.nodup_append]
    exact ⟨h.nd, by simp, fun a ha b hb => by rw [List.mem_singleton.mp hb]; rintro rfl; exact np ha⟩
  · rcases List.mem_append.mp ha with z | z
    · exact fun q => h.apart a z (List.mem_cons_of_mem _ q)
    · rw [List.mem_singleton.mp z]; exact hp
  · refine h.there a ?_
    rcases ha with z | z
    · rcases List.mem_append.mp z with z | z
      · exact .inl z
      · exact .inr (by rw [List.mem_singleton.mp z]; exact List.mem_cons_self)
    · exact .inr (List.mem_cons_of_mem _ z)
  · by_cases hk : k < w.length
    · rw [List.getElem?_append_left hk] at h1
      rw [List.getElem?_append_left (by rw [h.len]; exact hk)] at h2
      exact (h.cells k c' a h1 h2).held cell_g cell_l
    · have e : k = w.length := by
        have := (List.getElem?_eq_some_iff.mp h1).1
        simp at this; omega
      subst e
      rw [List.getElem?_append_right (Nat.le_refl _)] at h1
      rw [List.getElem?_append_right (by rw [h.len]; exact Nat.le_refl _)] at h2
      simp [h.len] at h1 h2
      subst h1 h2
      exact hc.held cell_g cell_l
/-- a cell is written -/
theorem WR.write {k : Nat} {a : Addr} {c : Cell} (h : WR K hd φ H w) (hk : φ[k]? = some a) (hc : CellR K hd φ (upd H a o) c a) : WR K hd φ (upd H a o) (w.set k c) := by
  have ha : a ∈ φ := List.mem_of_getElem? hk
  refine ⟨by simp [h.len], h.nd, h.apart, fun b hb => ?_, fun j c' b h1 h2 => ?_⟩
  · obtain ⟨u, e⟩ := h.there b hb
    exact (Ext.write (hd := hd) (φ := φ) ha).there b u e
  · rw [List.getElem?_set] at h1
    split at h1
    · rename_i e
      subst e
      rw [hk] at h2; cases h2
      split at h1
      · cases h1; exact hc
      · cases h1
    · rename_i e
      refine (h.cells j c' b h1 h2).mono (Ext.write ha) ?_
      rw [upd_ne]
      rintro rfl
      have j1 := (List.getElem?_eq_some_iff.mp hk)
      have j2 := (List.getElem?_eq_some_iff.mp h2)
      obtain ⟨l1, e1⟩ := j1
      obtain ⟨l2, e2⟩ := j2
      exact e ((List.getElem_inj h.nd).mp (e1.trans e2.symm))
end
end VS

set_option Elab.async false
set_option linter.all false
set_option maxRecDepth 100000
set_option maxHeartbeats 2000000
namespace VS
open PySem PySem.Spec PyProof.Rows L2

abbrev Env := List (Option T)
structure SR (K : PySem.W.Frag) (hd φ : List Addr) (H : Hp) (σ : L2.St) (ρ : Env) : Prop where
  len : σ.length = ρ.length
  get : ∀ (i : Nat) t, ρ[i]? = some (some t) → ∃ v, σ[i]? = some (some v) ∧ Rep K hd φ H t v
section
variable {K : PySem.W.Frag} {hd hd' φ φ' : List Addr} {H H' : Hp} {σ : L2.St} {ρ : Env} {t : T} {v : V}
theorem SR.mono (h : SR K hd φ H σ ρ) (e : Ext hd φ H hd' φ' H') : SR K hd' φ' H' σ ρ := ⟨h.len, fun i t ht => by
  obtain ⟨v, h1, h2⟩ := h.get i t ht
  exact ⟨v, h1, h2.mono e⟩⟩
theorem SR.set (h : SR K hd φ H σ ρ) (r : Rep K hd φ H t v) (i : Nat) : SR K hd φ H (σ.set i (some v)) (ρ.set i (some t)) := ⟨by simp [h.len], fun j u hu => by
  rw [List.getElem?_set] at hu
  split at hu
  · rename_i e
    subst e
    split at hu
    · rename_i hi
      cases hu
      exact ⟨v, by rw [List.getElem?_set_self (by rw [h.len]; exact hi)], r⟩
    · cases hu
  · rename_i e
    obtain ⟨x, h1, h2⟩ := h.get j u hu
    exact ⟨x, by rw [List.getElem?_set_ne e]; exact h1, h2⟩⟩
theorem SR.start (h : Reps K hd φ H ts xs) (n : Nat) : SR K hd φ H (xs.map some ++ List.replicate n none) (ts.map some ++ List.replicate n none) := ⟨by simp [h.len], fun i t ht => by
  have hl := h.len
  by_cases hi : i < ts.length
  · rw [List.getElem?_append_left (by simpa using hi)] at ht
    rw [List.getElem?_map, List.getElem?_eq_getElem hi] at ht
    have e : ts[i] = t := by simpa using ht
    obtain ⟨x, h1, h2⟩ := h.at (i := i) (t := t) (by rw [List.getElem?_eq_getElem hi, e])
    refine ⟨x, ?_, h2⟩
    rw [List.getElem?_append_left (by simp; omega), List.getElem?_map, h1]
    rfl
  · rw [List.getElem?_append_right (by simp; omega), List.getElem?_replicate] at ht
    split at ht <;> simp at ht⟩
end

/-! ### what an expression is worth: its reading by a function -/
abbrev ME := Env → World → R T
abbrev MF := Env → World → R (List T)
abbrev MT := Env → World → R Bool
/-- behind a run that ends as r says -/
def Pst {α : Type} (K : PySem.W.Frag) (hd : List Addr) (C : α → List Addr → Hp → Prop) (φ : List Addr) (H : Hp) : R α → Prop
  | .ok d w' => ∀ H' φ', Ext hd φ H hd φ' H' → WR K hd φ' H' w' → C d φ' H'
  | .no => False
/-- a new list, that nothing refers to -/
def PstF (K : PySem.W.Frag) (hd : List Addr) (Q : VK) (φ : List Addr) (H : Hp) : R (List T) → Prop
  | .ok ds w' => ∀ p xs H' φ', Ext hd φ H (p :: hd) φ' H' → WR K (p :: hd) φ' H' w' → H p = none → p ∉ hd → H' p = some (.lst xs) → Reps K (p :: hd) φ' H' ds xs → Q (.ref p) H'
  | .no => False
structure IsPst {α : Type} (hd : List Addr) (P : List Addr → Hp → R α → Prop) : Prop where
  mono : ∀ φ H φ1 H1 r, Ext hd φ H hd φ1 H1 → P φ H r → P φ1 H1 r
  no : ∀ φ H, ¬ P φ H .no
theorem isPst {α : Type} {K : PySem.W.Frag} {hd : List Addr} {C : α → List Addr → Hp → Prop} : IsPst hd (Pst K hd C) where
  mono := fun φ H φ1 H1 r e p => by
    cases r with
    | no => exact p
    | ok d w => intro H' φ' e' wr; exact p H' φ' (e.trans e') wr
  no := fun _ _ h => h
theorem isPstF {K : PySem.W.Frag} {hd : List Addr} {Q : VK} : IsPst hd (PstF K hd Q) where
  mono := fun φ H φ1 H1 r e p => by
    cases r with
    | no => exact p
    | ok d w => intro q xs H' φ' e' wr hn hq hx rs; exact p q xs H' φ' (e.trans e') wr (e.fresh hn) hq hx rs
  no := fun _ _ h => h
/-- r, then f -/
theorem Pst.then {α β : Type} {K : PySem.W.Frag} {hd φ : List Addr} {H : Hp} {C : α → List Addr → Hp → Prop} {P : List Addr → Hp → R β → Prop} {r : R α} {f : α → World → R β} (ip : IsPst hd P) (p : P φ H (r.bind f))
    (h : ∀ d w1 φ1 H1, Ext hd φ H hd φ1 H1 → WR K hd φ1 H1 w1 → P φ1 H1 (f d w1) → C d φ1 H1) : Pst K hd C φ H r := by
  cases r with
  | no => exact (ip.no _ _ p).elim
  | ok d w => intro H1 φ1 e wr; exact h d w φ1 H1 e wr (ip.mono _ _ _ _ _ e p)
/-- r as it ends -/
theorem Pst.imp {α : Type} {K : PySem.W.Frag} {hd φ : List Addr} {H : Hp} {C C' : α → List Addr → Hp → Prop} {r : R α} (p : Pst K hd C φ H r) (h : ∀ d φ1 H1, Ext hd φ H hd φ1 H1 → C d φ1 H1 → C' d φ1 H1) : Pst K hd C' φ H r := by
  cases r with
  | no => exact p
  | ok d w => intro H1 φ1 e wr; exact h d φ1 H1 e (p H1 φ1 e wr)
theorem Pst.ok {α : Type} {K : PySem.W.Frag} {hd φ : List Addr} {H : Hp} {C : α → List Addr → Hp → Prop} {d : α} {w : World} (p : Pst K hd C φ H (.ok d w)) (wr : WR K hd φ H w) : C d φ H := p H φ Ext.refl wr

abbrev CE (K : PySem.W.Frag) (hd : List Addr) (Q : VK) : T → List Addr → Hp → Prop := fun d φ' H' => ∀ v, Rep K hd φ' H' d v → Q v H'
abbrev CA (K : PySem.W.Frag) (hd : List Addr) (Q : List V → Hp → Prop) : List T → List Addr → Hp → Prop := fun d φ' H' => ∀ v, Reps K hd φ' H' d v → Q v H'
abbrev CT (Q : Bool → Hp → Prop) : Bool → List Addr → Hp → Prop := fun d _ H' => Q d H'
def rdE (K : PySem.W.Frag) (m : ME) : TE := fun σ H Q => ∃ hd φ ρ w, SR K hd φ H σ ρ ∧ WR K hd φ H w ∧ Pst K hd (CE K hd Q) φ H (m ρ w)
def rdA (K : PySem.W.Frag) (m : MF) : TA := fun σ H Q => ∃ hd φ ρ w, SR K hd φ H σ ρ ∧ WR K hd φ H w ∧ Pst K hd (CA K hd Q) φ H (m ρ w)
def rdT (K : PySem.W.Frag) (m : MT) : TT := fun σ H Q => ∃ hd φ ρ w, SR K hd φ H σ ρ ∧ WR K hd φ H w ∧ Pst K hd (CT Q) φ H (m ρ w)
def rdF (K : PySem.W.Frag) (m : MF) : TE := fun σ H Q => ∃ hd φ ρ w, SR K hd φ H σ ρ ∧ WR K hd φ H w ∧ PstF K hd Q φ H (m ρ w)
section
variable {X : Cx} {e a b c : Expr} {pos : Pos}
theorem PE_imp {t t' : TE} (h : PE X e t) (i : ∀ σ H Q, t' σ H Q → t σ H Q) : PE X e t' := ⟨fun pins s σ H Q I q => h.run pins s σ H Q I (i σ H Q q)⟩
theorem PT_imp {t t' : TT} (h : PT X e t) (i : ∀ σ H Q, t' σ H Q → t σ H Q) : PT X e t' := ⟨fun pins s σ H Q I q => h.run pins s σ H Q I (i σ H Q q)⟩
theorem PW_imp {t t' : TT} (h : PW X e t) (i : ∀ σ H Q, t' σ H Q → t σ H Q) : PW X e t' := ⟨fun wh pins s σ H Q I q => h.run wh pins s σ H Q I (i σ H Q q)⟩
theorem PA_imp {es : List Expr} {t t' : TA} (h : PA X es t) (i : ∀ σ H Q, t' σ H Q → t σ H Q) : PA X es t' := ⟨fun po pins s σ H Q I q => h.run po pins s σ H Q I (i σ H Q q)⟩
theorem PS_imp {st : Stmt} {t t' : TS} (h : PS X st t) (i : ∀ D σ H, t' D σ H → t D σ H) : PS X st t' := ⟨fun pins s σ H D I q => h.run pins s σ H D I (i D σ H q)⟩
theorem PSs_imp {st : List Stmt} {t t' : TS} (h : PSs X st t) (i : ∀ D σ H, t' D σ H → t D σ H) : PSs X st t' := ⟨fun pins s σ H D I q => h.run pins s σ H D I (i D σ H q)⟩

/-! ### names, constants -/
def mVar (i : Nat) : ME := fun ρ w => match ρ[i]? with
  | some (some t) => .ok t w
  | _ => .no
def mC (t : T) : ME := fun _ w => .ok t w
theorem de_var (i : Nat) {x : Str} (hN : X.N[i]? = some x := by rfl) (hv : Vis X.env.scope x := by first | exact Or.inl rfl | exact Or.inr (Or.inl rfl) | exact Or.inr (Or.inr rfl)) (hd : (x == ("__debug__" : Str)) = false := by decide)
    (hcd : (x == ("__classdict__" : Str)) = false := by decide) : PE X (.Name x pos) (rdE X.K (mVar i)) := PE_imp (pe_var hN hv hd hcd) fun σ H Q => by
  rintro ⟨hd, φ, ρ, w, sr, wr, p⟩
  unfold mVar at p
  split at p
  · rename_i t ht
    obtain ⟨v, h1, h2⟩ := sr.get i t ht
    exact ⟨v, h1, p.ok wr v h2⟩
  · exact p.elim
theorem de_int {i : Int} {j : Nat} : PE X (.Constant (.int i) j pos) (rdE X.K (mC (.int i))) := PE_imp pe_int fun σ H Q => by
  rintro ⟨hd, φ, ρ, w, sr, wr, p⟩; exact p.ok wr _ (by unfold Rep; rfl)
theorem de_bl {b : Bool} {j : Nat} : PE X (.Constant (.bool b) j pos) (rdE X.K (mC (.bl b))) := PE_imp pe_bl fun σ H Q => by
  rintro ⟨hd, φ, ρ, w, sr, wr, p⟩; exact p.ok wr _ (by unfold Rep; rfl)
theorem de_non {j : Nat} : PE X (.Constant .none j pos) (rdE X.K (mC .non)) := PE_imp pe_non fun σ H Q => by
  rintro ⟨hd, φ, ρ, w, sr, wr, p⟩; exact p.ok wr _ (by unfold Rep; rfl)
theorem de_str {x : Str} {j : Nat} : PE X (.Constant (.str x) j pos) (rdE X.K (mC (.str x))) := PE_imp pe_str fun σ H Q => by
  rintro ⟨hd, φ, ρ, w, sr, wr, p⟩; exact p.ok wr _ (by unfold Rep; rfl)
/-- a constant of the module that is an int -/
theorem de_gint {x : Str} {i : Int} {u : Value} (hm : X.mg x = some u) (r : RelV (.int i) u) (hg : Gl X x := by rfl) (hd : (x == ("__debug__" : Str)) = false := by decide) : PE X (.Name x pos) (rdE X.K (mC (.int i))) := PE_imp (pe_glob hg hm r hd) fun σ H Q => by
  rintro ⟨hd, φ, ρ, w, sr, wr, p⟩; exact p.ok wr _ (by unfold Rep; rfl)
/-- a built-in type by its name -/
theorem de_gty {x : Str} {n : String} (hm : X.mg x = none) (hv : bootBuiltins x = some (.type n)) (hg : Gl X x := by rfl) (hn : x ≠ "__name__" := by decide) (hd : (x == ("__debug__" : Str)) = false := by decide) : PE X (.Name x pos) (rdE X.K (mC (.ty n))) := PE_imp (pe_bltn hg hm hv (v := .ty n) rfl hn hd) fun σ H Q => by
  rintro ⟨hd, φ, ρ, w, sr, wr, p⟩; exact p.ok wr _ (by unfold Rep; rfl)

/-! ### operators: by what they do to values -/
abbrev S2 := T → T → World → R T
def mOp2 (s : S2) (a b : ME) : ME := fun ρ w => (a ρ w).bind fun x w1 => (b ρ w1).bind fun y w2 => s x y w2
/-- what r asks is what s gives -/
def Op2 (K : PySem.W.Frag) (s : S2) (r : R2) : Prop := ∀ hd φ H w dx dy x y Q, WR K hd φ H w → Rep K hd φ H dx x → Rep K hd φ H dy y → Pst K hd (CE K hd Q) φ H (s dx dy w) → r x y H Q
theorem Op2.read {K : PySem.W.Frag} {s : S2} {r : R2} (hs : Op2 K s r) {a b : ME} : ∀ σ H Q, rdE K (mOp2 s a b) σ H Q → tOp r (rdE K a) (rdE K b) σ H Q := fun σ H Q => by
  rintro ⟨hd, φ, ρ, w, sr, wr, p⟩
  refine ⟨hd, φ, ρ, w, sr, wr, Pst.then isPst p fun dx w1 φ1 H1 e1 wr1 p1 x rx => ?_⟩
  refine ⟨hd, φ1, ρ, w1, sr.mono e1, wr1, Pst.then isPst p1 fun dy w2 φ2 H2 e2 wr2 p2 y ry => ?_⟩
  exact hs hd φ2 H2 w2 dx dy x y Q wr2 (rx.mono e2) ry p2
theorem de_op {op : Operator} {r : R2} {s : S2} {ma mb : ME} (ho : OpR X (binaryOp op) r) (hs : Op2 X.K s r) (ha : PE X a (rdE X.K ma)) (hb : PE X b (rdE X.K mb)) : PE X (.BinOp a op b pos) (rdE X.K (mOp2 s ma mb)) := PE_imp (pe_op ho ha hb) hs.read
theorem de_cmp {op : CmpOp} {r : R2} {s : S2} {ma mb : ME} (ho : OpR X (compareOp op) r) (hs : Op2 X.K s r) (ha : PE X a (rdE X.K ma)) (hb : PE X b (rdE X.K mb)) (hm : behindInMarks op b = false) : PE X (.Compare a [op] [b] pos) (rdE X.K (mOp2 s ma mb)) := PE_imp (pe_cmpR ho ha hb hm) hs.read
theorem de_ix {r : R2} {s : S2} {ma mb : ME} (ho : IxR X r) (hs : Op2 X.K s r) (ha : PE X a (rdE X.K ma)) (hb : PE X b (rdE X.K mb)) (hp : PlainIx b := by exact fun _ _ => rfl) : PE X (.Subscript a b pos) (rdE X.K (mOp2 s ma mb)) := PE_imp (pe_ix ho ha hb hp) hs.read
abbrev S1 := T → World → R T
def mOp1 (s : S1) (a : ME) : ME := fun ρ w => (a ρ w).bind s
def Op1 (K : PySem.W.Frag) (s : S1) (r : V → Hp → VK → Prop) : Prop := ∀ hd φ H w dx x Q, WR K hd φ H w → Rep K hd φ H dx x → Pst K hd (CE K hd Q) φ H (s dx w) → r x H Q
theorem de_un {op : UnaryOp} {r : V → Hp → VK → Prop} {s : S1} {ma : ME} (ho : UnR X (unaryOp op) r) (hs : Op1 X.K s r) (ha : PE X a (rdE X.K ma)) : PE X (.UnaryOp op a pos) (rdE X.K (mOp1 s ma)) := PE_imp (pe_un ho ha) fun σ H Q => by
  rintro ⟨hd, φ, ρ, w, sr, wr, p⟩
  exact ⟨hd, φ, ρ, w, sr, wr, Pst.then isPst p fun dx w1 φ1 H1 e1 wr1 p1 x rx => hs hd φ1 H1 w1 dx x Q wr1 rx p1⟩

/-! ### tests -/
/-- a value that is a bool -/
def asB : R T → R Bool := fun r => r.bind fun d w => match d with
  | .bl b => .ok b w
  | _ => .no
def toB : T → World → R Bool := fun d w => match d with
  | .bl b => .ok b w
  | _ => .no
theorem asB_bind {β : Type} {r : R T} {f : Bool → World → R β} : (asB r).bind f = r.bind fun d w => (toB d w).bind f := by cases r <;> rfl
def mTest (m : ME) : MT := fun ρ w => asB (m ρ w)
theorem test_read {K : PySem.W.Frag} {m : ME} : ∀ σ H Q, rdT K (mTest m) σ H Q → tTest (rdE K m) σ H Q := fun σ H Q => by
  rintro ⟨hd, φ, ρ, w, sr, wr, p⟩
  refine ⟨hd, φ, ρ, w, sr, wr, Pst.then isPst p fun d w1 φ1 H1 e1 wr1 p1 v rv => ?_⟩
  cases d with
  | bl b => unfold Rep at rv; exact ⟨b, rv, p1.ok wr1⟩
  | _ => exact p1.elim
theorem dt_cmp {op : CmpOp} {r : R2} {s : S2} {ma mb : ME} (ho : OpR X (compareOp op) r) (hs : Op2 X.K s r) (ha : PE X a (rdE X.K ma)) (hb : PE X b (rdE X.K mb)) (hm : behindInMarks op b = false) : PT X (.Compare a [op] [b] pos) (rdT X.K (mTest (mOp2 s ma mb))) :=
  PT_imp (pt_cmpR ho ha hb hm) fun σ H Q h => by
    have h := test_read σ H Q h
    exact hs.read σ H _ h
/-- a op1 b op2 c -/
def mChain (s s' : S2) (a b c : ME) : ME := fun ρ w => (a ρ w).bind fun x w1 => (b ρ w1).bind fun y w2 => (asB (s x y w2)).bind fun k w3 => if k = true then (c ρ w3).bind fun z w4 => s' y z w4 else .ok (.bl false) w3
theorem chain_read {K : PySem.W.Frag} {s s' : S2} {r r' : R2} (hs : Op2 K s r) (hs' : Op2 K s' r') {a b c : ME} : ∀ σ H Q, rdE K (mChain s s' a b c) σ H Q → tChain r r' (rdE K a) (rdE K b) (rdE K c) σ H Q := fun σ H Q => by
  rintro ⟨hd, φ, ρ, w, sr, wr, p⟩
  refine ⟨hd, φ, ρ, w, sr, wr, Pst.then isPst p fun dx w1 φ1 H1 e1 wr1 p1 x rx => ?_⟩
  refine ⟨hd, φ1, ρ, w1, sr.mono e1, wr1, Pst.then isPst p1 fun dy w2 φ2 H2 e2 wr2 p2 y ry => ?_⟩
  refine hs hd φ2 H2 w2 dx dy x y _ wr2 (rx.mono e2) ry ?_
  rw [asB_bind] at p2
  refine Pst.then isPst p2 fun d w3 φ3 H3 e3 wr3 p3 z rz => ?_
  · cases d with
    | bl k =>
      unfold Rep at rz
      refine ⟨k, rz, ?_⟩
      cases k with
      | true =>
        simp only [toB, bind_ok, if_true] at p3; rw [if_pos rfl]
        refine ⟨hd, φ3, ρ, w3, (sr.mono e1).mono (e2.trans e3), wr3, Pst.then isPst p3 fun dz w4 φ4 H4 e4 wr4 p4 z' rz' => ?_⟩
        exact hs' hd φ4 H4 w4 dy dz y z' Q wr4 (ry.mono (e3.trans e4)) rz' p4
      | false =>
        simp only [toB, bind_ok, Bool.false_eq_true, if_false] at p3; rw [if_neg Bool.false_ne_true]
        exact p3.ok wr3 _ (by unfold Rep; rfl)
    | _ => exact p3.elim
theorem de_chain {op op' : CmpOp} {r r' : R2} {s s' : S2} {ma mb mc : ME} (ho : OpR X (compareOp op) r) (hs : Op2 X.K s r) (ho' : OpR X (compareOp op') r') (hs' : Op2 X.K s' r') (ha : PE X a (rdE X.K ma)) (hb : PE X b (rdE X.K mb)) (hc : PE X c (rdE X.K mc))
    (hm : lastMarks [op, op'] [b, c] = false := by with_unfolding_all rfl) : PE X (.Compare a [op, op'] [b, c] pos) (rdE X.K (mChain s s' ma mb mc)) := PE_imp (pe_chain ho ho' ha hb hc hm) (chain_read hs hs')
theorem dt_chain {op op' : CmpOp} {r r' : R2} {s s' : S2} {ma mb mc : ME} (ho : OpR X (compareOp op) r) (hs : Op2 X.K s r) (ho' : OpR X (compareOp op') r') (hs' : Op2 X.K s' r') (ha : PE X a (rdE X.K ma)) (hb : PE X b (rdE X.K mb)) (hc : PE X c (rdE X.K mc))
    (hm : lastMarks [op, op'] [b, c] = false := by with_unfolding_all rfl) : PT X (.Compare a [op, op'] [b, c] pos) (rdT X.K (mTest (mChain s s' ma mb mc))) := PT_imp (pt_chain ho ho' ha hb hc hm) fun σ H Q h => by
    have h := test_read σ H Q h
    exact chain_read hs hs' σ H _ h
/-- a sequence that is read -/
def seq? (w : World) : T → Option (List T)
  | .tup ts => some ts
  | .lst ts => some ts
  | .frz ts => some ts
  | .cell k => match w[k]? with
    | some (.lst ts) => some ts
    | _ => none
  | _ => none
variable {K : PySem.W.Frag} {hd φ : List Addr} {H : Hp} {w : World}
theorem cell_at (wr : WR K hd φ H w) {k : Nat} {v : V} {c : Cell} (r : Rep K hd φ H (.cell k) v) (hc : w[k]? = some c) : ∃ a, v = .ref a ∧ φ[k]? = some a ∧ a ∈ φ ∧ CellR K hd φ H c a := by
  unfold Rep at r
  obtain ⟨a, e, hk⟩ := r
  exact ⟨a, e, hk, List.mem_of_getElem? hk, wr.cells k c a hc hk⟩
theorem seq_at (wr : WR K hd φ H w) {t : T} {v : V} {ts : List T} (r : Rep K hd φ H t v) (hs : seq? w t = some ts) : ∃ a xs, v = .ref a ∧ (SqL K H a xs ∨ SqT K H a xs) ∧ Reps K hd φ H ts xs := by
  cases t with
  | tup us =>
    cases hs
    unfold Rep at r
    obtain ⟨a, xs, e, n, rs⟩ := r
    exact ⟨a, xs, e, .inr (SqT.of n.1), rs⟩
  | lst us =>
    cases hs
    unfold Rep at r
    obtain ⟨a, xs, e, n, rs⟩ := r
    exact ⟨a, xs, e, .inl (SqL.of n.1), rs⟩
  | frz us =>
    cases hs
    unfold Rep at r
    obtain ⟨a, xs, e, n, rs⟩ := r
    rcases n with ⟨o, n, rfl | ⟨u, rfl⟩, _⟩ | n
    · exact ⟨a, xs, e, .inl (SqL.of n), rs⟩
    · exact ⟨a, xs, e, .inl (.inl (.inr ⟨u, n⟩)), rs⟩
    · rcases n with (n | ⟨_, n⟩) | n
      · cases n
      · cases n
      · exact ⟨a, xs, e, .inl (.inr n), rs⟩
  | cell k =>
    unfold seq? at hs
    simp only at hs
    split at hs
    · rename_i us hk
      cases hs
      obtain ⟨a, e, hk, _, xs, h1, h2⟩ := cell_at wr r hk
      exact ⟨a, xs, e, .inl (SqL.of h1), h2⟩
    · cases hs
  | _ => cases hs
def isEmp (w : World) : T → Option Bool
  | .cell k => match w[k]? with
    | some (.lst ts) => some ts.isEmpty
    | some (.dic kvs) => some kvs.isEmpty
    | _ => none
  | t => (seq? w t).map (·.isEmpty)
/-- a value's truth -/
def sTru : T → World → R Bool := fun t w => match t with
  | .non => .ok false w
  | .bl b => .ok b w
  | .int i => .ok (i != 0) w
  | t => match isEmp w t with
    | some b => .ok (!b) w
    | none => .no
theorem tru_at (wr : WR K hd φ H w) {t : T} {v : V} {b : Bool} {w' : World} (r : Rep K hd φ H t v) (hs : sTru t w = .ok b w') : TruV K v H b ∧ w' = w := by
  have sq : ∀ ts, seq? w t = some ts → TruV K v H (!ts.isEmpty) := fun ts h => by
    obtain ⟨a, xs, rfl, h1, h2⟩ := seq_at wr r h
    have e : ts.isEmpty = xs.isEmpty := by
      have := h2.len
      cases ts <;> cases xs <;> simp_all
    rcases h1 with h1 | h1
    · exact .inl ⟨xs, h1, by rw [e]⟩
    · exact .inr (.inl ⟨xs, h1, by rw [e]⟩)
  cases t with
  | non => unfold Rep at r; subst r; cases hs; exact ⟨rfl, rfl⟩
  | bl b => unfold Rep at r; subst r; cases hs; exact ⟨rfl, rfl⟩
  | int i => unfold Rep at r; subst r; cases hs; exact ⟨rfl, rfl⟩
  | str x => cases hs
  | ty x => cases hs
  | tup ts => cases hs; exact ⟨sq ts rfl, rfl⟩
  | lst ts => cases hs; exact ⟨sq ts rfl, rfl⟩
  | frz ts => cases hs; exact ⟨sq ts rfl, rfl⟩
  | rng n => cases hs
  | cell k =>
    unfold sTru isEmp at hs
    simp only at hs
    cases q : w[k]? with
    | none => rw [q] at hs; cases hs
    | some c =>
      rw [q] at hs
      cases c with
      | lst ts => cases hs; exact ⟨sq ts (by unfold seq?; simp only [q]), rfl⟩
      | dic kvs =>
        cases hs
        obtain ⟨a, rfl, _, _, ys, h1, h2, h3⟩ := cell_at wr r q
        refine ⟨.inr (.inr ⟨ys, h1, ?_⟩), rfl⟩
        have e : ys.length = kvs.length := by simpa using congrArg List.length h2
        cases ys <;> cases kvs <;> simp_all
      | dit kvs => cases hs
def mTru (m : ME) : MT := fun ρ w => (m ρ w).bind sTru
theorem dt_tru {ma : ME} (ha : PE X a (rdE X.K ma)) (he : ∀ whole, isTrue a X.env whole = (do let v ← whole; standAt a.pos; holding [v] (truthy v)) := by exact fun _ => rfl) : PT X a (rdT X.K (mTru ma)) := PT_imp (pt_truth ha he) fun σ H Q => by
  rintro ⟨hd, φ, ρ, w, sr, wr, p⟩
  refine ⟨hd, φ, ρ, w, sr, wr, Pst.then isPst p fun d w1 φ1 H1 e1 wr1 p1 v rv => ?_⟩
  cases q : sTru d w1 with
  | no => rw [q] at p1; exact p1.elim
  | ok b w2 =>
    rw [q] at p1
    obtain ⟨h1, rfl⟩ := tru_at wr1 rv q
    exact ⟨b, h1, p1.ok wr1⟩
def mAnd (a b : MT) : MT := fun ρ w => (a ρ w).bind fun x w1 => if x = true then b ρ w1 else .ok false w1
def mOr (a b : MT) : MT := fun ρ w => (a ρ w).bind fun x w1 => if x = true then .ok true w1 else b ρ w1
def mNot (a : MT) : MT := fun ρ w => (a ρ w).bind fun x w1 => .ok (!x) w1
variable {rest : List Expr}
theorem dw_and1 {ma : MT} (ha : PT X a (rdT X.K ma)) : PW X (.BoolOp .And [a] pos) (rdT X.K ma) := pw_and1 ha
theorem dw_or1 {ma : MT} (ha : PT X a (rdT X.K ma)) : PW X (.BoolOp .Or [a] pos) (rdT X.K ma) := pw_or1 ha
theorem dw_and {ma mb : MT} (ha : PT X a (rdT X.K ma)) (hb : PW X (.BoolOp .And (b :: rest) pos) (rdT X.K mb)) : PW X (.BoolOp .And (a :: b :: rest) pos) (rdT X.K (mAnd ma mb)) := PW_imp (pw_and ha hb) fun σ H Q => by
  rintro ⟨hd, φ, ρ, w, sr, wr, p⟩
  refine ⟨hd, φ, ρ, w, sr, wr, Pst.then isPst p fun d w1 φ1 H1 e1 wr1 p1 => ?_⟩
  cases d with
  | true => show (if true = true then _ else _); rw [if_pos rfl] at p1 ⊢; exact ⟨hd, φ1, ρ, w1, sr.mono e1, wr1, p1⟩
  | false => show (if false = true then _ else _); rw [if_neg Bool.false_ne_true] at p1 ⊢; exact p1.ok wr1
theorem dw_or {ma mb : MT} (ha : PT X a (rdT X.K ma)) (hb : PW X (.BoolOp .Or (b :: rest) pos) (rdT X.K mb)) : PW X (.BoolOp .Or (a :: b :: rest) pos) (rdT X.K (mOr ma mb)) := PW_imp (pw_or ha hb) fun σ H Q => by
  rintro ⟨hd, φ, ρ, w, sr, wr, p⟩
  refine ⟨hd, φ, ρ, w, sr, wr, Pst.then isPst p fun d w1 φ1 H1 e1 wr1 p1 => ?_⟩
  cases d with
  | true => show (if true = true then _ else _); rw [if_pos rfl] at p1 ⊢; exact p1.ok wr1
  | false => show (if false = true then _ else _); rw [if_neg Bool.false_ne_true] at p1 ⊢; exact ⟨hd, φ1, ρ, w1, sr.mono e1, wr1, p1⟩
theorem dt_w {ma : MT} (h : PW X a (rdT X.K ma)) : PT X a (rdT X.K ma) := h.pt
theorem dt_not {ma : MT} (ha : PT X a (rdT X.K ma)) : PT X (.UnaryOp .Not a pos) (rdT X.K (mNot ma)) := PT_imp (pt_not ha) fun σ H Q => by
  rintro ⟨hd, φ, ρ, w, sr, wr, p⟩
  exact ⟨hd, φ, ρ, w, sr, wr, Pst.then isPst p fun d w1 φ1 H1 e1 wr1 p1 => p1.ok wr1⟩
/-! .. as values -/
def mAndV (a b : ME) : ME := fun ρ w => (a ρ w).bind fun x w1 => (sTru x w1).bind fun k w2 => if k = true then b ρ w2 else .ok x w2
def mOrV (a b : ME) : ME := fun ρ w => (a ρ w).bind fun x w1 => (sTru x w1).bind fun k w2 => if k = true then .ok x w2 else b ρ w2
def mNotV (a : ME) : ME := fun ρ w => (a ρ w).bind fun x w1 => (sTru x w1).bind fun k w2 => .ok (.bl (!k)) w2
theorem de_one {op : BoolOp} {t : TE} (h : PE X a t) : PE X (.BoolOp op [a] pos) t := pe_one h
theorem de_and {ma mb : ME} (ha : PE X a (rdE X.K ma)) (hb : PE X (.BoolOp .And (b :: rest) pos) (rdE X.K mb)) : PE X (.BoolOp .And (a :: b :: rest) pos) (rdE X.K (mAndV ma mb)) := PE_imp (pe_andT ha hb) fun σ H Q => by
  rintro ⟨hd, φ, ρ, w, sr, wr, p⟩
  refine ⟨hd, φ, ρ, w, sr, wr, Pst.then isPst p fun d w1 φ1 H1 e1 wr1 p1 v rv => ?_⟩
  cases q : sTru d w1 with
  | no => rw [q] at p1; exact p1.elim
  | ok k w2 =>
    rw [q] at p1
    obtain ⟨h1, rfl⟩ := tru_at wr1 rv q
    refine ⟨k, h1, ?_⟩
    rw [bind_ok] at p1
    cases k with
    | true => rw [if_pos rfl] at p1 ⊢; exact ⟨hd, φ1, ρ, _, sr.mono e1, wr1, p1⟩
    | false => rw [if_neg Bool.false_ne_true] at p1 ⊢; exact p1.ok wr1 v rv
theorem de_or {ma mb : ME} (ha : PE X a (rdE X.K ma)) (hb : PE X (.BoolOp .Or (b :: rest) pos) (rdE X.K mb)) : PE X (.BoolOp .Or (a :: b :: rest) pos) (rdE X.K (mOrV ma mb)) := PE_imp (pe_orT ha hb) fun σ H Q => by
  rintro ⟨hd, φ, ρ, w, sr, wr, p⟩
  refine ⟨hd, φ, ρ, w, sr, wr, Pst.then isPst p fun d w1 φ1 H1 e1 wr1 p1 v rv => ?_⟩
  cases q : sTru d w1 with
  | no => rw [q] at p1; exact p1.elim
  | ok k w2 =>
    rw [q] at p1
    obtain ⟨h1, rfl⟩ := tru_at wr1 rv q
    refine ⟨k, h1, ?_⟩
    rw [bind_ok] at p1
    cases k with
    | true => rw [if_pos rfl] at p1 ⊢; exact p1.ok wr1 v rv
    | false => rw [if_neg Bool.false_ne_true] at p1 ⊢; exact ⟨hd, φ1, ρ, _, sr.mono e1, wr1, p1⟩
theorem de_not {ma : ME} (ha : PE X a (rdE X.K ma)) : PE X (.UnaryOp .Not a pos) (rdE X.K (mNotV ma)) := PE_imp (pe_notT ha) fun σ H Q => by
  rintro ⟨hd, φ, ρ, w, sr, wr, p⟩
  refine ⟨hd, φ, ρ, w, sr, wr, Pst.then isPst p fun d w1 φ1 H1 e1 wr1 p1 v rv => ?_⟩
  cases q : sTru d w1 with
  | no => rw [q] at p1; exact p1.elim
  | ok k w2 =>
    rw [q] at p1
    obtain ⟨h1, rfl⟩ := tru_at wr1 rv q
    exact ⟨k, h1, p1.ok wr1 _ (by unfold Rep; rfl)⟩
def mIf (c : MT) (a b : ME) : ME := fun ρ w => (c ρ w).bind fun k w1 => if k = true then a ρ w1 else b ρ w1
theorem de_if {mc : MT} {ma mb : ME} (hc : PT X c (rdT X.K mc)) (ha : PE X a (rdE X.K ma)) (hb : PE X b (rdE X.K mb)) : PE X (.IfExp c a b pos) (rdE X.K (mIf mc ma mb)) := PE_imp (pe_ifExp hc ha hb) fun σ H Q => by
  rintro ⟨hd, φ, ρ, w, sr, wr, p⟩
  refine ⟨hd, φ, ρ, w, sr, wr, Pst.then isPst p fun k w1 φ1 H1 e1 wr1 p1 => ?_⟩
  cases k with
  | true => show (if true = true then _ else _); rw [if_pos rfl] at p1 ⊢; exact ⟨hd, φ1, ρ, w1, sr.mono e1, wr1, p1⟩
  | false => show (if false = true then _ else _); rw [if_neg Bool.false_ne_true] at p1 ⊢; exact ⟨hd, φ1, ρ, w1, sr.mono e1, wr1, p1⟩

/-! ### arguments, displays, new lists -/
variable {es : List Expr}
def mNil : MF := fun _ w => .ok [] w
def mCons (a : ME) (r : MF) : MF := fun ρ w => (a ρ w).bind fun x w1 => (r ρ w1).bind fun xs w2 => .ok (x :: xs) w2
theorem da_nil : PA X [] (rdA X.K mNil) := PA_imp pa_nil fun σ H Q => by
  rintro ⟨hd, φ, ρ, w, sr, wr, p⟩
  exact p.ok wr _ Reps.nil
theorem da_cons {ma : ME} {mr : MF} (ha : PE X a (rdE X.K ma)) (hr : PA X es (rdA X.K mr)) (hs : starEach (a :: es) X.env = (false, eval a X.env) :: starEach es X.env := by rfl) : PA X (a :: es) (rdA X.K (mCons ma mr)) := PA_imp (pa_cons ha hr hs) fun σ H Q => by
  rintro ⟨hd, φ, ρ, w, sr, wr, p⟩
  refine ⟨hd, φ, ρ, w, sr, wr, Pst.then isPst p fun x w1 φ1 H1 e1 wr1 p1 v rv => ?_⟩
  refine ⟨hd, φ1, ρ, w1, sr.mono e1, wr1, Pst.then isPst p1 fun xs w2 φ2 H2 e2 wr2 p2 vs rvs => ?_⟩
  exact p2.ok wr2 _ (Reps.cons (rv.mono e2) rvs)
def mTup (m : MF) : ME := fun ρ w => (m ρ w).bind fun ts w1 => if ts.length ≤ sizeLine then .ok (.tup ts) w1 else .no
theorem de_tup {x1 : Nat} {m : MF} (h : PA X es (rdA X.K m)) : PE X (.Tuple es x1 pos) (rdE X.K (mTup m)) := PE_imp (pe_tup h) fun σ H Q => by
  rintro ⟨hd, φ, ρ, w, sr, wr, p⟩
  refine ⟨hd, φ, ρ, w, sr, wr, Pst.then isPst p fun xs w1 φ1 H1 e1 wr1 p1 vs rvs => ?_⟩
  split at p1
  · rename_i hl
    refine ⟨by rw [← rvs.len]; exact hl, fun q hq => ?_⟩
    refine p1 (upd H1 q (.tup vs)) φ1 (Ext.new hq) (wr1.new hq) _ ?_
    unfold Rep
    exact ⟨q, vs, rfl, ⟨upd_same, wr1.nin hq⟩, rvs.mono (Ext.new hq)⟩
  · exact p1.elim
def mLst (m : MF) : MF := fun ρ w => (m ρ w).bind fun ts w1 => if ts.length ≤ sizeLine then .ok ts w1 else .no
theorem df_lst {m : MF} (h : PA X es (rdA X.K m)) : PE X (.List es pos) (rdF X.K (mLst m)) := PE_imp (pe_lst h) fun σ H Q => by
  rintro ⟨hd, φ, ρ, w, sr, wr, p⟩
  refine ⟨hd, φ, ρ, w, sr, wr, Pst.then isPstF p fun xs w1 φ1 H1 e1 wr1 p1 vs rvs => ?_⟩
  split at p1
  · rename_i hl
    refine ⟨by rw [← rvs.len]; exact hl, fun q hq => ?_⟩
    exact p1 q vs (upd H1 q (.lst vs)) φ1 (Ext.hold hq) (wr1.hold hq) hq (wr1.nin hq).2 upd_same (rvs.mono (Ext.hold hq))
  · exact p1.elim
/-- a new list as a value that stays as it is -/
def mVal (m : MF) : ME := fun ρ w => (m ρ w).bind fun ts w1 => .ok (.lst ts) w1
theorem de_val {m : MF} (h : PE X e (rdF X.K m)) : PE X e (rdE X.K (mVal m)) := PE_imp h fun σ H Q => by
  rintro ⟨hd, φ, ρ, w, sr, wr, p⟩
  refine ⟨hd, φ, ρ, w, sr, wr, ?_⟩
  unfold mVal at p
  cases q : m ρ w with
  | no => rw [q] at p; exact p
  | ok ts w1 =>
    rw [q] at p
    intro a xs H' φ' e1 wr1 hn ha hx rs
    refine p H' φ' e1.free wr1.free _ ?_
    unfold Rep
    exact ⟨a, xs, rfl, ⟨hx, fun z => wr1.apart a z List.mem_cons_self, ha⟩, rs.free⟩
/-- a new list as a cell -/
def mCell (m : MF) : ME := fun ρ w => (m ρ w).bind fun ts w1 => .ok (.cell w1.length) (w1 ++ [.lst ts])
theorem de_cell {m : MF} (h : PE X e (rdF X.K m)) : PE X e (rdE X.K (mCell m)) := PE_imp h fun σ H Q => by
  rintro ⟨hd, φ, ρ, w, sr, wr, p⟩
  refine ⟨hd, φ, ρ, w, sr, wr, ?_⟩
  unfold mCell at p
  cases q : m ρ w with
  | no => rw [q] at p; exact p
  | ok ts w1 =>
    rw [q] at p
    intro a xs H' φ' e1 wr1 hn ha hx rs
    refine p H' (φ' ++ [a]) (e1.cell hn) (wr1.cell ha ⟨xs, hx, rs⟩) _ ?_
    unfold Rep
    refine ⟨a, rfl, ?_⟩
    rw [← wr1.len, List.getElem?_append_right (Nat.le_refl _)]
    simp
end
end VS

set_option Elab.async false
set_option linter.all false
set_option maxRecDepth 100000
set_option maxHeartbeats 2000000
namespace VS
open PySem PySem.Spec PyProof.Rows L2
section
variable {X : Cx} {e a b c : Expr} {pos : Pos} {es : List Expr} {x : Str} {p : Pos}

/-! ### calls of built-ins -/
abbrev SC := List T → World → R T
abbrev SCF := List T → World → R (List T)
def mCall (s : SC) (m : MF) : ME := fun ρ w => (m ρ w).bind s
def mCallF (s : SCF) (m : MF) : MF := fun ρ w => (m ρ w).bind s
def OpC (K : PySem.W.Frag) (s : SC) (r : List V → Hp → VK → Prop) : Prop := ∀ hd φ H w ds xs Q, WR K hd φ H w → Reps K hd φ H ds xs → Pst K hd (CE K hd Q) φ H (s ds w) → r xs H Q
def OpCF (K : PySem.W.Frag) (s : SCF) (r : List V → Hp → VK → Prop) : Prop := ∀ hd φ H w ds xs Q, WR K hd φ H w → Reps K hd φ H ds xs → PstF K hd Q φ H (s ds w) → r xs H Q
theorem OpC.read {K : PySem.W.Frag} {s : SC} {r : List V → Hp → VK → Prop} (hs : OpC K s r) {m : MF} : ∀ σ H Q, rdE K (mCall s m) σ H Q → tCB r (rdA K m) σ H Q := fun σ H Q => by
  rintro ⟨hd, φ, ρ, w, sr, wr, q⟩
  exact ⟨hd, φ, ρ, w, sr, wr, Pst.then isPst q fun ds w1 φ1 H1 e1 wr1 p1 xs rx => hs hd φ1 H1 w1 ds xs Q wr1 rx p1⟩
theorem OpCF.read {K : PySem.W.Frag} {s : SCF} {r : List V → Hp → VK → Prop} (hs : OpCF K s r) {m : MF} : ∀ σ H Q, rdF K (mCallF s m) σ H Q → tCB r (rdA K m) σ H Q := fun σ H Q => by
  rintro ⟨hd, φ, ρ, w, sr, wr, q⟩
  exact ⟨hd, φ, ρ, w, sr, wr, Pst.then isPstF q fun ds w1 φ1 H1 e1 wr1 p1 xs rx => hs hd φ1 H1 w1 ds xs Q wr1 rx p1⟩
theorem de_callB {id : String} {s : SC} {r : List V → Hp → VK → Prop} {m : MF} (hc : CallR X (.builtin id) r) (hs : OpC X.K s r) (hm : X.mg x = none) (hv : bootBuiltins x = some (.builtin id)) (ha : PA X (e :: es) (rdA X.K m)) (hg : Gl X x := by rfl) (hn : x ≠ "__name__" := by decide) (hdb : (x == ("__debug__" : Str)) = false := by decide)
    (he : starEach (e :: es) X.env = (false, eval e X.env) :: starEach es X.env := by rfl) (hpl : (backTo pos (starEach es X.env)).any (·.1) = false := by rfl) : PE X (.Call (.Name x p) (e :: es) [] pos) (rdE X.K (mCall s m)) := PE_imp (pe_callB hc hg hm hv ha hn hdb he hpl) hs.read
theorem df_callB {id : String} {s : SCF} {r : List V → Hp → VK → Prop} {m : MF} (hc : CallR X (.builtin id) r) (hs : OpCF X.K s r) (hm : X.mg x = none) (hv : bootBuiltins x = some (.builtin id)) (ha : PA X (e :: es) (rdA X.K m)) (hg : Gl X x := by rfl) (hn : x ≠ "__name__" := by decide) (hdb : (x == ("__debug__" : Str)) = false := by decide)
    (he : starEach (e :: es) X.env = (false, eval e X.env) :: starEach es X.env := by rfl) (hpl : (backTo pos (starEach es X.env)).any (·.1) = false := by rfl) : PE X (.Call (.Name x p) (e :: es) [] pos) (rdF X.K (mCallF s m)) := PE_imp (pe_callB hc hg hm hv ha hn hdb he hpl) hs.read
theorem de_callTy {id : String} {s : SC} {r : List V → Hp → VK → Prop} {m : MF} (hc : CallR X (.type id) r) (hs : OpC X.K s r) (hm : X.mg x = none) (hv : bootBuiltins x = some (.type id)) (ha : PA X (e :: es) (rdA X.K m)) (hg : Gl X x := by rfl) (hn : x ≠ "__name__" := by decide) (hdb : (x == ("__debug__" : Str)) = false := by decide)
    (he : starEach (e :: es) X.env = (false, eval e X.env) :: starEach es X.env := by rfl) (hpl : (backTo pos (starEach es X.env)).any (·.1) = false := by rfl) : PE X (.Call (.Name x p) (e :: es) [] pos) (rdE X.K (mCall s m)) := PE_imp (pe_callTy hc hg hm hv ha hn hdb he hpl) hs.read
theorem df_callTy {id : String} {s : SCF} {r : List V → Hp → VK → Prop} {m : MF} (hc : CallR X (.type id) r) (hs : OpCF X.K s r) (hm : X.mg x = none) (hv : bootBuiltins x = some (.type id)) (ha : PA X (e :: es) (rdA X.K m)) (hg : Gl X x := by rfl) (hn : x ≠ "__name__" := by decide) (hdb : (x == ("__debug__" : Str)) = false := by decide)
    (he : starEach (e :: es) X.env = (false, eval e X.env) :: starEach es X.env := by rfl) (hpl : (backTo pos (starEach es X.env)).any (·.1) = false := by rfl) : PE X (.Call (.Name x p) (e :: es) [] pos) (rdF X.K (mCallF s m)) := PE_imp (pe_callTy hc hg hm hv ha hn hdb he hpl) hs.read
/-- operators whose end is a new list -/
abbrev S2F := T → T → World → R (List T)
def mOp2F (s : S2F) (a b : ME) : MF := fun ρ w => (a ρ w).bind fun x w1 => (b ρ w1).bind fun y w2 => s x y w2
def Op2F (K : PySem.W.Frag) (s : S2F) (r : R2) : Prop := ∀ hd φ H w dx dy x y Q, WR K hd φ H w → Rep K hd φ H dx x → Rep K hd φ H dy y → PstF K hd Q φ H (s dx dy w) → r x y H Q
theorem Op2F.read {K : PySem.W.Frag} {s : S2F} {r : R2} (hs : Op2F K s r) {a b : ME} : ∀ σ H Q, rdF K (mOp2F s a b) σ H Q → tOp r (rdE K a) (rdE K b) σ H Q := fun σ H Q => by
  rintro ⟨hd, φ, ρ, w, sr, wr, p⟩
  refine ⟨hd, φ, ρ, w, sr, wr, Pst.then isPstF p fun dx w1 φ1 H1 e1 wr1 p1 x rx => ?_⟩
  refine ⟨hd, φ1, ρ, w1, sr.mono e1, wr1, Pst.then isPstF p1 fun dy w2 φ2 H2 e2 wr2 p2 y ry => ?_⟩
  exact hs hd φ2 H2 w2 dx dy x y Q wr2 (rx.mono e2) ry p2
theorem df_op {op : Operator} {r : R2} {s : S2F} {ma mb : ME} (ho : OpR X (binaryOp op) r) (hs : Op2F X.K s r) (ha : PE X a (rdE X.K ma)) (hb : PE X b (rdE X.K mb)) : PE X (.BinOp a op b pos) (rdF X.K (mOp2F s ma mb)) := PE_imp (pe_op ho ha hb) hs.read

/-! ### calls of defs -/
abbrev Sem := List T → World → R T
def spOf (K : PySem.W.Frag) (n : Nat) (f : Sem) : Sp := fun vs H Q _ => ∃ hd φ w ds, ds.length = n ∧ WR K hd φ H w ∧ Reps K hd φ H ds vs ∧ Pst K hd (CE K hd Q) φ H (f ds w)
theorem spOf_len {K : PySem.W.Frag} {n : Nat} {f : Sem} : ∀ vs H Q E, spOf K n f vs H Q E → vs.length = n := by
  rintro vs H Q E ⟨hd, φ, w, ds, l, _, r, _⟩
  rw [← r.len, l]
def mDef (n : Nat) (f : Sem) (m : MF) : ME := fun ρ w => (m ρ w).bind fun ds w1 => if ds.length = n then f ds w1 else .no
theorem def_read {K : PySem.W.Frag} {n : Nat} {f : Sem} {m : MF} {E : XK} : ∀ σ H Q, rdE K (mDef n f m) σ H Q → tCall (spOf K n f) [] E (rdA K m) σ H Q := fun σ H Q => by
  rintro ⟨hd, φ, ρ, w, sr, wr, q⟩
  refine ⟨hd, φ, ρ, w, sr, wr, Pst.then isPst q fun ds w1 φ1 H1 e1 wr1 p1 xs rx => ?_⟩
  split at p1
  · rename_i hl
    exact ⟨hd, φ1, w1, ds, hl, wr1, by rw [List.append_nil]; exact rx, p1⟩
  · exact p1.elim
/-- a def as it stands behind the top, and what it is worth -/
structure Df (P : Program) (w : PySem.World) (K : PySem.W.Frag) (mg : Str → Option Value) (base : Heap) (k : Nat) (x : Str) (ps : List Str) (f : Sem) : Prop where
  ex : ∃ (ad : Addr) (fd : FuncData), FnOk P w K mg base (L2.CX P w) k ad fd ps (spOf K ps.length f) ∧ mg x = some (.ref ad) ∧ PySem.W.keepIn K (.ref ad) = true ∧ Binds K fd ps []
theorem de_def {k n : Nat} {ps : List Str} {f : Sem} {m : MF} (F : Df X.prog X.w X.K X.mg X.base k x ps f) (hr : Room k X.A) (ha : PA X (e :: es) (rdA X.K m)) (hn : ps.length = n := by rfl) (hg : Gl X x := by rfl) (hdb : (x == ("__debug__" : Str)) = false := by decide)
    (he : starEach (e :: es) X.env = (false, eval e X.env) :: starEach es X.env := by rfl) (hpl : (backTo pos (starEach es X.env)).any (·.1) = false := by rfl) : PE X (.Call (.Name x p) (e :: es) [] pos) (rdE X.K (mDef n f m)) := by
  subst hn
  obtain ⟨ad, fd, ok, hm, hk, hb⟩ := F.ex
  exact PE_imp (pe_call (E := E0) ok hr hg hm hk hb .nil passL ha hdb he hpl) def_read

/-! ### statements -/
inductive Fl where
  | nx | ret (t : T) | bk | ct
abbrev MS := Env → World → R (Env × Fl)
abbrev CS (K : PySem.W.Frag) (hd : List Addr) (D : Ends) : Env × Fl → List Addr → Hp → Prop := fun r φ' H' => match r.2 with
  | .nx => ∀ σ', SR K hd φ' H' σ' r.1 → D.nx σ' H'
  | .ret t => ∀ v, Rep K hd φ' H' t v → D.rt v H'
  | .bk => ∀ σ', SR K hd φ' H' σ' r.1 → D.bk σ' H'
  | .ct => ∀ σ', SR K hd φ' H' σ' r.1 → D.ct σ' H'
def rdS (K : PySem.W.Frag) (m : MS) : TS := fun D σ H => ∃ hd φ ρ w, SR K hd φ H σ ρ ∧ WR K hd φ H w ∧ Pst K hd (CS K hd D) φ H (m ρ w)
def mSkip : MS := fun ρ w => .ok (ρ, .nx) w
def mSeq (a b : MS) : MS := fun ρ w => (a ρ w).bind fun r w1 => match r.2 with
  | .nx => b r.1 w1
  | _ => .ok r w1
variable {st : Stmt} {rest : List Stmt} {m1 m2 : MS}
theorem ds_nil : PSs X [] (rdS X.K mSkip) := PSs_imp pss_nil fun D σ H => by
  rintro ⟨hd, φ, ρ, w, sr, wr, p⟩
  exact p.ok wr σ sr
theorem ds_one (h : PS X st (rdS X.K m1)) : PSs X [st] (rdS X.K m1) := pss_one h
theorem ds_cons (h1 : PS X st (rdS X.K m1)) (h2 : PSs X rest (rdS X.K m2)) : PSs X (st :: rest) (rdS X.K (mSeq m1 m2)) := PSs_imp (pss_cons h1 h2) fun D σ H => by
  rintro ⟨hd, φ, ρ, w, sr, wr, p⟩
  refine ⟨hd, φ, ρ, w, sr, wr, Pst.then isPst p fun r w1 φ1 H1 e1 wr1 p1 => ?_⟩
  obtain ⟨ρ1, fl⟩ := r
  cases fl with
  | nx => exact fun σ1 sr1 => ⟨hd, φ1, ρ1, w1, sr1, wr1, p1⟩
  | ret t => exact p1.ok wr1
  | bk => exact p1.ok wr1
  | ct => exact p1.ok wr1
theorem ds_never : PS X st (rdS X.K fun _ _ => .no) := PS_imp ps_never fun D σ H => by
  rintro ⟨hd, φ, ρ, w, sr, wr, p⟩
  exact p.elim
def mRet (m : ME) : MS := fun ρ w => (m ρ w).bind fun t w1 => .ok (ρ, .ret t) w1
theorem ds_ret {m : ME} (h : PE X e (rdE X.K m)) : PS X (.Return (some e) pos) (rdS X.K (mRet m)) := PS_imp (ps_ret h) fun D σ H => by
  rintro ⟨hd, φ, ρ, w, sr, wr, p⟩
  exact ⟨hd, φ, ρ, w, sr, wr, Pst.then isPst p fun t w1 φ1 H1 e1 wr1 p1 => p1.ok wr1⟩
def mDrop (m : ME) : MS := fun ρ w => (m ρ w).bind fun _ w1 => .ok (ρ, .nx) w1
theorem ds_expr {m : ME} (h : PE X e (rdE X.K m)) (hs : swapsWith e none pos.line X.env = pure false := by rfl) : PS X (.Expr e pos) (rdS X.K (mDrop m)) := PS_imp (ps_expr h hs) fun D σ H => by
  rintro ⟨hd, φ, ρ, w, sr, wr, p⟩
  exact ⟨hd, φ, ρ, w, sr, wr, Pst.then isPst p fun t w1 φ1 H1 e1 wr1 p1 v _ => p1.ok wr1 σ (sr.mono e1)⟩
def mIfS (c : MT) (a b : MS) : MS := fun ρ w => (c ρ w).bind fun k w1 => if k = true then a ρ w1 else b ρ w1
theorem ds_if {mc : MT} {as bs : List Stmt} (hc : PT X c (rdT X.K mc)) (ha : PSs X as (rdS X.K m1)) (hb : PSs X bs (rdS X.K m2)) : PS X (.If c as bs pos) (rdS X.K (mIfS mc m1 m2)) := PS_imp (ps_if hc ha hb) fun D σ H => by
  rintro ⟨hd, φ, ρ, w, sr, wr, p⟩
  refine ⟨hd, φ, ρ, w, sr, wr, Pst.then isPst p fun k w1 φ1 H1 e1 wr1 p1 => ?_⟩
  cases k with
  | true => show (if true = true then _ else _); rw [if_pos rfl] at p1 ⊢; exact ⟨hd, φ1, ρ, w1, sr.mono e1, wr1, p1⟩
  | false => show (if false = true then _ else _); rw [if_neg Bool.false_ne_true] at p1 ⊢; exact ⟨hd, φ1, ρ, w1, sr.mono e1, wr1, p1⟩
theorem ds_break : PS X (.Break pos) (rdS X.K fun ρ w => .ok (ρ, .bk) w) := PS_imp ps_break fun D σ H => by
  rintro ⟨hd, φ, ρ, w, sr, wr, p⟩
  exact p.ok wr σ sr
theorem ds_continue : PS X (.Continue pos) (rdS X.K fun ρ w => .ok (ρ, .ct) w) := PS_imp ps_continue fun D σ H => by
  rintro ⟨hd, φ, ρ, w, sr, wr, p⟩
  exact p.ok wr σ sr

/-! ### targets -/
abbrev MG := T → Env → World → R Env
abbrev CG (K : PySem.W.Frag) (hd : List Addr) (S : List Nat) (σ : L2.St) (Q : L2.St → Hp → Prop) : Env → List Addr → Hp → Prop := fun ρ' φ' H' => ∀ σ', SR K hd φ' H' σ' ρ' → (∀ vs : List Nat, (∀ i ∈ S, i ∈ vs) → wipe σ' vs = wipe σ vs) → Q σ' H'
def rdG (K : PySem.W.Frag) (g : MG) (S : List Nat) : TG := fun v σ H Q => ∃ hd φ ρ w t, SR K hd φ H σ ρ ∧ WR K hd φ H w ∧ Rep K hd φ H t v ∧ Pst K hd (CG K hd S σ Q) φ H (g t ρ w)
theorem PG_imp {tg : Expr} {t t' : TG} (h : PG X tg t) (i : ∀ v σ H Q, t' v σ H Q → t v σ H Q) : PG X tg t' := ⟨fun pins s σ H v u Q I r q => h.run pins s σ H v u Q I r (i v σ H Q q)⟩
theorem PGs_imp {tg : List Expr} {t t' : TGs} (h : PGs X tg t) (i : ∀ v σ H Q, t' v σ H Q → t v σ H Q) : PGs X tg t' := ⟨fun pins s σ H v u Q I r q => h.run pins s σ H v u Q I r (i v σ H Q q)⟩
theorem wipe_get {σ : L2.St} (vs : List Nat) (i : Nat) : (wipe σ vs)[i]? = if i ∈ vs ∧ i < σ.length then some none else σ[i]? := by
  induction vs with
  | nil => simp [wipe]
  | cons v vs ih =>
    unfold wipe
    rw [List.getElem?_set, wipe_length]
    by_cases h : v = i
    · subst h
      by_cases hl : v < σ.length
      · rw [if_pos rfl, if_pos hl, if_pos ⟨List.mem_cons_self, hl⟩]
      · rw [if_pos rfl, if_neg hl, if_neg (fun z => hl z.2), List.getElem?_eq_none (by omega)]
    · rw [if_neg h, ih]
      have e : (i ∈ v :: vs ∧ i < σ.length) ↔ (i ∈ vs ∧ i < σ.length) := by
        rw [List.mem_cons]
        constructor
        · rintro ⟨z | z, l⟩
          · exact absurd z.symm h
          · exact ⟨z, l⟩
        · rintro ⟨z, l⟩; exact ⟨.inr z, l⟩
      simp only [e]
theorem wipe_set {σ : L2.St} {vs : List Nat} {i : Nat} {o : Option V} (h : i ∈ vs) : wipe (σ.set i o) vs = wipe σ vs := by
  apply List.ext_getElem?
  intro j
  rw [wipe_get, wipe_get, List.length_set, List.getElem?_set]
  by_cases e : i = j
  · subst e
    by_cases hl : i < σ.length
    · rw [if_pos ⟨h, hl⟩, if_pos ⟨h, hl⟩]
    · have e2 : σ[i]? = none := List.getElem?_eq_none (by omega)
      simp [hl, e2]
  · rw [if_neg e]
def mgName (i : Nat) : MG := fun t ρ w => .ok (ρ.set i (some t)) w
theorem dg_name (i : Nat) {x : Str} (hN : X.N.Nodup) (hi : X.N[i]? = some x := by rfl) (hx : Loc X.env.scope x := by first | exact .inl rfl | exact .inr rfl) (hf : X.fn x = true ∨ X.env.scope.names.lookup x = some .local := by first | exact .inl rfl | exact .inr rfl | assumption) : PG X (.Name x pos) (rdG X.K (mgName i) [i]) := PG_imp (pg_name hN hi hx hf) fun v σ H Q => by
  rintro ⟨hd, φ, ρ, w, t, sr, wr, r, p⟩
  exact p.ok wr _ (sr.set r i) fun vs h => wipe_set (h i List.mem_cons_self)
abbrev MGs := List T → Env → World → R Env
def rdGs (K : PySem.W.Frag) (g : MGs) (S : List Nat) : TGs := fun vs σ H Q => ∃ hd φ ρ w ts, SR K hd φ H σ ρ ∧ WR K hd φ H w ∧ Reps K hd φ H ts vs ∧ Pst K hd (CG K hd S σ Q) φ H (g ts ρ w)
def mgNil : MGs := fun ts ρ w => match ts with
  | [] => .ok ρ w
  | _ => .no
def mgCons (g : MG) (r : MGs) : MGs := fun ts ρ w => match ts with
  | [] => .no
  | t :: ts => (g t ρ w).bind fun ρ1 w1 => r ts ρ1 w1
theorem dgs_nil : PGs X [] (rdGs X.K mgNil []) := PGs_imp pgs_nil fun v σ H Q => by
  rintro ⟨hd, φ, ρ, w, ts, sr, wr, r, p⟩
  cases ts with
  | nil => unfold Reps at r; exact ⟨r, p.ok wr σ sr fun _ _ => rfl⟩
  | cons _ _ => exact p.elim
theorem dgs_cons {tg : Expr} {tgs : List Expr} {g : MG} {r : MGs} {S S' : List Nat} (h1 : PG X tg (rdG X.K g S)) (h2 : PGs X tgs (rdGs X.K r S')) (hs : (assignEach (tg :: tgs) X.env).map (·.2) = assign tg X.env :: (assignEach tgs X.env).map (·.2) := by rfl) : PGs X (tg :: tgs) (rdGs X.K (mgCons g r) (S ++ S')) := PGs_imp (pgs_cons h1 h2 hs) fun v σ H Q => by
  rintro ⟨hd, φ, ρ, w, ts, sr, wr, rr, p⟩
  cases ts with
  | nil => exact p.elim
  | cons t ts =>
    unfold Reps at rr
    obtain ⟨x, xs, rfl, rx, rxs⟩ := rr
    refine ⟨x, xs, rfl, hd, φ, ρ, w, t, sr, wr, rx, Pst.then isPst p fun ρ1 w1 φ1 H1 e1 wr1 p1 σ1 sr1 hw1 => ?_⟩
    refine ⟨hd, φ1, ρ1, w1, ts, sr1, wr1, rxs.mono e1, p1.imp fun ρ2 φ2 H2 e2 h σ2 sr2 hw2 => h σ2 sr2 fun vs hv => ?_⟩
    rw [hw2 vs fun i hi => hv i (List.mem_append_right _ hi), hw1 vs fun i hi => hv i (List.mem_append_left _ hi)]
def mgTup (n : Nat) (g : MGs) : MG := fun t ρ w => match t with
  | .tup ts => if ts.length = n then g ts ρ w else .no
  | _ => .no
theorem dg_tup {k n : Nat} {tgs : List Expr} {g : MGs} {S : List Nat} (hc : X.calm = true) (h : PGs X tgs (rdGs X.K g S)) (hn : (assignEach tgs X.env).length = n := by rfl) (hst : (assignEach tgs X.env).findIdx? (·.1) = none := by rfl) : PG X (.Tuple tgs k pos) (rdG X.K (mgTup n g) S) := PG_imp (pg_tup hc h hn hst) fun v σ H Q => by
  rintro ⟨hd, φ, ρ, w, t, sr, wr, r, p⟩
  cases t with
  | tup ts =>
    unfold mgTup at p
    simp only at p
    unfold Rep at r
    obtain ⟨a, xs, e1, n1, rs⟩ := r
    split at p
    · rename_i hl
      exact ⟨a, xs, e1, SqT.of n1.1, by rw [← rs.len]; exact hl, hd, φ, ρ, w, ts, sr, wr, rs, p⟩
    · exact p.elim
  | _ => exact p.elim
/-- o[i] = v -/
abbrev S3 := T → T → T → World → R Unit
def OpSet (K : PySem.W.Frag) (s : S3) (r : TSet) : Prop := ∀ hd φ H w d1 d2 d3 x y z Q, WR K hd φ H w → Rep K hd φ H d1 x → Rep K hd φ H d2 y → Rep K hd φ H d3 z → Pst K hd (fun _ _ H' => Q H') φ H (s d1 d2 d3 w) → r x y z H Q
def mgSub (s : S3) (o i : ME) : MG := fun t ρ w => (o ρ w).bind fun d1 w1 => (i ρ w1).bind fun d2 w2 => (s d1 d2 t w2).bind fun _ w3 => .ok ρ w3
theorem dg_sub {o i : Expr} {mo mi : ME} {s : S3} {r : TSet} (ho : PE X o (rdE X.K mo)) (hi : PE X i (rdE X.K mi)) (hp : PSet X r) (hs : OpSet X.K s r)
    (ha : ∀ v, assign (.Subscript o i pos) X.env v = (do
      let ov ← holding [v] (eval o X.env)
      let iv ← holding [v, ov] (eval i X.env)
      standAt pos
      holding [v, ov, iv] (setItem ov iv v)
      release [v, ov, iv] []) := by exact fun _ => rfl) : PG X (.Subscript o i pos) (rdG X.K (mgSub s mo mi) []) := PG_imp (pg_sub ho hi hp ha) fun v σ H Q => by
  rintro ⟨hd, φ, ρ, w, t, sr, wr, r, p⟩
  refine ⟨hd, φ, ρ, w, sr, wr, Pst.then isPst p fun d1 w1 φ1 H1 e1 wr1 p1 x rx => ?_⟩
  refine ⟨hd, φ1, ρ, w1, sr.mono e1, wr1, Pst.then isPst p1 fun d2 w2 φ2 H2 e2 wr2 p2 y ry => ?_⟩
  refine hs hd φ2 H2 w2 d1 d2 t x y v _ wr2 (rx.mono e2) ry (r.mono (e1.trans e2)) ?_
  refine Pst.then isPst p2 fun _ w3 φ3 H3 e3 wr3 p3 => ?_
  exact p3.ok wr3 σ (sr.mono ((e1.trans e2).trans e3)) fun _ _ => rfl
def mAsg (m : ME) (g : MG) : MS := fun ρ w => (m ρ w).bind fun t w1 => (g t ρ w1).bind fun ρ1 w2 => .ok (ρ1, .nx) w2
theorem asg_read {K : PySem.W.Frag} {m : ME} {g : MG} {S : List Nat} : ∀ D σ H, rdS K (mAsg m g) D σ H → tAsg (rdE K m) (rdG K g S) D σ H := fun D σ H => by
  rintro ⟨hd, φ, ρ, w, sr, wr, p⟩
  refine ⟨hd, φ, ρ, w, sr, wr, Pst.then isPst p fun t w1 φ1 H1 e1 wr1 p1 v rv => ?_⟩
  refine ⟨hd, φ1, ρ, w1, t, sr.mono e1, wr1, rv, Pst.then isPst p1 fun ρ1 w2 φ2 H2 e2 wr2 p2 σ1 sr1 _ => ?_⟩
  exact p2.ok wr2 σ1 sr1
theorem ds_asg {tg : Expr} {m : ME} {g : MG} {S : List Nat} (he : PE X e (rdE X.K m)) (hg : PG X tg (rdG X.K g S)) (hs : swapsWithSole [tg] e pos.line X.env = pure false := by rfl) (hw : swappedStores [tg] e X.env = pure none := by rfl)
    (h1 : (assignEach [tg] X.env).map (·.2) = [assign tg X.env] := by rfl) : PS X (.Assign [tg] e pos) (rdS X.K (mAsg m g)) := PS_imp (ps_asg he hg hs hw h1) asg_read
theorem name_read {K : PySem.W.Frag} {m : ME} {i : Nat} : ∀ D σ H, rdS K (mAsg m (mgName i)) D σ H → tAsg (rdE K m) (gName i) D σ H := fun D σ H => by
  rintro ⟨hd, φ, ρ, w, sr, wr, p⟩
  refine ⟨hd, φ, ρ, w, sr, wr, Pst.then isPst p fun t w1 φ1 H1 e1 wr1 p1 v rv => ?_⟩
  exact p1.ok wr1 _ ((sr.mono e1).set rv i)
theorem ds_set (i : Nat) {x : Str} {pos' : Pos} {m : ME} (hN : X.N.Nodup) (he : PE X e (rdE X.K m)) (hi : X.N[i]? = some x := by rfl) (hx : Loc X.env.scope x := by first | exact .inl rfl | exact .inr rfl) (hs : swapsWith e (some (.Name x pos')) pos.line X.env = pure false := by rfl) (hf : X.fn x = true ∨ X.env.scope.names.lookup x = some .local := by first | exact .inl rfl | exact .inr rfl | assumption) :
    PS X (.Assign [.Name x pos'] e pos) (rdS X.K (mAsg m (mgName i))) := PS_imp (ps_set hN hi hx he hs hf) name_read
/-- x, y = a, b: two local names -/
def mPar (i j : Nat) (m : MF) : MS := fun ρ w => (m ρ w).bind fun ts w1 => match ts with
  | [t, u] => .ok ((ρ.set i (some t)).set j (some u), .nx) w1
  | _ => .no
theorem ds_par (i j : Nat) {x y : Str} {m : MF} {px py pt : Pos} {kt k2 : Nat} {pt2 : Pos} (hc : X.calm = true) (hN : X.N.Nodup) (ha : PA X [a, b] (rdA X.K m)) (hi : X.N[i]? = some x := by rfl) (hj : X.N[j]? = some y := by rfl) (hij : i ≠ j := by decide)
    (hx : X.env.scope.names.lookup x = some .local := by rfl) (hy : X.env.scope.names.lookup y = some .local := by rfl)
    (hw : swappedStores [.Tuple [.Name x px, .Name y py] kt pt] (.Tuple [a, b] k2 pt2) X.env = pure (some [x, y]) := by rfl)
    (hs : swapsWithSole [.Tuple [.Name x px, .Name y py] kt pt] (.Tuple [a, b] k2 pt2) pos.line X.env = pure false := by rfl) :
    PS X (.Assign [.Tuple [.Name x px, .Name y py] kt pt] (.Tuple [a, b] k2 pt2) pos) (rdS X.K (mPar i j m)) := PS_imp (ps_par hc hN hi hj hij hx hy ha hw hs) fun D σ H => by
  rintro ⟨hd, φ, ρ, w, sr, wr, p⟩
  refine ⟨hd, φ, ρ, w, sr, wr, Pst.then isPst p fun ts w1 φ1 H1 e1 wr1 p1 vs rvs => ?_⟩
  match ts, p1 with
  | [t, u], p1 =>
    unfold Reps at rvs
    obtain ⟨v1, r1, rfl, q1, rvs⟩ := rvs
    unfold Reps at rvs
    obtain ⟨v2, r2, rfl, q2, rvs⟩ := rvs
    unfold Reps at rvs
    subst rvs
    exact ⟨v1, v2, rfl, p1.ok wr1 _ (((sr.mono e1).set q1 i).set q2 j)⟩
def mPar3 (i j l : Nat) (m : MF) : MS := fun ρ w => (m ρ w).bind fun ts w1 => match ts with
  | [t, u, v] => .ok (((ρ.set i (some t)).set j (some u)).set l (some v), .nx) w1
  | _ => .no
theorem ds_par3 (i j l : Nat) {x y z : Str} {m : MF} {px py pz pt : Pos} {kt k2 : Nat} {pt2 : Pos} (hc : X.calm = true) (hN : X.N.Nodup) (ha : PA X [a, b, c] (rdA X.K m)) (hi : X.N[i]? = some x := by rfl) (hj : X.N[j]? = some y := by rfl) (hl : X.N[l]? = some z := by rfl) (hij : i ≠ j := by decide) (hil : i ≠ l := by decide) (hjl : j ≠ l := by decide)
    (hx : X.env.scope.names.lookup x = some .local := by rfl) (hy : X.env.scope.names.lookup y = some .local := by rfl) (hz : X.env.scope.names.lookup z = some .local := by rfl)
    (hw : swappedStores [.Tuple [.Name x px, .Name y py, .Name z pz] kt pt] (.Tuple [a, b, c] k2 pt2) X.env = pure (some [x, y, z]) := by rfl)
    (hs : swapsWithSole [.Tuple [.Name x px, .Name y py, .Name z pz] kt pt] (.Tuple [a, b, c] k2 pt2) pos.line X.env = pure false := by rfl) :
    PS X (.Assign [.Tuple [.Name x px, .Name y py, .Name z pz] kt pt] (.Tuple [a, b, c] k2 pt2) pos) (rdS X.K (mPar3 i j l m)) := PS_imp (ps_par3 hc hN hi hj hl hij hil hjl hx hy hz ha hw hs) fun D σ H => by
  rintro ⟨hd, φ, ρ, w, sr, wr, p⟩
  refine ⟨hd, φ, ρ, w, sr, wr, Pst.then isPst p fun ts w1 φ1 H1 e1 wr1 p1 vs rvs => ?_⟩
  match ts, p1 with
  | [t, u, z], p1 =>
    unfold Reps at rvs
    obtain ⟨v1, r1, rfl, q1, rvs⟩ := rvs
    unfold Reps at rvs
    obtain ⟨v2, r2, rfl, q2, rvs⟩ := rvs
    unfold Reps at rvs
    obtain ⟨v3, r3, rfl, q3, rvs⟩ := rvs
    unfold Reps at rvs
    subst rvs
    exact ⟨v1, v2, v3, rfl, p1.ok wr1 _ ((((sr.mono e1).set q1 i).set q2 j).set q3 l)⟩

/-! ### while -/
def whl (c : MT) (b : MS) : Nat → Env → World → R (Env × Fl)
  | 0, _, _ => .no
  | n + 1, ρ, w => (c ρ w).bind fun k w1 => if k = true then (b ρ w1).bind fun r w2 => match r.2 with
      | .nx => whl c b n r.1 w2
      | .ct => whl c b n r.1 w2
      | .bk => .ok (r.1, .nx) w2
      | .ret t => .ok (r.1, .ret t) w2
    else .ok (ρ, .nx) w1
def mWhile (n : Nat) (c : MT) (b : MS) : MS := whl c b n
theorem ds_while (n : Nat) {mc : MT} {body : List Stmt} (hp : PassesOwn (model X.prog X.w) X.A X.env X.xe) (hc : PT X c (rdT X.K mc)) (hb : PSs X body (rdS X.K m1)) : PS X (.While c body [] pos) (rdS X.K (mWhile n mc m1)) := PS_imp (ps_while hp hc hb) fun D σ H => by
  rintro ⟨hd, φ, ρ, w, sr, wr, p⟩
  refine ⟨fun m σ H => ∃ φ ρ w, SR X.K hd φ H σ ρ ∧ WR X.K hd φ H w ∧ Pst X.K hd (CS X.K hd D) φ H (whl mc m1 m ρ w), ⟨n, φ, ρ, w, sr, wr, p⟩, fun m σ H => ?_⟩
  rintro ⟨φ, ρ, w, sr, wr, p⟩
  cases m with
  | zero => exact p.elim
  | succ m =>
    refine ⟨hd, φ, ρ, w, sr, wr, Pst.then isPst p fun k w1 φ1 H1 e1 wr1 p1 => ?_⟩
    cases k with
    | false => show (if false = true then _ else _); rw [if_neg Bool.false_ne_true] at p1 ⊢; exact p1.ok wr1 σ (sr.mono e1)
    | true =>
      show (if true = true then _ else _)
      rw [if_pos rfl] at p1 ⊢
      refine ⟨fun σ' H' => ∃ φ ρ w, SR X.K hd φ H' σ' ρ ∧ WR X.K hd φ H' w ∧ Pst X.K hd (CS X.K hd D) φ H' (whl mc m1 m ρ w), fun σ' H' h => ⟨m, Nat.lt_succ_self m, h⟩, hd, φ1, ρ, w1, sr.mono e1, wr1, Pst.then isPst p1 fun r w2 φ2 H2 e2 wr2 p2 => ?_⟩
      obtain ⟨ρ2, fl⟩ := r
      cases fl with
      | nx => exact fun σ2 sr2 => ⟨φ2, ρ2, w2, sr2, wr2, p2⟩
      | ct => exact fun σ2 sr2 => ⟨φ2, ρ2, w2, sr2, wr2, p2⟩
      | bk => exact p2.ok wr2
      | ret t => exact p2.ok wr2
end
end VS

set_option Elab.async false
set_option linter.all false
set_option maxRecDepth 100000
set_option maxHeartbeats 2000000
namespace VS
open PySem PySem.Spec PyProof.Rows L2

/-- as Ext, but the list at D (a comprehension's, held apart) may have grown -/
structure ExtD (D : Option Addr) (hd φ : List Addr) (H : Hp) (hd' φ' : List Addr) (H' : Hp) : Prop where
  pre : ∃ more, φ' = φ ++ more ∧ ∀ p ∈ more, H p = none
  held : ∀ a ∈ hd', a ∈ hd ∨ H a = none
  keep : ∀ b o, H b = some o → b ∉ φ → D ≠ some b → H' b = some o
  there : ∀ b o, H b = some o → ∃ o', H' b = some o'
section
variable {K : PySem.W.Frag} {D : Option Addr} {hd hd' φ φ' : List Addr} {H H' : Hp} {t : T} {v : V} {ts : List T} {xs : List V} {w : World} {d : Addr}
theorem Ext.toD (e : Ext hd φ H hd' φ' H') : ExtD D hd φ H hd' φ' H' := ⟨e.pre, e.held, fun b o h n _ => e.keep b o h n, e.there⟩
theorem ExtD.nin (e : ExtD D hd φ H hd' φ' H') {b : Addr} {o : HO} (h : H b = some o) (hn : b ∉ φ) : b ∉ φ' := by
  obtain ⟨m, rfl, n⟩ := e.pre
  rw [List.mem_append]
  rintro (z | z)
  · exact hn z
  · rw [n b z] at h; cases h
theorem ExtD.fresh (e : ExtD D hd φ H hd' φ' H') {p : Addr} (h : H' p = none) : H p = none := by
  cases q : H p with
  | none => rfl
  | some o =>
    obtain ⟨o', h'⟩ := e.there p o q
    rw [h] at h'; cases h'
theorem ExtD.trans {hd1 hd2 φ1 φ2 : List Addr} {H1 H2 : Hp} (a : ExtD D hd φ H hd1 φ1 H1) (b : ExtD D hd1 φ1 H1 hd2 φ2 H2) : ExtD D hd φ H hd2 φ2 H2 := by
  refine ⟨?_, fun c hc => ?_, fun c o hc hn hD => b.keep c o (a.keep c o hc hn hD) (a.nin hc hn) hD, fun c o hc => ?_⟩
  · obtain ⟨m1, e1, n1⟩ := a.pre
    obtain ⟨m2, e2, n2⟩ := b.pre
    refine ⟨m1 ++ m2, by rw [e2, e1, List.append_assoc], fun p hp => ?_⟩
    rcases List.mem_append.mp hp with z | z
    · exact n1 p z
    · exact a.fresh (n2 p z)
  · rcases b.held c hc with z | z
    · exact a.held c z
    · exact .inr (a.fresh z)
  · obtain ⟨o', h'⟩ := a.there c o hc
    exact b.there c o' h'
theorem ExtD.grow (hD : d ∈ hd) {o : HO} : ExtD (some d) hd φ H hd φ (upd H d o) :=
  ⟨⟨[], by simp, fun _ h => by simp at h⟩, fun _ h => .inl h, fun b u hb _ hn => by rw [upd_ne (fun (e : b = d) => hn (by rw [e]))]; exact hb, fun b u hb => by
    by_cases e : b = d
    · subst e; exact ⟨o, upd_same⟩
    · exact ⟨u, by rw [upd_ne e]; exact hb⟩⟩
/-- seen from ahead of D -/
theorem ExtD.plain (e : ExtD (some d) hd φ H hd' φ' H') (h : H d = none) : Ext hd φ H hd' φ' H' :=
  ⟨e.pre, e.held, fun b o hb hn => e.keep b o hb hn (by rintro ⟨⟩; rw [h] at hb; cases hb), e.there⟩
def Off (D : Option Addr) (hd : List Addr) (H : Hp) : Prop := ∀ d, D = some d → d ∈ hd ∨ H d = none
theorem off_none : Off none hd H := fun _ h => nomatch h
theorem Off.ne (hD : Off D hd H) {a : Addr} {o : HO} (h : H a = some o) (n : a ∉ hd) : D ≠ some a := fun e => by
  rcases hD a e with z | z
  · exact n z
  · rw [h] at z; cases z
theorem ExtD.nhd (e : ExtD D hd φ H hd' φ' H') {b : Addr} {o : HO} (h : H b = some o) (hn : b ∉ hd) : b ∉ hd' := fun z => by
  rcases e.held b z with z | z
  · exact hn z
  · rw [z] at h; cases h
theorem NdT.monoD {a : Addr} (e : ExtD D hd φ H hd' φ' H') (hD : Off D hd H) (h : NdT hd φ H a xs) : NdT hd' φ' H' a xs := ⟨e.keep _ _ h.1 h.2.1 (hD.ne h.1 h.2.2), e.nin h.1 h.2.1, e.nhd h.1 h.2.2⟩
theorem NdL.monoD {a : Addr} (e : ExtD D hd φ H hd' φ' H') (hD : Off D hd H) (h : NdL hd φ H a xs) : NdL hd' φ' H' a xs := ⟨e.keep _ _ h.1 h.2.1 (hD.ne h.1 h.2.2), e.nin h.1 h.2.1, e.nhd h.1 h.2.2⟩
theorem NdF.monoD {a : Addr} (e : ExtD D hd φ H hd' φ' H') (hD : Off D hd H) (h : NdF K hd φ H a xs) : NdF K hd' φ' H' a xs := by
  rcases h with ⟨o, h, z, h2, h3⟩ | h
  · exact .inl ⟨o, e.keep _ _ h h2 (hD.ne h h3), z, e.nin h h2, e.nhd h h3⟩
  · exact .inr h
mutual
theorem Rep.monoD (e : ExtD D hd φ H hd' φ' H') (hD : Off D hd H) : ∀ {t : T} {v : V}, Rep K hd φ H t v → Rep K hd' φ' H' t v
  | .non, _, h => h
  | .bl _, _, h => h
  | .int _, _, h => h
  | .str _, _, h => h
  | .ty _, _, h => h
  | .tup ts, v, h => by
    unfold Rep at h ⊢
    obtain ⟨a, xs, e1, n, r⟩ := h
    exact ⟨a, xs, e1, n.monoD e hD, Reps.monoD e hD r⟩
  | .lst ts, v, h => by
    unfold Rep at h ⊢
    obtain ⟨a, xs, e1, n, r⟩ := h
    exact ⟨a, xs, e1, n.monoD e hD, Reps.monoD e hD r⟩
  | .frz ts, v, h => by
    unfold Rep at h ⊢
    obtain ⟨a, xs, e1, n, r⟩ := h
    exact ⟨a, xs, e1, n.monoD e hD, Reps.monoD e hD r⟩
  | .rng n, v, h => by
    unfold Rep at h ⊢
    obtain ⟨a, e1, h1, h2, h3⟩ := h
    exact ⟨a, e1, e.keep _ _ h1 h2 (hD.ne h1 h3), e.nin h1 h2, e.nhd h1 h3⟩
  | .cell k, v, h => by
    unfold Rep at h ⊢
    obtain ⟨a, e1, hk⟩ := h
    obtain ⟨m, rfl, _⟩ := e.pre
    exact ⟨a, e1, by rw [List.getElem?_append_left (List.getElem?_eq_some_iff.mp hk).1]; exact hk⟩
theorem Reps.monoD (e : ExtD D hd φ H hd' φ' H') (hD : Off D hd H) : ∀ {ts : List T} {xs : List V}, Reps K hd φ H ts xs → Reps K hd' φ' H' ts xs
  | [], _, h => by unfold Reps at h ⊢; exact h
  | t :: ts, _, h => by
    unfold Reps at h ⊢
    obtain ⟨x, r, e1, a, b⟩ := h
    exact ⟨x, r, e1, Rep.monoD e hD a, Reps.monoD e hD b⟩
end
theorem CellR.monoD {c : Cell} {a : Addr} (e : ExtD D hd φ H hd' φ' H') (hD : Off D hd H) (ha : H' a = H a) (h : CellR K hd φ H c a) : CellR K hd' φ' H' c a := by
  cases c with
  | lst ts => obtain ⟨xs, h1, h2⟩ := h; exact ⟨xs, ha.trans h1, h2.monoD e hD⟩
  | dic kvs => obtain ⟨ys, h1, h2, h3⟩ := h; exact ⟨ys, ha.trans h1, h2, h3.monoD e hD⟩
  | dit kvs => obtain ⟨ys, h1, h2, h3⟩ := h; exact ⟨ys, ha.trans h1, h2, h3.monoD e hD⟩
theorem SR.monoD {σ : L2.St} {ρ : Env} (h : SR K hd φ H σ ρ) (e : ExtD D hd φ H hd' φ' H') (hD : Off D hd H) : SR K hd' φ' H' σ ρ := ⟨h.len, fun i t ht => by
  obtain ⟨v, h1, h2⟩ := h.get i t ht
  exact ⟨v, h1, h2.monoD e hD⟩⟩
theorem WR.grow (h : WR K hd φ H w) (hD : d ∈ hd) {o : HO} : WR K hd φ (upd H d o) w := by
  have e : ExtD (some d) hd φ H hd φ (upd H d o) := ExtD.grow hD
  have off : Off (some d) hd H := fun d' hd' => by cases hd'; exact .inl hD
  refine ⟨h.len, h.nd, h.apart, fun a ha => ?_, fun k c a h1 h2 => (h.cells k c a h1 h2).monoD e off ?_⟩
  · obtain ⟨u, q⟩ := h.there a ha
    exact e.there a u q
  · rw [upd_ne]
    rintro rfl
    exact h.apart _ (List.mem_of_getElem? h2) hD
end

/-! ### what is walked -/
/-- a cell that is walked stays as it is -/
def Kept (oc : Option Nat) (ts : List T) (w : World) : Prop := ∀ k, oc = some k → w[k]? = some (.lst ts)
theorem kept_none {ts : List T} {w : World} : Kept none ts w := fun _ h => nomatch h
theorem kept_some {k : Nat} {ts : List T} {w : World} (h : w[k]? = some (.lst ts)) : Kept (some k) ts w := fun j e => by cases e; exact h
def Src (K : PySem.W.Frag) (hd₀ φ₀ : List Addr) (H₀ : Hp) (J : It) (ts : List T) (oc : Option Nat) : Prop :=
  ∀ (D : Option Addr) i hd φ H w, Off D hd₀ H₀ → ExtD D hd₀ φ₀ H₀ hd φ H → WR K hd φ H w → Kept oc ts w →
    (∀ t, ts[i]? = some t → J.go i H ∧ ∀ x H', J.yld i H x H' → Ext hd φ H hd φ H' ∧ WR K hd φ H' w ∧ Rep K hd φ H' t x) ∧ (ts.length ≤ i → J.stop i H)
abbrev MI := Env → World → R (List T × Option Nat)
abbrev CI (K : PySem.W.Frag) (hd : List Addr) (Q : It → Hp → Prop) : List T × Option Nat → List Addr → Hp → Prop := fun r φ' H' => ∀ J, Src K hd φ' H' J r.1 r.2 → Q J H'
def rdI (K : PySem.W.Frag) (m : MI) : TI := fun σ H Q => ∃ hd φ ρ w, SR K hd φ H σ ρ ∧ WR K hd φ H w ∧ Pst K hd (CI K hd Q) φ H (m ρ w)
section
variable {X : Cx} {e a b c : Expr} {pos : Pos} {tg : Expr} {K : PySem.W.Frag}
theorem PI_imp {t t' : TI} (h : PI X tg e t) (i : ∀ σ H Q, t' σ H Q → t σ H Q) : PI X tg e t' := ⟨fun pins s σ H Q I q => h.run pins s σ H Q I (i σ H Q q)⟩
theorem PI_or {t t' : TI} (h : PI X tg e t) (h' : PI X tg e t') : PI X tg e (fun σ H Q => t σ H Q ∨ t' σ H Q) := ⟨fun pins s σ H Q I q => q.elim (h.run pins s σ H Q I) (h'.run pins s σ H Q I)⟩
/-- the items of a sequence, and its cell -/
def items (w : World) : T → Option (List T × Option Nat)
  | .tup ts => some (ts, none)
  | .lst ts => some (ts, none)
  | .frz ts => some (ts, none)
  | .cell k => match w[k]? with
    | some (.lst ts) => some (ts, some k)
    | _ => none
  | _ => none
def sItems : T → World → R (List T × Option Nat) := fun t w => match items w t with
  | some r => .ok r w
  | none => .no
def mItems (m : ME) : MI := fun ρ w => (m ρ w).bind sItems
theorem src_list {hd₀ φ₀ : List Addr} {H₀ : Hp} {a : Addr} {ts : List T} {oc : Option Nat}
    (h : ∀ (D : Option Addr) hd φ H w, Off D hd₀ H₀ → ExtD D hd₀ φ₀ H₀ hd φ H → WR K hd φ H w → Kept oc ts w → ∃ xs, SqL K H a xs ∧ Reps K hd φ H ts xs)
 : Src K hd₀ φ₀ H₀ (Itl K a) ts oc := fun D i hd φ H w off e wr kp => by
  obtain ⟨xs, h1, h2⟩ := h D hd φ H w off e wr kp
  refine ⟨fun t ht => ?_, fun hl => ⟨xs, h1, by rw [← h2.len]; exact hl⟩⟩
  obtain ⟨x, hx, rx⟩ := h2.at ht
  refine ⟨⟨xs, x, h1, hx⟩, fun y H' hy => ?_⟩
  obtain ⟨rfl, hy⟩ := hy
  have := (hy xs h1).symm.trans hx
  cases this
  exact ⟨Ext.refl, wr, rx⟩
theorem src_tup {hd₀ φ₀ : List Addr} {H₀ : Hp} {a : Addr} {ts : List T} {oc : Option Nat}
    (h : ∀ (D : Option Addr) hd φ H w, Off D hd₀ H₀ → ExtD D hd₀ φ₀ H₀ hd φ H → WR K hd φ H w → Kept oc ts w → ∃ xs, SqT K H a xs ∧ Reps K hd φ H ts xs) : Src K hd₀ φ₀ H₀ (Itt K a) ts oc := fun D i hd φ H w off e wr kp => by
  obtain ⟨xs, h1, h2⟩ := h D hd φ H w off e wr kp
  refine ⟨fun t ht => ?_, fun hl => ⟨xs, h1, by rw [← h2.len]; exact hl⟩⟩
  obtain ⟨x, hx, rx⟩ := h2.at ht
  refine ⟨⟨xs, x, h1, hx⟩, fun y H' hy => ?_⟩
  obtain ⟨rfl, hy⟩ := hy
  have := (hy xs h1).symm.trans hx
  cases this
  exact ⟨Ext.refl, wr, rx⟩
/-- at later heaps -/
theorem lst_later {hd₀ φ₀ : List Addr} {H₀ : Hp} {t : T} {v : V} {ts : List T} {oc : Option Nat} {w₀ : World} (r : Rep K hd₀ φ₀ H₀ t v) (hs : items w₀ t = some (ts, oc)) (nt : ∀ us, t ≠ .tup us) :
    ∃ a, v = .ref a ∧ Kept oc ts w₀ ∧ ∀ (D : Option Addr) hd φ H w, Off D hd₀ H₀ → ExtD D hd₀ φ₀ H₀ hd φ H → WR K hd φ H w → Kept oc ts w → ∃ xs, SqL K H a xs ∧ Reps K hd φ H ts xs := by
  cases t with
  | tup us => exact absurd rfl (nt us)
  | lst us =>
    cases hs
    unfold Rep at r
    obtain ⟨a, xs, e1, n, rs⟩ := r
    exact ⟨a, e1, kept_none, fun D hd φ H w off e wr kp => ⟨xs, SqL.of (n.monoD e off).1, rs.monoD e off⟩⟩
  | frz us =>
    cases hs
    unfold Rep at r
    obtain ⟨a, xs, e1, n, rs⟩ := r
    refine ⟨a, e1, kept_none, fun D hd φ H w off e wr kp => ⟨xs, ?_, rs.monoD e off⟩⟩
    rcases n.monoD e off with ⟨o, n, rfl | ⟨u, rfl⟩, _⟩ | n
    · exact SqL.of n
    · exact .inl (.inr ⟨u, n⟩)
    · rcases n with (n | ⟨_, n⟩) | n
      · cases n
      · cases n
      · exact .inr n
  | cell k =>
    unfold items at hs
    simp only at hs
    split at hs
    · rename_i us hk
      cases hs
      unfold Rep at r
      obtain ⟨a, e1, ha⟩ := r
      refine ⟨a, e1, kept_some hk, fun D hd φ H w off e wr kp => ?_⟩
      obtain ⟨m, e2, _⟩ := e.pre
      obtain ⟨xs, h1, h2⟩ := wr.cells k _ a (kp k rfl) (by rw [e2, List.getElem?_append_left (List.getElem?_eq_some_iff.mp ha).1]; exact ha)
      exact ⟨xs, SqL.of h1, h2⟩
    · cases hs
  | _ => cases hs
theorem di_seq {m : ME} (h : PE X e (rdE X.K m)) : PI X tg e (rdI X.K (mItems m)) := PI_imp (PI_or (pi_list h) (pi_tup h)) fun σ H Q => by
  rintro ⟨hd, φ, ρ, w, sr, wr, p⟩
  unfold mItems at p
  cases q : m ρ w with
  | no => rw [q] at p; exact p.elim
  | ok t w1 =>
    rw [q, bind_ok] at p
    unfold sItems at p
    cases q2 : items w1 t with
    | none => rw [q2] at p; exact p.elim
    | some r =>
      rw [q2] at p
      obtain ⟨ts, oc⟩ := r
      have two : (∀ us, t ≠ .tup us) ∨ ∃ us, t = .tup us := by
        cases t with
        | tup us => exact .inr ⟨us, rfl⟩
        | _ => exact .inl fun _ e => nomatch e
      rcases two with nt | ⟨us, rfl⟩
      · refine .inl ⟨hd, φ, ρ, w, sr, wr, ?_⟩
        rw [q]
        intro H' φ' e1 wr1 v rv
        obtain ⟨a, rfl, kp, h1⟩ := lst_later rv q2 nt
        obtain ⟨xs, h2, h3⟩ := h1 none hd φ' H' w1 off_none Ext.refl.toD wr1 kp
        exact ⟨a, rfl, ⟨xs, h2⟩, p H' φ' e1 wr1 _ (src_list h1)⟩
      · refine .inr ⟨hd, φ, ρ, w, sr, wr, ?_⟩
        rw [q]
        intro H' φ' e1 wr1 v rv
        cases q2
        unfold Rep at rv
        obtain ⟨a, xs, rfl, n, rs⟩ := rv
        exact ⟨a, rfl, ⟨xs, SqT.of n.1⟩, p H' φ' e1 wr1 _ (src_tup fun D hd φ H w off e wr kp => ⟨xs, SqT.of (n.monoD e off).1, rs.monoD e off⟩)⟩
/-- range -/
def rgT (lo : Int) (n : Nat) : List T := (List.range n).map fun i => .int (lo + (i : Nat))
theorem rgT_length {lo : Int} {n : Nat} : (rgT lo n).length = n := by unfold rgT; simp
theorem rgT_at {lo : Int} {n i : Nat} {t : T} (h : (rgT lo n)[i]? = some t) : t = .int (lo + i) ∧ i < n := by
  unfold rgT at h
  rw [List.getElem?_map] at h
  cases q : (List.range n)[i]? with
  | none => rw [q] at h; cases h
  | some j =>
    rw [q] at h
    obtain ⟨h1, h2⟩ := List.getElem?_eq_some_iff.mp q
    rw [List.getElem_range] at h2
    subst h2
    exact ⟨(Option.some.inj h).symm, by simpa using h1⟩
theorem src_range {hd₀ φ₀ : List Addr} {H₀ : Hp} {lo : Int} {n : Nat} : Src K hd₀ φ₀ H₀ (Itr lo n) (rgT lo n) none := fun D i hd φ H w off e wr kp => by
  refine ⟨fun t ht => ?_, fun hl => by rw [rgT_length] at hl; exact hl⟩
  obtain ⟨rfl, hi⟩ := rgT_at ht
  refine ⟨hi, fun y H' hy => ?_⟩
  obtain ⟨rfl, rfl⟩ := hy
  exact ⟨Ext.refl, wr, by unfold Rep; rfl⟩
def RgOk (i j : Int) : Prop := -(2 ^ 62) ≤ i ∧ i < 2 ^ 62 ∧ -(2 ^ 62) ≤ j ∧ j < 2 ^ 62
instance {i j : Int} : Decidable (RgOk i j) := by unfold RgOk; infer_instance
def sRange1 : List T → World → R (List T × Option Nat) := fun ts w => match ts with
  | [.int j] => if RgOk 0 j then .ok (rgT 0 j.toNat, none) w else .no
  | _ => .no
def sRange2 : List T → World → R (List T × Option Nat) := fun ts w => match ts with
  | [.int i, .int j] => if RgOk i j then .ok (rgT i (j - i).toNat, none) w else .no
  | _ => .no
def mRange1 (m : MF) : MI := fun ρ w => (m ρ w).bind sRange1
def mRange2 (m : MF) : MI := fun ρ w => (m ρ w).bind sRange2
theorem rep_int {hd φ : List Addr} {H : Hp} {i : Int} {v : V} (h : Rep K hd φ H (.int i) v) : v = .int i := by unfold Rep at h; exact h
theorem reps1 {hd φ : List Addr} {H : Hp} {t : T} {vs : List V} (h : Reps K hd φ H [t] vs) : ∃ v, vs = [v] ∧ Rep K hd φ H t v := by
  unfold Reps at h
  obtain ⟨v, r, rfl, h1, h2⟩ := h
  unfold Reps at h2
  subst h2
  exact ⟨v, rfl, h1⟩
theorem reps2 {hd φ : List Addr} {H : Hp} {t u : T} {vs : List V} (h : Reps K hd φ H [t, u] vs) : ∃ v x, vs = [v, x] ∧ Rep K hd φ H t v ∧ Rep K hd φ H u x := by
  unfold Reps at h
  obtain ⟨v, r, rfl, h1, h2⟩ := h
  obtain ⟨x, rfl, h3⟩ := reps1 h2
  exact ⟨v, x, rfl, h1, h3⟩
theorem di_range1 {p : Pos} {m : MF} (hm : X.mg "range" = none) (ha : PA X [a] (rdA X.K m)) (hg : Gl X "range" := by rfl) (hs : starEach [a] X.env = [(false, eval a X.env)] := by rfl) : PI X tg (.Call (.Name "range" p) [a] [] pos) (rdI X.K (mRange1 m)) := PI_imp (pi_range1 hg hm ha hs) fun σ H Q => by
  rintro ⟨hd, φ, ρ, w, sr, wr, p⟩
  refine ⟨hd, φ, ρ, w, sr, wr, ?_⟩
  unfold mRange1 at p
  cases q : m ρ w with
  | no => rw [q] at p; exact p.elim
  | ok ts w1 =>
    rw [q, bind_ok] at p
    intro H' φ' e1 wr1 vs rvs
    unfold sRange1 at p
    match ts, p with
    | [.int j], p =>
      obtain ⟨v, rfl, r1⟩ := reps1 rvs
      cases rep_int r1
      simp only at p
      split at p
      · rename_i ok
        exact ⟨j, rfl, ok.2.2.1, ok.2.2.2, p H' φ' e1 wr1 _ src_range⟩
      · exact p.elim
theorem di_range2 {p : Pos} {m : MF} (hm : X.mg "range" = none) (ha : PA X [a, b] (rdA X.K m)) (hg : Gl X "range" := by rfl) (hs : starEach [a, b] X.env = [(false, eval a X.env), (false, eval b X.env)] := by rfl) (hs2 : starEach [b] X.env = [(false, eval b X.env)] := by rfl) : PI X tg (.Call (.Name "range" p) [a, b] [] pos) (rdI X.K (mRange2 m)) := PI_imp (pi_range2 hg hm ha hs hs2) fun σ H Q => by
  rintro ⟨hd, φ, ρ, w, sr, wr, p⟩
  refine ⟨hd, φ, ρ, w, sr, wr, ?_⟩
  unfold mRange2 at p
  cases q : m ρ w with
  | no => rw [q] at p; exact p.elim
  | ok ts w1 =>
    rw [q, bind_ok] at p
    intro H' φ' e1 wr1 vs rvs
    unfold sRange2 at p
    match ts, p with
    | [.int i, .int j], p =>
      obtain ⟨v, x, rfl, r1, r2⟩ := reps2 rvs
      cases rep_int r1
      cases rep_int r2
      simp only at p
      split at p
      · rename_i ok
        exact ⟨i, j, rfl, ok, p H' φ' e1 wr1 _ src_range⟩
      · exact p.elim

/-! ### for -/
open Classical in
noncomputable def forL (g : MG) (b : MS) (oc : Option Nat) (all : List T) : List T → Env → World → R (Env × Fl)
  | [], ρ, w => if Kept oc all w then .ok (ρ, .nx) w else .no
  | t :: ts, ρ, w => if Kept oc all w then (g t ρ w).bind fun ρ1 w1 => (b ρ1 w1).bind fun r w2 => match r.2 with
      | .nx => forL g b oc all ts r.1 w2
      | .ct => forL g b oc all ts r.1 w2
      | .bk => .ok (r.1, .nx) w2
      | .ret t => .ok (r.1, .ret t) w2
    else .no
noncomputable def mFor (it : MI) (g : MG) (b : MS) : MS := fun ρ w => (it ρ w).bind fun r w1 => forL g b r.2 r.1 r.1 ρ w1
variable {m1 : MS}
theorem ds_for {it : MI} {g : MG} {S : List Nat} {body : List Stmt} (hp : PassesOwn (model X.prog X.w) X.A X.env X.xe) (hc : X.calm = true) (hi : PI X tg e (rdI X.K it)) (hg : PG X tg (rdG X.K g S)) (hb : PSs X body (rdS X.K m1)) (hs : ∀ x, foldedSetIterable e X.env x = pure x := by intro _; rfl) :
    PS X (.For tg e body [] pos) (rdS X.K (mFor it g m1)) := PS_imp (ps_for hp hc hi hg hb hs) fun Ds σ H => by
  rintro ⟨hd, φ, ρ, w, sr, wr, p⟩
  refine ⟨hd, φ, ρ, w, sr, wr, Pst.then isPst p fun r w1 φ1 H1 e1 wr1 p1 J src => ?_⟩
  obtain ⟨all, oc⟩ := r
  simp only at p1 src
  refine ⟨fun i m σ H => m + i = all.length ∧ ∃ φ ρ w, Ext hd φ1 H1 hd φ H ∧ SR X.K hd φ H σ ρ ∧ WR X.K hd φ H w ∧ Pst X.K hd (CS X.K hd Ds) φ H (forL g m1 oc all (all.drop i) ρ w), ⟨all.length, by omega, φ1, ρ, w1, Ext.refl, sr.mono e1, wr1, by rw [List.drop_zero]; exact p1⟩, fun i m σ H => ?_⟩
  rintro ⟨hm, φ, ρ, w, ee, sr, wr, p⟩
  by_cases hi : i < all.length
  · have hdr : all.drop i = all[i] :: all.drop (i + 1) := List.drop_eq_getElem_cons hi
    rw [hdr] at p
    unfold forL at p
    split at p
    · rename_i kp
      obtain ⟨s1, _⟩ := src none i hd φ H w off_none ee.toD wr kp
      obtain ⟨go, yl⟩ := s1 all[i] (by simp [hi])
      refine .inr ⟨go, fun σ' H' => ∃ φ ρ w, Ext hd φ1 H1 hd φ H' ∧ SR X.K hd φ H' σ' ρ ∧ WR X.K hd φ H' w ∧ Pst X.K hd (CS X.K hd Ds) φ H' (forL g m1 oc all (all.drop (i + 1)) ρ w), fun σ' H' h => ⟨m - 1, by omega, by omega, h⟩, fun x H' hy => ?_⟩
      obtain ⟨e2, wr2, rx⟩ := yl x H' hy
      refine ⟨hd, φ, ρ, w, all[i], sr.mono e2, wr2, rx, Pst.then isPst (isPst.mono _ _ _ _ _ e2 p) fun ρ1 w3 φ3 H3 e3 wr3 p3 σ3 sr3 _ => ?_⟩
      refine ⟨hd, φ3, ρ1, w3, sr3, wr3, Pst.then isPst p3 fun r w4 φ4 H4 e4 wr4 p4 => ?_⟩
      have e5 := ((ee.trans e2).trans e3).trans e4
      obtain ⟨ρ4, fl⟩ := r
      cases fl with
      | nx => exact fun σ4 sr4 => ⟨φ4, ρ4, w4, e5, sr4, wr4, p4⟩
      | ct => exact fun σ4 sr4 => ⟨φ4, ρ4, w4, e5, sr4, wr4, p4⟩
      | bk => exact p4.ok wr4
      | ret t => exact p4.ok wr4
    · exact p.elim
  · have hdr : all.drop i = [] := List.drop_eq_nil_of_le (by omega)
    rw [hdr] at p
    unfold forL at p
    split at p
    · rename_i kp
      obtain ⟨_, s2⟩ := src none i hd φ H w off_none ee.toD wr kp
      exact .inl ⟨s2 (by omega), p.ok wr σ sr⟩
    · exact p.elim
end
end VS

set_option Elab.async false
set_option linter.all false
set_option maxRecDepth 100000
set_option maxHeartbeats 2000000
namespace VS
open PySem PySem.Spec PyProof.Rows L2

/-! ### list comprehensions -/
def wipeE (ρ : Env) : List Nat → Env
  | [] => ρ
  | v :: vs => (wipeE ρ vs).set v none
section
variable {K : PySem.W.Frag} {hd φ : List Addr} {H : Hp} {σ : L2.St} {ρ : Env} {w : World}
theorem SR.unset (h : SR K hd φ H σ ρ) (i : Nat) : SR K hd φ H (σ.set i none) (ρ.set i none) := ⟨by simp [h.len], fun j u hu => by
  rw [List.getElem?_set] at hu
  split at hu
  · split at hu <;> simp at hu
  · rename_i e
    obtain ⟨x, h1, h2⟩ := h.get j u hu
    exact ⟨x, by rw [List.getElem?_set_ne e]; exact h1, h2⟩⟩
theorem SR.wipe (h : SR K hd φ H σ ρ) : ∀ vs : List Nat, SR K hd φ H (wipe σ vs) (wipeE ρ vs)
  | [] => h
  | v :: vs => by unfold L2.wipe wipeE; exact (SR.wipe h vs).unset v
end
open Classical in
noncomputable def compL (g : MG) (c : MT) (e : ME) (oc : Option Nat) (all : List T) (ρ0 : Env) : List T → List T → World → R (List T)
  | [], out, w => if Kept oc all w then .ok out w else .no
  | t :: ts, out, w => if Kept oc all w then (g t ρ0 w).bind fun ρ1 w1 => (c ρ1 w1).bind fun k w2 => if k = true then (e ρ1 w2).bind fun y w3 => if out.length < sizeLine then compL g c e oc all ρ0 ts (out ++ [y]) w3 else .no
      else compL g c e oc all ρ0 ts out w2
    else .no
/-- behind a loop that fills the list at d -/
def PstD (K : PySem.W.Frag) (hd : List Addr) (d : Addr) (C : Hp → World → List T → List Addr → Prop) (φ : List Addr) (H : Hp) : R (List T) → Prop
  | .ok out w' => ∀ H' φ' acc, ExtD (some d) hd φ H hd φ' H' → WR K hd φ' H' w' → H' d = some (.lst acc) → Reps K hd φ' H' out acc → C H' w' out φ'
  | .no => False
section
variable {X : Cx} {e iter : Expr} {tg : Expr} {K : PySem.W.Frag}
theorem PstD.mono {hd : List Addr} {d : Addr} {C : Hp → World → List T → List Addr → Prop} {φ φ1 : List Addr} {H H1 : Hp} {r : R (List T)} (e : ExtD (some d) hd φ H hd φ1 H1) (p : PstD K hd d C φ H r) : PstD K hd d C φ1 H1 r := by
  cases r with
  | no => exact p
  | ok out w => intro H' φ' acc e' wr hx rs; exact p H' φ' acc (e.trans e') wr hx rs
theorem isPstD {hd : List Addr} {d : Addr} {C : Hp → World → List T → List Addr → Prop} : IsPst hd (PstD K hd d C) where
  mono := fun φ H φ1 H1 r e p => p.mono e.toD
  no := fun _ _ h => h
theorem wipe_wipe {σ : L2.St} (vs : List Nat) : wipe (wipe σ vs) vs = wipe σ vs := by
  apply List.ext_getElem?
  intro j
  rw [wipe_get, wipe_get, wipe_length]
  split <;> rfl
theorem comp_loop {hd₀ φ₀ hd φ1 : List Addr} {H₀ H1 : Hp} {d : Addr} {J : It} {all : List T} {oc : Option Nat} {g : MG} {S vs : List Nat} {mc : MT} {me : ME} {σ0 : L2.St} {ρ0 : Env} {w1 : World} {out : List T} {acc : List V} {Qd : Hp → Prop}
    (src : Src K hd₀ φ₀ H₀ J all oc) (off : Off (some d) hd₀ H₀) (e0 : ExtD (some d) hd₀ φ₀ H₀ hd φ1 H1) (hdm : d ∈ hd) (sr : SR K hd φ1 H1 σ0 ρ0) (wr : WR K hd φ1 H1 w1) (hx : H1 d = some (.lst acc)) (rs : Reps K hd φ1 H1 out acc)
    (hS : ∀ i ∈ S, i ∈ vs) {σw : L2.St} (hw : wipe σ0 vs = σw) (p : PstD K hd d (fun H' _ _ _ => Qd H') φ1 H1 (compL g mc me oc all ρ0 all out w1)) :
    ∃ W : Nat → Nat → Hp → Prop, (∃ m, W 0 m H1) ∧ ∀ i m H, W i m H →
      (J.stop i H ∧ Qd H) ∨ (J.go i H ∧ ∃ Nx : Hp → Prop, (∀ H', Nx H' → ∃ m', m' < m ∧ W (i + 1) m' H') ∧ ∀ x H', J.yld i H x H' → rdG K g S x σ0 H' fun σ2 H2 => wipe σ2 vs = σw ∧ rdT K mc σ2 H2 fun b H3 =>
        if b = true then rdE K me σ2 H3 fun y H4 => ∃ acc, H4 d = some (.lst acc) ∧ acc.length < sizeLine ∧ Nx (upd H4 d (.lst (acc ++ [y]))) else Nx H3) := by
  have offd : ∀ H', Off (some d) hd H' := fun H' d' h => by cases h; exact .inl hdm
  refine ⟨fun i m H => m + i = all.length ∧ ∃ φ w out acc, ExtD (some d) hd φ1 H1 hd φ H ∧ WR K hd φ H w ∧ H d = some (.lst acc) ∧ Reps K hd φ H out acc ∧ PstD K hd d (fun H' _ _ _ => Qd H') φ H (compL g mc me oc all ρ0 (all.drop i) out w),
    ⟨all.length, by omega, φ1, w1, out, acc, Ext.refl.toD, wr, hx, rs, by rw [List.drop_zero]; exact p⟩, fun i m H => ?_⟩
  rintro ⟨hm, φ, w, out, acc, ee, wr, hx, rs, p⟩
  by_cases hi : i < all.length
  · have hdr : all.drop i = all[i] :: all.drop (i + 1) := List.drop_eq_getElem_cons hi
    rw [hdr] at p
    unfold compL at p
    split at p
    · rename_i kp
      obtain ⟨s1, _⟩ := src (some d) i hd φ H w off (e0.trans ee) wr kp
      obtain ⟨go, yl⟩ := s1 all[i] (by simp [hi])
      refine .inr ⟨go, fun H' => ∃ φ w out acc, ExtD (some d) hd φ1 H1 hd φ H' ∧ WR K hd φ H' w ∧ H' d = some (.lst acc) ∧ Reps K hd φ H' out acc ∧ PstD K hd d (fun H' _ _ _ => Qd H') φ H' (compL g mc me oc all ρ0 (all.drop (i + 1)) out w), fun H' h => ⟨m - 1, by omega, by omega, h⟩, fun x H' hy => ?_⟩
      obtain ⟨e2, wr2, rx⟩ := yl x H' hy
      have dn : ∀ {φ' : List Addr} {H' : Hp} {w' : World}, WR K hd φ' H' w' → d ∉ φ' := fun wr z => wr.apart d z hdm
      have hx2 := e2.keep d _ hx (dn wr)
      refine ⟨hd, φ, ρ0, w, all[i], sr.monoD (ee.trans e2.toD) (offd H1), wr2, rx, Pst.then isPstD (p.mono e2.toD) fun ρ1 w3 φ3 H3 e3 wr3 p3 σ3 sr3 hw3 => ⟨(hw3 vs hS).trans hw, ?_⟩⟩
      have hx3 := e3.keep d _ hx2 (dn wr2)
      refine ⟨hd, φ3, ρ1, w3, sr3, wr3, Pst.then isPstD p3 fun k w4 φ4 H4 e4 wr4 p4 => ?_⟩
      have hx4 := e4.keep d _ hx3 (dn wr3)
      have r4 : Reps K hd φ4 H4 out acc := ((rs.mono e2).mono e3).mono e4
      cases k with
      | false =>
        show (if false = true then _ else _)
        rw [if_neg Bool.false_ne_true] at p4 ⊢
        exact ⟨φ4, w4, out, acc, (((ee.trans e2.toD).trans e3.toD).trans e4.toD), wr4, hx4, r4, p4⟩
      | true =>
        show (if true = true then _ else _)
        rw [if_pos rfl] at p4 ⊢
        refine ⟨hd, φ4, ρ1, w4, sr3.mono e4, wr4, Pst.then isPstD p4 fun y w5 φ5 H5 e5 wr5 p5 v rv => ?_⟩
        have hx5 := e5.keep d _ hx4 (dn wr4)
        have r5 := r4.mono e5
        split at p5
        · rename_i hl
          have eg : ExtD (some d) hd φ5 H5 hd φ5 (upd H5 d (.lst (acc ++ [v]))) := ExtD.grow hdm
          refine ⟨acc, hx5, by rw [← r5.len]; exact hl, φ5, w5, out ++ [y], acc ++ [v], ((((ee.trans e2.toD).trans e3.toD).trans e4.toD).trans e5.toD).trans eg, wr5.grow hdm, upd_same, ?_, p5.mono eg⟩
          exact (r5.append (Reps.cons rv Reps.nil)).monoD eg (offd H5)
        · exact p5.elim
    · exact p.elim
  · have hdr : all.drop i = [] := List.drop_eq_nil_of_le (by omega)
    rw [hdr] at p
    unfold compL at p
    split at p
    · rename_i kp
      obtain ⟨_, s2⟩ := src (some d) i hd φ H w off (e0.trans ee) wr kp
      exact .inl ⟨s2 (by omega), p H φ acc Ext.refl.toD wr hx rs⟩
    · exact p.elim
noncomputable def mComp (vs : List Nat) (it : MI) (g : MG) (c : MT) (e : ME) : MF := fun ρ w => (it ρ w).bind fun r w1 => compL g c e r.2 r.1 (wipeE ρ vs) r.1 [] w1
theorem comp_read {it : MI} {g : MG} {S vs : List Nat} {mc : MT} {me : ME} (hS : ∀ i ∈ S, i ∈ vs) : ∀ σ H Q, rdF K (mComp vs it g mc me) σ H Q → tLc (rdI K it) (rdG K g S) (rdT K mc) (rdE K me) vs σ H Q := fun σ H Q => by
  rintro ⟨hd, φ, ρ, w, sr, wr, p⟩
  refine ⟨hd, φ, ρ, w, sr, wr, Pst.then isPstF p fun r w1 φ1 H1 e1 wr1 p1 J src D nD => ?_⟩
  obtain ⟨all, oc⟩ := r
  simp only at p1 src
  have eh : Ext hd φ1 H1 (D :: hd) φ1 (upd H1 D (.lst [])) := Ext.hold nD
  have hD : D ∉ hd := (wr1.nin nD).2
  refine comp_loop (hd := D :: hd) (φ1 := φ1) (vs := vs) (σ0 := wipe σ vs) (ρ0 := wipeE ρ vs) (w1 := w1) (out := []) (acc := []) (mc := mc) (me := me) (g := g) (oc := oc) (all := all) (Qd := fun H' => Q (.ref D) H') src (fun d h => by cases h; exact .inr nD) eh.toD List.mem_cons_self (((sr.mono e1).mono eh).wipe vs) (wr1.hold nD) upd_same Reps.nil hS (wipe_wipe vs) ?_
  cases q : compL g mc me oc all (wipeE ρ vs) all [] w1 with
  | no => rw [q] at p1; exact p1
  | ok out w' =>
    rw [q] at p1
    intro H' φ' acc e' wr' hx rs
    exact p1 D acc H' φ' ((eh.toD.trans e').plain nD) wr' nD hD hx rs
variable {elt : Expr} {ifs : List Expr} {scope : Scope} {own : List (Str × Nat)} {pos : Pos}
/-- what a block is read in -/
abbrev InBlk (X : Cx) (scope : Scope) (F : Cx → Prop) : Prop := ∀ (s : Shared) (H : Hp) (C : Addr) (cl : List (Str × Addr)) (fp : List Addr), F (X.blk s H scope (compEnvC scope cl C X.env) fp)
def PTs_imp {t t' : TT} (h : PTs X ifs t) (i : ∀ σ H Q, t' σ H Q → t σ H Q) : PTs X ifs t' := ⟨fun pins s σ H Q I q => h.run pins s σ H Q I (i σ H Q q)⟩
def mYes : MT := fun _ w => .ok true w
theorem dts_nil : PTs X [] (rdT X.K mYes) := PTs_imp pts_nil fun σ H Q => by
  rintro ⟨hd, φ, ρ, w, sr, wr, p⟩
  exact p.ok wr
theorem dts_one {c : Expr} {m : MT} (h : PT X c (rdT X.K m)) : PTs X [c] (rdT X.K m) := pts_one h
theorem df_comp {it : MI} {g : MG} {S : List Nat} {mc : MT} {me : ME} (hc : X.calm = true) (hN : X.N.Nodup) (hi : PI X tg iter (rdI X.K it)) (ok : blkC X.N X.env.scope scope own = true)
    (hg : InBlk X scope fun Y => PG Y tg (rdG X.K g S)) (ht : InBlk X scope fun Y => PTs Y ifs (rdT X.K mc)) (he : InBlk X scope fun Y => PE Y elt (rdE X.K me)) (hS : ∀ i ∈ S, i ∈ own.map (·.2) := by decide) (hs : ∀ x, foldedSetIterable iter X.env x = pure x := by intro _; rfl) :
    PE X (.ListComp elt [⟨tg, iter, ifs, 0⟩] scope pos) (rdF X.K (mComp (own.map (·.2)) it g mc me)) := PE_imp (pe_lc hc hN hi (blkOk_by ok) hg ht he hs) (comp_read hS)
/-- name = [..], both on one line -/
theorem setF_read {m : MF} {i : Nat} {t : TE} (h : ∀ σ H Q, rdF K m σ H Q → t σ H Q) (cell : Bool) : ∀ D σ H, rdS K (mAsg (if cell = true then mCell m else mVal m) (mgName i)) D σ H → tAsg t (gName i) D σ H := fun D σ H => by
  rintro ⟨hd, φ, ρ, w, sr, wr, p⟩
  refine h σ H _ ⟨hd, φ, ρ, w, sr, wr, ?_⟩
  cases cell with
  | false =>
    simp only [Bool.false_eq_true, if_false] at p
    unfold mAsg mVal at p
    cases q : m ρ w with
    | no => rw [q] at p; exact p
    | ok ts w1 =>
      rw [q] at p
      intro a xs H' φ' e1 wr1 hn ha hx rs
      refine p H' φ' e1.free wr1.free _ ((sr.mono e1.free).set ?_ i)
      unfold Rep
      exact ⟨a, xs, rfl, ⟨hx, fun z => wr1.apart a z List.mem_cons_self, ha⟩, rs.free⟩
  | true =>
    simp only [if_true] at p
    unfold mAsg mCell at p
    cases q : m ρ w with
    | no => rw [q] at p; exact p
    | ok ts w1 =>
      rw [q] at p
      intro a xs H' φ' e1 wr1 hn ha hx rs
      refine p H' (φ' ++ [a]) (e1.cell hn) (wr1.cell ha ⟨xs, hx, rs⟩) _ ((sr.mono (e1.cell hn)).set ?_ i)
      unfold Rep
      refine ⟨a, rfl, ?_⟩
      rw [← wr1.len, List.getElem?_append_right (Nat.le_refl _)]
      simp
theorem ds_setLc (i : Nat) (cell : Bool) {y : Str} {py spos : Pos} {it : MI} {g : MG} {S : List Nat} {mc : MT} {me : ME} (hc : X.calm = true) (hN : X.N.Nodup) (hi : PI X tg iter (rdI X.K it)) (ok : blkC X.N X.env.scope scope own = true)
    (hg : InBlk X scope fun Y => PG Y tg (rdG X.K g S)) (ht : InBlk X scope fun Y => PTs Y ifs (rdT X.K mc)) (he : InBlk X scope fun Y => PE Y elt (rdE X.K me)) (hsw : swapsWith (.ListComp elt [⟨tg, iter, ifs, 0⟩] scope pos) (some (.Name y py)) spos.line X.env = pure true) (hy : X.N[i]? = some y := by rfl) (hyl : X.env.scope.names.lookup y = some .local := by rfl)
    (hS : ∀ i ∈ S, i ∈ own.map (·.2) := by decide) (hs : ∀ x, foldedSetIterable iter X.env x = pure x := by intro _; rfl) :
    PS X (.Assign [.Name y py] (.ListComp elt [⟨tg, iter, ifs, 0⟩] scope pos) spos) (rdS X.K (mAsg (if cell = true then mCell (mComp (own.map (·.2)) it g mc me) else mVal (mComp (own.map (·.2)) it g mc me)) (mgName i))) :=
  PS_imp (ps_setLc hc hN hy hyl hsw hi (blkOk_by ok) hg ht he hs) (setF_read (comp_read hS) cell)

/-! two clauses -/
open Classical in
noncomputable def compL2 (g : MG) (c : MT) (it1 : MI) (vs1 : List Nat) (g1 : MG) (c1 : MT) (e : ME) (oc : Option Nat) (all : List T) (ρ0 : Env) : List T → List T → World → R (List T)
  | [], out, w => if Kept oc all w then .ok out w else .no
  | t :: ts, out, w => if Kept oc all w then (g t ρ0 w).bind fun ρ1 w1 => (c ρ1 w1).bind fun k w2 => if k = true then (it1 ρ1 w2).bind fun r w3 => (compL g1 c1 e r.2 r.1 (wipeE ρ1 vs1) r.1 out w3).bind fun out w4 => compL2 g c it1 vs1 g1 c1 e oc all ρ0 ts out w4
      else compL2 g c it1 vs1 g1 c1 e oc all ρ0 ts out w2
    else .no
noncomputable def mComp2 (vs : List Nat) (it : MI) (g : MG) (c : MT) (it1 : MI) (vs1 : List Nat) (g1 : MG) (c1 : MT) (e : ME) : MF := fun ρ w => (it ρ w).bind fun r w1 => compL2 g c it1 vs1 g1 c1 e r.2 r.1 (wipeE ρ vs) r.1 [] w1
/-- the inner loop, then f -/
theorem PstD.then {β : Type} {hd φ : List Addr} {H : Hp} {d : Addr} {P : List Addr → Hp → R β → Prop} {C : Hp → World → List T → List Addr → Prop} {r : R (List T)} {f : List T → World → R β} (mono : ∀ φ H φ1 H1 r, ExtD (some d) hd φ H hd φ1 H1 → P φ H r → P φ1 H1 r) (no : ¬ P φ H .no) (p : P φ H (r.bind f))
    (h : ∀ out w1 φ1 H1 acc, ExtD (some d) hd φ H hd φ1 H1 → WR K hd φ1 H1 w1 → H1 d = some (.lst acc) → Reps K hd φ1 H1 out acc → P φ1 H1 (f out w1) → C H1 w1 out φ1) : PstD K hd d C φ H r := by
  cases r with
  | no => exact (no p).elim
  | ok d w => intro H1 φ1 acc e wr hx rs; exact h d w φ1 H1 acc e wr hx rs (mono _ _ _ _ _ e p)
theorem comp2_read {it it1 : MI} {g g1 : MG} {S S1 vs vs1 : List Nat} {mc mc1 : MT} {me : ME} (hS : ∀ i ∈ S, i ∈ vs) (hS1 : ∀ i ∈ S1, i ∈ vs1) : ∀ σ H Q, rdF K (mComp2 vs it g mc it1 vs1 g1 mc1 me) σ H Q → tLc2 (rdI K it) (rdG K g S) (rdT K mc) (rdI K it1) (rdG K g1 S1) (rdT K mc1) (rdE K me) vs vs1 σ H Q := fun σ H Q => by
  rintro ⟨hd₀, φ, ρ, w, sr, wr, p⟩
  refine ⟨hd₀, φ, ρ, w, sr, wr, Pst.then isPstF p fun r w1 φ1 H1 e1 wr1 p1 J src D nD => ?_⟩
  obtain ⟨all, oc⟩ := r
  simp only at p1 src
  have eh : Ext hd₀ φ1 H1 (D :: hd₀) φ1 (upd H1 D (.lst [])) := Ext.hold nD
  have hD : D ∉ hd₀ := (wr1.nin nD).2
  have offd : ∀ H', Off (some D) (D :: hd₀) H' := fun H' d' h => by cases h; exact .inl List.mem_cons_self
  have dn : ∀ {φ' : List Addr} {H' : Hp} {w' : World}, WR K (D :: hd₀) φ' H' w' → D ∉ φ' := fun wr z => wr.apart D z List.mem_cons_self
  have p1 : PstD K (D :: hd₀) D (fun H' _ _ _ => Q (.ref D) H') φ1 (upd H1 D (.lst [])) (compL2 g mc it1 vs1 g1 mc1 me oc all (wipeE ρ vs) all [] w1) := by
    cases q : compL2 g mc it1 vs1 g1 mc1 me oc all (wipeE ρ vs) all [] w1 with
    | no => rw [q] at p1; exact p1
    | ok out w' =>
      rw [q] at p1
      intro H' φ' acc e' wr' hx rs
      exact p1 D acc H' φ' ((eh.toD.trans e').plain nD) wr' nD hD hx rs
  refine ⟨fun i m H => m + i = all.length ∧ ∃ φ w out acc, ExtD (some D) (D :: hd₀) φ1 (upd H1 D (.lst [])) (D :: hd₀) φ H ∧ WR K (D :: hd₀) φ H w ∧ H D = some (.lst acc) ∧ Reps K (D :: hd₀) φ H out acc ∧ PstD K (D :: hd₀) D (fun H' _ _ _ => Q (.ref D) H') φ H (compL2 g mc it1 vs1 g1 mc1 me oc all (wipeE ρ vs) (all.drop i) out w),
    ⟨all.length, by omega, φ1, w1, [], [], Ext.refl.toD, wr1.hold nD, upd_same, Reps.nil, by rw [List.drop_zero]; exact p1⟩, fun i m H => ?_⟩
  rintro ⟨hm, φ, w, out, acc, ee, wr, hx, rs, p⟩
  have src0 := src (some D) i (D :: hd₀) φ H w (fun d h => by cases h; exact .inr nD) (eh.toD.trans ee) wr
  by_cases hi : i < all.length
  · have hdr : all.drop i = all[i] :: all.drop (i + 1) := List.drop_eq_getElem_cons hi
    rw [hdr] at p
    unfold compL2 at p
    split at p
    · rename_i kp
      obtain ⟨s1, _⟩ := src0 kp
      obtain ⟨go, yl⟩ := s1 all[i] (by simp [hi])
      refine .inr ⟨go, fun H' => ∃ φ w out acc, ExtD (some D) (D :: hd₀) φ1 (upd H1 D (.lst [])) (D :: hd₀) φ H' ∧ WR K (D :: hd₀) φ H' w ∧ H' D = some (.lst acc) ∧ Reps K (D :: hd₀) φ H' out acc ∧ PstD K (D :: hd₀) D (fun H' _ _ _ => Q (.ref D) H') φ H' (compL2 g mc it1 vs1 g1 mc1 me oc all (wipeE ρ vs) (all.drop (i + 1)) out w), fun H' h => ⟨m - 1, by omega, by omega, h⟩, fun x H' hy => ?_⟩
      obtain ⟨e2, wr2, rx⟩ := yl x H' hy
      have hx2 := e2.keep D _ hx (dn wr)
      refine ⟨D :: hd₀, φ, wipeE ρ vs, w, all[i], (((sr.mono e1).mono eh).wipe vs).monoD (ee.trans e2.toD) (offd _), wr2, rx, Pst.then isPstD (p.mono e2.toD) fun ρ1 w3 φ3 H3 e3 wr3 p3 σ3 sr3 hw => ⟨(hw vs hS).trans (wipe_wipe vs), ?_⟩⟩
      have hx3 := e3.keep D _ hx2 (dn wr2)
      refine ⟨D :: hd₀, φ3, ρ1, w3, sr3, wr3, Pst.then isPstD p3 fun k w4 φ4 H4 e4 wr4 p4 => ?_⟩
      have hx4 := e4.keep D _ hx3 (dn wr3)
      have r4 : Reps K (D :: hd₀) φ4 H4 out acc := ((rs.mono e2).mono e3).mono e4
      have e04 := ((ee.trans e2.toD).trans e3.toD).trans e4.toD
      cases k with
      | false =>
        show (if false = true then _ else _)
        rw [if_neg Bool.false_ne_true] at p4 ⊢
        exact ⟨φ4, w4, out, acc, e04, wr4, hx4, r4, p4⟩
      | true =>
        show (if true = true then _ else _)
        rw [if_pos rfl] at p4 ⊢
        refine ⟨D :: hd₀, φ4, ρ1, w4, sr3.mono e4, wr4, Pst.then isPstD p4 fun r w5 φ5 H5 e5 wr5 p5 J1 src1 => ?_⟩
        obtain ⟨all1, oc1⟩ := r
        simp only at p5 src1
        have hx5 := e5.keep D _ hx4 (dn wr4)
        refine comp_loop (hd := D :: hd₀) (φ1 := φ5) (vs := vs1) (σ0 := wipe σ3 vs1) (ρ0 := wipeE ρ1 vs1) (w1 := w5) (out := out) (acc := acc) (mc := mc1) (me := me) (g := g1) (oc := oc1) (all := all1) src1 (offd _) Ext.refl.toD List.mem_cons_self (((sr3.mono e4).mono e5).wipe vs1) wr5 hx5 (r4.mono e5) hS1 (wipe_wipe vs1) ?_
        refine PstD.then (P := PstD K (D :: hd₀) D fun H' _ _ _ => Q (.ref D) H') (fun _ _ _ _ _ e p => p.mono e) (fun h => h) p5 fun out6 w6 φ6 H6 acc6 e6 wr6 hx6 rs6 p6 => ?_
        exact ⟨φ6, w6, out6, acc6, (e04.trans e5.toD).trans e6, wr6, hx6, rs6, p6⟩
    · exact p.elim
  · have hdr : all.drop i = [] := List.drop_eq_nil_of_le (by omega)
    rw [hdr] at p
    unfold compL2 at p
    split at p
    · rename_i kp
      obtain ⟨_, s2⟩ := src0 kp
      exact .inl ⟨s2 (by omega), p H φ acc Ext.refl.toD wr hx rs⟩
    · exact p.elim
theorem df_comp2 {tg1 iter1 : Expr} {ifs1 : List Expr} {vs1 : List Nat} {it it1 : MI} {g g1 : MG} {S S1 : List Nat} {mc mc1 : MT} {me : ME} (hc : X.calm = true) (hN : X.N.Nodup) (hi : PI X tg iter (rdI X.K it)) (ok : blkC X.N X.env.scope scope own = true)
    (hg : InBlk X scope fun Y => PG Y tg (rdG X.K g S)) (ht : InBlk X scope fun Y => PTs Y ifs (rdT X.K mc)) (hi1 : InBlk X scope fun Y => PI Y tg1 iter1 (rdI X.K it1)) (hg1 : InBlk X scope fun Y => PG Y tg1 (rdG X.K g1 S1)) (ht1 : InBlk X scope fun Y => PTs Y ifs1 (rdT X.K mc1)) (he : InBlk X scope fun Y => PE Y elt (rdE X.K me))
    (hv : ∀ i ∈ vs1, i ∈ own.map (·.2) := by decide) (hS : ∀ i ∈ S, i ∈ own.map (·.2) := by decide) (hS1 : ∀ i ∈ S1, i ∈ vs1 := by decide) (hs : ∀ x, foldedSetIterable iter X.env x = pure x := by intro _; rfl) (hs1 : ∀ env x, foldedSetIterable iter1 env x = pure x := by intro _ _; rfl) :
    PE X (.ListComp elt [⟨tg, iter, ifs, 0⟩, ⟨tg1, iter1, ifs1, 0⟩] scope pos) (rdF X.K (mComp2 (own.map (·.2)) it g mc it1 vs1 g1 mc1 me)) := PE_imp (pe_lc2 hc hN hi (blkOk_by ok) hv hg ht hi1 hg1 ht1 he hs hs1) (comp2_read hS hS1)
end
end VS

set_option Elab.async false
set_option linter.all false
set_option maxRecDepth 100000
set_option maxHeartbeats 2000000
namespace VS
open PySem PySem.Spec PyProof.Rows L2
section
variable {X : Cx} {K : PySem.W.Frag} {hd φ : List Addr} {H : Hp} {w : World}
theorem PE_or {e : Expr} {t t' : TE} (h : PE X e t) (h' : PE X e t') : PE X e (fun σ H Q => t σ H Q ∨ t' σ H Q) := ⟨fun pins s σ H Q I q => q.elim (h.run pins s σ H Q I) (h'.run pins s σ H Q I)⟩
theorem PT_or {e : Expr} {t t' : TT} (h : PT X e t) (h' : PT X e t') : PT X e (fun σ H Q => t σ H Q ∨ t' σ H Q) := ⟨fun pins s σ H Q I q => q.elim (h.run pins s σ H Q I) (h'.run pins s σ H Q I)⟩
theorem Pst.int {Q : VK} {i : Int} {w' : World} (p : Pst K hd (CE K hd Q) φ H (.ok (.int i) w')) (wr : WR K hd φ H w') : Q (.int i) H := p.ok wr _ (by unfold Rep; rfl)
theorem Pst.bl {Q : VK} {i : Bool} {w' : World} (p : Pst K hd (CE K hd Q) φ H (.ok (.bl i) w')) (wr : WR K hd φ H w') : Q (.bl i) H := p.ok wr _ (by unfold Rep; rfl)
/-- a new tuple -/
theorem Pst.tup {Q : VK} {ts : List T} {xs : List V} {w' : World} (p : Pst K hd (CE K hd Q) φ H (.ok (.tup ts) w')) (wr : WR K hd φ H w') (r : Reps K hd φ H ts xs) : ∀ q, H q = none → Q (.ref q) (upd H q (.tup xs)) := fun q hq => by
  refine p (upd H q (.tup xs)) φ (Ext.new hq) (wr.new hq) _ ?_
  unfold Rep
  exact ⟨q, xs, rfl, ⟨upd_same, wr.nin hq⟩, r.mono (Ext.new hq)⟩
/-- a new list -/
theorem PstF.new {Q : VK} {ts : List T} {xs : List V} {w' : World} (p : PstF K hd Q φ H (.ok ts w')) (wr : WR K hd φ H w') (r : Reps K hd φ H ts xs) : ∀ q, H q = none → Q (.ref q) (upd H q (.lst xs)) := fun q hq =>
  p q xs (upd H q (.lst xs)) φ (Ext.hold hq) (wr.hold hq) hq (wr.nin hq).2 upd_same (r.mono (Ext.hold hq))

/-! ### ints -/
def s2I (C : Int → Int → Prop) [∀ i j, Decidable (C i j)] (g : Int → Int → T) : S2 := fun x y w => match x, y with
  | .int i, .int j => if C i j then .ok (g i j) w else .no
  | _, _ => .no
instance {i j : Int} : Decidable (CMul i j) := by unfold CMul; infer_instance
instance {i j : Int} : Decidable (CDiv i j) := by unfold CDiv; infer_instance
instance {i j : Int} : Decidable (CPow i j) := by unfold CPow; infer_instance
abbrev CTrue : Int → Int → Prop := fun _ _ => True
theorem op2I {C : Int → Int → Prop} [∀ i j, Decidable (C i j)] {g : Int → Int → Int} : Op2 K (s2I C fun i j => .int (g i j)) (rI C fun i j => .int (g i j)) := fun hd φ H w dx dy x y Q wr rx ry p => by
  cases dx with
  | int i =>
    cases dy with
    | int j =>
      cases rep_int rx
      cases rep_int ry
      unfold s2I at p
      simp only at p
      split at p
      · rename_i hc
        exact ⟨i, j, rfl, rfl, hc, p.int wr⟩
      · exact p.elim
    | _ => exact p.elim
  | _ => exact p.elim
theorem op2I0 {g : Int → Int → Int} : Op2 K (s2I CTrue fun i j => .int (g i j)) (rI0 fun i j => .int (g i j)) := fun hd φ H w dx dy x y Q wr rx ry p => by
  obtain ⟨i, j, e1, e2, _, q⟩ := op2I hd φ H w dx dy x y Q wr rx ry p
  exact ⟨i, j, e1, e2, q⟩
theorem op2B0 {g : Int → Int → Bool} : Op2 K (s2I CTrue fun i j => .bl (g i j)) (rI0 fun i j => .bl (g i j)) := fun hd φ H w dx dy x y Q wr rx ry p => by
  cases dx with
  | int i =>
    cases dy with
    | int j =>
      cases rep_int rx
      cases rep_int ry
      unfold s2I at p
      simp only at p
      rw [if_pos trivial] at p
      exact ⟨i, j, rfl, rfl, p.bl wr⟩
    | _ => exact p.elim
  | _ => exact p.elim
def sSub : S2 := s2I CTrue fun i j => .int (i - j)
def sFdiv : S2 := s2I CDiv fun i j => .int (i / j)
def sMod : S2 := s2I (fun _ j => 0 < j) fun i j => .int (i % j)
def sPow : S2 := s2I CPow fun i j => .int (i ^ j.toNat)
def sShl : S2 := s2I CPow fun i j => .int (i * 2 ^ j.toNat)
def sBor : S2 := s2I CTrue fun i j => .int (Builtin.bitOr i j)
def sBand : S2 := s2I CTrue fun i j => .int (Builtin.bitAnd i j)
def sLt : S2 := s2I CTrue fun i j => .bl (decide (i < j))
def sLe : S2 := s2I CTrue fun i j => .bl (decide (i ≤ j))
def sGt : S2 := s2I CTrue fun i j => .bl (decide (j < i))
def sGe : S2 := s2I CTrue fun i j => .bl (decide (j ≤ i))
variable {a b : Expr} {pos : Pos} {ma mb : ME}
section
variable (ha : PE X a (rdE X.K ma)) (hb : PE X b (rdE X.K mb))
include ha hb
theorem de_sub : PE X (.BinOp a .Sub b pos) (rdE X.K (mOp2 sSub ma mb)) := de_op op_sub op2I0 ha hb
theorem de_fdiv : PE X (.BinOp a .FloorDiv b pos) (rdE X.K (mOp2 sFdiv ma mb)) := de_op op_fdiv op2I ha hb
theorem de_mod : PE X (.BinOp a .Mod b pos) (rdE X.K (mOp2 sMod ma mb)) := de_op op_mod op2I ha hb
theorem de_pow : PE X (.BinOp a .Pow b pos) (rdE X.K (mOp2 sPow ma mb)) := de_op op_pow op2I ha hb
theorem de_shl : PE X (.BinOp a .LShift b pos) (rdE X.K (mOp2 sShl ma mb)) := de_op op_shl op2I ha hb
theorem de_bor : PE X (.BinOp a .BitOr b pos) (rdE X.K (mOp2 sBor ma mb)) := de_op op_or op2I0 ha hb
theorem de_band : PE X (.BinOp a .BitAnd b pos) (rdE X.K (mOp2 sBand ma mb)) := de_op op_and op2I0 ha hb
theorem de_lt : PE X (.Compare a [.Lt] [b] pos) (rdE X.K (mOp2 sLt ma mb)) := de_cmp op_lt op2B0 ha hb (nomark _)
theorem de_le : PE X (.Compare a [.LtE] [b] pos) (rdE X.K (mOp2 sLe ma mb)) := de_cmp op_le op2B0 ha hb (nomark _)
theorem de_gt : PE X (.Compare a [.Gt] [b] pos) (rdE X.K (mOp2 sGt ma mb)) := de_cmp op_gt op2B0 ha hb (nomark _)
theorem de_ge : PE X (.Compare a [.GtE] [b] pos) (rdE X.K (mOp2 sGe ma mb)) := de_cmp op_ge op2B0 ha hb (nomark _)
theorem dt_lt : PT X (.Compare a [.Lt] [b] pos) (rdT X.K (mTest (mOp2 sLt ma mb))) := dt_cmp op_lt op2B0 ha hb (nomark _)
theorem dt_le : PT X (.Compare a [.LtE] [b] pos) (rdT X.K (mTest (mOp2 sLe ma mb))) := dt_cmp op_le op2B0 ha hb (nomark _)
theorem dt_gt : PT X (.Compare a [.Gt] [b] pos) (rdT X.K (mTest (mOp2 sGt ma mb))) := dt_cmp op_gt op2B0 ha hb (nomark _)
theorem dt_ge : PT X (.Compare a [.GtE] [b] pos) (rdT X.K (mTest (mOp2 sGe ma mb))) := dt_cmp op_ge op2B0 ha hb (nomark _)
end
def sNeg : S1 := fun x w => match x with
  | .int i => .ok (.int (-i)) w
  | _ => .no
theorem de_neg (ha : PE X a (rdE X.K ma)) : PE X (.UnaryOp .USub a pos) (rdE X.K (mOp1 sNeg ma)) := de_un un_neg (fun hd φ H w dx x Q wr rx p => by
  cases dx with
  | int i => cases rep_int rx; exact ⟨i, rfl, p.int wr⟩
  | _ => exact p.elim) ha

/-! ### + and * -/
def sAdd : S2 := fun x y w => match x, y with
  | .int i, .int j => .ok (.int (i + j)) w
  | .str i, .str j => if i.length + j.length ≤ sizeLine then .ok (.str (i ++ j)) w else .no
  | .tup ts, .tup us => if ts.length + us.length ≤ sizeLine then .ok (.tup (ts ++ us)) w else .no
  | _, _ => .no
theorem opAdd : Op2 K sAdd (fun x y H Q => (rI0 fun i j => .int (i + j)) x y H Q ∨ (fun x y H Q => ∃ i j, x = .str i ∧ y = .str j ∧ i.length + j.length ≤ sizeLine ∧ Q (.str (i ++ j)) H) x y H Q ∨ rCatA K x y H Q) := fun hd φ H w dx dy x y Q wr rx ry p => by
  cases dx with
  | int i =>
    cases dy with
    | int j => cases rep_int rx; cases rep_int ry; exact .inl ⟨i, j, rfl, rfl, p.int wr⟩
    | _ => exact p.elim
  | str i =>
    cases dy with
    | str j =>
      unfold Rep at rx ry
      subst rx ry
      unfold sAdd at p
      simp only at p
      split at p
      · rename_i hl
        exact .inr (.inl ⟨i, j, rfl, rfl, hl, p.ok wr _ (by unfold Rep; rfl)⟩)
      · exact p.elim
    | _ => exact p.elim
  | tup ts =>
    cases dy with
    | tup us =>
      unfold sAdd at p
      simp only at p
      split at p
      · rename_i hl
        have rx' := rx
        have ry' := ry
        unfold Rep at rx ry
        obtain ⟨l, xs, rfl, n1, r1⟩ := rx
        obtain ⟨m, ys, rfl, n2, r2⟩ := ry
        refine .inr (.inr ⟨l, m, xs, ys, rfl, rfl, SqT.of n1.1, SqT.of n2.1, by rw [← r1.len, ← r2.len]; exact hl, fun e => ?_, fun _ e => ?_, fun _ _ => p.tup wr (r1.append r2)⟩)
        · have : ts = [] := List.eq_nil_of_length_eq_zero (by rw [r1.len, e]; rfl)
          subst this
          exact p.ok wr _ ry'
        · have : us = [] := List.eq_nil_of_length_eq_zero (by rw [r2.len, e]; rfl)
          subst this
          rw [List.append_nil] at p
          exact p.ok wr _ rx'
      · exact p.elim
    | _ => exact p.elim
  | _ => exact p.elim
theorem de_add (ha : PE X a (rdE X.K ma)) (hb : PE X b (rdE X.K mb)) : PE X (.BinOp a .Add b pos) (rdE X.K (mOp2 sAdd ma mb)) := de_op (op_add.or (op_add_str.or op_catA)) opAdd ha hb
/-- a list that stands by itself, not the script -/
def lst? (w : World) : T → Option (List T)
  | .lst ts => some ts
  | .cell k => match w[k]? with
    | some (.lst ts) => some ts
    | _ => none
  | _ => none
theorem lst_at (wr : WR K hd φ H w) {t : T} {v : V} {ts : List T} (r : Rep K hd φ H t v) (hs : lst? w t = some ts) : ∃ a xs, v = .ref a ∧ H a = some (.lst xs) ∧ Reps K hd φ H ts xs := by
  cases t with
  | lst us =>
    cases hs
    unfold Rep at r
    obtain ⟨a, xs, e, n, rs⟩ := r
    exact ⟨a, xs, e, n.1, rs⟩
  | cell k =>
    unfold lst? at hs
    simp only at hs
    split at hs
    · rename_i us hk
      cases hs
      obtain ⟨a, e, hk, _, xs, h1, h2⟩ := cell_at wr r hk
      exact ⟨a, xs, e, h1, h2⟩
    · cases hs
  | _ => cases hs
def sCat : S2F := fun x y w => match lst? w x, lst? w y with
  | some ts, some us => if ts.length + us.length ≤ sizeLine then .ok (ts ++ us) w else .no
  | _, _ => .no
theorem df_add (ha : PE X a (rdE X.K ma)) (hb : PE X b (rdE X.K mb)) : PE X (.BinOp a .Add b pos) (rdF X.K (mOp2F sCat ma mb)) := df_op op_cat (fun hd φ H w dx dy x y Q wr rx ry p => by
  unfold sCat at p
  cases q1 : lst? w dx with
  | none => rw [q1] at p; exact p.elim
  | some ts =>
    cases q2 : lst? w dy with
    | none => rw [q1, q2] at p; exact p.elim
    | some us =>
      rw [q1, q2] at p
      simp only at p
      split at p
      · rename_i hl
        obtain ⟨l, xs, rfl, h1, r1⟩ := lst_at wr rx q1
        obtain ⟨m, ys, rfl, h2, r2⟩ := lst_at wr ry q2
        exact ⟨l, m, xs, ys, rfl, rfl, h1, h2, by rw [← r1.len, ← r2.len]; exact hl, p.new wr (r1.append r2)⟩
      · exact p.elim) ha hb
def sMul : S2 := fun x y w => match x, y with
  | .int i, .int j => if CMul i j then .ok (.int (i * j)) w else .no
  | .tup ts, .int k => if ts ≠ [] ∧ 2 ≤ k ∧ k ≤ 1000 ∧ ts.length ≤ 1000 then .ok (.tup (List.replicate k.toNat ts).flatten) w else .no
  | _, _ => .no
theorem de_mul (ha : PE X a (rdE X.K ma)) (hb : PE X b (rdE X.K mb)) : PE X (.BinOp a .Mult b pos) (rdE X.K (mOp2 sMul ma mb)) := de_op (op_mul.or op_repT) (fun hd φ H w dx dy x y Q wr rx ry p => by
  cases dx with
  | int i =>
    cases dy with
    | int j =>
      cases rep_int rx
      cases rep_int ry
      unfold sMul at p
      simp only at p
      split at p
      · rename_i hc; exact .inl ⟨i, j, rfl, rfl, hc, p.int wr⟩
      · exact p.elim
    | _ => exact p.elim
  | tup ts =>
    cases dy with
    | int j =>
      cases rep_int ry
      unfold Rep at rx
      obtain ⟨l, xs, rfl, n1, r1⟩ := rx
      unfold sMul at p
      simp only at p
      split at p
      · rename_i hc
        refine .inr ⟨l, j, xs, rfl, rfl, SqT.of n1.1, fun e => hc.1 (List.eq_nil_of_length_eq_zero (by rw [r1.len, e]; rfl)), hc.2.1, hc.2.2.1, by rw [← r1.len]; exact hc.2.2.2, p.tup wr (r1.flat _)⟩
      · exact p.elim
    | _ => exact p.elim
  | _ => exact p.elim) ha hb
def sRep : S2F := fun x y w => match lst? w x, y with
  | some ts, .int k => if -(2 ^ 63) ≤ k ∧ k < 2 ^ 63 ∧ ts.length * k.toNat ≤ sizeLine then .ok (List.replicate k.toNat ts).flatten w else .no
  | _, _ => .no
theorem df_mul (ha : PE X a (rdE X.K ma)) (hb : PE X b (rdE X.K mb)) : PE X (.BinOp a .Mult b pos) (rdF X.K (mOp2F sRep ma mb)) := df_op op_rep (fun hd φ H w dx dy x y Q wr rx ry p => by
  unfold sRep at p
  cases q1 : lst? w dx with
  | none => rw [q1] at p; exact p.elim
  | some ts =>
    cases dy with
    | int k =>
      rw [q1] at p
      simp only at p
      split at p
      · rename_i hl
        cases rep_int ry
        obtain ⟨l, xs, rfl, h1, r1⟩ := lst_at wr rx q1
        exact ⟨l, k, xs, rfl, rfl, h1, hl.1, hl.2.1, by rw [← r1.len]; exact hl.2.2, p.new wr (r1.flat _)⟩
      · exact p.elim
    | _ => rw [q1] at p; exact p.elim) ha hb

/-! ### == and != -/
mutual
def pd0 : T → Option PyData
  | .non => some .none
  | .bl b => some (.bool b)
  | .int i => some (.int i)
  | .str x => some (.str x)
  | .ty _ => none
  | .tup ts => (pds0 ts).map .tuple
  | .lst ts => (pds0 ts).map .list
  | .frz ts => (pds0 ts).map .list
  | .rng _ => none
  | .cell _ => none
def pds0 : List T → Option (List PyData)
  | [] => some []
  | t :: ts => match pd0 t, pds0 ts with
    | some d, some ds => some (d :: ds)
    | _, _ => none
end
mutual
def pd (w : World) : T → Option PyData
  | .non => some .none
  | .bl b => some (.bool b)
  | .int i => some (.int i)
  | .str x => some (.str x)
  | .ty _ => none
  | .tup ts => (pds w ts).map .tuple
  | .lst ts => (pds w ts).map .list
  | .frz ts => (pds w ts).map .list
  | .rng _ => none
  | .cell k => match w[k]? with
    | some (.lst ts) => (pds0 ts).map .list
    | _ => none
def pds (w : World) : List T → Option (List PyData)
  | [] => some []
  | t :: ts => match pd w t, pds w ts with
    | some d, some ds => some (d :: ds)
    | _, _ => none
end
theorem pds0_cons {t : T} {ts : List T} {ds : List PyData} (h : pds0 (t :: ts) = some ds) : ∃ d r, ds = d :: r ∧ pd0 t = some d ∧ pds0 ts = some r := by
  unfold pds0 at h
  split at h
  · rename_i d r e1 e2; cases h; exact ⟨d, r, rfl, e1, e2⟩
  · cases h
theorem pds_cons {t : T} {ts : List T} {ds : List PyData} (h : pds w (t :: ts) = some ds) : ∃ d r, ds = d :: r ∧ pd w t = some d ∧ pds w ts = some r := by
  unfold pds at h
  split at h
  · rename_i d r e1 e2; cases h; exact ⟨d, r, rfl, e1, e2⟩
  · cases h
theorem map_some {α β : Type} {f : α → β} {o : Option α} {b : β} (h : o.map f = some b) : ∃ a, o = some a ∧ f a = b := by
  cases o with
  | none => cases h
  | some a => exact ⟨a, rfl, Option.some.inj h⟩
theorem frz_sq {a : Addr} {xs : List V} (n : NdF K hd φ H a xs) : SqL K H a xs := by
  rcases n with ⟨o, n, rfl | ⟨u, rfl⟩, _⟩ | n
  · exact SqL.of n
  · exact .inl (.inr ⟨u, n⟩)
  · rcases n with (n | ⟨_, n⟩) | n
    · cases n
    · cases n
    · exact .inr n
mutual
theorem dp0 : ∀ {t : T} {v : V} {d : PyData}, Rep K hd φ H t v → pd0 t = some d → Dp K H v d
  | .non, v, d, r, h => by unfold Rep at r; unfold pd0 at h; subst r; cases h; exact .non
  | .bl b, v, d, r, h => by unfold Rep at r; unfold pd0 at h; subst r; cases h; exact .bl b
  | .int i, v, d, r, h => by unfold Rep at r; unfold pd0 at h; subst r; cases h; exact .int i
  | .str x, v, d, r, h => by unfold Rep at r; unfold pd0 at h; subst r; cases h; exact .str x
  | .ty _, v, d, r, h => by unfold pd0 at h; cases h
  | .rng _, v, d, r, h => by unfold pd0 at h; cases h
  | .cell _, v, d, r, h => by unfold pd0 at h; cases h
  | .tup ts, v, d, r, h => by
    unfold Rep at r; unfold pd0 at h
    obtain ⟨a, xs, rfl, n, rs⟩ := r
    obtain ⟨ds, h1, rfl⟩ := map_some h
    exact .tup (SqT.of n.1) (dps0 rs h1)
  | .lst ts, v, d, r, h => by
    unfold Rep at r; unfold pd0 at h
    obtain ⟨a, xs, rfl, n, rs⟩ := r
    obtain ⟨ds, h1, rfl⟩ := map_some h
    exact .lst (SqL.of n.1) (dps0 rs h1)
  | .frz ts, v, d, r, h => by
    unfold Rep at r; unfold pd0 at h
    obtain ⟨a, xs, rfl, n, rs⟩ := r
    obtain ⟨ds, h1, rfl⟩ := map_some h
    exact .lst (frz_sq n) (dps0 rs h1)
theorem dps0 : ∀ {ts : List T} {vs : List V} {ds : List PyData}, Reps K hd φ H ts vs → pds0 ts = some ds → DpAll K H vs ds
  | [], vs, ds, r, h => by unfold Reps at r; unfold pds0 at h; subst r; cases h; exact .nil
  | t :: ts, vs, ds, r, h => by
    unfold Reps at r
    obtain ⟨x, xs, rfl, r1, r2⟩ := r
    obtain ⟨d, ds', rfl, h1, h2⟩ := pds0_cons h
    exact .cons (dp0 r1 h1) (dps0 r2 h2)
end
mutual
theorem dp (wr : WR K hd φ H w) : ∀ {t : T} {v : V} {d : PyData}, Rep K hd φ H t v → pd w t = some d → Dp K H v d
  | .non, v, d, r, h => by unfold Rep at r; unfold pd at h; subst r; cases h; exact .non
  | .bl b, v, d, r, h => by unfold Rep at r; unfold pd at h; subst r; cases h; exact .bl b
  | .int i, v, d, r, h => by unfold Rep at r; unfold pd at h; subst r; cases h; exact .int i
  | .str x, v, d, r, h => by unfold Rep at r; unfold pd at h; subst r; cases h; exact .str x
  | .ty _, v, d, r, h => by unfold pd at h; cases h
  | .rng _, v, d, r, h => by unfold pd at h; cases h
  | .cell k, v, d, r, h => by
    unfold pd at h
    split at h
    · rename_i ts hk
      obtain ⟨ds, h1, rfl⟩ := map_some h
      obtain ⟨a, rfl, _, _, xs, h2, h3⟩ := cell_at wr r hk
      exact .lst (SqL.of h2) (dps0 h3 h1)
    · cases h
  | .tup ts, v, d, r, h => by
    unfold Rep at r; unfold pd at h
    obtain ⟨a, xs, rfl, n, rs⟩ := r
    obtain ⟨ds, h1, rfl⟩ := map_some h
    exact .tup (SqT.of n.1) (dps wr rs h1)
  | .lst ts, v, d, r, h => by
    unfold Rep at r; unfold pd at h
    obtain ⟨a, xs, rfl, n, rs⟩ := r
    obtain ⟨ds, h1, rfl⟩ := map_some h
    exact .lst (SqL.of n.1) (dps wr rs h1)
  | .frz ts, v, d, r, h => by
    unfold Rep at r; unfold pd at h
    obtain ⟨a, xs, rfl, n, rs⟩ := r
    obtain ⟨ds, h1, rfl⟩ := map_some h
    exact .lst (frz_sq n) (dps wr rs h1)
theorem dps (wr : WR K hd φ H w) : ∀ {ts : List T} {vs : List V} {ds : List PyData}, Reps K hd φ H ts vs → pds w ts = some ds → DpAll K H vs ds
  | [], vs, ds, r, h => by unfold Reps at r; unfold pds at h; subst r; cases h; exact .nil
  | t :: ts, vs, ds, r, h => by
    unfold Reps at r
    obtain ⟨x, xs, rfl, r1, r2⟩ := r
    obtain ⟨d, ds', rfl, h1, h2⟩ := pds_cons h
    exact .cons (dp wr r1 h1) (dps wr r2 h2)
end
def eqT (w : World) (x y : T) : Option Bool := match pd w x, pd w y with
  | some d, some e => if SeqAt.shaped d = true ∧ SeqAt.shaped e = true then some (PyData.eqv d e) else none
  | _, _ => none
def sEq : S2 := fun x y w => match eqT w x y with
  | some b => .ok (.bl b) w
  | none => .no
def sNe : S2 := fun x y w => match eqT w x y with
  | some b => .ok (.bl (!b)) w
  | none => .no
theorem eqT_some {x y : T} {b : Bool} (h : eqT w x y = some b) : ∃ d e, pd w x = some d ∧ pd w y = some e ∧ SeqAt.shaped d = true ∧ SeqAt.shaped e = true ∧ b = PyData.eqv d e := by
  unfold eqT at h
  split at h
  · rename_i d e h1 h2
    split at h
    · rename_i hs; cases h; exact ⟨d, e, h1, h2, hs.1, hs.2, rfl⟩
    · cases h
  · cases h
theorem opEq : Op2 K sEq (rEqD K) := fun hd φ H w dx dy x y Q wr rx ry p => by
  unfold sEq at p
  cases q : eqT w dx dy with
  | none => rw [q] at p; exact p.elim
  | some k =>
    rw [q] at p
    obtain ⟨d, e, h1, h2, h3, h4, rfl⟩ := eqT_some q
    exact ⟨d, e, dp wr rx h1, dp wr ry h2, h3, h4, p.bl wr⟩
theorem opNe : Op2 K sNe (rNeD K) := fun hd φ H w dx dy x y Q wr rx ry p => by
  unfold sNe at p
  cases q : eqT w dx dy with
  | none => rw [q] at p; exact p.elim
  | some k =>
    rw [q] at p
    obtain ⟨d, e, h1, h2, h3, h4, rfl⟩ := eqT_some q
    exact ⟨d, e, dp wr rx h1, dp wr ry h2, h3, h4, p.bl wr⟩
section
variable (hu : X.A.units + 64 < cLine) (ha : PE X a (rdE X.K ma)) (hb : PE X b (rdE X.K mb))
include hu ha hb
theorem de_eq : PE X (.Compare a [.Eq] [b] pos) (rdE X.K (mOp2 sEq ma mb)) := de_cmp (op_eqD hu) opEq ha hb (nomark _)
theorem de_ne : PE X (.Compare a [.NotEq] [b] pos) (rdE X.K (mOp2 sNe ma mb)) := de_cmp (op_neD hu) opNe ha hb (nomark _)
theorem dt_eq : PT X (.Compare a [.Eq] [b] pos) (rdT X.K (mTest (mOp2 sEq ma mb))) := dt_cmp (op_eqD hu) opEq ha hb (nomark _)
theorem dt_ne : PT X (.Compare a [.NotEq] [b] pos) (rdT X.K (mTest (mOp2 sNe ma mb))) := dt_cmp (op_neD hu) opNe ha hb (nomark _)
end
/-! ### is None -/
def isNon : T → Bool
  | .non => true
  | _ => false
theorem isNon_at {t : T} {v : V} (r : Rep K hd φ H t v) : decide (v = .non) = isNon t := by
  cases t with
  | non => unfold Rep at r; subst r; rfl
  | bl b => unfold Rep at r; subst r; rfl
  | int b => unfold Rep at r; subst r; rfl
  | str b => unfold Rep at r; subst r; rfl
  | ty b => unfold Rep at r; subst r; rfl
  | tup ts => unfold Rep at r; obtain ⟨_, _, rfl, _⟩ := r; rfl
  | lst ts => unfold Rep at r; obtain ⟨_, _, rfl, _⟩ := r; rfl
  | frz ts => unfold Rep at r; obtain ⟨_, _, rfl, _⟩ := r; rfl
  | rng n => unfold Rep at r; obtain ⟨_, rfl, _⟩ := r; rfl
  | cell k => unfold Rep at r; obtain ⟨_, rfl, _⟩ := r; rfl
def sIs : S2 := fun x y w => match y with
  | .non => .ok (.bl (isNon x)) w
  | _ => .no
def sIsNot : S2 := fun x y w => match y with
  | .non => .ok (.bl (!isNon x)) w
  | _ => .no
theorem opIs : Op2 K sIs (fun x y H Q => y = .non ∧ Q (.bl (decide (x = .non))) H) := fun hd φ H w dx dy x y Q wr rx ry p => by
  cases dy with
  | non => unfold Rep at ry; exact ⟨ry, by rw [isNon_at rx]; exact p.bl wr⟩
  | _ => exact p.elim
theorem opIsNot : Op2 K sIsNot (fun x y H Q => y = .non ∧ Q (.bl (!decide (x = .non))) H) := fun hd φ H w dx dy x y Q wr rx ry p => by
  cases dy with
  | non => unfold Rep at ry; exact ⟨ry, by rw [isNon_at rx]; exact p.bl wr⟩
  | _ => exact p.elim
section
variable (ha : PE X a (rdE X.K ma)) (hb : PE X b (rdE X.K mb))
include ha hb
theorem de_is : PE X (.Compare a [.Is] [b] pos) (rdE X.K (mOp2 sIs ma mb)) := de_cmp op_isN opIs ha hb (nomark _)
theorem de_isnot : PE X (.Compare a [.IsNot] [b] pos) (rdE X.K (mOp2 sIsNot ma mb)) := de_cmp op_notN opIsNot ha hb (nomark _)
theorem dt_is : PT X (.Compare a [.Is] [b] pos) (rdT X.K (mTest (mOp2 sIs ma mb))) := dt_cmp op_isN opIs ha hb (nomark _)
theorem dt_isnot : PT X (.Compare a [.IsNot] [b] pos) (rdT X.K (mTest (mOp2 sIsNot ma mb))) := dt_cmp op_notN opIsNot ha hb (nomark _)
end
end
end VS

set_option Elab.async false
set_option linter.all false
set_option maxRecDepth 100000
set_option maxHeartbeats 2000000
namespace VS
open PySem PySem.Spec PyProof.Rows L2
section
variable {X : Cx} {K : PySem.W.Frag} {hd φ : List Addr} {H : Hp} {w : World} {a b : Expr} {pos : Pos} {ma mb : ME}

/-! ### dicts -/
def keyT : T → Option Key
  | .int i => some (.inl i)
  | .str x => some (.inr x)
  | _ => none
def keysT : List T → Option (List Key)
  | [] => some []
  | t :: ts => match keyT t, keysT ts with
    | some k, some ks => some (k :: ks)
    | _, _ => none
def valT {κ : Type} [DecidableEq κ] (kvs : List (κ × T)) (k : κ) : Option T := (kvs.find? fun kv => decide (kv.1 = k)).map (·.2)
def putT {κ : Type} [DecidableEq κ] (kvs : List (κ × T)) (k : κ) (t : T) : List (κ × T) := if (kvs.any fun kv => decide (kv.1 = k)) = true then kvs.map fun kv => if kv.1 = k then (kv.1, t) else kv else kvs ++ [(k, t)]
theorem key_at {t : T} {v : V} {k : Key} (r : Rep K hd φ H t v) (h : keyT t = some k) : v = kV k := by
  cases t with
  | int i => cases h; unfold Rep at r; exact r
  | str i => cases h; unfold Rep at r; exact r
  | _ => cases h
theorem keys_at : ∀ {ts : List T} {vs : List V} {ks : List Key}, Reps K hd φ H ts vs → keysT ts = some ks → vs = ks.map kV
  | [], vs, ks, r, h => by cases h; unfold Reps at r; exact r
  | t :: ts, vs, ks, r, h => by
    unfold Reps at r
    obtain ⟨x, xs, rfl, r1, r2⟩ := r
    unfold keysT at h
    split at h
    · rename_i k ks' h1 h2
      cases h
      rw [key_at r1 h1, keys_at r2 h2]
      rfl
    · cases h
theorem valT_at {κ : Type} [DecidableEq κ] : ∀ {kvs : List (κ × T)} {ys : List (κ × V)}, ys.map (·.1) = kvs.map (·.1) → Reps K hd φ H (kvs.map (·.2)) (ys.map (·.2)) → ∀ k : κ,
    (match valT kvs k with | some t => ∃ v, valV ys k = some v ∧ Rep K hd φ H t v | none => valV ys k = none)
  | [], ys, e, r, k => by
    have : ys = [] := by cases ys with
      | nil => rfl
      | cons _ _ => simp at e
    subst this
    rfl
  | (k', t) :: kvs, [], e, r, k => by simp at e
  | (k', t) :: kvs, (k2, v) :: ys, e, r, k => by
    have e1 : k2 = k' := by simpa using congrArg List.head? e
    have e2 : ys.map (·.1) = kvs.map (·.1) := by simpa using congrArg List.tail e
    subst e1
    have r' : Reps K hd φ H (t :: kvs.map (·.2)) (v :: ys.map (·.2)) := r
    unfold Reps at r'
    obtain ⟨x, xs, e3, r1, r2⟩ := r'
    cases e3
    by_cases h : k2 = k
    · have h1 : valT ((k2, t) :: kvs) k = some t := by simp [valT, List.find?_cons, h]
      rw [h1]
      exact ⟨v, valV_pos h, r1⟩
    · have h1 : valT ((k2, t) :: kvs) k = valT kvs k := by simp [valT, List.find?_cons, h]
      rw [h1, valV_neg h]
      exact valT_at e2 r2 k
theorem putT_at {κ : Type} [DecidableEq κ] {kvs : List (κ × T)} {ys : List (κ × V)} (e : ys.map (·.1) = kvs.map (·.1)) (r : Reps K hd φ H (kvs.map (·.2)) (ys.map (·.2))) (k : κ) {t : T} {v : V} (rt : Rep K hd φ H t v) :
    (putK ys k v).map (·.1) = (putT kvs k t).map (·.1) ∧ Reps K hd φ H ((putT kvs k t).map (·.2)) ((putK ys k v).map (·.2)) := by
  have ea : (ys.any fun kv => decide (kv.1 = k)) = kvs.any fun kv => decide (kv.1 = k) := by
    have h1 : ∀ {α : Type} (l : List (κ × α)), (l.any fun kv => decide (kv.1 = k)) = (l.map (·.1)).any fun x => decide (x = k) := fun l => by rw [List.any_map]; rfl
    rw [h1, h1, e]
  unfold putK putT
  rw [ea]
  split
  · refine ⟨?_, ?_⟩
    · have h1 : ∀ {α : Type} (l : List (κ × α)) (x : α), (l.map fun kv => if kv.1 = k then (kv.1, x) else kv).map (·.1) = l.map (·.1) := fun l x => by
        rw [List.map_map]
        apply List.map_congr_left
        intro p _
        show (if p.1 = k then (p.1, x) else p).1 = p.1
        split <;> rfl
      rw [h1, h1, e]
    · clear ea
      rename_i hany
      clear hany
      induction kvs generalizing ys with
      | nil =>
        have : ys = [] := by cases ys with
          | nil => rfl
          | cons _ _ => simp at e
        subst this
        exact Reps.nil
      | cons p kvs ih =>
        cases ys with
        | nil => simp at e
        | cons q ys =>
          have e1 : q.1 = p.1 := by simpa using congrArg List.head? e
          have e2 : ys.map (·.1) = kvs.map (·.1) := by simpa using congrArg List.tail e
          have r' : Reps K hd φ H (p.2 :: kvs.map (·.2)) (q.2 :: ys.map (·.2)) := r
          unfold Reps at r'
          obtain ⟨x, xs, e3, r1, r2⟩ := r'
          cases e3
          show Reps K hd φ H ((if p.1 = k then (p.1, t) else p).2 :: _) ((if q.1 = k then (q.1, v) else q).2 :: _)
          refine Reps.cons ?_ (ih e2 r2)
          rw [e1]
          split
          · exact rt
          · exact r1
  · refine ⟨by rw [List.map_append, List.map_append, e]; rfl, ?_⟩
    rw [List.map_append, List.map_append]
    exact r.append (Reps.cons rt Reps.nil)
/-! ### subscripts -/
def sIx : S2 := fun x y w => match x, y with
  | .cell k, y => match w[k]?, y with
    | some (.lst ts), .int i => match atI ts i with
      | some t => .ok t w
      | none => .no
    | some (.dic kvs), y => match keyT y with
      | some key => match valT kvs key with
        | some t => .ok t w
        | none => .no
      | none => .no
    | some (.dit kvs), .tup us => match keysT us with
      | some key => match valT kvs key with
        | some t => .ok t w
        | none => .no
      | none => .no
    | _, _ => .no
  | x, .int i => match seq? w x with
    | some ts => match atI ts i with
      | some t => .ok t w
      | none => .no
    | none => .no
  | _, _ => .no
theorem Reps.atI {ts : List T} {xs : List V} {i : Int} {t : T} (h : Reps K hd φ H ts xs) (ht : L2.atI ts i = some t) : ∃ v, L2.atI xs i = some v ∧ Rep K hd φ H t v := by
  unfold L2.atI at ht ⊢
  rw [← h.len]
  cases q : ixN ts.length i with
  | none => rw [q] at ht; cases ht
  | some j =>
    rw [q] at ht
    exact h.at ht
theorem opIx (x y : V) (Q : VK) (wr : WR K hd φ H w) {dx dy : T} (rx : Rep K hd φ H dx x) (ry : Rep K hd φ H dy y) (p : Pst K hd (CE K hd Q) φ H (sIx dx dy w)) :
    rIx K x y H Q ∨ ∃ a v, x = .ref a ∧ DGet H a y (some v) ∧ Q v H := by
  have sq : ∀ ts i, seq? w dx = some ts → dy = .int i → Pst K hd (CE K hd Q) φ H (match atI ts i with | some t => .ok t w | none => .no) → rIx K x y H Q := fun ts i h1 h2 p => by
    rename Pst K hd (CE K hd Q) φ H (sIx dx dy w) => p0
    clear p0
    subst h2
    cases rep_int ry
    obtain ⟨a, xs, rfl, h3, h4⟩ := seq_at wr rx h1
    cases q : atI ts i with
    | none => rw [q] at p; exact p.elim
    | some t =>
      rw [q] at p
      obtain ⟨v, h5, h6⟩ := h4.atI q
      rcases h3 with h3 | h3
      · exact .inl ⟨a, xs, i, v, rfl, rfl, h3, h5, p.ok wr v h6⟩
      · exact .inr (.inl ⟨a, xs, i, v, rfl, rfl, h3, h5, p.ok wr v h6⟩)
  cases dx with
  | cell k =>
    unfold sIx at p
    simp only at p
    cases q : w[k]? with
    | none => rw [q] at p; exact p.elim
    | some c =>
      rw [q] at p
      cases c with
      | lst ts =>
        cases dy with
        | int i => exact .inl (sq ts i (by unfold seq?; simp only [q]) rfl p)
        | _ => exact p.elim
      | dic kvs =>
        simp only at p
        cases q2 : keyT dy with
        | none => rw [q2] at p; exact p.elim
        | some key =>
          rw [q2] at p
          simp only at p
          obtain ⟨l, rfl, _, _, ys, h1, h2, h3⟩ := cell_at wr rx q
          have h4 := valT_at h2 h3 key
          cases q3 : valT kvs key with
          | none => rw [q3] at p; exact p.elim
          | some t =>
            rw [q3] at p h4
            obtain ⟨v, h5, h6⟩ := h4
            rw [key_at ry q2]
            exact .inr ⟨l, v, rfl, by rw [← h5]; exact DGet.k h1, p.ok wr v h6⟩
      | dit kvs =>
        cases dy with
        | tup us =>
          simp only at p
          cases q2 : keysT us with
          | none => rw [q2] at p; exact p.elim
          | some key =>
            rw [q2] at p
            simp only at p
            obtain ⟨l, rfl, _, _, ys, h1, h2, h3⟩ := cell_at wr rx q
            have h4 := valT_at h2 h3 key
            cases q3 : valT kvs key with
            | none => rw [q3] at p; exact p.elim
            | some t =>
              rw [q3] at p h4
              obtain ⟨v, h5, h6⟩ := h4
              unfold Rep at ry
              obtain ⟨m, zs, rfl, n, rz⟩ := ry
              have e := keys_at rz q2
              subst e
              exact .inr ⟨l, v, rfl, by rw [← h5]; exact DGet.t h1 n.1, p.ok wr v h6⟩
        | _ => exact p.elim
  | tup ts =>
    cases dy with
    | int i => exact .inl (sq ts i rfl rfl p)
    | _ => exact p.elim
  | lst ts =>
    cases dy with
    | int i => exact .inl (sq ts i rfl rfl p)
    | _ => exact p.elim
  | frz ts =>
    cases dy with
    | int i => exact .inl (sq ts i rfl rfl p)
    | _ => exact p.elim
  | _ => cases dy <;> exact p.elim
def rIxD : R2 := fun x y H Q => ∃ a v, x = .ref a ∧ DGet H a y (some v) ∧ Q v H
theorem ix_dict (hu : X.A.units + 1 < cLine) : IxR X rIxD := by
  intro value slice pins s σ H x y v u Q I rx ry h hs
  obtain ⟨a, z, rfl, g, q⟩ := h
  obtain rfl : v = Value.ref a := rx
  have hT := dict_typeIs I g
  unfold subscriptTail
  refine wpAny_bind ?_
  rw [getitemInPython_of_ne hT.not_modules]
  refine wpAny_bind (wpAny_specialOf hT PySem.F.slot_dict_getitem.lookup ?_)
  have h₂ : wpAny (model X.prog X.w) X.A (getItem (.ref a) u) (EP X pins σ Q) X.xe s := d_getItem hu I g ry fun w' s3 I3 rw' => ⟨z, H, I3, rw', q⟩
  have fin : wpAny (model X.prog X.w) X.A (subscripted slice false (.ref a) u) (fun r s₃ => wpAny (model X.prog X.w) X.A (letTemporaryGo value (.ref a) r >>= fun _ => pure r) (EP X pins σ Q) X.xe s₃) X.xe s := by
    rw [hs]
    exact wpAny_operating (wpAny_mono h₂ (fun r s₃ h₃ => wpAny_bind (wpAny_letTemporaryGo (wpAny_pure h₃))) fun _ _ x => x)
  first
    | exact wpAny_pure (wpAny_bind fin)
    | exact wpAny_bind (wpAny_pure (wpAny_bind fin))
    | exact wpAny_bind fin
theorem de_sub' (hu : X.A.units + 1 < cLine) (ha : PE X a (rdE X.K ma)) (hb : PE X b (rdE X.K mb)) (hp : PlainIx b := by exact fun _ _ => rfl) : PE X (.Subscript a b pos) (rdE X.K (mOp2 sIx ma mb)) :=
  de_ix (ix_seq.or (ix_dict hu)) (fun hd φ H w dx dy x y Q wr rx ry p => opIx x y Q wr rx ry p) ha hb hp
/-! ### slices -/
abbrev MO := Env → World → R (Option Int)
abbrev CO (Q : Option Int → Hp → Prop) : Option Int → List Addr → Hp → Prop := fun d _ H' => Q d H'
def rdO (K : PySem.W.Frag) (m : MO) : TO := fun σ H Q => ∃ hd φ ρ w, SR K hd φ H σ ρ ∧ WR K hd φ H w ∧ Pst K hd (CO Q) φ H (m ρ w)
theorem PO_imp {e : Option Expr} {t t' : TO} (h : PO X e t) (i : ∀ σ H Q, t' σ H Q → t σ H Q) : PO X e t' := ⟨fun pins s σ H Q I q => h.run pins s σ H Q I (i σ H Q q)⟩
def mNoPart : MO := fun _ w => .ok none w
def mPart (m : ME) : MO := fun ρ w => (m ρ w).bind fun t w1 => match t with
  | .int i => .ok (some i) w1
  | _ => .no
theorem do_none : PO X none (rdO X.K mNoPart) := PO_imp po_none fun σ H Q => by
  rintro ⟨hd, φ, ρ, w, sr, wr, p⟩
  exact p.ok wr
theorem do_some (h : PE X a (rdE X.K ma)) : PO X (some a) (rdO X.K (mPart ma)) := PO_imp (po_some h) fun σ H Q => by
  rintro ⟨hd, φ, ρ, w, sr, wr, p⟩
  refine ⟨hd, φ, ρ, w, sr, wr, Pst.then isPst p fun d w1 φ1 H1 e1 wr1 p1 v rv => ?_⟩
  cases d with
  | int i => cases rep_int rv; exact ⟨i, rfl, p1.ok wr1⟩
  | _ => exact p1.elim
def cutT (xs : List T) (lo hi : Option Int) : List T := (xs.drop (HT.sIx xs.length 0 lo)).take (HT.sIx xs.length xs.length hi - HT.sIx xs.length 0 lo)
theorem Reps.cut {ts : List T} {xs : List V} (h : Reps K hd φ H ts xs) (lo hi : Option Int) : Reps K hd φ H (cutT ts lo hi) (cutV xs lo hi) := by
  unfold cutT cutV
  rw [h.len]
  exact (h.drop _).take _
def mSlT (a : ME) (lo hi : MO) : ME := fun ρ w => (a ρ w).bind fun t w1 => (lo ρ w1).bind fun l w2 => (hi ρ w2).bind fun u w3 => match t with
  | .tup ts => .ok (.tup (cutT ts l u)) w3
  | _ => .no
def mSlL (a : ME) (lo hi : MO) : MF := fun ρ w => (a ρ w).bind fun t w1 => (lo ρ w1).bind fun l w2 => (hi ρ w2).bind fun u w3 => match lst? w3 t with
  | some ts => .ok (cutT ts l u) w3
  | _ => .no
theorem de_slice {lo hi : Option Expr} {ml mh : MO} {p2 : Pos} (ha : PE X a (rdE X.K ma)) (hl : PO X lo (rdO X.K ml)) (hh : PO X hi (rdO X.K mh)) : PE X (.Subscript a (.Slice lo hi none p2) pos) (rdE X.K (mSlT ma ml mh)) := PE_imp (pe_slice sl_tupA ha hl hh) fun σ H Q => by
  rintro ⟨hd, φ, ρ, w, sr, wr, p⟩
  refine ⟨hd, φ, ρ, w, sr, wr, Pst.then isPst p fun t w1 φ1 H1 e1 wr1 p1 v rv => ?_⟩
  refine ⟨hd, φ1, ρ, w1, sr.mono e1, wr1, Pst.then isPst p1 fun l w2 φ2 H2 e2 wr2 p2 => ?_⟩
  refine ⟨hd, φ2, ρ, w2, sr.mono (e1.trans e2), wr2, Pst.then isPst p2 fun u w3 φ3 H3 e3 wr3 p3 => ?_⟩
  cases t with
  | tup ts =>
    have rv3 := (rv.mono e2).mono e3
    unfold Rep at rv3
    obtain ⟨q, xs, rfl, n, rs⟩ := rv3
    refine ⟨q, xs, rfl, SqT.of n.1, fun e => ?_, fun _ => p3.tup wr3 (rs.cut l u)⟩
    have e4 : cutT ts l u = ts := by
      unfold cutT
      rw [rs.len, e.1, e.2, List.drop_zero, Nat.sub_zero, ← rs.len]
      exact List.take_length
    simp only at p3
    rw [e4] at p3
    exact p3.ok wr3 _ (by unfold Rep; exact ⟨q, xs, rfl, n, rs⟩)
  | _ => exact p3.elim
theorem df_slice {lo hi : Option Expr} {ml mh : MO} {p2 : Pos} (ha : PE X a (rdE X.K ma)) (hl : PO X lo (rdO X.K ml)) (hh : PO X hi (rdO X.K mh)) : PE X (.Subscript a (.Slice lo hi none p2) pos) (rdF X.K (mSlL ma ml mh)) := PE_imp (pe_slice sl_list ha hl hh) fun σ H Q => by
  rintro ⟨hd, φ, ρ, w, sr, wr, p⟩
  refine ⟨hd, φ, ρ, w, sr, wr, Pst.then isPstF p fun t w1 φ1 H1 e1 wr1 p1 v rv => ?_⟩
  refine ⟨hd, φ1, ρ, w1, sr.mono e1, wr1, Pst.then isPstF p1 fun l w2 φ2 H2 e2 wr2 p2 => ?_⟩
  refine ⟨hd, φ2, ρ, w2, sr.mono (e1.trans e2), wr2, Pst.then isPstF p2 fun u w3 φ3 H3 e3 wr3 p3 => ?_⟩
  cases q : lst? w3 t with
  | none => rw [q] at p3; exact p3.elim
  | some ts =>
    rw [q] at p3
    obtain ⟨l', xs, rfl, h1, h2⟩ := lst_at wr3 ((rv.mono e2).mono e3) q
    exact ⟨l', xs, rfl, SqL.of h1, p3.new wr3 (h2.cut l u)⟩
/-! ### built-in functions -/
variable {e e2 : Expr} {es : List Expr} {p : Pos} {m : MF}
def sLen : SC := fun ds w => match ds with
  | [.cell k] => match w[k]? with
    | some (.lst ts) => .ok (.int ts.length) w
    | some (.dic kvs) => .ok (.int kvs.length) w
    | _ => .no
  | [t] => match seq? w t with
    | some ts => .ok (.int ts.length) w
    | none => .no
  | _ => .no
theorem opLen : OpC K sLen (fun xs H Q => (∃ p ys, xs = [.ref p] ∧ (SqL K H p ys ∨ SqT K H p ys) ∧ Q (.int ys.length) H) ∨ ∃ a kvs, xs = [V.ref a] ∧ H a = some (.dK kvs) ∧ Q (.int kvs.length) H) := fun hd φ H w ds xs Q wr rx p => by
  have sq : ∀ t ts, ds = [t] → seq? w t = some ts → Pst K hd (CE K hd Q) φ H (.ok (.int ts.length) w) → ∃ p ys, xs = [.ref p] ∧ (SqL K H p ys ∨ SqT K H p ys) ∧ Q (.int ys.length) H := fun t ts e1 h pp => by
    rw [e1] at rx
    obtain ⟨v, rfl, r⟩ := reps1 rx
    obtain ⟨a, xs, rfl, h1, h2⟩ := seq_at wr r h
    exact ⟨a, xs, rfl, h1, by rw [← h2.len]; exact pp.int wr⟩
  cases ds with
  | nil => exact p.elim
  | cons t r =>
    cases r with
    | cons u r => cases t <;> exact p.elim
    | nil =>
      cases t with
      | cell k =>
        unfold sLen at p
        simp only at p
        cases q : w[k]? with
        | none => rw [q] at p; exact p.elim
        | some c =>
          rw [q] at p
          cases c with
          | lst ts => exact .inl (sq _ ts rfl (by unfold seq?; simp only [q]) p)
          | dic kvs =>
            obtain ⟨v, rfl, r⟩ := reps1 rx
            obtain ⟨a, rfl, _, _, ys, h1, h2, h3⟩ := cell_at wr r q
            have e : ys.length = kvs.length := by simpa using congrArg List.length h2
            exact .inr ⟨a, ys, rfl, h1, by rw [e]; exact p.int wr⟩
          | dit kvs => exact p.elim
      | tup ts => exact .inl (sq _ ts rfl rfl p)
      | lst ts => exact .inl (sq _ ts rfl rfl p)
      | frz ts => exact .inl (sq _ ts rfl rfl p)
      | _ => exact p.elim
theorem de_len (hm : X.mg "len" = none) (ha : PA X [e] (rdA X.K m)) (hg : Gl X "len" := by rfl) (he : starEach [e] X.env = (false, eval e X.env) :: starEach [] X.env := by rfl) (hpl : (backTo pos (starEach [] X.env)).any (·.1) = false := by rfl) : PE X (.Call (.Name "len" p) [e] [] pos) (rdE X.K (mCall sLen m)) :=
  de_callB (call_len_seq.or call_lenD) opLen hm PySem.boot_len ha hg (by decide) (by decide) he hpl
def sAbs : SC := fun ds w => match ds with
  | [.int i] => .ok (.int (if i < 0 then -i else i)) w
  | _ => .no
theorem de_abs (hm : X.mg "abs" = none) (ha : PA X [e] (rdA X.K m)) (hg : Gl X "abs" := by rfl) (he : starEach [e] X.env = (false, eval e X.env) :: starEach [] X.env := by rfl) (hpl : (backTo pos (starEach [] X.env)).any (·.1) = false := by rfl) : PE X (.Call (.Name "abs" p) [e] [] pos) (rdE X.K (mCall sAbs m)) :=
  de_callB call_abs (fun hd φ H w ds xs Q wr rx p => by
    match ds, p with
    | [.int i], p => obtain ⟨v, rfl, r⟩ := reps1 rx; cases rep_int r; exact ⟨i, rfl, p.int wr⟩) hm (by decide +kernel) ha hg (by decide) (by decide) he hpl
def s2i (g : Int → Int → Int) : SC := fun ds w => match ds with
  | [.int i, .int j] => .ok (.int (g i j)) w
  | _ => .no
theorem op2i {g : Int → Int → Int} : OpC K (s2i g) (fun xs H Q => ∃ i j, xs = [.int i, .int j] ∧ Q (.int (g i j)) H) := fun hd φ H w ds xs Q wr rx p => by
  match ds, p with
  | [.int i, .int j], p => obtain ⟨v, u, rfl, r1, r2⟩ := reps2 rx; cases rep_int r1; cases rep_int r2; exact ⟨i, j, rfl, p.int wr⟩
def sMax2 : SC := s2i fun i j => if j > i then j else i
def sMin2 : SC := s2i fun i j => if j < i then j else i
theorem de_max2 (hc : X.calm = true) (hm : X.mg "max" = none) (ha : PA X [e, e2] (rdA X.K m)) (hg : Gl X "max" := by rfl) (he : starEach [e, e2] X.env = (false, eval e X.env) :: starEach [e2] X.env := by rfl) (hpl : (backTo pos (starEach [e2] X.env)).any (·.1) = false := by rfl) : PE X (.Call (.Name "max" p) [e, e2] [] pos) (rdE X.K (mCall sMax2 m)) :=
  de_callB (call_max2 hc) op2i hm (by decide +kernel) ha hg (by decide) (by decide) he hpl
theorem de_min2 (hc : X.calm = true) (hm : X.mg "min" = none) (ha : PA X [e, e2] (rdA X.K m)) (hg : Gl X "min" := by rfl) (he : starEach [e, e2] X.env = (false, eval e X.env) :: starEach [e2] X.env := by rfl) (hpl : (backTo pos (starEach [e2] X.env)).any (·.1) = false := by rfl) : PE X (.Call (.Name "min" p) [e, e2] [] pos) (rdE X.K (mCall sMin2 m)) :=
  de_callB (call_min2 hc) op2i hm (by decide +kernel) ha hg (by decide) (by decide) he hpl
def sInt : SC := fun ds w => match ds with
  | [.int i] => .ok (.int i) w
  | [.bl k] => .ok (.int (if k then 1 else 0)) w
  | _ => .no
theorem de_int1 (hm : X.mg "int" = none) (ha : PA X [e] (rdA X.K m)) (hg : Gl X "int" := by rfl) (he : starEach [e] X.env = (false, eval e X.env) :: starEach [] X.env := by rfl) (hpl : (backTo pos (starEach [] X.env)).any (·.1) = false := by rfl) : PE X (.Call (.Name "int" p) [e] [] pos) (rdE X.K (mCall sInt m)) :=
  de_callTy call_int1 (fun hd φ H w ds xs Q wr rx p => by
    match ds, p with
    | [.int i], p => obtain ⟨v, rfl, r⟩ := reps1 rx; cases rep_int r; exact .inl ⟨i, rfl, p.int wr⟩
    | [.bl k], p => obtain ⟨v, rfl, r⟩ := reps1 rx; unfold Rep at r; subst r; exact .inr ⟨k, rfl, p.int wr⟩) hm (by decide +kernel) ha hg (by decide) (by decide) he hpl
def sList : SCF := fun ds w => match ds with
  | [t] => match seq? w t with
    | some ts => .ok ts w
    | none => .no
  | _ => .no
theorem df_list (hm : X.mg "list" = none) (ha : PA X [e] (rdA X.K m)) (hg : Gl X "list" := by rfl) (he : starEach [e] X.env = (false, eval e X.env) :: starEach [] X.env := by rfl) (hpl : (backTo pos (starEach [] X.env)).any (·.1) = false := by rfl) : PE X (.Call (.Name "list" p) [e] [] pos) (rdF X.K (mCallF sList m)) :=
  df_callTy call_list_of (fun hd φ H w ds xs Q wr rx p => by
    match ds, p with
    | [t], p =>
      unfold sList at p
      simp only at p
      cases q : seq? w t with
      | none => rw [q] at p; exact p.elim
      | some ts =>
        rw [q] at p
        obtain ⟨v, rfl, r⟩ := reps1 rx
        obtain ⟨a, xs, rfl, h1, h2⟩ := seq_at wr r q
        exact ⟨a, xs, rfl, h1, p.new wr h2⟩) hm (by decide +kernel) ha hg (by decide) (by decide) he hpl
def sTup : SC := fun ds w => match ds with
  | [t] => match seq? w t with
    | some ts => .ok (.tup ts) w
    | none => .no
  | _ => .no
theorem de_tuple (hm : X.mg "tuple" = none) (ha : PA X [e] (rdA X.K m)) (hg : Gl X "tuple" := by rfl) (he : starEach [e] X.env = (false, eval e X.env) :: starEach [] X.env := by rfl) (hpl : (backTo pos (starEach [] X.env)).any (·.1) = false := by rfl) : PE X (.Call (.Name "tuple" p) [e] [] pos) (rdE X.K (mCall sTup m)) :=
  de_callTy call_tuple_of (fun hd φ H w ds xs Q wr rx p => by
    match ds, p with
    | [t], p =>
      unfold sTup at p
      simp only at p
      cases q : seq? w t with
      | none => rw [q] at p; exact p.elim
      | some ts =>
        rw [q] at p
        obtain ⟨v, rfl, r⟩ := reps1 rx
        have r' := r
        cases t with
        | tup us =>
          cases q
          unfold Rep at r
          obtain ⟨a, xs, rfl, n, rs⟩ := r
          exact ⟨a, xs, rfl, .inr ⟨SqT.of n.1, p.ok wr _ r'⟩⟩
        | lst us =>
          cases q
          unfold Rep at r
          obtain ⟨a, xs, rfl, n, rs⟩ := r
          exact ⟨a, xs, rfl, .inl ⟨SqL.of n.1, p.tup wr rs⟩⟩
        | frz us =>
          cases q
          unfold Rep at r
          obtain ⟨a, xs, rfl, n, rs⟩ := r
          exact ⟨a, xs, rfl, .inl ⟨frz_sq n, p.tup wr rs⟩⟩
        | cell k =>
          unfold seq? at q
          simp only at q
          split at q
          · rename_i us hk
            cases q
            obtain ⟨a, rfl, _, _, xs, h1, h2⟩ := cell_at wr r hk
            exact ⟨a, xs, rfl, .inl ⟨SqL.of h1, p.tup wr h2⟩⟩
          · cases q
        | _ => cases q) hm (by decide +kernel) ha hg (by decide) (by decide) he hpl
def blsT : List T → Option (List Bool)
  | [] => some []
  | .bl b :: ts => (blsT ts).map (b :: ·)
  | _ :: _ => none
theorem bls_at : ∀ {ts : List T} {vs : List V} {bs : List Bool}, Reps K hd φ H ts vs → blsT ts = some bs → vs = bs.map V.bl
  | [], vs, bs, r, h => by cases h; unfold Reps at r; exact r
  | .bl b :: ts, vs, bs, r, h => by
    unfold Reps at r
    obtain ⟨x, xs, rfl, r1, r2⟩ := r
    unfold Rep at r1
    subst r1
    obtain ⟨cs, h1, rfl⟩ := map_some h
    rw [bls_at r2 h1]
    rfl
  | .non :: ts, vs, bs, r, h => by cases h
  | .int _ :: ts, vs, bs, r, h => by cases h
  | .str _ :: ts, vs, bs, r, h => by cases h
  | .ty _ :: ts, vs, bs, r, h => by cases h
  | .tup _ :: ts, vs, bs, r, h => by cases h
  | .lst _ :: ts, vs, bs, r, h => by cases h
  | .frz _ :: ts, vs, bs, r, h => by cases h
  | .rng _ :: ts, vs, bs, r, h => by cases h
  | .cell _ :: ts, vs, bs, r, h => by cases h
def sAll : SC := fun ds w => match ds with
  | [t] => match lst? w t with
    | some ts => match blsT ts with
      | some bs => .ok (.bl (bs.all id)) w
      | none => .no
    | none => .no
  | _ => .no
def sAny : SC := fun ds w => match ds with
  | [t] => match lst? w t with
    | some ts => match blsT ts with
      | some bs => .ok (.bl (bs.any id)) w
      | none => .no
    | none => .no
  | _ => .no
theorem de_all (hc : X.calm = true) (hm : X.mg "all" = none) (ha : PA X [e] (rdA X.K m)) (hg : Gl X "all" := by rfl) (he : starEach [e] X.env = (false, eval e X.env) :: starEach [] X.env := by rfl) (hpl : (backTo pos (starEach [] X.env)).any (·.1) = false := by rfl) : PE X (.Call (.Name "all" p) [e] [] pos) (rdE X.K (mCall sAll m)) :=
  de_callB (cr_all hc) (fun hd φ H w ds xs Q wr rx p => by
    match ds, p with
    | [t], p =>
      unfold sAll at p
      simp only at p
      cases q : lst? w t with
      | none => rw [q] at p; exact p.elim
      | some ts =>
        cases q2 : blsT ts with
        | none => simp only [q, q2] at p; exact p.elim
        | some bs =>
          simp only [q, q2] at p
          obtain ⟨v, rfl, r⟩ := reps1 rx
          obtain ⟨a, xs, rfl, h1, h2⟩ := lst_at wr r q
          have e := bls_at h2 q2
          subst e
          exact ⟨a, bs, rfl, SqL.of h1, p.bl wr⟩) hm (by decide +kernel) ha hg (by decide) (by decide) he hpl
theorem de_any (hc : X.calm = true) (hm : X.mg "any" = none) (ha : PA X [e] (rdA X.K m)) (hg : Gl X "any" := by rfl) (he : starEach [e] X.env = (false, eval e X.env) :: starEach [] X.env := by rfl) (hpl : (backTo pos (starEach [] X.env)).any (·.1) = false := by rfl) : PE X (.Call (.Name "any" p) [e] [] pos) (rdE X.K (mCall sAny m)) :=
  de_callB (cr_any hc) (fun hd φ H w ds xs Q wr rx p => by
    match ds, p with
    | [t], p =>
      unfold sAny at p
      simp only at p
      cases q : lst? w t with
      | none => rw [q] at p; exact p.elim
      | some ts =>
        cases q2 : blsT ts with
        | none => simp only [q, q2] at p; exact p.elim
        | some bs =>
          simp only [q, q2] at p
          obtain ⟨v, rfl, r⟩ := reps1 rx
          obtain ⟨a, xs, rfl, h1, h2⟩ := lst_at wr r q
          have e := bls_at h2 q2
          subst e
          exact ⟨a, bs, rfl, SqL.of h1, p.bl wr⟩) hm (by decide +kernel) ha hg (by decide) (by decide) he hpl
/-! ### isinstance -/
def kindT (w : World) : T → Option String
  | .non => some "NoneType"
  | .bl _ => some "bool"
  | .int _ => some "int"
  | .str _ => some "str"
  | .tup _ => some "tuple"
  | .lst _ => some "list"
  | .cell k => match w[k]? with
    | some (.lst _) => some "list"
    | some _ => some "dict"
    | none => none
  | _ => none
def kinds : List String := ["NoneType", "bool", "int", "str", "tuple", "list", "dict"]
def isiB (a n : String) : Bool := a == n || (a == "bool" && n == "int")
theorem kit_tab : ∀ a ∈ kinds, ∀ n ∈ kinds, kitB a n = some (isiB a n) := by decide +kernel
theorem kindT_mem {t : T} {a : String} (h : kindT w t = some a) : a ∈ kinds := by
  unfold kindT at h
  split at h <;> first | (cases h; decide) | (split at h <;> first | (cases h; decide) | cases h) | cases h
theorem kind_at (wr : WR K hd φ H w) {t : T} {v : V} {a : String} (r : Rep K hd φ H t v) (h : kindT w t = some a) : TyX K H v (.type a) := by
  cases t with
  | non => cases h; unfold Rep at r; subst r; exact .base .non
  | bl b => cases h; unfold Rep at r; subst r; exact .base (.bl b)
  | int i => cases h; unfold Rep at r; subst r; exact .base (.int i)
  | str i => cases h; unfold Rep at r; subst r; exact .base (.str i)
  | tup ts => cases h; unfold Rep at r; obtain ⟨l, xs, rfl, n, _⟩ := r; exact .base (.tup n.1)
  | lst ts => cases h; unfold Rep at r; obtain ⟨l, xs, rfl, n, _⟩ := r; exact .base (.lst n.1)
  | cell k =>
    unfold kindT at h
    simp only at h
    cases q : w[k]? with
    | none => rw [q] at h; cases h
    | some c =>
      rw [q] at h
      cases c with
      | lst ts => cases h; obtain ⟨l, rfl, _, _, xs, h1, _⟩ := cell_at wr r q; exact .base (.lst h1)
      | dic kvs => cases h; obtain ⟨l, rfl, _, _, xs, h1, _⟩ := cell_at wr r q; exact .base (.dK h1)
      | dit kvs => cases h; obtain ⟨l, rfl, _, _, xs, h1, _⟩ := cell_at wr r q; exact .base (.dT h1)
  | _ => cases h
def tysT : List T → Option (List String)
  | [] => some []
  | .ty n :: ts => (tysT ts).map (n :: ·)
  | _ :: _ => none
def sIsi : SC := fun ds w => match ds with
  | [t, .ty n] => match kindT w t with
    | some a => if n ∈ kinds then .ok (.bl (isiB a n)) w else .no
    | none => .no
  | [t, .tup ts] => match kindT w t, tysT ts with
    | some a, some ns => if ∀ n ∈ ns, n ∈ kinds then .ok (.bl (ns.any fun n => isiB a n)) w else .no
    | _, _ => .no
  | _ => .no
theorem tys_at : ∀ {ts : List T} {vs : List V} {ns : List String}, Reps K hd φ H ts vs → tysT ts = some ns → vs = ns.map V.ty
  | [], vs, bs, r, h => by cases h; unfold Reps at r; exact r
  | .ty b :: ts, vs, bs, r, h => by
    unfold Reps at r
    obtain ⟨x, xs, rfl, r1, r2⟩ := r
    unfold Rep at r1
    subst r1
    obtain ⟨cs, h1, rfl⟩ := map_some h
    rw [tys_at r2 h1]
    rfl
  | .non :: ts, vs, bs, r, h => by cases h
  | .int _ :: ts, vs, bs, r, h => by cases h
  | .str _ :: ts, vs, bs, r, h => by cases h
  | .bl _ :: ts, vs, bs, r, h => by cases h
  | .tup _ :: ts, vs, bs, r, h => by cases h
  | .lst _ :: ts, vs, bs, r, h => by cases h
  | .frz _ :: ts, vs, bs, r, h => by cases h
  | .rng _ :: ts, vs, bs, r, h => by cases h
  | .cell _ :: ts, vs, bs, r, h => by cases h
theorem kit_any {a : String} (ha : a ∈ kinds) : ∀ {ns : List String}, (∀ n ∈ ns, n ∈ kinds) → PySem.W.kitAny K (.type a) (ns.map Value.type) = some (ns.any fun n => isiB a n)
  | [], _ => kitAny_nil
  | n :: ns, h => by
    have h1 := kit_ty (K := K) (kit_tab a ha n (h n List.mem_cons_self))
    have h2 := kit_any ha fun m hm => h m (List.mem_cons_of_mem _ hm)
    refine kitAny_cons h1 (fun e => ?_) (fun e => ?_)
    · rw [h2, List.any_cons, e, Bool.false_or]
    · rw [List.any_cons, e, Bool.true_or]
theorem cls_all : ∀ ns : List String, Paired ClsV (ns.map V.ty) (ns.map Value.type)
  | [] => .nil
  | n :: ns => .cons (.ty n) (cls_all ns)
theorem opIsi : OpC K sIsi (fun xs H Q => rIsi K xs H Q ∨ rIsiT K xs H Q) := fun hd φ H w ds xs Q wr rx p => by
  match ds, p with
  | [t, .ty n], p =>
    unfold sIsi at p
    simp only at p
    cases q : kindT w t with
    | none => rw [q] at p; exact p.elim
    | some a =>
      rw [q] at p
      simp only at p
      split at p
      · rename_i hn
        obtain ⟨v, u, rfl, r1, r2⟩ := reps2 rx
        unfold Rep at r2
        subst r2
        exact .inl ⟨v, .ty n, .type a, .type n, isiB a n, rfl, .ty n, kind_at wr r1 q, kit_ty (kit_tab a (kindT_mem q) n hn), p.bl wr⟩
      · exact p.elim
  | [t, .tup ts], p =>
    unfold sIsi at p
    simp only at p
    cases q : kindT w t with
    | none => simp only [q] at p; exact p.elim
    | some a =>
      cases q2 : tysT ts with
      | none => simp only [q, q2] at p; exact p.elim
      | some ns =>
        simp only [q, q2] at p
        split at p
        · rename_i hn
          obtain ⟨v, u, rfl, r1, r2⟩ := reps2 rx
          unfold Rep at r2
          obtain ⟨l, ys, rfl, n2, r3⟩ := r2
          have e := tys_at r3 q2
          subst e
          exact .inr ⟨v, l, ns.map V.ty, .type a, ns.map Value.type, _, rfl, n2.1, cls_all ns, kind_at wr r1 q, kit_any (kindT_mem q) hn, p.bl wr⟩
        · exact p.elim
theorem de_isi (hm : X.mg "isinstance" = none) (ha : PA X [e, e2] (rdA X.K m)) (hg : Gl X "isinstance" := by rfl) (he : starEach [e, e2] X.env = (false, eval e X.env) :: starEach [e2] X.env := by rfl) (hpl : (backTo pos (starEach [e2] X.env)).any (·.1) = false := by rfl) : PE X (.Call (.Name "isinstance" p) [e, e2] [] pos) (rdE X.K (mCall sIsi m)) :=
  de_callB (call_isi.or call_isiT) opIsi hm (by decide +kernel) ha hg (by decide) (by decide) he hpl
end
end VS

set_option Elab.async false
set_option linter.all false
set_option maxRecDepth 100000
set_option maxHeartbeats 2000000
namespace VS
open PySem PySem.Spec PyProof.Rows L2
section
variable {X : Cx} {K : PySem.W.Frag} {hd φ : List Addr} {H : Hp} {w : World} {a b o e : Expr} {es : List Expr} {pos : Pos} {ma mb mo : ME} {m : MF}
theorem reps_rg (lo : Int) (n : Nat) : Reps K hd φ H (rgT lo n) ((List.range n).map fun i => V.int (lo + (i : Nat))) := by
  unfold rgT
  refine Reps.iff.mpr ⟨by simp, fun i t x h1 h2 => ?_⟩
  rw [List.getElem?_map] at h1 h2
  cases q : (List.range n)[i]? with
  | none => rw [q] at h1; cases h1
  | some j => rw [q] at h1 h2; cases h1; cases h2; unfold Rep; rfl
instance {i j : Int} : Decidable (L2.RgOk i j) := by unfold L2.RgOk; infer_instance
def mLRg1 (m : ME) : MF := fun ρ w => (m ρ w).bind fun t w1 => match t with
  | .int n => if L2.RgOk 0 n then .ok (rgT 0 n.toNat) w1 else .no
  | _ => .no
theorem df_listRg1 {p p2 q2 : Pos} (hc : X.calm = true) (hm : X.mg "list" = none) (hm2 : X.mg "range" = none) (ha : PE X a (rdE X.K ma)) (hg : Gl X "list" := by rfl) (hg2 : Gl X "range" := by rfl) (na : starEach [a] X.env = (false, eval a X.env) :: starEach [] X.env := by rfl)
    (na2 : starEach [.Call (.Name "range" p2) [a] [] q2] X.env = (false, eval (.Call (.Name "range" p2) [a] [] q2) X.env) :: starEach [] X.env := by rfl) : PE X (.Call (.Name "list" p) [.Call (.Name "range" p2) [a] [] q2] [] pos) (rdF X.K (mLRg1 ma)) := PE_imp (pe_listRg hc hg hm (prg_1 hg2 hm2 ha na) na2) fun σ H Q => by
  rintro ⟨hd, φ, ρ, w, sr, wr, p⟩
  refine ⟨hd, φ, ρ, w, sr, wr, Pst.then isPstF p fun d w1 φ1 H1 e1 wr1 p1 v rv => ?_⟩
  cases d with
  | int n =>
    cases rep_int rv
    simp only at p1
    split at p1
    · rename_i ok
      refine ⟨n, rfl, ok, fun q hq => p1.new wr1 ?_ q hq⟩
      have := reps_rg (K := X.K) (hd := hd) (φ := φ1) (H := H1) 0 n.toNat
      unfold rgV
      rw [Int.sub_zero]
      exact this
    · exact p1.elim
  | _ => exact p1.elim
def mLRg2 (m m2 : ME) : MF := fun ρ w => (m ρ w).bind fun t w1 => (m2 ρ w1).bind fun u w2 => match t, u with
  | .int i, .int j => if L2.RgOk i j then .ok (rgT i (j - i).toNat) w2 else .no
  | _, _ => .no
theorem df_listRg2 {p p2 q2 : Pos} (hc : X.calm = true) (hm : X.mg "list" = none) (hm2 : X.mg "range" = none) (ha : PE X a (rdE X.K ma)) (hb : PE X b (rdE X.K mb)) (hg : Gl X "list" := by rfl) (hg2 : Gl X "range" := by rfl) (na : starEach [a, b] X.env = (false, eval a X.env) :: starEach [b] X.env := by rfl) (nb : starEach [b] X.env = (false, eval b X.env) :: starEach [] X.env := by rfl) (hp2 : (backTo q2 (starEach [b] X.env)).any (·.1) = false := by rfl)
    (na2 : starEach [.Call (.Name "range" p2) [a, b] [] q2] X.env = (false, eval (.Call (.Name "range" p2) [a, b] [] q2) X.env) :: starEach [] X.env := by rfl) : PE X (.Call (.Name "list" p) [.Call (.Name "range" p2) [a, b] [] q2] [] pos) (rdF X.K (mLRg2 ma mb)) := PE_imp (pe_listRg hc hg hm (prg_2 hg2 hm2 ha hb na nb hp2) na2) fun σ H Q => by
  rintro ⟨hd, φ, ρ, w, sr, wr, p⟩
  refine ⟨hd, φ, ρ, w, sr, wr, Pst.then isPstF p fun d w1 φ1 H1 e1 wr1 p1 v rv => ?_⟩
  refine ⟨hd, φ1, ρ, w1, sr.mono e1, wr1, Pst.then isPstF p1 fun d2 w2 φ2 H2 e2 wr2 p2 v2 rv2 => ?_⟩
  cases d with
  | int i =>
    cases d2 with
    | int j =>
      cases rep_int rv
      cases rep_int rv2
      simp only at p2
      split at p2
      · rename_i ok
        exact ⟨i, j, rfl, rfl, ok, fun q hq => p2.new wr2 (reps_rg i (j - i).toNat) q hq⟩
      · exact p2.elim
    | _ => exact p2.elim
  | _ => exact p2.elim

/-! ### methods of lists -/
abbrev SM := T → List T → World → R T
def OpM (K : PySem.W.Frag) (s : SM) (r : V → List V → Hp → VK → Prop) : Prop := ∀ hd φ H w d ds x xs Q, WR K hd φ H w → Rep K hd φ H d x → Reps K hd φ H ds xs → Pst K hd (CE K hd Q) φ H (s d ds w) → r x xs H Q
def mMeth (s : SM) (o : ME) (m : MF) : ME := fun ρ w => (o ρ w).bind fun d w1 => match lst? w1 d with
  | some _ => (m ρ w1).bind fun ds w2 => s d ds w2
  | none => .no
theorem meth_read {s : SM} {r : V → List V → Hp → VK → Prop} (hs : OpM K s r) : ∀ σ H Q, rdE K (mMeth s mo m) σ H Q → tBM K "list" r (rdE K mo) (rdA K m) σ H Q := fun σ H Q => by
  rintro ⟨hd, φ, ρ, w, sr, wr, p⟩
  refine ⟨hd, φ, ρ, w, sr, wr, Pst.then isPst p fun d w1 φ1 H1 e1 wr1 p1 x rx => ?_⟩
  cases q : lst? w1 d with
  | none => rw [q] at p1; exact p1.elim
  | some ts =>
    rw [q] at p1
    obtain ⟨l, xs, e, h1, h2⟩ := lst_at wr1 rx q
    refine ⟨by rw [e]; exact .inl ⟨rfl, xs, SqL.of h1⟩, hd, φ1, ρ, w1, sr.mono e1, wr1, Pst.then isPst p1 fun ds w2 φ2 H2 e2 wr2 p2 vs rvs => ?_⟩
    exact hs hd φ2 H2 w2 d ds x vs Q wr2 (rx.mono e2) rvs p2
/-- a cell that is a list, written -/
theorem Pst.write {Q : VK} {k : Nat} {l : Addr} {xs ys : List V} {us : List T} {t : T} {v : V} (wr : WR K hd φ H w) (hk : φ[k]? = some l) (rs : Reps K hd φ H us ys) (rt : Rep K hd φ H t v)
    (p : Pst K hd (CE K hd Q) φ H (.ok t (w.set k (.lst us)))) : Q v (upd H l (.lst ys)) := by
  have e : Ext hd φ H hd φ (upd H l (.lst ys)) := Ext.write (List.mem_of_getElem? hk)
  exact p _ _ e (wr.write hk ⟨ys, upd_same, rs.mono e⟩) _ (rt.mono e)
def sAppend : SM := fun d ds w => match d, ds with
  | .cell k, [t] => match w[k]? with
    | some (.lst ts) => if ts.length < sizeLine then .ok .non (w.set k (.lst (ts ++ [t]))) else .no
    | _ => .no
  | _, _ => .no
theorem opAppend : OpM K sAppend rAppend := fun hd φ H w d ds x xs Q wr rx rxs p => by
  cases d with
  | cell k =>
    cases ds with
    | nil => exact p.elim
    | cons t r =>
      cases r with
      | cons _ _ => exact p.elim
      | nil =>
        unfold sAppend at p
        simp only at p
        cases q : w[k]? with
        | none => rw [q] at p; exact p.elim
        | some c =>
          rw [q] at p
          cases c with
          | lst ts =>
            simp only at p
            split at p
            · rename_i hl
              obtain ⟨l, rfl, hk, _, ys, h1, h2⟩ := cell_at wr rx q
              obtain ⟨v, rfl, rt⟩ := reps1 rxs
              exact ⟨l, ys, v, rfl, rfl, h1, by rw [← h2.len]; exact hl, Pst.write (xs := ys) wr hk (h2.append (Reps.cons rt Reps.nil)) (by unfold Rep; rfl) p⟩
            · exact p.elim
          | _ => exact p.elim
  | _ => exact p.elim
theorem de_append {apos : Pos} (ho : PE X o (rdE X.K mo)) (ha : PA X [e] (rdA X.K m))
    (hbase : attributeBase o "append" X.env (eval o X.env) = eval o X.env := by rfl) (hline : (apos.endLine == pos.line) = true := by rfl)
    (hfew : ((backTo pos (starEach [e] X.env)).all (fun x => !x.1) && (backToKw pos (keywordEach [] X.env)).all (fun x => x.1.isSome)
      && decide (([e] : List Expr).length + ([] : List Keyword).length + (if ([] : List Keyword).isEmpty then 0 else 1) < 30)) = true := by rfl)
    (hs : starEach [e] X.env = (false, eval e X.env) :: starEach [] X.env := by rfl) (hplain : (backTo pos (starEach [] X.env)).any (·.1) = false := by rfl) :
    PE X (.Call (.Attribute o "append" apos) [e] [] pos) (rdE X.K (mMeth sAppend mo m)) :=
  PE_imp (pe_bm PySem.F.plainAttrs_list PySem.F.slot_list_append PySem.F.type_list_append mt_append ho ha hbase hfew hline hs hplain) (meth_read opAppend)
def sPopAt : SM := fun d ds w => match d, ds with
  | .cell k, [.int i] => match w[k]? with
    | some (.lst ts) => if -(2 ^ 63) ≤ i ∧ i < 2 ^ 63 then match seqIndex? i ts.length with
        | some j => match ts[j]? with
          | some t => .ok t (w.set k (.lst (ts.eraseIdx j)))
          | none => .no
        | none => .no
      else .no
    | _ => .no
  | _, _ => .no
theorem opPopAt : OpM K sPopAt rPopAt := fun hd φ H w d ds x xs Q wr rx rxs p => by
  cases d with
  | cell k =>
    cases ds with
    | nil => exact p.elim
    | cons t r =>
      cases r with
      | cons _ _ => cases t <;> exact p.elim
      | nil =>
        cases t with
        | int i =>
          unfold sPopAt at p
          simp only at p
          cases q : w[k]? with
          | none => rw [q] at p; exact p.elim
          | some c =>
            rw [q] at p
            cases c with
            | lst ts =>
              simp only at p
              split at p
              · rename_i hl
                obtain ⟨l, rfl, hk, _, ys, h1, h2⟩ := cell_at wr rx q
                obtain ⟨v, rfl, rt⟩ := reps1 rxs
                cases rep_int rt
                cases q2 : seqIndex? i ts.length with
                | none => rw [q2] at p; exact p.elim
                | some j =>
                  rw [q2] at p
                  simp only at p
                  cases q3 : ts[j]? with
                  | none => rw [q3] at p; exact p.elim
                  | some t =>
                    rw [q3] at p
                    obtain ⟨y, h3, h4⟩ := h2.at q3
                    exact ⟨l, ys, i, j, y, rfl, rfl, h1, hl.1, hl.2, by rw [← h2.len]; exact q2, h3, Pst.write (xs := ys) wr hk (h2.eraseIdx j) h4 p⟩
              · exact p.elim
            | _ => exact p.elim
        | _ => exact p.elim
  | _ => exact p.elim
theorem de_popAt {apos : Pos} (ho : PE X o (rdE X.K mo)) (ha : PA X [e] (rdA X.K m))
    (hbase : attributeBase o "pop" X.env (eval o X.env) = eval o X.env := by rfl) (hline : (apos.endLine == pos.line) = true := by rfl)
    (hfew : ((backTo pos (starEach [e] X.env)).all (fun x => !x.1) && (backToKw pos (keywordEach [] X.env)).all (fun x => x.1.isSome)
      && decide (([e] : List Expr).length + ([] : List Keyword).length + (if ([] : List Keyword).isEmpty then 0 else 1) < 30)) = true := by rfl)
    (hs : starEach [e] X.env = (false, eval e X.env) :: starEach [] X.env := by rfl) (hplain : (backTo pos (starEach [] X.env)).any (·.1) = false := by rfl) :
    PE X (.Call (.Attribute o "pop" apos) [e] [] pos) (rdE X.K (mMeth sPopAt mo m)) :=
  PE_imp (pe_bm PySem.F.plainAttrs_list PySem.F.slot_list_pop PySem.F.type_list_pop mt_popAt ho ha hbase hfew hline hs hplain) (meth_read opPopAt)

/-! ### o[i] = v -/
def rSetD : TSet := fun o i v H Q => ∃ a H', o = .ref a ∧ DPut H a i v H' ∧ Q H'
theorem set_dict (hu : X.A.units + 1 < cLine) : PSet X rSetD := by
  intro pins s σ H o i v ov iv u Q I ro ri rv h
  obtain ⟨a, H', rfl, g, q⟩ := h
  obtain rfl : ov = Value.ref a := ro
  exact d_setItem hu I g ri rv fun s' I' => ⟨H', I', q⟩
theorem PSet.or {t t' : TSet} (h : PSet X t) (h' : PSet X t') : PSet X (fun o i v H Q => t o i v H Q ∨ t' o i v H Q) := by
  intro pins s σ H o i v ov iv u Q I ro ri rv q
  rcases q with q | q
  · exact h pins s σ H o i v ov iv u Q I ro ri rv q
  · exact h' pins s σ H o i v ov iv u Q I ro ri rv q
def sSet : S3 := fun o i t w => match o with
  | .cell k => match w[k]? with
    | some (.lst ts) => match i with
      | .int n => match ixN ts.length n with
        | some j => .ok () (w.set k (.lst (ts.set j t)))
        | none => .no
      | _ => .no
    | some (.dic kvs) => match keyT i with
      | some key => if kvs.length < sizeLine then .ok () (w.set k (.dic (putT kvs key t))) else .no
      | none => .no
    | some (.dit kvs) => match i with
      | .tup us => match keysT us with
        | some key => if kvs.length < sizeLine then .ok () (w.set k (.dit (putT kvs key t))) else .no
        | none => .no
      | _ => .no
    | none => .no
  | _ => .no
theorem opSet : OpSet K sSet (fun o i v H Q => rSetL o i v H Q ∨ rSetD o i v H Q) := fun hd φ H w d1 d2 d3 x y z Q wr r1 r2 r3 p => by
  cases d1 with
  | cell k =>
    unfold sSet at p
    simp only at p
    cases q : w[k]? with
    | none => rw [q] at p; exact p.elim
    | some c =>
      rw [q] at p
      cases c with
      | lst ts =>
        cases d2 with
        | int n =>
          cases rep_int r2
          simp only at p
          cases q2 : ixN ts.length n with
          | none => rw [q2] at p; exact p.elim
          | some j =>
            rw [q2] at p
            obtain ⟨l, rfl, hk, hm, ys, h1, h2⟩ := cell_at wr r1 q
            have e : Ext hd φ H hd φ (upd H l (.lst (ys.set j z))) := Ext.write hm
            exact .inl ⟨l, ys, n, j, rfl, rfl, h1, by rw [← h2.len]; exact q2, p _ _ e (wr.write hk ⟨_, upd_same, (h2.set r3 j).mono e⟩)⟩
        | _ => exact p.elim
      | dic kvs =>
        simp only at p
        cases q2 : keyT d2 with
        | none => rw [q2] at p; exact p.elim
        | some key =>
          rw [q2] at p
          simp only at p
          split at p
          · rename_i hl
            obtain ⟨l, rfl, hk, hm, ys, h1, h2, h3⟩ := cell_at wr r1 q
            have e : Ext hd φ H hd φ (upd H l (.dK (putK ys key z))) := Ext.write hm
            have hlen : ys.length = kvs.length := by simpa using congrArg List.length h2
            obtain ⟨g1, g2⟩ := putT_at h2 h3 key r3
            rw [key_at r2 q2]
            exact .inr ⟨l, _, rfl, DPut.k h1 (by rw [hlen]; exact hl), p _ _ e (wr.write hk ⟨_, upd_same, g1, g2.mono e⟩)⟩
          · exact p.elim
      | dit kvs =>
        cases d2 with
        | tup us =>
          simp only at p
          cases q2 : keysT us with
          | none => rw [q2] at p; exact p.elim
          | some key =>
            rw [q2] at p
            simp only at p
            split at p
            · rename_i hl
              obtain ⟨l, rfl, hk, hm, ys, h1, h2, h3⟩ := cell_at wr r1 q
              have e : Ext hd φ H hd φ (upd H l (.dT (putK ys key z))) := Ext.write hm
              have hlen : ys.length = kvs.length := by simpa using congrArg List.length h2
              obtain ⟨g1, g2⟩ := putT_at h2 h3 key r3
              unfold Rep at r2
              obtain ⟨m, zs, rfl, n, rz⟩ := r2
              have e' := keys_at rz q2
              subst e'
              exact .inr ⟨l, _, rfl, DPut.t h1 n.1 (by rw [hlen]; exact hl), p _ _ e (wr.write hk ⟨_, upd_same, g1, g2.mono e⟩)⟩
            · exact p.elim
        | _ => exact p.elim
  | _ => exact p.elim
theorem dg_item (hu : X.A.units + 1 < cLine) {i : Expr} {mi : ME} (ho : PE X o (rdE X.K mo)) (hi : PE X i (rdE X.K mi))
    (ha : ∀ v, assign (.Subscript o i pos) X.env v = (do
      let ov ← holding [v] (eval o X.env)
      let iv ← holding [v, ov] (eval i X.env)
      standAt pos
      holding [v, ov, iv] (setItem ov iv v)
      release [v, ov, iv] []) := by exact fun _ => rfl) : PG X (.Subscript o i pos) (rdG X.K (mgSub sSet mo mi) []) := dg_sub ho hi (PSet.or set_list (set_dict hu)) opSet ha

/-! ### {} and {k: v, ..} -/
/-- a dict held apart becomes a cell -/
def mDict0 : ME := fun _ w => .ok (.cell w.length) (w ++ [.dic []])
def mDictT0 : ME := fun _ w => .ok (.cell w.length) (w ++ [.dit []])
theorem new_cell {Q : VK} {o : HO} {c : Cell} (wr : WR K hd φ H w) (p : Pst K hd (CE K hd Q) φ H (.ok (.cell w.length) (w ++ [c]))) (hc : ∀ l, H l = none → CellR K (l :: hd) φ (upd H l o) c l) : ∀ l, H l = none → Q (.ref l) (upd H l o) := fun l hl => by
  refine p _ (φ ++ [l]) ((Ext.hold hl).cell hl) ((wr.hold hl).cell (wr.nin hl).2 (hc l hl)) _ ?_
  unfold Rep
  refine ⟨l, rfl, ?_⟩
  rw [← wr.len, List.getElem?_append_right (Nat.le_refl _)]
  simp
theorem de_dict0 : PE X (.Dict [] [] pos) (rdE X.K mDict0) := PE_imp pe_dnewK fun σ H Q => by
  rintro ⟨hd, φ, ρ, w, sr, wr, p⟩
  exact new_cell wr p fun l hl => ⟨[], upd_same, rfl, Reps.nil⟩
theorem de_dictT0 : PE X (.Dict [] [] pos) (rdE X.K mDictT0) := PE_imp pe_dnewT fun σ H Q => by
  rintro ⟨hd, φ, ρ, w, sr, wr, p⟩
  exact new_cell wr p fun l hl => ⟨[], upd_same, rfl, Reps.nil⟩
/-- the pairs of a display: keys are written texts or ints -/
abbrev MPs := Env → World → R (List (Key × T))
def mpNil : MPs := fun _ w => .ok [] w
def mpCons (k v : ME) (r : MPs) : MPs := fun ρ w => (k ρ w).bind fun kt w1 => (v ρ w1).bind fun t w2 => (r ρ w2).bind fun ps w3 => match keyT kt with
  | some key => .ok ((key, t) :: ps) w3
  | none => .no
def rdP (K : PySem.W.Frag) (m : MPs) : L2.St → Hp → (List (V × V) → Hp → Prop) → Prop := fun σ H Q => ∃ hd φ ρ w, SR K hd φ H σ ρ ∧ WR K hd φ H w ∧
  Pst K hd (fun kvs φ' H' => ∀ ys : List (Key × V), ys.map (·.1) = kvs.map (·.1) → Reps K hd φ' H' (kvs.map (·.2)) (ys.map (·.2)) → Q (ys.map fun kv => (kV kv.1, kv.2)) H') φ H (m ρ w)
structure DPs (X : Cx) (pos : Pos) (keys : List (Option Expr)) (values : List Expr) (m : MPs) : Prop where
  ex : ∃ trs, PPs X pos keys values trs ∧ ∀ σ H Q, rdP X.K m σ H Q → tPairs trs σ H Q
theorem dp_nil : DPs X pos [] [] mpNil := ⟨[], pps_nil, fun σ H Q => by
  rintro ⟨hd, φ, ρ, w, sr, wr, p⟩
  exact p.ok wr [] rfl Reps.nil⟩
theorem dp_cons {k v : Expr} {ks : List (Option Expr)} {vs : List Expr} {mk mv : ME} {mr : MPs} (hk : PE X k (rdE X.K mk)) (hv : PE X v (rdE X.K mv)) (hr : DPs X pos ks vs mr) : DPs X pos (some k :: ks) (v :: vs) (mpCons mk mv mr) := by
  obtain ⟨trs, h1, h2⟩ := hr.ex
  refine ⟨_, pps_cons hk hv h1, fun σ H Q => ?_⟩
  rintro ⟨hd, φ, ρ, w, sr, wr, p⟩
  refine ⟨hd, φ, ρ, w, sr, wr, Pst.then isPst p fun kt w1 φ1 H1 e1 wr1 p1 x rx => ?_⟩
  refine ⟨hd, φ1, ρ, w1, sr.mono e1, wr1, Pst.then isPst p1 fun t w2 φ2 H2 e2 wr2 p2 y ry => ?_⟩
  refine h2 σ H2 _ ⟨hd, φ2, ρ, w2, sr.mono (e1.trans e2), wr2, Pst.then isPst p2 fun ps w3 φ3 H3 e3 wr3 p3 ys g1 g2 => ?_⟩
  cases q : keyT kt with
  | none => rw [q] at p3; exact p3.elim
  | some key =>
    rw [q] at p3
    have := p3.ok wr3 ((key, y) :: ys) (by simp [g1]) (Reps.cons (ry.mono e3) g2)
    rw [key_at rx q]
    exact this
def mDict (m : MPs) : ME := fun ρ w => (m ρ w).bind fun kvs w1 => if kvs.length ≤ 15 ∧ (kvs.map (·.1)).Nodup then .ok (.cell w1.length) (w1 ++ [.dic kvs]) else .no
theorem merge_id : ∀ (ys acc : List (Key × V)), ((acc ++ ys).map (·.1)).Nodup → mergeK acc ys = acc ++ ys
  | [], acc, _ => by rw [List.append_nil]; rfl
  | p :: ys, acc, h => by
    show mergeK (putK acc p.1 p.2) ys = _
    have hn : valV acc p.1 = none := by
      cases q : valV acc p.1 with
      | none => rfl
      | some v =>
        exfalso
        have h1 : (acc.any fun kv => decide (kv.1 = p.1)) = true := by rw [valV_any, q]; rfl
        obtain ⟨z, hz, e⟩ := List.any_eq_true.mp h1
        have e := of_decide_eq_true e
        rw [List.map_append, List.nodup_append] at h
        exact h.2.2 z.1 (List.mem_map.mpr ⟨z, hz, rfl⟩) p.1 (by simp) e
    rw [putK_new _ hn, merge_id ys (acc ++ [(p.1, p.2)]) (by simpa using h)]
    simp
theorem de_dict {keys : List (Option Expr)} {values : List Expr} {m : MPs} (h : DPs X pos keys values m) (hall : keys.all (·.isSome) = true := by rfl) (hl : keys.length = values.length := by rfl) (h0 : keys ≠ [] := by exact fun h => nomatch h) (h15 : keys.length ≤ 15 := by decide) : PE X (.Dict keys values pos) (rdE X.K (mDict m)) := by
  obtain ⟨trs, h1, h2⟩ := h.ex
  refine PE_imp (pe_disp h1 hall hl h0 h15) fun σ H Q => ?_
  rintro ⟨hd, φ, ρ, w, sr, wr, p⟩
  intro l hln
  have eh : Ext hd φ H (l :: hd) φ (upd H l (.dK [])) := Ext.hold hln
  refine h2 σ _ _ ⟨l :: hd, φ, ρ, w, sr.mono eh, wr.hold hln, ?_⟩
  unfold mDict at p
  cases q : m ρ w with
  | no => rw [q] at p; exact p.elim
  | ok kvs w1 =>
    rw [q, bind_ok] at p
    intro H' φ' e1 wr1 ys g1 g2
    have hx : H' l = some (.dK []) := e1.keep l _ upd_same (wr.hold (o := .dK []) hln |>.apart l · List.mem_cons_self)
    split at p
    · rename_i hc
      refine ⟨hx, ys, rfl, by rw [show ys.length = kvs.length by simpa using congrArg List.length g1]; exact hc.1, ?_⟩
      have em : mergeK [] ys = ys := merge_id ys [] (by simpa [g1] using hc.2)
      rw [em]
      have eg : ExtD (some l) (l :: hd) φ' H' (l :: hd) φ' (upd H' l (.dK ys)) := ExtD.grow List.mem_cons_self
      have off : Off (some l) (l :: hd) H' := fun d h => by cases h; exact .inl List.mem_cons_self
      have e2 : Ext hd φ H (l :: hd) φ' (upd H' l (.dK ys)) := ((eh.toD.trans e1.toD).trans eg).plain hln
      refine p _ (φ' ++ [l]) (e2.cell hln) ((wr1.grow List.mem_cons_self).cell (wr.nin hln).2 ⟨ys, upd_same, g1, g2.monoD eg off⟩) _ ?_
      unfold Rep
      refine ⟨l, rfl, ?_⟩
      rw [← wr1.len, List.getElem?_append_right (Nat.le_refl _)]
      simp
    · exact p.elim
end
end VS

set_option Elab.async false
set_option linter.all false
set_option maxRecDepth 100000
set_option maxHeartbeats 2000000
namespace VS
open PySem PySem.Spec PyProof.Rows L2

/-! ### defs -/
/-- a body as a function of the arguments -/
def runB (n : Nat) (b : MS) : Sem := fun ds w => match b (ds.map some ++ List.replicate (n - ds.length) none) w with
  | .ok (_, .ret t) w' => .ok t w'
  | .ok (_, .nx) w' => .ok .non w'
  | _ => .no
/-! cells of the world ahead alone -/
mutual
def NoRef (n : Nat) : T → Prop
  | .cell k => k < n
  | .tup ts => NoRefs n ts
  | .lst ts => NoRefs n ts
  | .frz ts => NoRefs n ts
  | _ => True
def NoRefs (n : Nat) : List T → Prop
  | [] => True
  | t :: ts => NoRef n t ∧ NoRefs n ts
end
def NoRefC (n : Nat) : Cell → Prop
  | .lst ts => NoRefs n ts
  | .dic kvs => NoRefs n (kvs.map (·.2))
  | .dit kvs => NoRefs n (kvs.map (·.2))
mutual
def mapC (g : Nat → T) : T → T
  | .cell k => g k
  | .tup ts => .tup (mapCs g ts)
  | .lst ts => .lst (mapCs g ts)
  | .frz ts => .frz (mapCs g ts)
  | .non => .non
  | .bl b => .bl b
  | .int i => .int i
  | .str x => .str x
  | .ty n => .ty n
  | .rng n => .rng n
def mapCs (g : Nat → T) : List T → List T
  | [] => []
  | t :: ts => mapC g t :: mapCs g ts
end
/-- the cells from n on read out -/
def fz (n : Nat) (w : World) : Nat → T → T
  | 0, t => t
  | f + 1, t => mapC (fun k => if k < n then .cell k else match w[k]? with
    | some (.lst ts) => .lst (ts.map (fz n w f))
    | _ => .cell k) t
def GcOk (w w' : World) : Prop := w.length ≤ w'.length ∧ ∀ (k : Nat) c, k < w.length → w'[k]? = some c → w[k]? = some c ∨ NoRefC w.length c
open Classical in
noncomputable def gcR (w : World) : R T → R T
  | .ok t w' => if GcOk w w' ∧ NoRef w.length (fz w.length w' 3 t) then .ok (fz w.length w' 3 t) (w'.take w.length) else .no
  | .no => .no
noncomputable def gc (f : Sem) : Sem := fun ds w => gcR w (f ds w)
section
variable {K : PySem.W.Frag} {hd φ φ' : List Addr} {H H' : Hp} {w w' : World} {n : Nat}
mutual
theorem noRef_of : ∀ {t : T} {v : V}, Rep K hd φ H t v → NoRef φ.length t
  | .non, _, _ => by unfold NoRef; trivial
  | .bl _, _, _ => by unfold NoRef; trivial
  | .int _, _, _ => by unfold NoRef; trivial
  | .str _, _, _ => by unfold NoRef; trivial
  | .ty _, _, _ => by unfold NoRef; trivial
  | .rng _, _, _ => by unfold NoRef; trivial
  | .tup ts, v, h => by unfold Rep at h; unfold NoRef; obtain ⟨_, _, _, _, r⟩ := h; exact noRefs_of r
  | .lst ts, v, h => by unfold Rep at h; unfold NoRef; obtain ⟨_, _, _, _, r⟩ := h; exact noRefs_of r
  | .frz ts, v, h => by unfold Rep at h; unfold NoRef; obtain ⟨_, _, _, _, r⟩ := h; exact noRefs_of r
  | .cell k, v, h => by unfold Rep at h; unfold NoRef; obtain ⟨_, _, r⟩ := h; exact (List.getElem?_eq_some_iff.mp r).1
theorem noRefs_of : ∀ {ts : List T} {vs : List V}, Reps K hd φ H ts vs → NoRefs φ.length ts
  | [], _, _ => by unfold NoRefs; trivial
  | t :: ts, _, h => by unfold Reps at h; unfold NoRefs; obtain ⟨_, _, _, r1, r2⟩ := h; exact ⟨noRef_of r1, noRefs_of r2⟩
end
theorem noRefC_of {c : Cell} {a : Addr} (h : CellR K hd φ H c a) : NoRefC φ.length c := by
  cases c with
  | lst ts => obtain ⟨_, _, r⟩ := h; exact noRefs_of r
  | dic kvs => obtain ⟨_, _, _, r⟩ := h; exact noRefs_of r
  | dit kvs => obtain ⟨_, _, _, r⟩ := h; exact noRefs_of r
/-! back to the cells ahead -/
mutual
theorem Rep.back (nn : ∀ a, a ∉ φ' → a ∉ φ) (g : ∀ (k : Nat) (a : Addr), k < n → φ'[k]? = some a → φ[k]? = some a) : ∀ {t : T} {v : V}, Rep K hd φ' H t v → NoRef n t → Rep K hd φ H t v
  | .non, _, h, _ => h
  | .bl _, _, h, _ => h
  | .int _, _, h, _ => h
  | .str _, _, h, _ => h
  | .ty _, _, h, _ => h
  | .tup ts, v, h, q => by
    unfold Rep at h ⊢; unfold NoRef at q
    obtain ⟨a, xs, e, ⟨n1, n2, n3⟩, r⟩ := h
    exact ⟨a, xs, e, ⟨n1, nn a n2, n3⟩, Reps.back nn g r q⟩
  | .lst ts, v, h, q => by
    unfold Rep at h ⊢; unfold NoRef at q
    obtain ⟨a, xs, e, ⟨n1, n2, n3⟩, r⟩ := h
    exact ⟨a, xs, e, ⟨n1, nn a n2, n3⟩, Reps.back nn g r q⟩
  | .frz ts, v, h, q => by
    unfold Rep at h ⊢; unfold NoRef at q
    obtain ⟨a, xs, e, n0, r⟩ := h
    refine ⟨a, xs, e, ?_, Reps.back nn g r q⟩
    rcases n0 with ⟨u, n1, z, n2, n3⟩ | n0
    · exact .inl ⟨u, n1, z, nn a n2, n3⟩
    · exact .inr n0
  | .rng n, v, h, q => by
    unfold Rep at h ⊢
    obtain ⟨a, e, h1, h2, h3⟩ := h
    exact ⟨a, e, h1, nn a h2, h3⟩
  | .cell k, v, h, q => by
    unfold Rep at h ⊢; unfold NoRef at q
    obtain ⟨a, e, hk⟩ := h
    exact ⟨a, e, g k a q hk⟩
theorem Reps.back (nn : ∀ a, a ∉ φ' → a ∉ φ) (g : ∀ (k : Nat) (a : Addr), k < n → φ'[k]? = some a → φ[k]? = some a) : ∀ {ts : List T} {vs : List V}, Reps K hd φ' H ts vs → NoRefs n ts → Reps K hd φ H ts vs
  | [], _, h, _ => by unfold Reps at h ⊢; exact h
  | t :: ts, _, h, q => by
    unfold Reps at h ⊢; unfold NoRefs at q
    obtain ⟨x, r, e, a, b⟩ := h
    exact ⟨x, r, e, Rep.back nn g a q.1, Reps.back nn g b q.2⟩
end
mutual
theorem Rep.mapC (nn : ∀ a, a ∉ φ' → a ∉ φ) {g : Nat → T} (gg : ∀ (k : Nat) v, Rep K hd φ' H (.cell k) v → NoRef n (g k) → Rep K hd φ H (g k) v) : ∀ {t : T} {v : V}, Rep K hd φ' H t v → NoRef n (VS.mapC g t) → Rep K hd φ H (VS.mapC g t) v
  | .non, _, h, _ => by unfold VS.mapC; exact h
  | .bl _, _, h, _ => by unfold VS.mapC; exact h
  | .int _, _, h, _ => by unfold VS.mapC; exact h
  | .str _, _, h, _ => by unfold VS.mapC; exact h
  | .ty _, _, h, _ => by unfold VS.mapC; exact h
  | .tup ts, v, h, q => by
    unfold VS.mapC at q ⊢; unfold Rep at h ⊢; unfold NoRef at q
    obtain ⟨a, xs, e, ⟨n1, n2, n3⟩, r⟩ := h
    exact ⟨a, xs, e, ⟨n1, nn a n2, n3⟩, Reps.mapC nn gg r q⟩
  | .lst ts, v, h, q => by
    unfold VS.mapC at q ⊢; unfold Rep at h ⊢; unfold NoRef at q
    obtain ⟨a, xs, e, ⟨n1, n2, n3⟩, r⟩ := h
    exact ⟨a, xs, e, ⟨n1, nn a n2, n3⟩, Reps.mapC nn gg r q⟩
  | .frz ts, v, h, q => by
    unfold VS.mapC at q ⊢; unfold Rep at h ⊢; unfold NoRef at q
    obtain ⟨a, xs, e, n0, r⟩ := h
    refine ⟨a, xs, e, ?_, Reps.mapC nn gg r q⟩
    rcases n0 with ⟨u, n1, z, n2, n3⟩ | n0
    · exact .inl ⟨u, n1, z, nn a n2, n3⟩
    · exact .inr n0
  | .rng n, v, h, q => by
    unfold VS.mapC; unfold Rep at h ⊢
    obtain ⟨a, e, h1, h2, h3⟩ := h
    exact ⟨a, e, h1, nn a h2, h3⟩
  | .cell k, v, h, q => by
    unfold VS.mapC at q ⊢
    exact gg k v h q
theorem Reps.mapC (nn : ∀ a, a ∉ φ' → a ∉ φ) {g : Nat → T} (gg : ∀ (k : Nat) v, Rep K hd φ' H (.cell k) v → NoRef n (g k) → Rep K hd φ H (g k) v) : ∀ {ts : List T} {vs : List V}, Reps K hd φ' H ts vs → NoRefs n (VS.mapCs g ts) → Reps K hd φ H (VS.mapCs g ts) vs
  | [], _, h, _ => by unfold VS.mapCs; unfold Reps at h ⊢; exact h
  | t :: ts, _, h, q => by
    unfold VS.mapCs at q ⊢; unfold Reps at h ⊢; unfold NoRefs at q
    obtain ⟨x, r, e, a, b⟩ := h
    exact ⟨x, r, e, Rep.mapC nn gg a q.1, Reps.mapC nn gg b q.2⟩
end
theorem Rep.fz (wr : WR K hd φ' H w') (nn : ∀ a, a ∉ φ' → a ∉ φ) (g : ∀ (k : Nat) (a : Addr), k < n → φ'[k]? = some a → φ[k]? = some a) (far : ∀ (k : Nat) (a : Addr), n ≤ k → φ'[k]? = some a → a ∉ φ) :
    ∀ (f : Nat) {t : T} {v : V}, Rep K hd φ' H t v → NoRef n (VS.fz n w' f t) → Rep K hd φ H (VS.fz n w' f t) v
  | 0, t, v, h, q => Rep.back nn g h q
  | f + 1, t, v, h, q => by
    unfold VS.fz at q ⊢
    refine Rep.mapC nn (fun k v h q => ?_) h q
    split at q
    · rename_i hk
      rw [if_pos hk]
      exact Rep.back nn g h q
    · rename_i hk
      rw [if_neg hk]
      split at q
      · rename_i ts hw
        obtain ⟨a, rfl, ha, hm, xs, h1, h2⟩ := cell_at wr h hw
        show Rep K hd φ H (.lst (ts.map (VS.fz n w' f))) (.ref a)
        unfold Rep
        refine ⟨a, xs, rfl, ⟨h1, far k a (by omega) ha, wr.apart a hm⟩, ?_⟩
        unfold NoRef at q
        clear h1 hw h
        induction ts generalizing xs with
        | nil => unfold Reps at h2; subst h2; exact Reps.nil
        | cons t ts ih =>
          unfold Reps at h2
          obtain ⟨x, r, rfl, r1, r2⟩ := h2
          unfold List.map NoRefs at q
          exact Reps.cons (Rep.fz wr nn g far f r1 q.1) (ih r r2 q.2)
      · exfalso
        unfold NoRef at q
        exact hk q
theorem gc_read {Q : VK} {r : R T} (wr : WR K hd φ H w) (p : Pst K hd (CE K hd Q) φ H (gcR w r)) : Pst K hd (CE K hd Q) φ H r := by
  cases r with
  | no => exact p
  | ok t w' =>
    unfold gcR at p
    simp only at p
    by_cases ok : GcOk w w' ∧ NoRef w.length (fz w.length w' 3 t)
    · rw [if_pos ok] at p
      obtain ⟨⟨hl, hc⟩, hn⟩ := ok
      intro H' φ' e wr' v rv
      obtain ⟨more, e1, fresh⟩ := e.pre
      have hlen : φ.length = w.length := wr.len
      have nn : ∀ a, a ∉ φ' → a ∉ φ := fun a h z => h (by rw [e1]; exact List.mem_append_left _ z)
      have g : ∀ (k : Nat) (a : Addr), k < w.length → φ'[k]? = some a → φ[k]? = some a := fun k a hk h => by
        rw [e1, List.getElem?_append_left (by omega)] at h
        exact h
      have far : ∀ (k : Nat) (a : Addr), w.length ≤ k → φ'[k]? = some a → a ∉ φ := fun k a hk h z => by
        rw [e1, List.getElem?_append_right (by omega)] at h
        have nd := wr'.nd
        rw [e1, List.nodup_append] at nd
        exact nd.2.2 a z a (List.mem_of_getElem? h) rfl
      refine p H' φ ⟨⟨[], by simp, fun _ h => by simp at h⟩, fun _ h => .inl h, e.keep, e.there⟩ ⟨?_, wr.nd, wr.apart, fun a ha => ?_, fun k c a h1 h2 => ?_⟩ v (Rep.fz wr' nn g far 3 rv hn)
      · rw [List.length_take, hlen]; omega
      · obtain ⟨o, ho⟩ := wr.there a ha
        exact e.there a o ho
      · rw [List.getElem?_take] at h1
        split at h1
        · rename_i hk
          have h2' : φ'[k]? = some a := by rw [e1, List.getElem?_append_left (by omega)]; exact h2
          have cr := wr'.cells k c a h1 h2'
          have nr : NoRefC w.length c := by
            rcases hc k c hk h1 with z | z
            · have := noRefC_of (wr.cells k c a z h2)
              rw [hlen] at this
              exact this
            · exact z
          cases c with
          | lst ts => obtain ⟨xs, h3, h4⟩ := cr; exact ⟨xs, h3, Reps.back nn g h4 nr⟩
          | dic kvs => obtain ⟨ys, h3, h4, h5⟩ := cr; exact ⟨ys, h3, h4, Reps.back nn g h5 nr⟩
          | dit kvs => obtain ⟨ys, h3, h4, h5⟩ := cr; exact ⟨ys, h3, h4, Reps.back nn g h5 nr⟩
        · cases h1
    · rw [if_neg ok] at p; exact p.elim
end

/-! ### from the text to what a def is worth -/
/-- a def's body, read in every call -/
def Bd (P : Program) (w : PySem.World) (K : PySem.W.Frag) (mg : Str → Option Value) (base : Heap) (N : List Str) (qual : Str) (st : Stmt) (k : Nat) (m : MS) : Prop :=
  ∀ (f : Addr) (cdv : Value) (A : Around) (outer : List PySem.Env) (s : Shared) (H : Hp) (E : XK), Room k (A.deeper (envOfC qual (defScope st) s.heap.objs.size f cdv)) →
    PSs (cxOf (L2.CX P w) P w K mg base N qual (defScope st) f cdv A outer s H E) (defBody st) (rdS K m)
section
variable {P : Program} {w : PySem.World} {K : PySem.W.Frag} {mg : Str → Option Value} {base : Heap}
theorem ok_of {x : Str} {st : Stmt} {f : Addr} {fd : FuncData} {N ps : List Str} {k : Nat} {m : MS} (F : Fun K x x st f fd) (S : FnScope N ps (defScope st)) (body : Bd P w K mg base N x st k m) : FnOk P w K mg base (L2.CX P w) (k + 1) f fd ps (spOf K ps.length (runB N.length m)) := by
  refine F.okX S spOf_len fun cdv A outer s H vs Q E hr hsp => ⟨rdS K m, body f cdv A outer s H E hr, ?_⟩
  obtain ⟨hd, φ, w, ds, l, wr, rs, p⟩ := hsp
  refine ⟨hd, φ, ds.map some ++ List.replicate (N.length - ds.length) none, w, ?_, wr, ?_⟩
  · unfold L2.start
    rw [← rs.len]
    exact SR.start rs _
  · unfold runB at p
    cases q : m (ds.map some ++ List.replicate (N.length - ds.length) none) w with
    | no => rw [q] at p; exact p
    | ok r w' =>
      rw [q] at p
      obtain ⟨ρ, fl⟩ := r
      cases fl with
      | nx => intro H' φ' e wr' σ' sr'; exact p H' φ' e wr' _ (by unfold Rep; rfl)
      | ret t => intro H' φ' e wr'; exact p H' φ' e wr'
      | bk => exact p.elim
      | ct => exact p.elim
theorem df_of {x : Str} {st : Stmt} {f : Addr} {fd : FuncData} {N ps : List Str} {k : Nat} {m : MS} (F : Fun K x x st f fd) (S : FnScope N ps (defScope st)) (hm : mg x = some (.ref f)) (hb : Binds K fd ps []) (body : Bd P w K mg base N x st k m) : Df P w K mg base (k + 1) x ps (runB N.length m) :=
  ⟨f, fd, ok_of F S body, hm, F.kp, hb⟩
theorem df_gc {x : Str} {ps : List Str} {k : Nat} {g : Sem} (D : Df P w K mg base k x ps g) : Df P w K mg base k x ps (gc g) := by
  obtain ⟨f, fd, ok, hm, hk, hb⟩ := D.ex
  refine ⟨f, fd, ok.imp fun vs H Q E h => ?_, hm, hk, hb⟩
  obtain ⟨hd, φ, w, ds, l, wr, rs, p⟩ := h
  exact ⟨hd, φ, w, ds, l, wr, rs, gc_read wr p⟩
/-- more stack -/
theorem Df.mono {x : Str} {ps : List Str} {j k : Nat} {g : Sem} (D : Df P w K mg base j x ps g) (h : j ≤ k) : Df P w K mg base k x ps g := by
  obtain ⟨f, fd, ok, hm, hk, hb⟩ := D.ex
  exact ⟨f, fd, ok.mono h, hm, hk, hb⟩
/-- a def of the text as the top has left it -/
structure At (K : PySem.W.Frag) (x : Str) (st : Stmt) : Prop where
  ex : ∃ (f : Addr) (oc : Value) (od an : Option Addr) (sl : Array (Option Value)) (kV dc pm cd ct : Value), PySem.W.nsIn K mainGlobals x = some (some (.ref f)) ∧
    K.lookup f = some ⟨oc, od, .func (PySem.W.fnOf x x (defArgs st) (defBody st) (defScope st) .none kV dc pm an cd ct), sl⟩ ∧ PySem.W.codeIn K cd x = true ∧ PySem.W.keepIn K (.ref f) = true
theorem At.df {x : Str} {st : Stmt} {N ps : List Str} {k : Nat} {m : MS} {h : Heap} (a : At K x st) (X : K.In h) (G : h.Ns mainGlobals mg) (S : FnScope N ps (defScope st))
    (hb : ∀ (kV doc pm : Value) (an : Option Addr) (cdv ct : Value) (us : List Value), us.length = ps.length → bindArgs (PySem.W.fnOf x x (defArgs st) (defBody st) (defScope st) .none kV doc pm an cdv ct) ⟨us, []⟩ = pure (ps.zip us))
    (body : Bd P w K mg base N x st k m) : Df P w K mg base (k + 1) x ps (runB N.length m) := by
  obtain ⟨f, oc, od, an, sl, kV, dc, pm, cd, ct, h1, h2, h3, h4⟩ := a.ex
  have F := fun_mk (st := st) h2 h3 h4
  exact df_of F S (PySem.W.mg_of X G h1) (F.binds hb) body
/-- the law's promise -/
def spL (K : PySem.W.Frag) : Sp := fun vs H Q _ => ∃ (a : Addr) (ns : List Int), vs = [.ref a] ∧ SqL K H a (ns.map V.int) ∧ ns.length ≤ 63 ∧ ∀ H', Q (.bl true) H'
theorem reps_ints {hd φ : List Addr} {H : Hp} : ∀ ns : List Int, Reps K hd φ H (ns.map T.int) (ns.map V.int)
  | [] => Reps.nil
  | n :: ns => Reps.cons (by unfold Rep; rfl) (reps_ints ns)
theorem law_ok {k : Nat} {f : Addr} {fd : FuncData} {sem : Sem} (F : FnOk P w K mg base (L2.CX P w) k f fd ["script"] (spOf K 1 sem)) (h : ∀ ns : List Int, ns.length ≤ 63 → ∃ w', sem [.frz (ns.map T.int)] [] = .ok (.bl true) w') : FnOk P w K mg base (L2.CX P w) k f fd ["script"] (spL K) := F.imp fun vs H Q E => by
  rintro ⟨a, ns, rfl, hS, hl, q⟩
  obtain ⟨w', e⟩ := h ns hl
  refine ⟨[], [], [], [.frz (ns.map T.int)], rfl, ⟨rfl, List.nodup_nil, fun _ h => by simp at h, fun _ h => by simp at h, fun k c a h1 h2 => by simp at h1⟩, Reps.cons ?_ Reps.nil, ?_⟩
  · unfold Rep
    refine ⟨a, ns.map V.int, rfl, ?_, reps_ints ns⟩
    rcases hS with (hS | ⟨o, hS⟩) | hS
    · exact .inl ⟨_, hS, .inl rfl, by simp, by simp⟩
    · exact .inl ⟨_, hS, .inr ⟨o, rfl⟩, by simp, by simp⟩
    · exact .inr (.inr hS)
  · rw [e]
    intro H' φ' _ _ v rv
    unfold Rep at rv
    subst rv
    exact q H'
theorem At.law {k : Nat} {m : MS} {N : List Str} {st : Stmt} {h : Heap} {fa : Addr} (a : At K "law" st) (X : K.In h) (G : h.Ns mainGlobals mg) (hfa : mg "law" = some (.ref fa)) (S : FnScope N ["script"] (defScope st))
    (hb : ∀ (kV doc pm : Value) (an : Option Addr) (cdv ct : Value) (u : Value), bindArgs (PySem.W.fnOf "law" "law" (defArgs st) (defBody st) (defScope st) .none kV doc pm an cdv ct) ⟨[u], []⟩ = pure [(("script" : Str), u)])
    (body : ∀ base : Heap, K.In base → base.Ns mainGlobals mg → Bd P w K mg base N "law" st k m)
    (hl : ∀ ns : List Int, ns.length ≤ 63 → ∃ w', runB N.length m [.frz (ns.map T.int)] [] = .ok (.bl true) w') :
    ∃ fd : FuncData, (∀ (s : Shared) (u : Value), BindsTo s fd ⟨[u], []⟩ [("script", u)]) ∧ ∀ base : Heap, K.In base → base.Ns mainGlobals mg → FnOk P w K mg base (L2.CX P w) (k + 1) fa fd ["script"] (spL K) := by
  obtain ⟨f, oc, od, an, sl, kV, dc, pm, cd, ct, h1, h2, h3, h4⟩ := a.ex
  have e := hfa.symm.trans (PySem.W.mg_of X G h1)
  cases e
  have F := fun_mk (st := st) h2 h3 h4
  exact ⟨_, fun s u => .of_eq (hb _ _ _ _ _ _ u), fun base b1 b2 => law_ok (ok_of F S (body base b1 b2)) hl⟩
theorem law_cx {H : Hp} {s : Shared} {e : Value} {s' : Shared} (h : L2.CX P w [] H s (fun _ _ _ => False) e s') : False := by
  obtain ⟨_, _, _, _, _, _, _, _, _, _, _, _, z⟩ := h
  exact z
end
end VS

set_option Elab.async false
set_option linter.all false
set_option maxRecDepth 100000
set_option maxHeartbeats 2000000
namespace VS
open PySem PySem.Spec PyProof.Rows L2
section
variable {X : Cx} {e : Expr} {es : List Expr} {x : Str} {p pos kpos : Pos} {nm : Option Str} {kws : List Keyword}
theorem de_gint' {i : Int} (h : ∃ t, X.mg x = some (.int i t)) (hg : Gl X x := by rfl) (hd : (x == ("__debug__" : Str)) = false := by decide) : PE X (.Name x pos) (rdE X.K (mC (.int i))) := by
  obtain ⟨t, h⟩ := h
  exact de_gint h ⟨t, rfl⟩ hg hd

/-! ### keywords, in the parameters' order -/
theorem PK_imp {t t' : TA} (h : PK X kws t) (i : ∀ σ H Q, t' σ H Q → t σ H Q) : PK X kws t' := ⟨fun po pins s σ H Q I q => h.run po pins s σ H Q I (i σ H Q q)⟩
theorem dk_nil : PK X [] (rdA X.K mNil) := PK_imp pk_nil fun σ H Q => by
  rintro ⟨hd, φ, ρ, w, sr, wr, p⟩
  exact p.ok wr _ Reps.nil
theorem dk_cons {ma : ME} {mr : MF} (ha : PE X e (rdE X.K ma)) (hr : PK X kws (rdA X.K mr)) : PK X (⟨nm, e, kpos⟩ :: kws) (rdA X.K (mCons ma mr)) := PK_imp (pk_cons ha hr) fun σ H Q => by
  rintro ⟨hd, φ, ρ, w, sr, wr, p⟩
  refine ⟨hd, φ, ρ, w, sr, wr, Pst.then isPst p fun x w1 φ1 H1 e1 wr1 p1 v rv => ?_⟩
  refine ⟨hd, φ1, ρ, w1, sr.mono e1, wr1, Pst.then isPst p1 fun xs w2 φ2 H2 e2 wr2 p2 vs rvs => ?_⟩
  exact p2.ok wr2 _ (Reps.cons (rv.mono e2) rvs)
/-- how many values a written argument list gives -/
def cnt : MF → Nat → Prop := fun m n => ∀ ρ w ts w', m ρ w = .ok ts w' → ts.length = n
theorem cnt_nil : cnt mNil 0 := fun ρ w ts w' h => by unfold mNil at h; cases h; rfl
theorem cnt_cons {a : ME} {r : MF} {n : Nat} (h : cnt r n) : cnt (mCons a r) (n + 1) := fun ρ w ts w' q => by
  unfold mCons at q
  cases q1 : a ρ w with
  | no => rw [q1] at q; cases q
  | ok x w1 =>
    rw [q1, bind_ok] at q
    cases q2 : r ρ w1 with
    | no => rw [q2] at q; cases q
    | ok xs w2 =>
      rw [q2, bind_ok] at q
      cases q
      rw [List.length_cons, h _ _ _ _ q2]
def gK {α : Type} (np nk : Nat) (us ws : List α) : List α := if us.length = np ∧ ws.length = nk then us ++ ws else []
structure DfK (P : Program) (w : PySem.World) (K : PySem.W.Frag) (mg : Str → Option Value) (base : Heap) (k : Nat) (x : Str) (n : Nat) (ks : List Str) (f : Sem) : Prop where
  ex : ∃ (ad : Addr) (fd : FuncData) (ps : List Str), ps.length = n ∧ ks.length ≤ n ∧ ks ≠ [] ∧ FnOk P w K mg base (L2.CX P w) k ad fd ps (spOf K n f) ∧ mg x = some (.ref ad) ∧ PySem.W.keepIn K (.ref ad) = true ∧ KBinds K fd ps ks (gK (n - ks.length) ks.length) (gK (n - ks.length) ks.length)
def mDefK (n : Nat) (f : Sem) (m mk : MF) : ME := fun ρ w => (m ρ w).bind fun ds w1 => (mk ρ w1).bind fun es w2 => if ds.length + es.length = n then f (ds ++ es) w2 else .no
theorem gK_rel {np nk : Nat} {vs : List V} {us : List Value} {zs : List V} {ws : List Value} (a : Vals vs us) (b : Vals zs ws) : Vals (gK np nk vs zs) (gK np nk us ws) := by
  unfold gK
  rw [a.length, b.length]
  split
  · exact a.append b
  · exact .nil
theorem de_defK {k n : Nat} {ks : List Str} {f : Sem} {m mk : MF} (F : DfK X.prog X.w X.K X.mg X.base k x n ks f) (hr : Room k X.A) (ha : PA X (e :: es) (rdA X.K m)) (hkw : PK X kws (rdA X.K mk)) (hkl : cnt mk ks.length := by first | exact cnt_cons cnt_nil | exact cnt_cons (cnt_cons cnt_nil) | exact cnt_cons (cnt_cons (cnt_cons cnt_nil))) (hg : Gl X x := by rfl)
    (hall : (backToKw pos (keywordEach kws X.env)).all (·.1.isSome) = true := by rfl) (hks : (backToKw pos (keywordEach kws X.env)).filterMap (·.1) = ks := by rfl)
    (hdb : (x == ("__debug__" : Str)) = false := by decide) (he : starEach (e :: es) X.env = (false, eval e X.env) :: starEach es X.env := by rfl)
    (hpl : ((backTo pos (starEach (e :: es) X.env)).any (·.1) || (backToKw pos (keywordEach kws X.env)).any (·.1.isNone)) = false := by rfl) : PE X (.Call (.Name x p) (e :: es) kws pos) (rdE X.K (mDefK n f m mk)) := by
  obtain ⟨ad, fd, ps, hn, hle, hne, ok, hm, hk, hb⟩ := F.ex
  refine PE_imp (pe_callK (E := E0) ok hr hg hm hk hb passL ha hkw hall hks hdb he hpl) fun σ H Q => ?_
  rintro ⟨hd, φ, ρ, w, sr, wr, q⟩
  refine ⟨hd, φ, ρ, w, sr, wr, Pst.then isPst q fun ds w1 φ1 H1 e1 wr1 p1 xs rx => ?_⟩
  refine ⟨hd, φ1, ρ, w1, sr.mono e1, wr1, ?_⟩
  cases q2 : mk ρ w1 with
  | no => rw [q2] at p1; exact p1.elim
  | ok zs w2 =>
    rw [q2, bind_ok] at p1
    have hl := hkl _ _ _ _ q2
    intro H2 φ2 e2 wr2 vz rz
    by_cases hc : ds.length + zs.length = n
    · rw [if_pos hc] at p1
      have hx : xs.length = n - ks.length := by rw [← rx.len]; omega
      have hz : vz.length = ks.length := by rw [← rz.len]; exact hl
      have : gK (n - ks.length) ks.length xs vz = xs ++ vz := by unfold gK; rw [if_pos ⟨hx, hz⟩]
      rw [this]
      exact ⟨hd, φ2, w2, ds ++ zs, by rw [List.length_append]; exact hc, wr2, (rx.mono e2).append rz, isPst.mono _ _ _ _ _ e2 p1⟩
    · rw [if_neg hc] at p1; exact p1.elim
theorem At.dfK {P : Program} {w : PySem.World} {K : PySem.W.Frag} {mg : Str → Option Value} {base : Heap} {x : Str} {st : Stmt} {N ps ks : List Str} {k : Nat} {m : MS} {h : Heap} (a : At K x st) (X : K.In h) (G : h.Ns mainGlobals mg) (S : FnScope N ps (defScope st)) (hk : ks.length ≤ ps.length) (hne : ks ≠ [])
    (hb : ∀ (kV doc pm : Value) (an : Option Addr) (cdv ct : Value) (us ws : List Value), us.length = ps.length - ks.length → ws.length = ks.length → bindArgs (PySem.W.fnOf x x (defArgs st) (defBody st) (defScope st) .none kV doc pm an cdv ct) ⟨us, ks.zip ws⟩ = pure (ps.zip (us ++ ws)))
    (body : Bd P w K mg base N x st k m) : DfK P w K mg base (k + 1) x ps.length ks (runB N.length m) := by
  obtain ⟨f, oc, od, an, sl, kV, dc, pm, cd, ct, h1, h2, h3, h4⟩ := a.ex
  have F := fun_mk (st := st) h2 h3 h4
  refine ⟨f, _, ps, rfl, hk, hne, ok_of F S body, PySem.W.mg_of X G h1, h4, ⟨fun s us ws _ hl => ?_, fun a b => gK_rel a b⟩⟩
  unfold gK at hl ⊢
  split at hl
  · rename_i hc
    rw [if_pos hc]
    exact .of_eq (hb _ _ _ _ _ _ us ws hc.1 hc.2)
  · exfalso
    have : ps.length = 0 := by simpa using hl.symm
    cases ks with
    | nil => exact hne rfl
    | cons _ _ => simp at hk; omega
theorem dfK_gc {P : Program} {w : PySem.World} {K : PySem.W.Frag} {mg : Str → Option Value} {base : Heap} {x : Str} {n k : Nat} {ks : List Str} {g : Sem} (D : DfK P w K mg base k x n ks g) : DfK P w K mg base k x n ks (gc g) := by
  obtain ⟨f, fd, ps, e1, e2, e3, ok, hm, hk, hb⟩ := D.ex
  refine ⟨f, fd, ps, e1, e2, e3, ok.imp fun vs H Q E h => ?_, hm, hk, hb⟩
  obtain ⟨hd, φ, w, ds, l, wr, rs, p⟩ := h
  exact ⟨hd, φ, w, ds, l, wr, rs, gc_read wr p⟩
end
theorem at_mk {K : PySem.W.Frag} {x : Str} {st : Stmt} {f : Addr} {oc : Value} {od an : Option Addr} {sl : Array (Option Value)} {kV dc pm cd ct : Value} (h1 : PySem.W.nsIn K mainGlobals x = some (some (.ref f)))
    (h2 : K.lookup f = some ⟨oc, od, .func (PySem.W.fnOf x x (defArgs st) (defBody st) (defScope st) .none kV dc pm an cd ct), sl⟩) (h3 : PySem.W.codeIn K cd x = true) (h4 : PySem.W.keepIn K (.ref f) = true) : At K x st := ⟨⟨_, _, _, _, _, _, _, _, _, _, h1, h2, h3, h4⟩⟩
end VS

set_option Elab.async false
set_option linter.all false
set_option maxRecDepth 100000
namespace VE
open PySem PySem.Spec PyProof.Rows L2
/-! enumerate(tuple), walked -/
set_option maxHeartbeats 1000000 in
theorem new_meets {v : Value} {o : Obj} {C : Heap → Prop} (B : Begins v o C) : Meets (Builtin.«enumerate.__new__» ⟨[.type "enumerate", v], []⟩) (fun _ R s => C s.heap ∧
      R (.ok (.ret (.ref (s.heap.push o).objs.size))) { s with heap := (s.heap.push o).push ⟨.type "enumerate", none, .fields #[.none, .bool false, .ref s.heap.objs.size, rawInt 0, .none, .none], #[]⟩ }) :=
  .of_wp fun prog w A R s h => by
    obtain ⟨hp, g, d, tk, os⟩ := s
    obtain ⟨hv, hR⟩ := h
    have hs' := sub_enumerate
    have it1 : ∀ {B' : Around} {E Q : Value → Shared → Prop}, Q (.ref hp.objs.size) ⟨hp.push o, g, d, tk, os⟩ → wpAny (model prog w) B' (pyIter v) Q E ⟨hp, g, d, tk, os⟩ := fun q => B.iter prog w _ _ ⟨hp, g, d, tk, os⟩ _ hv q
    wp_walk using it1
    refine wpAny_stack_any fun st => wpAny_pure ?_
    split
    · rename_i cc _ _ _ _ _
      cases (cc == Value.type "enumerate") <;> (wp_walk using it1) <;> exact ⟨_, rfl, hR⟩
    · wp_walk using it1
      exact ⟨_, rfl, hR⟩
section
variable {prog : Program} {w : PySem.World} {A : Around} {E : Value → Shared → Prop} {s : Shared}
theorem begins {v : Value} {o : Obj} {C : Heap → Prop} {Q : Value → Shared → Prop} (B : Begins v o C) (hC : C s.heap)
    (h : ∀ h', IsEnum h' (s.heap.objs.size + 1) s.heap.objs.size 0 .none → h'.get? s.heap.objs.size = some o → (∀ b u, s.heap.get? b = some u → h'.get? b = some u) → Q (.ref (s.heap.objs.size + 1)) { s with heap := h' }) : wpAny (model prog w) A (call (.type "enumerate") [v]) Q E s := by
  refine callType_new F.called_enumerate (by decide) (F.typeCall_enumerate_1 _) (F.newCall_enumerate_1 _) (fun ob => F.args_object_init_2 ob _) F.entry_enumerate_new (new_meets B) ⟨hC, ?_⟩
  have z : (s.heap.push o).objs.size = s.heap.objs.size + 1 := Heap.size_push ..
  show _ ∧ _
  rw [z]
  have e := Heap.get?_push_size (s.heap.push o) (o := ⟨.type "enumerate", none, .fields #[.none, .bool false, .ref s.heap.objs.size, rawInt 0, .none, .none], #[]⟩) rfl
  rw [z] at e
  exact ⟨⟨_, e, rfl⟩, h _ e (Heap.get?_push_of_some _ (Heap.get?_push_size _ B.free)) fun b u x => Heap.get?_push_of_some _ (Heap.get?_push_of_some _ x)⟩
end
/-- the items of the tuple at a with their numbers, each in a new pair -/
def IteT (K : PySem.W.Frag) (a : Addr) (n : Nat) : It :=
  ⟨fun i H => ∃ (xs : List V) (x : V), SqT K H a xs ∧ xs.length = n ∧ xs[i]? = some x, fun i H v H' => ∃ T x, v = .ref T ∧ H T = none ∧ H' = upd H T (.tup [.int (i : Nat), x]) ∧ (∀ xs, SqT K H a xs → xs[i]? = some x),
   fun i H => ∃ xs : List V, SqT K H a xs ∧ xs.length = n ∧ n ≤ i⟩
def tnT (a e it : Addr) (n : Nat) : Nat → Heap → Prop := fun i h => (∃ old, IsEnum h e it ((i : Nat) : Int) old) ∧ h.IsTupleIter it a i ∧ i ≤ n
theorem apart_ei {h : Heap} {a e it : Addr} {i j : Nat} {old : Value} (he : IsEnum h e it ((i : Nat) : Int) old) (hi : h.IsTupleIter it a j) : e ≠ it := by
  rintro rfl
  obtain ⟨o, h1, h2, _⟩ := hi
  rw [he] at h1
  cases h1
  exact absurd (Value.type.inj h2) (by decide)
theorem apart_ai {h : Heap} {a it : Addr} {j : Nat} {vs : Array Value} (ht : h.IsTuple a vs) (hi : h.IsTupleIter it a j) : a ≠ it := by
  rintro rfl
  obtain ⟨o, h1, h2, _⟩ := hi
  obtain ⟨o', g1, g2, _⟩ := ht
  rw [g1] at h1
  cases h1
  rw [g2] at h2
  exact absurd (Value.type.inj h2) (by decide)
theorem apart_ea {h : Heap} {a e it : Addr} {i : Nat} {old : Value} {vs : Array Value} (he : IsEnum h e it ((i : Nat) : Int) old) (ht : h.IsTuple a vs) : e ≠ a := by
  rintro rfl
  obtain ⟨o', g1, g2, _⟩ := ht
  rw [he] at g1
  cases g1
  exact absurd (Value.type.inj g2) (by decide)
theorem turnT {P : Program} {w : PySem.World} {K : PySem.W.Frag} {elts : List Expr} {kk : Nat} {tpos : Pos} (a e it : Addr) (n : Nat) : Turn P w K (.Tuple elts kk tpos) (IteT K a n) [e, it] e (tnT a e it n) where
  mem := List.mem_cons_self ..
  obj := fun i h st b hb => by
    obtain ⟨⟨old, he⟩, ⟨o, ho, hc, hd⟩, _⟩ := st
    rcases List.mem_cons.mp hb with rfl | hb
    · exact ⟨_, he, fun v q => nomatch q⟩
    · cases List.mem_singleton.mp hb
      exact ⟨o, ho, fun v q => by rw [hd] at q; cases q⟩
  keep := fun i h h' st k => ⟨⟨_, k e (List.mem_cons_self ..) _ st.1.choose_spec⟩, st.2.1.at fun o q => k it (List.mem_cons_of_mem _ (List.mem_cons_self ..)) o q, st.2.2⟩
  item := by
    intro X hP hw hK hc i pins s σ H E I hf st hg
    subst hP hw hK
    obtain ⟨⟨old, he⟩, hit, hin⟩ := st
    obtain ⟨xs, x, hq, hxl, hx⟩ := hg
    obtain ⟨its, rv, p, hz⟩ := I.tuple hq
    obtain ⟨u, hu, ru⟩ := rv.get hx
    have p' : s.heap.IsTuple a its.toArray := p
    have hlen := rv.length
    have hi : i < xs.length := (List.getElem?_eq_some_iff.mp hx).1
    have h0 := apart_ei he hit
    have D := Draws.tuple (prog := X.prog) (w := X.w) (A := X.A.in1) (show X.A.in1.handled = none from I.ok.hd hc) it a (apart_ai p' hit) its.toArray
    have hel : e < s.heap.objs.size := Heap.lt_size he
    refine wpAny_pyNext_enum_itemD (n := its.toArray.size) D he ⟨hit, p'⟩ (by simp; omega) h0 (fun hm => ?_) fun y h' tk py ho hst hT hsz hk => ?_
    · rcases List.mem_cons.mp hm with z | hm
      · exact h0 z
      · exact apart_ea he p' (List.mem_singleton.mp hm)
    · have hy : y = u := by
        have : its.toArray[i]? = some y := py
        rw [List.getElem?_toArray, hu] at this
        exact (Option.some.inj this).symm
      subst hy
      refine ⟨_, rfl, wpAny_letOwnedTupleGo_enum (s := { s with heap := h', toks := tk + 1 }) ho fun h2 he2 sb => ?_⟩
      have hT2 := (sb.2 _ (Nat.ne_of_gt hel)).trans hT
      have nw : ObjOk X.prog X.w (upd H s.heap.objs.size (.tup [.int (i : Nat), x])) h2 s.heap.objs.size (.tup [.int (i : Nat), x]) := ⟨(by decide : 2 ≤ sizeLine), [.int i tk, y], .cons ⟨_, rfl⟩ (.cons ru .nil), ⟨_, hT2, rfl, _, rfl⟩⟩
      have I1 : Inv X pins σ (upd H s.heap.objs.size (.tup [.int (i : Nat), x])) { s with heap := h2, toks := tk + 1 } := I.turnedNew (ch := [e, it]) (fun b o hb q => (sb.2 b (fun z => hb (by simp [z]))).trans (hk b o (fun z => hb (by simp [z])) (fun z => hb (by simp [z])) q)) hf (Nat.le_refl _) nw
      refine ⟨.ref s.heap.objs.size, _, I1, rfl, ⟨_, x, rfl, I.hok.fresh (Nat.le_refl _), rfl, fun ys hy => by rw [I.tuple_inj hy hq]; exact hx⟩, ⟨⟨y, by rw [show ((i + 1 : Nat) : Int) = (i : Int) + 1 from rfl]; exact he2⟩, hst.1.at fun o q => (sb.2 it (Ne.symm h0)).trans q, by omega⟩, fun b hb => ?_⟩
      have hlt : b < s.heap.objs.size := by
        rcases List.mem_cons.mp hb with rfl | hb
        · exact hel
        · cases List.mem_singleton.mp hb
          obtain ⟨_, q, _⟩ := hit
          exact Heap.lt_size q
      exact (upd_ne (Nat.ne_of_lt hlt)).trans (hf b hb).1
  done := by
    intro X hP hw hK hc i pins s σ H E I hf st hg
    subst hP hw hK
    obtain ⟨⟨old, he⟩, hit, hin⟩ := st
    obtain ⟨xs, hq, hxl, hni⟩ := hg
    obtain ⟨its, rv, p, hz⟩ := I.tuple hq
    have p' : s.heap.IsTuple a its.toArray := p
    have hlen := rv.length
    obtain ⟨f0, f1, f2, f3, f4, f5⟩ := hf it (by simp)
    have D := Draws.tuple (prog := X.prog) (w := X.w) (A := X.A.in1) (show X.A.in1.handled = none from I.ok.hd hc) it a (apart_ai p' hit) its.toArray
    have ei : i = its.toArray.size := by simp; omega
    exact wpAny_pyNext_enum_endD D he ⟨ei ▸ hit, p'⟩ fun h' eb => ⟨rfl, I.turned (t' := s.toks) (fun b o hb q => eb b o hb q) f0 f1 f3 f4 f5⟩
  self := fun A i s Q E st h => wpAny_pyIter_enum st.1.choose_spec h
def iEnT (K : PySem.W.Frag) (ta : TA) : TI := fun σ H R => ta σ H fun vs H1 => ∃ (a : Addr) (xs : List V), vs = [.ref a] ∧ SqT K H1 a xs ∧ R (IteT K a xs.length) H1
theorem pi_enT {X : Cx} {e : Expr} {ta : TA} {p pos tpos : Pos} {elts : List Expr} {kk : Nat} (hg : Gl X "enumerate") (hm : X.mg "enumerate" = none) (ha : PA X [e] ta) (hs : starEach [e] X.env = [(false, eval e X.env)] := by rfl) : PI X (.Tuple elts kk tpos) (.Call (.Name "enumerate" p) [e] [] pos) (iEnT X.K ta) := by
  refine ⟨fun pins s σ H R I h => ?_⟩
  refine Call_ (ld_blt I hg hm boot_enumerate (PyProof.Rows.callWith_type1 (thn (ha.run pos pins s σ H _ I h) fun us s1 ⟨vs, H1, I1, r1, q1⟩ => ?_) hs rfl))
  obtain ⟨a, xs, rfl, hq, q⟩ := q1
  cases r1 with
  | cons r1 rr =>
    cases rr
    cases r1
    obtain ⟨its, rv, p', hz⟩ := I1.tuple hq
    refine begins (begins_tuple a its.toArray) p' fun h' he hit hk => wpAny_pyIter_enum he ?_
    refine ⟨s1.heap.objs.size + 1, [s1.heap.objs.size + 1, s1.heap.objs.size], _, _, H1, rfl, I1.kept (t' := s1.toks) hk, turnT a (s1.heap.objs.size + 1) s1.heap.objs.size xs.length, ⟨⟨.none, he⟩, ⟨_, hit, rfl, rfl⟩, Nat.zero_le _⟩, fun b hb => ?_, q⟩
    have hle : s1.heap.objs.size ≤ b := by
      rcases List.mem_cons.mp hb with rfl | hb
      · exact Nat.le_add_right _ _
      · cases List.mem_singleton.mp hb
        exact Nat.le_refl _
    exact I1.fpOk hle (I1.hok.fresh hle)
end VE

set_option Elab.async false
set_option linter.all false
set_option maxRecDepth 100000
set_option maxHeartbeats 2000000
namespace VS
open PySem PySem.Spec PyProof.Rows L2
/-! ### enumerate -/
def enT : Nat → List T → List T
  | _, [] => []
  | i, t :: ts => .tup [.int (i : Int), t] :: enT (i + 1) ts
theorem enT_len : ∀ (ts : List T) (i : Nat), (enT i ts).length = ts.length
  | [], i => rfl
  | t :: ts, i => by unfold enT; simp [enT_len ts]
theorem enT_at : ∀ {ts : List T} {i j : Nat} {u : T}, (enT i ts)[j]? = some u → ∃ t, ts[j]? = some t ∧ u = .tup [.int ((i + j : Nat) : Int), t]
  | [], i, j, u, h => by unfold enT at h; cases h
  | t :: ts, i, 0, u, h => by unfold enT at h; cases h; exact ⟨t, rfl, rfl⟩
  | t :: ts, i, j + 1, u, h => by
    unfold enT at h
    obtain ⟨s, h1, h2⟩ := enT_at (ts := ts) (i := i + 1) (j := j) h
    refine ⟨s, h1, ?_⟩
    rw [h2, show i + 1 + j = i + (j + 1) by omega]
section
variable {X : Cx} {tg : Expr} {K : PySem.W.Frag} {e : Expr} {pos : Pos}
theorem src_enT {hd₀ φ₀ : List Addr} {H₀ : Hp} {a : Addr} {ts : List T} {n : Nat} (hn : ts.length = n)
    (h : ∀ (D : Option Addr) hd φ H w, Off D hd₀ H₀ → ExtD D hd₀ φ₀ H₀ hd φ H → WR K hd φ H w → ∃ xs, SqT K H a xs ∧ Reps K hd φ H ts xs) : Src K hd₀ φ₀ H₀ (VE.IteT K a n) (enT 0 ts) none := fun D i hd φ H w off e wr kp => by
  obtain ⟨xs, h1, h2⟩ := h D hd φ H w off e wr
  have hl := h2.len
  refine ⟨fun t ht => ?_, fun hl' => ⟨xs, h1, by omega, by rw [enT_len] at hl'; omega⟩⟩
  obtain ⟨s, hs, rfl⟩ := enT_at ht
  obtain ⟨x, hx, rx⟩ := h2.at hs
  refine ⟨⟨xs, x, h1, by omega, hx⟩, fun y H' hy => ?_⟩
  obtain ⟨p, z, rfl, hp, rfl, hy⟩ := hy
  cases (hy xs h1).symm.trans hx
  refine ⟨Ext.new hp, wr.new hp, ?_⟩
  unfold Rep
  exact ⟨p, [.int (i : Nat), x], rfl, ⟨upd_same, wr.nin hp⟩, Reps.cons (by unfold Rep; rw [Nat.zero_add]) (Reps.cons (rx.mono (Ext.new hp)) Reps.nil)⟩
theorem src_enL {hd₀ φ₀ : List Addr} {H₀ : Hp} {a : Addr} {ts : List T}
    (h : ∀ (D : Option Addr) hd φ H w, Off D hd₀ H₀ → ExtD D hd₀ φ₀ H₀ hd φ H → WR K hd φ H w → ∃ xs, SqL K H a xs ∧ Reps K hd φ H ts xs) : Src K hd₀ φ₀ H₀ (Ite K a) (enT 0 ts) none := fun D i hd φ H w off e wr kp => by
  obtain ⟨xs, h1, h2⟩ := h D hd φ H w off e wr
  have hl := h2.len
  refine ⟨fun t ht => ?_, fun hl' => ⟨xs, h1, by rw [enT_len] at hl'; omega⟩⟩
  obtain ⟨s, hs, rfl⟩ := enT_at ht
  obtain ⟨x, hx, rx⟩ := h2.at hs
  refine ⟨⟨xs, x, h1, hx⟩, fun y H' hy => ?_⟩
  obtain ⟨p, z, rfl, hp, rfl, hy⟩ := hy
  cases (hy xs h1).symm.trans hx
  refine ⟨Ext.new hp, wr.new hp, ?_⟩
  unfold Rep
  exact ⟨p, [.int (i : Nat), x], rfl, ⟨upd_same, wr.nin hp⟩, Reps.cons (by unfold Rep; rw [Nat.zero_add]) (Reps.cons (rx.mono (Ext.new hp)) Reps.nil)⟩
def sEnum : List T → World → R (List T × Option Nat) := fun ts w => match ts with
  | [.tup ts] => .ok (enT 0 ts, none) w
  | [.lst ts] => .ok (enT 0 ts, none) w
  | [.frz ts] => .ok (enT 0 ts, none) w
  | _ => .no
def mEnum (m : MF) : MI := fun ρ w => (m ρ w).bind sEnum
theorem di_enum {p tpos : Pos} {elts : List Expr} {kk : Nat} {m : MF} (hm : X.mg "enumerate" = none) (ha : PA X [e] (rdA X.K m)) (hg : Gl X "enumerate" := by rfl) (hs : starEach [e] X.env = [(false, eval e X.env)] := by rfl) : PI X (.Tuple elts kk tpos) (.Call (.Name "enumerate" p) [e] [] pos) (rdI X.K (mEnum m)) := PI_imp (PI_or (pi_enum hg hm ha hs) (VE.pi_enT hg hm ha hs)) fun σ H Q => by
  rintro ⟨hd, φ, ρ, w, sr, wr, p⟩
  unfold mEnum at p
  cases q : m ρ w with
  | no => rw [q] at p; exact p.elim
  | ok ts w1 =>
    rw [q, bind_ok] at p
    unfold sEnum at p
    have lists : ∀ us t, ts = [t] → items w1 t = some (us, none) → (∀ vs, t ≠ .tup vs) → Pst X.K hd (CI X.K hd Q) φ H (.ok (enT 0 us, none) w1) → iEnum X.K (rdA X.K m) σ H Q ∨ VE.iEnT X.K (rdA X.K m) σ H Q := fun us t et hi nt pp => by
      subst et
      refine .inl ⟨hd, φ, ρ, w, sr, wr, ?_⟩
      rw [q]
      intro H' φ' e1 wr1 vs rvs
      obtain ⟨v, rfl, rv⟩ := reps1 rvs
      obtain ⟨a, rfl, kp, h1⟩ := lst_later rv hi nt
      obtain ⟨xs, h2, h3⟩ := h1 none hd φ' H' w1 off_none Ext.refl.toD wr1 kp
      exact ⟨a, xs, rfl, h2, pp H' φ' e1 wr1 _ (src_enL fun D hd φ H w off e wr => h1 D hd φ H w off e wr kept_none)⟩
    match ts, p, lists with
    | [.lst us], p, lists => exact lists us _ rfl rfl (fun _ h => nomatch h) p
    | [.frz us], p, lists => exact lists us _ rfl rfl (fun _ h => nomatch h) p
    | [.tup us], p, _ =>
      have p : Pst X.K hd (CI X.K hd Q) φ H (.ok (enT 0 us, none) w1) := p
      refine .inr ⟨hd, φ, ρ, w, sr, wr, ?_⟩
      rw [q]
      intro H' φ' e1 wr1 vs rvs
      obtain ⟨v, rfl, rv⟩ := reps1 rvs
      unfold Rep at rv
      obtain ⟨a, xs, rfl, n, rs⟩ := rv
      exact ⟨a, xs, rfl, SqT.of n.1, p H' φ' e1 wr1 _ (src_enT rs.len fun D hd φ H w off e wr => ⟨xs, SqT.of (n.monoD e off).1, rs.monoD e off⟩)⟩
end
end VS

set_option Elab.async false
set_option linter.all false
set_option maxRecDepth 100000
set_option maxHeartbeats 2000000
namespace VS
open PySem PySem.Spec PyProof.Rows L2
section
variable {X : Cx} {K : PySem.W.Frag} {hd φ : List Addr} {H : Hp} {w : World} {a b e : Expr} {es : List Expr} {ma mb : ME} {kws : List Keyword} {x : Str} {p pos : Pos}
/-! ### is True -/
def sIsB : S2 := fun x y w => match x, y with
  | .bl i, .bl j => .ok (.bl (decide (i = j))) w
  | _, _ => .no
theorem opIsB : Op2 K sIsB rIsB := fun hd φ H w dx dy x y Q wr rx ry p => by
  cases dx with
  | bl i =>
    cases dy with
    | bl j =>
      unfold Rep at rx ry
      exact ⟨i, j, rx, ry, p.bl wr⟩
    | _ => exact p.elim
  | _ => exact p.elim
theorem de_isB (ha : PE X a (rdE X.K ma)) (hb : PE X b (rdE X.K mb)) : PE X (.Compare a [.Is] [b] pos) (rdE X.K (mOp2 sIsB ma mb)) := de_cmp op_isBl opIsB ha hb (nomark _)
theorem dt_isB (ha : PE X a (rdE X.K ma)) (hb : PE X b (rdE X.K mb)) : PT X (.Compare a [.Is] [b] pos) (rdT X.K (mTest (mOp2 sIsB ma mb))) := dt_cmp op_isBl opIsB ha hb (nomark _)
/-! ### xs[::-1] -/
theorem Reps.rev {ts : List T} {xs : List V} (h : Reps K hd φ H ts xs) : Reps K hd φ H ts.reverse xs.reverse := by
  induction ts generalizing xs with
  | nil => unfold Reps at h; subst h; exact Reps.nil
  | cons t ts ih =>
    unfold Reps at h
    obtain ⟨v, vs, rfl, h1, h2⟩ := h
    rw [List.reverse_cons, List.reverse_cons]
    exact (ih h2).append (Reps.cons h1 Reps.nil)
def mRevL (a : ME) : MF := fun ρ w => (a ρ w).bind fun t w1 => match lst? w1 t with
  | some ts => .ok ts.reverse w1
  | _ => .no
theorem df_revL {k : Nat} {p1 p2 p3 : Pos} (ha : PE X a (rdE X.K ma)) : PE X (.Subscript a (.Slice none none (some (.UnaryOp .USub (.Constant (.int 1) k p1) p2)) p3) pos) (rdF X.K (mRevL ma)) := PE_imp (pe_revL ha) fun σ H Q => by
  rintro ⟨hd, φ, ρ, w, sr, wr, p⟩
  refine ⟨hd, φ, ρ, w, sr, wr, Pst.then isPstF p fun t w1 φ1 H1 e1 wr1 p1 v rv => ?_⟩
  cases q : lst? w1 t with
  | none => rw [q] at p1; exact p1.elim
  | some ts =>
    rw [q] at p1
    obtain ⟨l', xs, rfl, h1, h2⟩ := lst_at wr1 rv q
    exact ⟨l', xs, rfl, SqL.of h1, p1.new wr1 h2.rev⟩
/-! ### calls by keywords in any sequence -/
def prm {α : Type} (ix : List Nat) (zs : List α) : List α := ix.filterMap fun i => zs[i]?
def gP {α : Type} (np nk : Nat) (ix : List Nat) (us ws : List α) : List α := if us.length = np ∧ ws.length = nk then prm ix (us ++ ws) else []
theorem prm_vals {vs : List V} {us : List Value} (h : Vals vs us) : ∀ ix : List Nat, Vals (prm ix vs) (prm ix us)
  | [] => .nil
  | i :: ix => by
    have ih := prm_vals h ix
    unfold prm at ih ⊢
    rw [List.filterMap_cons, List.filterMap_cons]
    cases q : vs[i]? with
    | none =>
      have : us[i]? = none := by rw [List.getElem?_eq_none_iff] at q ⊢; rw [← h.length]; exact q
      rw [this]
      exact ih
    | some v =>
      obtain ⟨u, hu, r⟩ := h.get q
      rw [hu]
      exact .cons r ih
theorem prm_reps {ts : List T} {vs : List V} (h : Reps K hd φ H ts vs) : ∀ ix : List Nat, Reps K hd φ H (prm ix ts) (prm ix vs)
  | [] => Reps.nil
  | i :: ix => by
    have ih := prm_reps h ix
    unfold prm at ih ⊢
    rw [List.filterMap_cons, List.filterMap_cons]
    cases q : ts[i]? with
    | none =>
      have : vs[i]? = none := by rw [List.getElem?_eq_none_iff] at q ⊢; rw [← h.len]; exact q
      rw [this]
      exact ih
    | some t =>
      obtain ⟨v, hv, r⟩ := h.at q
      rw [hv]
      exact Reps.cons r ih
theorem gP_rel {np nk : Nat} {ix : List Nat} {vs : List V} {us : List Value} {zs : List V} {ws : List Value} (a : Vals vs us) (b : Vals zs ws) : Vals (gP np nk ix vs zs) (gP np nk ix us ws) := by
  unfold gP
  rw [a.length, b.length]
  split
  · exact prm_vals (a.append b) ix
  · exact .nil
structure DfP (P : Program) (w : PySem.World) (K : PySem.W.Frag) (mg : Str → Option Value) (base : Heap) (k : Nat) (x : Str) (n np : Nat) (ks : List Str) (ix : List Nat) (f : Sem) : Prop where
  ex : ∃ (ad : Addr) (fd : FuncData) (ps : List Str), ps.length = n ∧ FnOk P w K mg base (L2.CX P w) k ad fd ps (spOf K n f) ∧ mg x = some (.ref ad) ∧ PySem.W.keepIn K (.ref ad) = true ∧ KBinds K fd ps ks (gP np ks.length ix) (gP np ks.length ix)
def mDefP (n np nk : Nat) (ix : List Nat) (f : Sem) (m mk : MF) : ME := fun ρ w => (m ρ w).bind fun ds w1 => (mk ρ w1).bind fun es w2 => if ds.length = np ∧ es.length = nk ∧ (prm ix (ds ++ es)).length = n then f (prm ix (ds ++ es)) w2 else .no
theorem defP_read {k n np : Nat} {ks : List Str} {ix : List Nat} {f : Sem} {m mk : MF} (σ : L2.St) (H : Hp) (Q : VK) (h : rdE X.K (mDefP n np ks.length ix f m mk) σ H Q) : tCallK (spOf X.K n f) (gP np ks.length ix) E0 (rdA X.K m) (rdA X.K mk) σ H Q := by
  obtain ⟨hd, φ, ρ, w, sr, wr, q⟩ := h
  refine ⟨hd, φ, ρ, w, sr, wr, Pst.then isPst q fun ds w1 φ1 H1 e1 wr1 p1 xs rx => ?_⟩
  refine ⟨hd, φ1, ρ, w1, sr.mono e1, wr1, ?_⟩
  cases q2 : mk ρ w1 with
  | no => rw [q2] at p1; exact p1.elim
  | ok zs w2 =>
    rw [q2, bind_ok] at p1
    intro H2 φ2 e2 wr2 vz rz
    by_cases hc : ds.length = np ∧ zs.length = ks.length ∧ (prm ix (ds ++ zs)).length = n
    · rw [if_pos hc] at p1
      have e : gP np ks.length ix xs vz = prm ix (xs ++ vz) := by unfold gP; rw [if_pos ⟨by rw [← rx.len]; exact hc.1, by rw [← rz.len]; exact hc.2.1⟩]
      rw [e]
      exact ⟨hd, φ2, w2, prm ix (ds ++ zs), hc.2.2, wr2, prm_reps ((rx.mono e2).append rz) ix, isPst.mono _ _ _ _ _ e2 p1⟩
    · rw [if_neg hc] at p1; exact p1.elim
theorem de_defP {k n np nk : Nat} {ks : List Str} {ix : List Nat} {f : Sem} {m mk : MF} (F : DfP X.prog X.w X.K X.mg X.base k x n np ks ix f) (hr : Room k X.A) (ha : PA X (e :: es) (rdA X.K m)) (hkw : PK X kws (rdA X.K mk)) (hg : Gl X x := by rfl)
    (hall : (backToKw pos (keywordEach kws X.env)).all (·.1.isSome) = true := by rfl) (hks : (backToKw pos (keywordEach kws X.env)).filterMap (·.1) = ks := by rfl)
    (hdb : (x == ("__debug__" : Str)) = false := by decide) (he : starEach (e :: es) X.env = (false, eval e X.env) :: starEach es X.env := by rfl)
    (hpl : ((backTo pos (starEach (e :: es) X.env)).any (·.1) || (backToKw pos (keywordEach kws X.env)).any (·.1.isNone)) = false := by rfl) (hnk : ks.length = nk := by rfl) : PE X (.Call (.Name x p) (e :: es) kws pos) (rdE X.K (mDefP n np nk ix f m mk)) := by
  subst hnk
  obtain ⟨ad, fd, ps, hn, ok, hm, hk, hb⟩ := F.ex
  exact PE_imp (pe_callK (E := E0) ok hr hg hm hk hb passL ha hkw hall hks hdb he hpl) (defP_read (k := k))
theorem de_defP0 {k n nk : Nat} {ks : List Str} {ix : List Nat} {f : Sem} {mk : MF} (F : DfP X.prog X.w X.K X.mg X.base k x n 0 ks ix f) (hr : Room k X.A) (hkw : PK X kws (rdA X.K mk)) (hg : Gl X x := by rfl)
    (hall : (backToKw pos (keywordEach kws X.env)).all (·.1.isSome) = true := by rfl) (hks : (backToKw pos (keywordEach kws X.env)).filterMap (·.1) = ks := by rfl)
    (hdb : (x == ("__debug__" : Str)) = false := by decide)
    (hpl : ((backTo pos (starEach [] X.env)).any (·.1) || (backToKw pos (keywordEach kws X.env)).any (·.1.isNone)) = false := by rfl) (hnk : ks.length = nk := by rfl) : PE X (.Call (.Name x p) [] kws pos) (rdE X.K (mDefP n 0 nk ix f mNil mk)) := by
  subst hnk
  obtain ⟨ad, fd, ps, hn, ok, hm, hk, hb⟩ := F.ex
  refine ⟨fun pins s σ H Q I h => ?_⟩
  obtain ⟨hd, φ, ρ, w, sr, wr, q⟩ := defP_read (k := k) (m := mNil) σ H Q h
  have q := q H φ Ext.refl wr [] Reps.nil
  refine wpAny_Call_Name_kw (ld_glob I hg hm ?_ hdb)
  refine PySem.W.callWith_KW0 (h₀ := X.base) I.ok.mod.kin hk hall (thn (hkw.run pos pins s σ H _ I q) fun ws s2 ⟨zs, H2, I2, rz, q2⟩ => ⟨I2.kIn, ?_⟩) hpl
  rw [hks]
  exact run_fnk (us := []) ok hr hb passL I2 .nil rz q2
end
theorem At.dfP {P : Program} {w : PySem.World} {K : PySem.W.Frag} {mg : Str → Option Value} {base : Heap} {x : Str} {st : Stmt} {N ps ks : List Str} {k np : Nat} {ix : List Nat} {m : MS} {h : Heap} (a : At K x st) (X : K.In h) (G : h.Ns mainGlobals mg) (S : FnScope N ps (defScope st)) (hne : ps ≠ [])
    (hb : ∀ (kV doc pm : Value) (an : Option Addr) (cdv ct : Value) (us ws : List Value), us.length = np → ws.length = ks.length → bindArgs (PySem.W.fnOf x x (defArgs st) (defBody st) (defScope st) .none kV doc pm an cdv ct) ⟨us, ks.zip ws⟩ = pure (ps.zip (prm ix (us ++ ws))))
    (body : Bd P w K mg base N x st k m) : DfP P w K mg base (k + 1) x ps.length np ks ix (runB N.length m) := by
  obtain ⟨f, oc, od, an, sl, kV, dc, pm, cd, ct, h1, h2, h3, h4⟩ := a.ex
  refine ⟨f, _, ps, rfl, ok_of (fun_mk (st := st) h2 h3 h4) S body, PySem.W.mg_of X G h1, h4, ⟨fun s us ws _ hl => ?_, fun a b => gP_rel a b⟩⟩
  unfold gP at hl ⊢
  split at hl
  · rename_i hc
    rw [if_pos hc]
    exact .of_eq (hb _ _ _ _ _ _ us ws hc.1 hc.2)
  · exfalso
    exact hne (List.eq_nil_of_length_eq_zero (by simpa using hl.symm))
end VS

set_option Elab.async false
set_option linter.all false
set_option maxRecDepth 100000
set_option maxHeartbeats 2000000
/-! VS13: dicts asked (in, not in, get), a display with one tuple for a key, range down. -/
namespace VS
open PySem PySem.Spec PyProof.Rows L2
/-- what a dict holds of a key; none where it is no dict, or no key -/
def getD? (w : World) (d y : T) : Option (Option T) := match d with
  | .cell k => match w[k]? with
    | some (.dic kvs) => match keyT y with
      | some key => some (valT kvs key)
      | none => none
    | some (.dit kvs) => match y with
      | .tup us => match keysT us with
        | some key => some (valT kvs key)
        | none => none
      | _ => none
    | _ => none
  | _ => none
def isDct (w : World) (d : T) : Bool := match d with
  | .cell k => match w[k]? with
    | some (.dic _) => true
    | some (.dit _) => true
    | _ => false
  | _ => false
def sIn : S2 := fun y d w => match getD? w d y with
  | some o => .ok (.bl o.isSome) w
  | none => .no
def sNotIn : S2 := fun y d w => match getD? w d y with
  | some o => .ok (.bl (!o.isSome)) w
  | none => .no
section
variable {K : PySem.W.Frag} {hd φ : List Addr} {H : Hp} {w : World}
theorem dget_at (wr : WR K hd φ H w) {d y : T} {x z : V} {o : Option T} (rd : Rep K hd φ H d x) (ry : Rep K hd φ H y z) (h : getD? w d y = some o) :
    ∃ a o', x = .ref a ∧ DGet H a z o' ∧ o'.isSome = o.isSome ∧ ∀ t, o = some t → ∃ v, o' = some v ∧ Rep K hd φ H t v := by
  cases d with
  | cell k =>
    unfold getD? at h
    simp only at h
    cases q : w[k]? with
    | none => rw [q] at h; cases h
    | some c =>
      rw [q] at h
      cases c with
      | lst ts => cases h
      | dic kvs =>
        simp only at h
        cases q2 : keyT y with
        | none => rw [q2] at h; cases h
        | some key =>
          rw [q2] at h
          cases h
          obtain ⟨l, rfl, _, _, ys, h1, h2, h3⟩ := cell_at wr rd q
          have h4 := valT_at h2 h3 key
          rw [key_at ry q2]
          refine ⟨l, valV ys key, rfl, DGet.k h1, ?_, fun t ht => ?_⟩
          · cases q3 : valT kvs key with
            | none => rw [q3] at h4; rw [h4]; rfl
            | some t =>
              rw [q3] at h4
              obtain ⟨v, h5, h6⟩ := h4
              rw [h5]; rfl
          · rw [ht] at h4
            exact h4
      | dit kvs =>
        cases y with
        | tup us =>
          simp only at h
          cases q2 : keysT us with
          | none => rw [q2] at h; cases h
          | some key =>
            rw [q2] at h
            cases h
            obtain ⟨l, rfl, _, _, ys, h1, h2, h3⟩ := cell_at wr rd q
            have h4 := valT_at h2 h3 key
            unfold Rep at ry
            obtain ⟨m, zs, rfl, n, rz⟩ := ry
            have e := keys_at rz q2
            subst e
            refine ⟨l, valV ys key, rfl, DGet.t h1 n.1, ?_, fun t ht => ?_⟩
            · cases q3 : valT kvs key with
              | none => rw [q3] at h4; rw [h4]; rfl
              | some t =>
                rw [q3] at h4
                obtain ⟨v, h5, h6⟩ := h4
                rw [h5]; rfl
            · rw [ht] at h4
              exact h4
        | _ => cases h
  | _ => cases h
theorem isD_of (wr : WR K hd φ H w) {d : T} {x : V} (rd : Rep K hd φ H d x) (h : isDct w d = true) : ∃ a, x = .ref a ∧ IsD H a := by
  cases d with
  | cell k =>
    unfold isDct at h
    simp only at h
    cases q : w[k]? with
    | none => rw [q] at h; cases h
    | some c =>
      rw [q] at h
      cases c with
      | lst ts => cases h
      | dic kvs =>
        obtain ⟨l, rfl, _, _, ys, h1, _⟩ := cell_at wr rd q
        exact ⟨l, rfl, .inl ⟨ys, .inl h1⟩⟩
      | dit kvs =>
        obtain ⟨l, rfl, _, _, ys, h1, _⟩ := cell_at wr rd q
        exact ⟨l, rfl, .inr ⟨ys, .inl h1⟩⟩
  | _ => cases h
variable {X : Cx} {e a b c o i : Expr} {pos apos cpos : Pos} {ma mb mo mi : ME}
theorem in_read : ∀ σ H Q, rdE X.K (mOp2 sIn ma mb) σ H Q → tDIn (rdE X.K ma) (rdE X.K mb) σ H Q := fun σ H Q => by
  rintro ⟨hd, φ, ρ, w, sr, wr, p⟩
  refine ⟨hd, φ, ρ, w, sr, wr, Pst.then isPst p fun dx w1 φ1 H1 e1 wr1 p1 x rx => ?_⟩
  refine ⟨hd, φ1, ρ, w1, sr.mono e1, wr1, Pst.then isPst p1 fun dy w2 φ2 H2 e2 wr2 p2 y ry => ?_⟩
  unfold sIn at p2
  cases q : getD? w2 dy dx with
  | none => rw [q] at p2; exact p2.elim
  | some o =>
    rw [q] at p2
    obtain ⟨l, o', rfl, g, hs, _⟩ := dget_at wr2 ry (rx.mono e2) q
    exact ⟨l, o', rfl, g, p2.ok wr2 _ (by unfold Rep; rw [hs])⟩
theorem notin_read : ∀ σ H Q, rdE X.K (mOp2 sNotIn ma mb) σ H Q → tDNotIn (rdE X.K ma) (rdE X.K mb) σ H Q := fun σ H Q => by
  rintro ⟨hd, φ, ρ, w, sr, wr, p⟩
  refine ⟨hd, φ, ρ, w, sr, wr, Pst.then isPst p fun dx w1 φ1 H1 e1 wr1 p1 x rx => ?_⟩
  refine ⟨hd, φ1, ρ, w1, sr.mono e1, wr1, Pst.then isPst p1 fun dy w2 φ2 H2 e2 wr2 p2 y ry => ?_⟩
  unfold sNotIn at p2
  cases q : getD? w2 dy dx with
  | none => rw [q] at p2; exact p2.elim
  | some o =>
    rw [q] at p2
    obtain ⟨l, o', rfl, g, hs, _⟩ := dget_at wr2 ry (rx.mono e2) q
    exact ⟨l, o', rfl, g, p2.ok wr2 _ (by unfold Rep; rw [hs])⟩
theorem de_din (hu : X.A.units + 1 < cLine) (ha : PE X a (rdE X.K ma)) (hb : PE X b (rdE X.K mb)) (hm : behindInMarks .In b = false := by rfl) : PE X (.Compare a [.In] [b] pos) (rdE X.K (mOp2 sIn ma mb)) := PE_imp (pe_cmp (pc_din hu ha hb) hm) in_read
theorem de_dnotin (hu : X.A.units + 1 < cLine) (ha : PE X a (rdE X.K ma)) (hb : PE X b (rdE X.K mb)) (hm : behindInMarks .NotIn b = false := by rfl) : PE X (.Compare a [.NotIn] [b] pos) (rdE X.K (mOp2 sNotIn ma mb)) := PE_imp (pe_cmp (pc_dnotin hu ha hb) hm) notin_read
theorem dt_din (hu : X.A.units + 1 < cLine) (ha : PE X a (rdE X.K ma)) (hb : PE X b (rdE X.K mb)) (hm : behindInMarks .In b = false := by rfl) : PT X (.Compare a [.In] [b] pos) (rdT X.K (mTest (mOp2 sIn ma mb))) := PT_imp (pt_cmp (pc_din hu ha hb) hm) fun σ H Q h => in_read σ H _ (test_read σ H Q h)
theorem dt_dnotin (hu : X.A.units + 1 < cLine) (ha : PE X a (rdE X.K ma)) (hb : PE X b (rdE X.K mb)) (hm : behindInMarks .NotIn b = false := by rfl) : PT X (.Compare a [.NotIn] [b] pos) (rdT X.K (mTest (mOp2 sNotIn ma mb))) := PT_imp (pt_cmp (pc_dnotin hu ha hb) hm) fun σ H Q h => notin_read σ H _ (test_read σ H Q h)
/-- d.get(y) -/
def mDGet (a b : ME) : ME := fun ρ w => (a ρ w).bind fun d w1 => if isDct w1 d = true then (b ρ w1).bind fun y w2 => match getD? w2 d y with
  | some (some t) => .ok t w2
  | some none => .ok .non w2
  | none => .no
  else .no
theorem de_dget (hu : X.A.units + 1 < cLine) (ho : PE X o (rdE X.K mo)) (he : PE X e (rdE X.K mi)) (m : M1 X o "get" apos e cpos := by exact ⟨rfl, rfl, rfl, rfl⟩) : PE X (.Call (.Attribute o "get" apos) [e] [] cpos) (rdE X.K (mDGet mo mi)) := PE_imp (pe_dget1 hu ho he m) fun σ H Q => by
  rintro ⟨hd, φ, ρ, w, sr, wr, p⟩
  refine ⟨hd, φ, ρ, w, sr, wr, Pst.then isPst p fun d w1 φ1 H1 e1 wr1 p1 x rx => ?_⟩
  split at p1
  · rename_i hD
    obtain ⟨l, rfl, hl⟩ := isD_of wr1 rx hD
    refine ⟨l, rfl, hl, ⟨hd, φ1, ρ, w1, sr.mono e1, wr1, Pst.then isPst p1 fun y w2 φ2 H2 e2 wr2 p2 z rz => ?_⟩⟩
    cases q : getD? w2 d y with
    | none => rw [q] at p2; exact p2.elim
    | some o =>
      rw [q] at p2
      obtain ⟨l', o', hl', g, hs, hv⟩ := dget_at wr2 (rx.mono e2) rz q
      cases hl'
      refine ⟨o', g, ?_⟩
      cases o with
      | none =>
        cases o' with
        | none => exact p2.ok wr2 _ (by unfold Rep; rfl)
        | some v => cases hs
      | some t =>
        obtain ⟨v, rfl, rv⟩ := hv t rfl
        exact p2.ok wr2 v rv
  · exact p1.elim
/-! range down -/
def rgD (hi : Int) (n : Nat) : List T := (List.range n).map fun i => .int (hi + (i : Nat) * (-1))
theorem rgD_length {hi : Int} {n : Nat} : (rgD hi n).length = n := by unfold rgD; simp
theorem rgD_at {hi : Int} {n i : Nat} {t : T} (h : (rgD hi n)[i]? = some t) : t = .int (hi + (i : Nat) * (-1)) ∧ i < n := by
  unfold rgD at h
  rw [List.getElem?_map] at h
  cases q : (List.range n)[i]? with
  | none => rw [q] at h; cases h
  | some j =>
    rw [q] at h
    obtain ⟨h1, h2⟩ := List.getElem?_eq_some_iff.mp q
    rw [List.getElem_range] at h2
    subst h2
    exact ⟨(Option.some.inj h).symm, by simpa using h1⟩
theorem src_rangeD {hd₀ φ₀ : List Addr} {H₀ : Hp} {hi : Int} {n : Nat} : Src K hd₀ φ₀ H₀ (Itc hi (-1) n) (rgD hi n) none := fun D i hd φ H w off e wr kp => by
  refine ⟨fun t ht => ?_, fun hl => by rw [rgD_length] at hl; exact hl⟩
  obtain ⟨rfl, hi⟩ := rgD_at ht
  refine ⟨hi, fun y H' hy => ?_⟩
  obtain ⟨rfl, rfl⟩ := hy
  exact ⟨Ext.refl, wr, by unfold Rep; rfl⟩
def sRangeD : List T → World → R (List T × Option Nat) := fun ts w => match ts with
  | [.int i, .int j, .int c] => if c = -1 ∧ RgOk i j then .ok (rgD i (i - j).toNat, none) w else .no
  | _ => .no
def mRangeD (m : MF) : MI := fun ρ w => (m ρ w).bind sRangeD
theorem reps3 {hd φ : List Addr} {H : Hp} {t u s : T} {vs : List V} (h : Reps K hd φ H [t, u, s] vs) : ∃ v x y, vs = [v, x, y] ∧ Rep K hd φ H t v ∧ Rep K hd φ H u x ∧ Rep K hd φ H s y := by
  unfold Reps at h
  obtain ⟨v, r, rfl, h1, h2⟩ := h
  obtain ⟨x, y, rfl, h3, h4⟩ := reps2 h2
  exact ⟨v, x, y, rfl, h1, h3, h4⟩
theorem di_rangeD {tg : Expr} {p : Pos} {m : MF} (hm : X.mg "range" = none) (ha : PA X [a, b, c] (rdA X.K m)) (hg : Gl X "range" := by rfl) (hs : starEach [a, b, c] X.env = (false, eval a X.env) :: starEach [b, c] X.env := by rfl) (hpl : (backTo pos (starEach [b, c] X.env)).any (·.1) = false := by rfl) : PI X tg (.Call (.Name "range" p) [a, b, c] [] pos) (rdI X.K (mRangeD m)) := PI_imp (pi_range3 hg hm ha hs hpl) fun σ H Q => by
  rintro ⟨hd, φ, ρ, w, sr, wr, p⟩
  refine ⟨hd, φ, ρ, w, sr, wr, ?_⟩
  unfold mRangeD at p
  cases q : m ρ w with
  | no => rw [q] at p; exact p.elim
  | ok ts w1 =>
    rw [q, bind_ok] at p
    intro H' φ' e1 wr1 vs rvs
    unfold sRangeD at p
    match ts, p with
    | [.int i, .int j, .int c], p =>
      obtain ⟨v, x, y, rfl, r1, r2, r3⟩ := reps3 rvs
      cases rep_int r1
      cases rep_int r2
      cases rep_int r3
      simp only at p
      split at p
      · rename_i ok
        obtain ⟨rfl, o1, o2, o3, o4⟩ := ok
        exact ⟨i, j, -1, (i - j).toNat, rfl, RgC.neg o1 o2 o3 o4, p H' φ' e1 wr1 _ src_rangeD⟩
      · exact p.elim
/-! {(a, b): v}: one pair, the key a tuple -/
def tDispT1 (tk tv : TE) : TE := fun σ H Q => ∀ p, H p = none → tk σ (upd H p (.dT [])) fun x H1 => tv σ H1 fun y H2 => H2 p = some (.dT []) ∧ ∃ b key, x = .ref b ∧ H2 b = some (.tup ((key : List Key).map kV)) ∧ Q (.ref p) (upd H2 p (.dT [(key, y)]))
theorem pe_dispT1 {k v : Expr} {tk tv : TE} (hu : X.A.units + 1 < cLine) (hk : PE X k tk) (hv : PE X v tv) : PE X (.Dict [some k] [v] pos) (tDispT1 tk tv) := by
  refine ⟨fun pins s σ H Q I q => ?_⟩
  have hn := I.hok.fresh (Nat.le_refl s.heap.objs.size)
  have I1 := I.laid (a := s.heap.objs.size) (o := .dT []) (h' := s.heap.push { cls := .type "dict", data := .dict #[] }) (t' := s.toks) (fun _ _ q => Heap.get?_push_of_some _ q) (Nat.le_refl _) (dt_empty s.heap I.big)
  have hlen : (pairTrees [some k] [v] X.env pos).length = 1 := by rw [pairTrees_length [some k] [v] X.env pos rfl rfl]; rfl
  rw [arm_eval_Dict, zip_pairTrees [some k] [v] X.env pos rfl rfl, dictDisplay_pairs (pairTrees [some k] [v] X.env pos) (fun h => by rw [h] at hlen; cases hlen) (by rw [hlen]; decide)]
  refine wpAny_bind (wpAny_standAt (wpAny_bind (wpAny_subDictH (knd := tupleKind (mixKind X.prog X.w)) (show X.A.units < cLine from Nat.lt_of_succ_lt hu) (by rw [hlen]; decide) (thn ((pps_cons hk hv (pps_nil (X := X) (pos := pos))).run pins _ σ _ (fun ps H2 => match ps with
    | [(x, y)] => H2 s.heap.objs.size = some (.dT []) ∧ ∃ b key, x = .ref b ∧ H2 b = some (.tup ((key : List Key).map kV)) ∧ Q (.ref s.heap.objs.size) (upd H2 s.heap.objs.size (.dT [(key, y)]))
    | _ => False) I1 (q _ hn)) fun ws s2 ⟨ps, H2, I2, rel, q2⟩ => ?_))))
  match ps, rel, q2 with
  | [(x, y)], rel, ⟨e, b, key, ex, eb, q2⟩ =>
    subst ex
    cases rel with
    | @cons a c as cs r rt =>
      cases rt
      obtain ⟨kv, u⟩ := c
      obtain ⟨r1, r2⟩ := r
      obtain rfl : kv = Value.ref b := r1
      obtain ⟨z, hd, xs, rx, dd⟩ := dt_of I2.hok e
      cases rx
      refine ⟨[(key, b, u)], ⟨rfl, rfl, key_of I2.hok eb, trivial⟩, dd, fun h' tk dd' hs => wpAny_pure ?_⟩
      have dd2 : h'.DictOfH (tupleKind (mixKind X.prog X.w)) s.heap.objs.size [(key, b, u)] := dd'
      obtain ⟨o, es, ep, ho, h2, h3, h4, _, h5⟩ := dd2
      refine ⟨.ref s.heap.objs.size, _, d_write (ob := .dT [(key, y)]) I2 (by rw [e]; exact True.intro) hs ⟨o, ho⟩ ⟨by rw [sizeLine_eq]; show 1 ≤ _; omega, hd, [(key, b, u)], .cons ⟨rfl, ?_, r2⟩ .nil, o, es, ep, ho, h2, h3, h4, h5⟩, rfl, q2⟩
      show upd H2 _ _ b = _
      rw [upd_ne (ne_of eb e (fun z => nomatch z))]
      exact eb
def mDictT1 (a b : ME) : ME := fun ρ w => (a ρ w).bind fun kt w1 => (b ρ w1).bind fun t w2 => match kt with
  | .tup us => match keysT us with
    | some key => .ok (.cell w2.length) (w2 ++ [.dit [(key, t)]])
    | none => .no
  | _ => .no
theorem de_dictT1 {k v : Expr} (hu : X.A.units + 1 < cLine) (hk : PE X k (rdE X.K ma)) (hv : PE X v (rdE X.K mb)) : PE X (.Dict [some k] [v] pos) (rdE X.K (mDictT1 ma mb)) := PE_imp (pe_dispT1 hu hk hv) fun σ H Q => by
  rintro ⟨hd, φ, ρ, w, sr, wr, p⟩
  intro l hln
  have eh : Ext hd φ H (l :: hd) φ (upd H l (.dT [])) := Ext.hold hln
  refine ⟨l :: hd, φ, ρ, w, sr.mono eh, wr.hold hln, ?_⟩
  unfold mDictT1 at p
  cases q : ma ρ w with
  | no => rw [q] at p; exact p.elim
  | ok kt w1 =>
    rw [q, bind_ok] at p
    intro H1 φ1 e1 wr1 x rx
    refine ⟨l :: hd, φ1, ρ, w1, (sr.mono eh).mono e1, wr1, ?_⟩
    cases q2 : mb ρ w1 with
    | no => rw [q2] at p; exact p.elim
    | ok t w2 =>
      rw [q2, bind_ok] at p
      intro H2 φ2 e2 wr2 y ry
      have e12 := e1.trans e2
      have hx : H2 l = some (.dT []) := e12.keep l _ upd_same (wr.hold (o := .dT []) hln |>.apart l · List.mem_cons_self)
      cases kt with
      | tup us =>
        simp only at p
        cases q3 : keysT us with
        | none => rw [q3] at p; exact p.elim
        | some key =>
          rw [q3] at p
          have rx2 := rx.mono e2
          unfold Rep at rx2
          obtain ⟨b, zs, rfl, n, rz⟩ := rx2
          have e' := keys_at rz q3
          subst e'
          refine ⟨hx, b, key, rfl, n.1, ?_⟩
          have eg : ExtD (some l) (l :: hd) φ2 H2 (l :: hd) φ2 (upd H2 l (.dT [(key, y)])) := ExtD.grow List.mem_cons_self
          have off : Off (some l) (l :: hd) H2 := fun d h => by cases h; exact .inl List.mem_cons_self
          have e3 : Ext hd φ H (l :: hd) φ2 (upd H2 l (.dT [(key, y)])) := ((eh.toD.trans e12.toD).trans eg).plain hln
          refine p _ (φ2 ++ [l]) (e3.cell hln) ((wr2.grow List.mem_cons_self).cell (wr.nin hln).2 ⟨[(key, y)], upd_same, rfl, (Reps.cons ry Reps.nil).monoD eg off⟩) _ ?_
          unfold Rep
          refine ⟨l, rfl, ?_⟩
          rw [← wr2.len, List.getElem?_append_right (Nat.le_refl _)]
          simp
      | _ => exact p.elim
end
end VS

set_option Elab.async false
set_option linter.all false
set_option maxRecDepth 100000
set_option maxHeartbeats 2000000
/-! VS14: x in a sequence, len(set(xs)), range as a value, a starred item, sorted(tuples of ints). -/
namespace VS
open PySem PySem.Spec PyProof.Rows L2
section
variable {X : Cx} {K : PySem.W.Frag} {hd φ : List Addr} {H : Hp} {w : World} {e a b c : Expr} {es : List Expr} {pos p p2 q : Pos} {ma mb m0 : ME} {m : MF} {tg : Expr}
/-! ### x in a sequence -/
def rInQ (K : PySem.W.Frag) (f : Bool → Bool) : R2 := fun x y H Q => ∃ d ds, Dp K H x d ∧ (Dp K H y (.list ds) ∨ Dp K H y (.tuple ds)) ∧ SeqAt.shaped d = true ∧ SeqAt.shaped (.list ds) = true ∧ Q (.bl (f (ds.any fun z => PyData.eqv z d))) H
theorem op_inQ (hu : X.A.units + 65 < cLine) : OpR X (compareOp .In) (rInQ X.K id) := by
  intro pins s σ H x y v u Q I rx ry h
  obtain ⟨d, ds, hd, he, sd, se, q⟩ := h
  obtain ⟨as, r1⟩ := Dp.reads I d x v hd rx
  rcases he with he | he
  · obtain ⟨bs, r2⟩ := Dp.reads I (.list ds) y u he ry
    exact SeqAt.in_list_reads r2 r1 (SeqAt.canLay_of_shaped se) (SeqAt.canLay_of_shaped sd) (room_in_shaped sd hu) ⟨.bl _, H, I, rfl, q⟩
  · obtain ⟨bs, r2⟩ := Dp.reads I (.tuple ds) y u he ry
    exact SeqAt.in_tuple_reads r2 r1 (SeqAt.canLay_of_shaped se) (SeqAt.canLay_of_shaped sd) (room_in_shaped sd hu) ⟨.bl _, H, I, rfl, q⟩
theorem op_notInQ (hu : X.A.units + 65 < cLine) : OpR X (compareOp .NotIn) (rInQ X.K not) := by
  intro pins s σ H x y v u Q I rx ry h
  obtain ⟨d, ds, hd, he, sd, se, q⟩ := h
  obtain ⟨as, r1⟩ := Dp.reads I d x v hd rx
  rcases he with he | he
  · obtain ⟨bs, r2⟩ := Dp.reads I (.list ds) y u he ry
    exact SeqAt.notIn_list_reads r2 r1 (SeqAt.canLay_of_shaped se) (SeqAt.canLay_of_shaped sd) (room_in_shaped sd hu) ⟨.bl _, H, I, rfl, q⟩
  · obtain ⟨bs, r2⟩ := Dp.reads I (.tuple ds) y u he ry
    exact SeqAt.notIn_tuple_reads r2 r1 (SeqAt.canLay_of_shaped se) (SeqAt.canLay_of_shaped sd) (room_in_shaped sd hu) ⟨.bl _, H, I, rfl, q⟩
def inT (w : World) (x y : T) : Option Bool := match pd w x, pd w y with
  | some d, some (.list ds) => if SeqAt.shaped d = true ∧ SeqAt.shaped (.list ds) = true then some (ds.any fun z => PyData.eqv z d) else none
  | some d, some (.tuple ds) => if SeqAt.shaped d = true ∧ SeqAt.shaped (.list ds) = true then some (ds.any fun z => PyData.eqv z d) else none
  | _, _ => none
def sInQ : S2 := fun x y w => match inT w x y with
  | some b => .ok (.bl b) w
  | none => .no
def sNotInQ : S2 := fun x y w => match inT w x y with
  | some b => .ok (.bl (!b)) w
  | none => .no
theorem inT_at (wr : WR K hd φ H w) {dx dy : T} {x y : V} {b : Bool} (rx : Rep K hd φ H dx x) (ry : Rep K hd φ H dy y) (h : inT w dx dy = some b) :
    ∃ d ds, Dp K H x d ∧ (Dp K H y (.list ds) ∨ Dp K H y (.tuple ds)) ∧ SeqAt.shaped d = true ∧ SeqAt.shaped (.list ds) = true ∧ b = ds.any fun z => PyData.eqv z d := by
  unfold inT at h
  split at h
  · rename_i d ds h1 h2
    split at h
    · rename_i hs; cases h; exact ⟨d, ds, dp wr rx h1, .inl (dp wr ry h2), hs.1, hs.2, rfl⟩
    · cases h
  · rename_i d ds h1 h2
    split at h
    · rename_i hs; cases h; exact ⟨d, ds, dp wr rx h1, .inr (dp wr ry h2), hs.1, hs.2, rfl⟩
    · cases h
  · cases h
theorem opInQ : Op2 K sInQ (rInQ K id) := fun hd φ H w dx dy x y Q wr rx ry p => by
  unfold sInQ at p
  cases q : inT w dx dy with
  | none => rw [q] at p; exact p.elim
  | some k =>
    rw [q] at p
    obtain ⟨d, ds, h1, h2, h3, h4, rfl⟩ := inT_at wr rx ry q
    exact ⟨d, ds, h1, h2, h3, h4, p.bl wr⟩
theorem opNotInQ : Op2 K sNotInQ (rInQ K not) := fun hd φ H w dx dy x y Q wr rx ry p => by
  unfold sNotInQ at p
  cases q : inT w dx dy with
  | none => rw [q] at p; exact p.elim
  | some k =>
    rw [q] at p
    obtain ⟨d, ds, h1, h2, h3, h4, rfl⟩ := inT_at wr rx ry q
    exact ⟨d, ds, h1, h2, h3, h4, p.bl wr⟩
section
variable (hu : X.A.units + 65 < cLine) (ha : PE X a (rdE X.K ma)) (hb : PE X b (rdE X.K mb))
include hu ha hb
theorem de_inq (hm : behindInMarks .In b = false := by rfl) : PE X (.Compare a [.In] [b] pos) (rdE X.K (mOp2 sInQ ma mb)) := de_cmp (op_inQ hu) opInQ ha hb hm
theorem de_notinq (hm : behindInMarks .NotIn b = false := by rfl) : PE X (.Compare a [.NotIn] [b] pos) (rdE X.K (mOp2 sNotInQ ma mb)) := de_cmp (op_notInQ hu) opNotInQ ha hb hm
theorem dt_inq (hm : behindInMarks .In b = false := by rfl) : PT X (.Compare a [.In] [b] pos) (rdT X.K (mTest (mOp2 sInQ ma mb))) := dt_cmp (op_inQ hu) opInQ ha hb hm
theorem dt_notinq (hm : behindInMarks .NotIn b = false := by rfl) : PT X (.Compare a [.NotIn] [b] pos) (rdT X.K (mTest (mOp2 sNotInQ ma mb))) := dt_cmp (op_notInQ hu) opNotInQ ha hb hm
end
/-! ### len(set(xs)), ints -/
def unlike (ns : List Int) : Nat := (firstMet (fun i => ns.getD i 0) ns.length).length
def tLenSet (K : PySem.W.Frag) (ta : TE) : TE := fun σ H Q => ta σ H fun x H1 => ∃ (l : Addr) (ns : List Int), x = .ref l ∧ SqL K H1 l (ns.map V.int) ∧ ns.length ≤ 4000 ∧ Q (.int (unlike ns : Nat)) H1
theorem pe_lenSet' {ta : TE} (hg : Gl X "len") (hm : X.mg "len" = none) (hg2 : Gl X "set") (hm2 : X.mg "set" = none) (ha : PE X a ta) (hc : X.calm = true := by rfl)
    (na : starEach [a] X.env = (false, eval a X.env) :: starEach [] X.env := by rfl) : PE X (.Call (.Name "len" p) [.Call (.Name "set" p2) [a] [] q] [] pos) (tLenSet X.K ta) := by
  refine ⟨fun pins s σ H Q I h => ?_⟩
  refine Call_ (ld_blt I hg hm boot_len ?_)
  refine PyProof.Rows.callWith_builtin1 (PyProof.Rows.args_cons ?_ rfl) rfl rfl
  refine Call_ (ld_blt I hg2 hm2 boot_set ?_)
  refine PyProof.Rows.callWith_type1 (PyProof.Rows.args_cons (thn (ha.run pins s σ H _ I h) fun v s1 ⟨x, H1, I1, r1, q1⟩ => PyProof.Rows.args_nil ?_) na) na rfl
  obtain ⟨l, ns, rfl, hq, hl, q1⟩ := q1
  cases r1
  obtain ⟨its, r, pl, hz⟩ := I1.list hq
  have hlen : its.toArray.size = ns.length := by rw [List.size_toArray, ← r.length, List.length_map]
  refine call_set_list (I1.ok.hd hc) pl.isList (by simpa using RZ.intsAre_vals r) (by rw [hlen]; unfold scanBound; omega) fun h' tk hS hk => ?_
  refine PyProof.Rows.args_nil ?_
  rw [hlen] at hS
  have hle := firstMet_length_le (fun i => ns.getD i 0) ns.length
  obtain ⟨o, es, ep, t, ho, hex, hd, _, _, _, hf, hn⟩ := hS
  have I2 : Inv X pins σ H1 { s1 with heap := h', toks := tk } := I1.kept fun b o e => hk b o (Heap.lt_size e) e
  exact call_len_set ho hex hd hf (by rw [hn] <;> omega) ⟨.int _, H1, I2.tok _, ⟨_, by rw [hn] <;> rfl⟩, q1⟩
def intsT : List T → Option (List Int)
  | [] => some []
  | .int i :: ts => (intsT ts).map (i :: ·)
  | _ => none
theorem intV_at : ∀ {ts : List T} {vs : List V} {ns : List Int}, Reps K hd φ H ts vs → intsT ts = some ns → vs = ns.map V.int
  | [], vs, ns, r, h => by cases h; unfold Reps at r; exact r
  | .int i :: ts, vs, ns, r, h => by
    unfold Reps at r
    obtain ⟨x, xs, rfl, r1, r2⟩ := r
    cases rep_int r1
    obtain ⟨cs, h1, rfl⟩ := map_some h
    rw [intV_at r2 h1]
    rfl
  | .non :: ts, vs, bs, r, h => by cases h
  | .bl _ :: ts, vs, bs, r, h => by cases h
  | .str _ :: ts, vs, bs, r, h => by cases h
  | .ty _ :: ts, vs, bs, r, h => by cases h
  | .tup _ :: ts, vs, bs, r, h => by cases h
  | .lst _ :: ts, vs, bs, r, h => by cases h
  | .frz _ :: ts, vs, bs, r, h => by cases h
  | .rng _ :: ts, vs, bs, r, h => by cases h
  | .cell _ :: ts, vs, bs, r, h => by cases h
def mLenSet (a : ME) : ME := fun ρ w => (a ρ w).bind fun t w1 => match lst? w1 t with
  | some ts => match intsT ts with
    | some ns => if ns.length ≤ 4000 then .ok (.int (unlike ns : Nat)) w1 else .no
    | none => .no
  | none => .no
theorem de_lenset (hm : X.mg "len" = none) (hm2 : X.mg "set" = none) (ha : PE X a (rdE X.K ma)) (hg : Gl X "len" := by rfl) (hg2 : Gl X "set" := by rfl) (hc : X.calm = true := by rfl)
    (na : starEach [a] X.env = (false, eval a X.env) :: starEach [] X.env := by rfl) : PE X (.Call (.Name "len" p) [.Call (.Name "set" p2) [a] [] q] [] pos) (rdE X.K (mLenSet ma)) := PE_imp (pe_lenSet' hg hm hg2 hm2 ha hc na) fun σ H Q => by
  rintro ⟨hd, φ, ρ, w, sr, wr, p⟩
  refine ⟨hd, φ, ρ, w, sr, wr, Pst.then isPst p fun t w1 φ1 H1 e1 wr1 p1 x rx => ?_⟩
  cases q1 : lst? w1 t with
  | none => rw [q1] at p1; exact p1.elim
  | some ts =>
    rw [q1] at p1
    simp only at p1
    cases q2 : intsT ts with
    | none => rw [q2] at p1; exact p1.elim
    | some ns =>
      rw [q2] at p1
      simp only at p1
      split at p1
      · rename_i hl
        obtain ⟨l, xs, rfl, h1, h2⟩ := lst_at wr1 rx q1
        cases intV_at h2 q2
        exact ⟨l, ns, rfl, SqL.of h1, hl, p1.int wr1⟩
      · exact p1.elim
/-! ### range(n) as a value -/
theorem cr_range1 : CallR X (.type "range") (fun vs H Q => ∃ j, vs = [V.int j] ∧ ∀ p, H p = none → Q (.ref p) (upd H p (.rng 0 j))) := by
  intro pins s σ H vs us Q I r h
  obtain ⟨j, rfl, q⟩ := h
  cases r with
  | cons r1 rt =>
    cases rt
    obtain ⟨t, rfl⟩ := r1
    refine call_range_1 ⟨.ref s.heap.objs.size, upd H s.heap.objs.size (.rng 0 j), I.laid (t' := s.toks + 1 + 1) (fun b o e => Heap.get?_push_of_some _ e) (Nat.le_refl _) ?_, rfl, q _ (I.hok.fresh (Nat.le_refl _))⟩
    exact ⟨s.toks, t, s.toks + 1, Heap.get?_push_size _ rfl⟩
def sRng : SC := fun ds w => match ds with
  | [.int j] => if 0 ≤ j then .ok (.rng j.toNat) w else .no
  | _ => .no
theorem opRng : OpC K sRng (fun vs H Q => ∃ j, vs = [V.int j] ∧ ∀ p, H p = none → Q (.ref p) (upd H p (.rng 0 j))) := fun hd φ H w ds xs Q wr rx p => by
  unfold sRng at p
  match ds, p with
  | [.int j], p =>
    obtain ⟨v, rfl, r⟩ := reps1 rx
    cases rep_int r
    simp only at p
    split at p
    · rename_i hj
      refine ⟨j, rfl, fun q hq => ?_⟩
      refine p (upd H q (.rng 0 j)) φ (Ext.new hq) (wr.new hq) _ ?_
      unfold Rep
      exact ⟨q, rfl, by rw [upd_same, Int.toNat_of_nonneg hj], (wr.nin hq).1, (wr.nin hq).2⟩
    · exact p.elim
theorem de_range1 (hm : X.mg "range" = none) (ha : PA X [e] (rdA X.K m)) (hg : Gl X "range" := by rfl) (he : starEach [e] X.env = (false, eval e X.env) :: starEach [] X.env := by rfl) (hpl : (backTo pos (starEach [] X.env)).any (·.1) = false := by rfl) : PE X (.Call (.Name "range" p) [e] [] pos) (rdE X.K (mCall sRng m)) :=
  de_callTy cr_range1 opRng hm boot_range ha hg (by decide) (by decide) he hpl
def iRngV (te : TE) : TI := fun σ H R => te σ H fun x H1 => ∃ a hi, x = .ref a ∧ H1 a = some (.rng 0 hi) ∧ 0 ≤ hi ∧ hi < 2 ^ 62 ∧ R (Itr 0 hi.toNat) H1
theorem pi_rngV {te : TE} (he : PE X e te) : PI X tg e (iRngV te) := by
  refine ⟨fun pins s σ H R I h => ?_⟩
  refine thn (he.run pins s σ H _ I h) fun v s1 ⟨x, H1, I1, r1, q1⟩ => ?_
  obtain ⟨a, hi, rfl, ha, h0, h1, q⟩ := q1
  cases r1
  obtain ⟨t, u, k, ho⟩ := I1.hok a _ ha
  have hr : IsRange s1.heap a 0 hi 1 t u k := ho
  refine wpAny_pyIter_range hr (small_one (by decide) (by decide) (by omega) h1) ?_
  refine ⟨s1.heap.objs.size, [s1.heap.objs.size], _, _, H1, rfl, I1.kept (t' := s1.toks) fun b o e => Heap.get?_push_of_some _ e, turn_range _ 0 hi.toNat, ?_, fun b hb => ?_, q⟩
  · have e1 : (0 : Int) + ((0 : Nat) : Int) * 1 = 0 := by simp
    have e2 : ((hi.toNat : Nat) : Int) - ((0 : Nat) : Int) = Builtin.Range.rangeSize 0 hi 1 := by rw [rangeSize_one]; split <;> omega
    show IsRangeIter _ _ ((0 : Int) + ((0 : Nat) : Int) * 1) (((hi.toNat : Nat) : Int) - ((0 : Nat) : Int)) 1
    rw [e1, e2]
    exact Heap.get?_push_size _ rfl
  · have e : b = s1.heap.objs.size := by simpa using hb
    subst e
    exact I1.fpOk (Nat.le_refl _) (I1.hok.fresh (Nat.le_refl _))
def mItemsR (m : ME) : MI := fun ρ w => (m ρ w).bind fun t w1 => match t with
  | .rng n => if (n : Int) < 2 ^ 62 then .ok (rgT 0 n, none) w1 else .no
  | _ => .no
theorem di_rng (h : PE X e (rdE X.K m0)) : PI X tg e (rdI X.K (mItemsR m0)) := PI_imp (pi_rngV h) fun σ H Q => by
  rintro ⟨hd, φ, ρ, w, sr, wr, p⟩
  refine ⟨hd, φ, ρ, w, sr, wr, ?_⟩
  unfold mItemsR at p
  cases q : m0 ρ w with
  | no => rw [q] at p; exact p.elim
  | ok t w1 =>
    rw [q, bind_ok] at p
    intro H' φ' e1 wr1 v rv
    cases t with
    | rng n =>
      simp only at p
      split at p
      · rename_i hn
        unfold Rep at rv
        obtain ⟨a, rfl, h1, _⟩ := rv
        refine ⟨a, n, rfl, h1, by omega, hn, ?_⟩
        have e2 : ((n : Int)).toNat = n := by simp
        rw [e2]
        exact p H' φ' e1 wr1 _ src_range
      · exact p.elim
    | _ => exact p.elim
/-! ### a starred item -/
def mStar (a : ME) (m : MF) : MF := fun ρ w => (a ρ w).bind fun t w1 => match seq? w1 t with
  | some ts => (m ρ w1).bind fun us w2 => .ok (ts ++ us) w2
  | none => .no
theorem da_star (ha : PE X a (rdE X.K ma)) (hr : PA X es (rdA X.K m)) (hs : starEach (.Starred a p :: es) X.env = (true, eval a X.env) :: starEach es X.env := by rfl) : PA X (.Starred a p :: es) (rdA X.K (mStar ma m)) := PA_imp (StX.pa_star ha hr hs) fun σ H Q => by
  rintro ⟨hd, φ, ρ, w, sr, wr, p⟩
  refine ⟨hd, φ, ρ, w, sr, wr, Pst.then isPst p fun x w1 φ1 H1 e1 wr1 p1 v rv => ?_⟩
  cases q : seq? w1 x with
  | none => rw [q] at p1; exact p1.elim
  | some ts =>
    rw [q] at p1
    simp only at p1
    obtain ⟨l, xs, rfl, h1, h2⟩ := seq_at wr1 rv q
    refine ⟨l, xs, rfl, h1.symm, hd, φ1, ρ, w1, sr.mono e1, wr1, Pst.then isPst p1 fun us w2 φ2 H2 e2 wr2 p2 vs rvs => ?_⟩
    exact p2.ok wr2 _ ((h2.mono e2).append rvs)
/-! ### sorted(xs), tuples of ints -/
def rowsT : List T → Option (List (List Int))
  | [] => some []
  | .tup us :: ts => match intsT us, rowsT ts with
    | some r, some rs => some (r :: rs)
    | _, _ => none
  | _ => none
def rowT (r : List Int) : T := .tup (r.map T.int)
theorem intsT_map : ∀ {ts : List T} {ns : List Int}, intsT ts = some ns → ts = ns.map T.int
  | [], ns, h => by cases h; rfl
  | .int i :: ts, ns, h => by
    obtain ⟨cs, h1, rfl⟩ := map_some h
    rw [intsT_map h1]
    rfl
  | .non :: ts, _, h => by cases h
  | .bl _ :: ts, _, h => by cases h
  | .str _ :: ts, _, h => by cases h
  | .ty _ :: ts, _, h => by cases h
  | .tup _ :: ts, _, h => by cases h
  | .lst _ :: ts, _, h => by cases h
  | .frz _ :: ts, _, h => by cases h
  | .rng _ :: ts, _, h => by cases h
  | .cell _ :: ts, _, h => by cases h
theorem rowsT_map : ∀ {ts : List T} {rs : List (List Int)}, rowsT ts = some rs → ts = rs.map rowT
  | [], ns, h => by cases h; rfl
  | .tup us :: ts, rs, h => by
    unfold rowsT at h
    split at h
    · rename_i r rs' h1 h2
      cases h
      rw [rowsT_map h2, intsT_map h1]
      rfl
    · cases h
  | .non :: ts, _, h => by cases h
  | .bl _ :: ts, _, h => by cases h
  | .str _ :: ts, _, h => by cases h
  | .ty _ :: ts, _, h => by cases h
  | .int _ :: ts, _, h => by cases h
  | .lst _ :: ts, _, h => by cases h
  | .frz _ :: ts, _, h => by cases h
  | .rng _ :: ts, _, h => by cases h
  | .cell _ :: ts, _, h => by cases h
theorem intsT_of : ∀ ns : List Int, intsT (ns.map T.int) = some ns
  | [] => rfl
  | n :: ns => by show (intsT (ns.map T.int)).map _ = _; rw [intsT_of ns]; rfl
theorem rowsT_of : ∀ rs : List (List Int), rowsT (rs.map rowT) = some rs
  | [] => rfl
  | r :: rs => by
    show (match intsT (r.map T.int), rowsT (rs.map rowT) with
      | some r, some rs => some (r :: rs)
      | _, _ => none) = _
    rw [intsT_of, rowsT_of rs]
def bdT : Int := 2 ^ 64
def bdRow (d : Nat) (r : List Int) : Prop := r.length = d ∧ TS.Bd bdT r
theorem code_inj {B : Int} : ∀ {r q : List Int}, r.length = q.length → TS.Bd B r → TS.Bd B q → TS.code B r = TS.code B q → r = q
  | [], [], _, _, _, _ => rfl
  | d :: r, e :: q, hl, h1, h2, h => by
    have hl' : r.length = q.length := by simpa using hl
    rcases Int.lt_trichotomy d e with c | c | c
    · exact absurd h (Int.ne_of_lt (TS.code_lt hl' h1.tail h2.tail c))
    · subst c
      have i1 := (TS.code_same (B := B) (d := d) hl').mpr
      have i2 := (TS.code_same (B := B) (d := d) hl'.symm).mpr
      rw [code_inj hl' h1.tail h2.tail]
      omega
    · exact absurd h.symm (Int.ne_of_lt (TS.code_lt hl'.symm h2.tail h1.tail c))
  | [], _ :: _, hl, _, _, _ => by simp at hl
  | _ :: _, [], hl, _, _, _ => by simp at hl
theorem reps_perm {f : List Int → T} : ∀ {ys xs : List V}, ys.Perm xs → ∀ {rs : List (List Int)}, Reps K hd φ H (rs.map f) xs → ∃ qs : List (List Int), qs.Perm rs ∧ Reps K hd φ H (qs.map f) ys := fun {ys xs} h => by
  induction h with
  | nil => intro rs r; exact ⟨rs, .refl _, r⟩
  | @cons x l1 l2 _ ih =>
    intro rs r
    cases rs with
    | nil => unfold Reps at r; cases r
    | cons q rs =>
      rw [List.map_cons] at r
      unfold Reps at r
      obtain ⟨z, zs, ez, r1, r2⟩ := r
      cases ez
      obtain ⟨qs, p1, p2⟩ := ih r2
      exact ⟨q :: qs, .cons _ p1, Reps.cons r1 p2⟩
  | @swap x y l =>
    intro rs r
    match rs, r with
    | [], r => unfold Reps at r; cases r
    | [q], r =>
      rw [List.map_cons] at r
      unfold Reps at r
      obtain ⟨z, zs, ez, r1, r2⟩ := r
      cases ez
      unfold List.map Reps at r2
      cases r2
    | q1 :: q2 :: rs, r =>
      rw [List.map_cons, List.map_cons] at r
      unfold Reps at r
      obtain ⟨z, zs, ez, r1, r2⟩ := r
      cases ez
      unfold Reps at r2
      obtain ⟨z, zs, ez, r3, r4⟩ := r2
      cases ez
      exact ⟨q2 :: q1 :: rs, .swap _ _ _, Reps.cons r3 (Reps.cons r1 r4)⟩
  | trans _ _ ih1 ih2 =>
    intro rs r
    obtain ⟨qs, p1, p2⟩ := ih2 r
    obtain ⟨qs', p3, p4⟩ := ih1 p2
    exact ⟨qs', p3.trans p1, p4⟩
def sortR (rs : List (List Int)) : List (List Int) := rs.mergeSort fun a b => decide (TS.code bdT a ≤ TS.code bdT b)
theorem sortR_perm (rs : List (List Int)) : (sortR rs).Perm rs := List.mergeSort_perm _ _
theorem sortR_pw (rs : List (List Int)) : (sortR rs).Pairwise fun a b => TS.code bdT a ≤ TS.code bdT b := by
  have h := List.pairwise_mergeSort (le := fun a b : List Int => decide (TS.code bdT a ≤ TS.code bdT b)) (fun a b c h1 h2 => by simp at h1 h2 ⊢; omega) (fun a b => by simp; omega) rs
  exact h.imp fun h => by simpa using h
open Classical in
noncomputable def sSortT (d : Nat) : SCF := fun ds w => match ds with
  | [t] => match lst? w t with
    | some ts => match rowsT ts with
      | some rs => if rs.length < 64 ∧ ∀ r ∈ rs, bdRow d r then .ok ((sortR rs).map rowT) w else .no
      | none => .no
    | none => .no
  | _ => .no
theorem opSortT {d : Nat} : OpCF K (sSortT d) (rSortU K d bdT) := fun hd φ H w ds xs Q wr rx p => by
  unfold sSortT at p
  match ds, p with
  | [t], p =>
    simp only at p
    cases q : lst? w t with
    | none => rw [q] at p; exact p.elim
    | some ts =>
      rw [q] at p
      simp only at p
      cases q2 : rowsT ts with
      | none => rw [q2] at p; exact p.elim
      | some rs =>
        rw [q2] at p
        simp only at p
        split at p
        · rename_i hc
          obtain ⟨h64, hb⟩ := hc
          obtain ⟨v, rfl, r⟩ := reps1 rx
          obtain ⟨l, ys, rfl, h1, h2⟩ := lst_at wr r q
          rw [rowsT_map q2] at h2
          have tu : ∀ (r : List Int) (x : V), Rep K hd φ H (rowT r) x → TupI K H x r := fun r x h => by
            unfold rowT Rep at h
            obtain ⟨a, xs, rfl, n, rs⟩ := h
            have := intV_at rs (intsT_of r)
            subst this
            exact ⟨a, rfl, SqT.of n.1⟩
          refine ⟨l, ys, rfl, SqL.of h1, ?_, fun x hx => ?_, fun zs p0 hp hw hn => ?_⟩
          · rw [← h2.len, List.length_map]; exact h64
          · obtain ⟨i, hi⟩ := List.mem_iff_getElem?.mp hx
            obtain ⟨t, ht, rt⟩ := h2.at' hi
            rw [List.getElem?_map] at ht
            cases e : rs[i]? with
            | none => rw [e] at ht; cases ht
            | some r =>
              rw [e] at ht
              cases ht
              exact ⟨r, tu r x rt, hb r (List.mem_of_getElem? e)⟩
          · obtain ⟨qs, pq, rq⟩ := reps_perm hp h2
            have bq : ∀ r ∈ qs, bdRow d r := fun r hr => hb r (pq.mem_iff.mp hr)
            have pw : qs.Pairwise fun a b => TS.code bdT a ≤ TS.code bdT b := by
              rw [List.pairwise_iff_getElem]
              intro i j hi hj hij
              have e1 : (qs.map rowT)[i]? = some (rowT qs[i]) := by simp [hi]
              have e2 : (qs.map rowT)[j]? = some (rowT qs[j]) := by simp [hj]
              obtain ⟨x, hx, rx⟩ := rq.at e1
              obtain ⟨y, hy, ry⟩ := rq.at e2
              obtain ⟨li, ex⟩ := List.getElem?_eq_some_iff.mp hx
              obtain ⟨lj, ey⟩ := List.getElem?_eq_some_iff.mp hy
              refine List.pairwise_iff_getElem.mp hw i j li lj hij _ _ ?_ ?_
              · rw [ex]; exact tu _ _ rx
              · rw [ey]; exact tu _ _ ry
            have e : qs = sortR rs := List.Perm.eq_of_pairwise (le := fun a b => TS.code bdT a ≤ TS.code bdT b) (fun a b ha hb' h1 h2 => code_inj (by rw [(bq a ha).1, (hb b ((sortR_perm rs).mem_iff.mp hb')).1]) (bq a ha).2 (hb b ((sortR_perm rs).mem_iff.mp hb')).2 (Int.le_antisymm h1 h2)) pw (sortR_pw rs) (pq.trans (sortR_perm rs).symm)
            rw [e] at rq
            exact p.new wr rq p0 hn
        · exact p.elim
theorem df_sortT {d : Nat} (hm : X.mg "sorted" = none) (ha : PA X [e] (rdA X.K m)) (hd : 1 ≤ d := by decide) (hg : Gl X "sorted" := by rfl) (he : starEach [e] X.env = (false, eval e X.env) :: starEach [] X.env := by rfl) (hpl : (backTo pos (starEach [] X.env)).any (·.1) = false := by rfl) : PE X (.Call (.Name "sorted" p) [e] [] pos) (rdF X.K (mCallF (sSortT d) m)) :=
  df_callB (cr_sortT hd) opSortT hm (by decide +kernel) ha hg (by decide) (by decide) he hpl
theorem hu65 {k : Nat} (hr : Room k X.A) : X.A.units + 65 < cLine := by have := hr.un; omega
/-! ### f() -/
def mDef0 (f : Sem) : ME := fun _ w => f [] w
theorem def0_read {K : PySem.W.Frag} {f : Sem} {E : XK} : ∀ σ H Q, rdE K (mDef0 f) σ H Q → tCall (spOf K 0 f) [] E tNil σ H Q := fun σ H Q => by
  rintro ⟨hd, φ, ρ, w, sr, wr, q⟩
  exact ⟨hd, φ, w, [], rfl, wr, Reps.nil, q⟩
theorem de_def0 {k : Nat} {x : Str} {f : Sem} (F : Df X.prog X.w X.K X.mg X.base k x [] f) (hr : Room k X.A) (hg : Gl X x := by rfl) (hdb : (x == ("__debug__" : Str)) = false := by decide) : PE X (.Call (.Name x p) [] [] pos) (rdE X.K (mDef0 f)) := by
  obtain ⟨ad, fd, ok, hm, hk, hb⟩ := F.ex
  exact PE_imp (pe_call0 (E := E0) ok hr hg hm hk hb .nil passL hdb) def0_read
theorem dfP_gc {P : Program} {w : PySem.World} {K : PySem.W.Frag} {mg : Str → Option Value} {base : Heap} {x : Str} {n np k : Nat} {ks : List Str} {ix : List Nat} {g : Sem} (D : DfP P w K mg base k x n np ks ix g) : DfP P w K mg base k x n np ks ix (gc g) := by
  obtain ⟨f, fd, ps, e1, ok, hm, hk, hb⟩ := D.ex
  refine ⟨f, fd, ps, e1, ok.imp fun vs H Q E h => ?_, hm, hk, hb⟩
  obtain ⟨hd, φ, w, ds, l, wr, rs, p⟩ := h
  exact ⟨hd, φ, w, ds, l, wr, rs, gc_read wr p⟩
end
end VS

set_option Elab.async false
set_option linter.all false
set_option maxRecDepth 100000
set_option maxHeartbeats 4000000
namespace VS
open PySem PySem.Spec PyProof.Rows L2
def topS (i : Nat) : Stmt := PySem.Challenge.pw_seenatonce_k07_kinds_of_tables.main.body.getD i (.Pass ⟨0, 0, 0, 0⟩)
structure Zs (mg : Str → Option Value) : Prop where
  z_bool : mg "bool" = none
  z_isinstance : mg "isinstance" = none
  z_int : mg "int" = none
  z_len : mg "len" = none
  z_tuple : mg "tuple" = none
  z_all : mg "all" = none
  z_range : mg "range" = none
  z_enumerate : mg "enumerate" = none
  z_set : mg "set" = none
  z_list : mg "list" = none
  z_abs : mg "abs" = none
  z_max : mg "max" = none
  z_min : mg "min" = none
  z_sorted : mg "sorted" = none
  c_GREATEST : ∃ t, mg "GREATEST" = some (.int 999999999999999999 t)
  c_MOST_DEEDS : ∃ t, mg "MOST_DEEDS" = some (.int 12 t)
  c_MOST_STATES : ∃ t, mg "MOST_STATES" = some (.int 30 t)
section
variable {P : Program} {w : PySem.World} {K : PySem.W.Frag} {mg : Str → Option Value} {base : Heap}
/-! is_number -/
abbrev t_is_number : Stmt := topS 5
abbrev N_is_number : List Str := ["value"]
theorem sc_is_number : FnScope N_is_number ["value"] (defScope t_is_number) := ⟨rfl, rfl, rfl, by decide +kernel, rfl, by decide +kernel, by decide +kernel⟩
noncomputable def m_is_number : MS := (mRet (mAndV (mCall sIsi (mCons (mVar 0) (mCons (mC (.ty "int")) mNil))) (mAndV (mNotV (mCall sIsi (mCons (mVar 0) (mCons (mC (.ty "bool")) mNil)))) (mChain sLe sLe (mOp1 sNeg (mC (.int 999999999999999999))) (mVar 0) (mC (.int 999999999999999999))))))
noncomputable def s_is_number : Sem := runB 1 m_is_number
theorem b_is_number (z : Zs mg) : Bd P w K mg base N_is_number "is_number" t_is_number 0 m_is_number :=
 fun f cdv A outer s H E hr =>
 (ds_one (ds_ret (de_and (de_isi z.z_isinstance (da_cons (de_var 0) (da_cons (de_gty z.z_int (by decide +kernel)) da_nil))) (de_and (de_not (de_isi z.z_isinstance (da_cons (de_var 0) (da_cons (de_gty z.z_bool (by decide +kernel)) da_nil)))) (de_one (de_chain op_le op2B0 op_le op2B0 (de_neg (de_gint' z.c_GREATEST)) (de_var 0) (de_gint' z.c_GREATEST)))))))
/-! is_count -/
abbrev t_is_count : Stmt := topS 6
abbrev N_is_count : List Str := ["value"]
theorem sc_is_count : FnScope N_is_count ["value"] (defScope t_is_count) := ⟨rfl, rfl, rfl, by decide +kernel, rfl, by decide +kernel, by decide +kernel⟩
noncomputable def m_is_count : MS := (mRet (mAndV (mDef 1 s_is_number (mCons (mVar 0) mNil)) (mOp2 sGe (mVar 0) (mC (.int 0)))))
noncomputable def s_is_count : Sem := runB 1 m_is_count
theorem b_is_count (z : Zs mg) (D_is_number : Df P w K mg base 1 "is_number" ["value"] s_is_number) : Bd P w K mg base N_is_count "is_count" t_is_count 1 m_is_count :=
 fun f cdv A outer s H E hr =>
 (ds_one (ds_ret (de_and (de_def D_is_number (hr.mono (by decide)) (da_cons (de_var 0) da_nil)) (de_one (de_ge (de_var 0) de_int)))))
/-! is_place -/
abbrev t_is_place : Stmt := topS 7
abbrev N_is_place : List Str := ["value", "many"]
theorem sc_is_place : FnScope N_is_place ["value", "many"] (defScope t_is_place) := ⟨rfl, rfl, rfl, by decide +kernel, rfl, by decide +kernel, by decide +kernel⟩
noncomputable def m_is_place : MS := (mRet (mAndV (mDef 1 s_is_count (mCons (mVar 0) mNil)) (mOp2 sLt (mVar 0) (mVar 1))))
noncomputable def s_is_place : Sem := runB 2 m_is_place
theorem b_is_place (z : Zs mg) (D_is_count : Df P w K mg base 2 "is_count" ["value"] s_is_count) : Bd P w K mg base N_is_place "is_place" t_is_place 2 m_is_place :=
 fun f cdv A outer s H E hr =>
 (ds_one (ds_ret (de_and (de_def D_is_count (hr.mono (by decide)) (da_cons (de_var 0) da_nil)) (de_one (de_lt (de_var 0) (de_var 1))))))
/-! is_tuple_of -/
abbrev t_is_tuple_of : Stmt := topS 8
abbrev N_is_tuple_of : List Str := ["value", "many"]
theorem sc_is_tuple_of : FnScope N_is_tuple_of ["value", "many"] (defScope t_is_tuple_of) := ⟨rfl, rfl, rfl, by decide +kernel, rfl, by decide +kernel, by decide +kernel⟩
noncomputable def m_is_tuple_of : MS := (mRet (mAndV (mCall sIsi (mCons (mVar 0) (mCons (mC (.ty "tuple")) mNil))) (mOp2 sEq (mCall sLen (mCons (mVar 0) mNil)) (mVar 1))))
noncomputable def s_is_tuple_of : Sem := runB 2 m_is_tuple_of
theorem b_is_tuple_of (z : Zs mg) : Bd P w K mg base N_is_tuple_of "is_tuple_of" t_is_tuple_of 0 m_is_tuple_of :=
 fun f cdv A outer s H E hr =>
 (ds_one (ds_ret (de_and (de_isi z.z_isinstance (da_cons (de_var 0) (da_cons (de_gty z.z_tuple (by decide +kernel)) da_nil))) (de_one (de_eq hr.units (de_len z.z_len (da_cons (de_var 0) da_nil)) (de_var 1))))))
/-! _is_step -/
abbrev t__is_step : Stmt := topS 12
abbrev N__is_step : List Str := ["value", "states"]
theorem sc__is_step : FnScope N__is_step ["value", "states"] (defScope t__is_step) := ⟨rfl, rfl, rfl, by decide +kernel, rfl, by decide +kernel, by decide +kernel⟩
noncomputable def m__is_step : MS := (mRet (mAndV (mDef 2 s_is_tuple_of (mCons (mVar 0) (mCons (mC (.int 2)) mNil))) (mAndV (mDef 2 s_is_place (mCons (mOp2 sIx (mVar 0) (mC (.int 0))) (mCons (mVar 1) mNil))) (mDef 1 s_is_count (mCons (mOp2 sIx (mVar 0) (mC (.int 1))) mNil)))))
noncomputable def s__is_step : Sem := runB 2 m__is_step
theorem b__is_step (z : Zs mg) (D_is_count : Df P w K mg base 2 "is_count" ["value"] s_is_count) (D_is_place : Df P w K mg base 3 "is_place" ["value", "many"] s_is_place) (D_is_tuple_of : Df P w K mg base 1 "is_tuple_of" ["value", "many"] s_is_tuple_of) : Bd P w K mg base N__is_step "_is_step" t__is_step 3 m__is_step :=
 fun f cdv A outer s H E hr =>
 (ds_one (ds_ret (de_and (de_def D_is_tuple_of (hr.mono (by decide)) (da_cons (de_var 0) (da_cons de_int da_nil))) (de_and (de_def D_is_place (hr.mono (by decide)) (da_cons (de_sub' (hu_of hr) (de_var 0) de_int) (da_cons (de_var 1) da_nil))) (de_one (de_def D_is_count (hr.mono (by decide)) (da_cons (de_sub' (hu_of hr) (de_var 0) de_int) da_nil)))))))
/-! is_table -/
abbrev t_is_table : Stmt := topS 13
abbrev N_is_table : List Str := ["value", "states", "deed", "step"]
theorem sc_is_table : FnScope N_is_table ["value"] (defScope t_is_table) := ⟨rfl, rfl, rfl, by decide +kernel, rfl, by decide +kernel, by decide +kernel⟩
noncomputable def m_is_table : MS := (mSeq (mIfS (mOr (mNot (mTru (mCall sIsi (mCons (mVar 0) (mCons (mC (.ty "tuple")) mNil))))) (mNot (mTest (mChain sLe sLe (mC (.int 1)) (mCall sLen (mCons (mVar 0) mNil)) (mC (.int 12))))))
 (mRet (mC (.bl false)))
 mSkip)
 (mSeq (mIfS (mOr (mNot (mTru (mCall sIsi (mCons (mOp2 sIx (mVar 0) (mC (.int 0))) (mCons (mC (.ty "tuple")) mNil))))) (mNot (mTest (mChain sLe sLe (mC (.int 1)) (mCall sLen (mCons (mOp2 sIx (mVar 0) (mC (.int 0))) mNil)) (mC (.int 30))))))
 (mRet (mC (.bl false)))
 mSkip)
 (mSeq (mAsg (mCall sLen (mCons (mOp2 sIx (mVar 0) (mC (.int 0))) mNil)) (mgName 1))
 (mSeq (mIfS (mNot (mTru (mCall sAll (mCons (mVal (mComp [2] (mItems (mVar 0)) (mgName 2) mYes (mDef 2 s_is_tuple_of (mCons (mVar 2) (mCons (mVar 1) mNil))))) mNil))))
 (mRet (mC (.bl false)))
 mSkip)
 (mRet (mCall sAll (mCons (mVal (mComp2 [2, 3] (mItems (mVar 0)) (mgName 2) mYes (mItems (mVar 2)) [3] (mgName 3) mYes (mDef 2 s__is_step (mCons (mVar 3) (mCons (mVar 1) mNil))))) mNil)))))))
noncomputable def s_is_table : Sem := runB 4 m_is_table
theorem b_is_table (z : Zs mg) (D_is_tuple_of : Df P w K mg base 1 "is_tuple_of" ["value", "many"] s_is_tuple_of) (D__is_step : Df P w K mg base 4 "_is_step" ["value", "states"] s__is_step) : Bd P w K mg base N_is_table "is_table" t_is_table 4 m_is_table :=
 fun f cdv A outer s H E hr =>
 (ds_cons (ds_if (dt_w (dw_or (dt_not (dt_tru (de_isi z.z_isinstance (da_cons (de_var 0) (da_cons (de_gty z.z_tuple (by decide +kernel)) da_nil))))) (dw_or1 (dt_not (dt_chain op_le op2B0 op_le op2B0 de_int (de_len z.z_len (da_cons (de_var 0) da_nil)) (de_gint' z.c_MOST_DEEDS))))))
 (ds_one (ds_ret de_bl))
 ds_nil)
 (ds_cons (ds_if (dt_w (dw_or (dt_not (dt_tru (de_isi z.z_isinstance (da_cons (de_sub' (hu_of hr) (de_var 0) de_int) (da_cons (de_gty z.z_tuple (by decide +kernel)) da_nil))))) (dw_or1 (dt_not (dt_chain op_le op2B0 op_le op2B0 de_int (de_len z.z_len (da_cons (de_sub' (hu_of hr) (de_var 0) de_int) da_nil)) (de_gint' z.c_MOST_STATES))))))
 (ds_one (ds_ret de_bl))
 ds_nil)
 (ds_cons (ds_set 1 sc_is_table.nd (de_len z.z_len (da_cons (de_sub' (hu_of hr) (de_var 0) de_int) da_nil)))
 (ds_cons (ds_if (dt_not (dt_tru (de_all rfl z.z_all (da_cons (de_val (df_comp (own := [("deed", 2)]) rfl sc_is_table.nd (di_seq (de_var 0)) (show blkC N_is_table (defScope t_is_table) _ [("deed", 2)] = true by decide +kernel) (fun _ _ _ _ _ => (dg_name 2 sc_is_table.nd)) (fun _ _ _ _ _ => dts_nil) (fun _ _ _ _ _ => (de_def D_is_tuple_of (hr.mono (by decide)) (da_cons (de_var 2) (da_cons (de_var 1) da_nil)))))) da_nil))))
 (ds_one (ds_ret de_bl))
 ds_nil)
 (ds_one (ds_ret (de_all rfl z.z_all (da_cons (de_val (df_comp2 (own := [("deed", 2), ("step", 3)]) (vs1 := [3]) rfl sc_is_table.nd (di_seq (de_var 0)) (show blkC N_is_table (defScope t_is_table) _ [("deed", 2), ("step", 3)] = true by decide +kernel) (fun _ _ _ _ _ => (dg_name 2 sc_is_table.nd)) (fun _ _ _ _ _ => dts_nil) (fun _ _ _ _ _ => (di_seq (de_var 2))) (fun _ _ _ _ _ => (dg_name 3 sc_is_table.nd)) (fun _ _ _ _ _ => dts_nil) (fun _ _ _ _ _ => (de_def D__is_step (hr.mono (by decide)) (da_cons (de_var 3) (da_cons (de_var 1) da_nil)))))) da_nil))))))))
/-! check_table -/
abbrev t_check_table : Stmt := topS 14
abbrev N_check_table : List Str := ["table"]
theorem sc_check_table : FnScope N_check_table ["table"] (defScope t_check_table) := ⟨rfl, rfl, rfl, by decide +kernel, rfl, by decide +kernel, by decide +kernel⟩
noncomputable def m_check_table : MS := (mIfS (mNot (mTru (mDef 1 s_is_table (mCons (mVar 0) mNil))))
 (fun _ _ => .no)
 mSkip)
noncomputable def s_check_table : Sem := runB 1 m_check_table
theorem b_check_table (z : Zs mg) (D_is_table : Df P w K mg base 5 "is_table" ["value"] s_is_table) : Bd P w K mg base N_check_table "check_table" t_check_table 5 m_check_table :=
 fun f cdv A outer s H E hr =>
 (ds_one (ds_if (dt_not (dt_tru (de_def D_is_table (hr.mono (by decide)) (da_cons (de_var 0) da_nil))))
 (ds_one ds_never)
 ds_nil))
/-! _commute_at -/
abbrev t__commute_at : Stmt := topS 15
abbrev N__commute_at : List Str := ["table", "state", "one", "other", "behind_one", "answer_one", "behind_other", "answer_other", "last_one", "late_one", "last_other", "late_other"]
theorem sc__commute_at : FnScope N__commute_at ["table", "state", "one", "other"] (defScope t__commute_at) := ⟨rfl, rfl, rfl, by decide +kernel, rfl, by decide +kernel, by decide +kernel⟩
noncomputable def m__commute_at : MS := (mSeq (mAsg (mOp2 sIx (mOp2 sIx (mVar 0) (mVar 2)) (mVar 1)) (mgTup 2 (mgCons (mgName 4) (mgCons (mgName 5) mgNil))))
 (mSeq (mAsg (mOp2 sIx (mOp2 sIx (mVar 0) (mVar 3)) (mVar 1)) (mgTup 2 (mgCons (mgName 6) (mgCons (mgName 7) mgNil))))
 (mSeq (mAsg (mOp2 sIx (mOp2 sIx (mVar 0) (mVar 2)) (mVar 6)) (mgTup 2 (mgCons (mgName 8) (mgCons (mgName 9) mgNil))))
 (mSeq (mAsg (mOp2 sIx (mOp2 sIx (mVar 0) (mVar 3)) (mVar 4)) (mgTup 2 (mgCons (mgName 10) (mgCons (mgName 11) mgNil))))
 (mRet (mAndV (mOp2 sEq (mVar 8) (mVar 10)) (mAndV (mOp2 sEq (mVar 9) (mVar 5)) (mOp2 sEq (mVar 11) (mVar 7)))))))))
noncomputable def s__commute_at : Sem := runB 12 m__commute_at
theorem b__commute_at (z : Zs mg) : Bd P w K mg base N__commute_at "_commute_at" t__commute_at 0 m__commute_at :=
 fun f cdv A outer s H E hr =>
 (ds_cons (ds_asg (de_sub' (hu_of hr) (de_sub' (hu_of hr) (de_var 0) (de_var 2)) (de_var 1)) (dg_tup rfl (dgs_cons (dg_name 4 sc__commute_at.nd) (dgs_cons (dg_name 5 sc__commute_at.nd) dgs_nil))))
 (ds_cons (ds_asg (de_sub' (hu_of hr) (de_sub' (hu_of hr) (de_var 0) (de_var 3)) (de_var 1)) (dg_tup rfl (dgs_cons (dg_name 6 sc__commute_at.nd) (dgs_cons (dg_name 7 sc__commute_at.nd) dgs_nil))))
 (ds_cons (ds_asg (de_sub' (hu_of hr) (de_sub' (hu_of hr) (de_var 0) (de_var 2)) (de_var 6)) (dg_tup rfl (dgs_cons (dg_name 8 sc__commute_at.nd) (dgs_cons (dg_name 9 sc__commute_at.nd) dgs_nil))))
 (ds_cons (ds_asg (de_sub' (hu_of hr) (de_sub' (hu_of hr) (de_var 0) (de_var 3)) (de_var 4)) (dg_tup rfl (dgs_cons (dg_name 10 sc__commute_at.nd) (dgs_cons (dg_name 11 sc__commute_at.nd) dgs_nil))))
 (ds_one (ds_ret (de_and (de_eq hr.units (de_var 8) (de_var 10)) (de_and (de_eq hr.units (de_var 9) (de_var 5)) (de_one (de_eq hr.units (de_var 11) (de_var 7)))))))))))
/-! do_commute -/
abbrev t_do_commute : Stmt := topS 16
abbrev N_do_commute : List Str := ["table", "one", "other", "state"]
theorem sc_do_commute : FnScope N_do_commute ["table", "one", "other"] (defScope t_do_commute) := ⟨rfl, rfl, rfl, by decide +kernel, rfl, by decide +kernel, by decide +kernel⟩
noncomputable def m_do_commute : MS := (mRet (mCall sAll (mCons (mVal (mComp [3] (mRange1 (mCons (mCall sLen (mCons (mOp2 sIx (mVar 0) (mC (.int 0))) mNil)) mNil)) (mgName 3) mYes (mDef 4 s__commute_at (mCons (mVar 0) (mCons (mVar 3) (mCons (mVar 1) (mCons (mVar 2) mNil))))))) mNil)))
noncomputable def s_do_commute : Sem := runB 4 m_do_commute
theorem b_do_commute (z : Zs mg) (D__commute_at : Df P w K mg base 1 "_commute_at" ["table", "state", "one", "other"] s__commute_at) : Bd P w K mg base N_do_commute "do_commute" t_do_commute 1 m_do_commute :=
 fun f cdv A outer s H E hr =>
 (ds_one (ds_ret (de_all rfl z.z_all (da_cons (de_val (df_comp (own := [("state", 3)]) rfl sc_do_commute.nd (di_range1 z.z_range (da_cons (de_len z.z_len (da_cons (de_sub' (hu_of hr) (de_var 0) de_int) da_nil)) da_nil)) (show blkC N_do_commute (defScope t_do_commute) _ [("state", 3)] = true by decide +kernel) (fun _ _ _ _ _ => (dg_name 3 sc_do_commute.nd)) (fun _ _ _ _ _ => dts_nil) (fun _ _ _ _ _ => (de_def D__commute_at (hr.mono (by decide)) (da_cons (de_var 0) (da_cons (de_var 3) (da_cons (de_var 1) (da_cons (de_var 2) da_nil)))))))) da_nil))))
/-! does_overwrite -/
abbrev t_does_overwrite : Stmt := topS 17
abbrev N_does_overwrite : List Str := ["table", "one", "other", "state", "behind", "_"]
theorem sc_does_overwrite : FnScope N_does_overwrite ["table", "one", "other"] (defScope t_does_overwrite) := ⟨rfl, rfl, rfl, by decide +kernel, rfl, by decide +kernel, by decide +kernel⟩
noncomputable def m_does_overwrite : MS := (mRet (mCall sAll (mCons (mVal (mComp [3, 4, 5] (mEnum (mCons (mOp2 sIx (mVar 0) (mVar 2)) mNil)) (mgTup 2 (mgCons (mgName 3) (mgCons (mgTup 2 (mgCons (mgName 4) (mgCons (mgName 5) mgNil))) mgNil))) mYes (mOp2 sEq (mOp2 sIx (mOp2 sIx (mVar 0) (mVar 1)) (mVar 4)) (mOp2 sIx (mOp2 sIx (mVar 0) (mVar 1)) (mVar 3))))) mNil)))
noncomputable def s_does_overwrite : Sem := runB 6 m_does_overwrite
theorem b_does_overwrite (z : Zs mg) : Bd P w K mg base N_does_overwrite "does_overwrite" t_does_overwrite 0 m_does_overwrite :=
 fun f cdv A outer s H E hr =>
 (ds_one (ds_ret (de_all rfl z.z_all (da_cons (de_val (df_comp (own := [("state", 3), ("behind", 4), ("_", 5)]) rfl sc_does_overwrite.nd (di_enum z.z_enumerate (da_cons (de_sub' (hu_of hr) (de_var 0) (de_var 2)) da_nil)) (show blkC N_does_overwrite (defScope t_does_overwrite) _ [("state", 3), ("behind", 4), ("_", 5)] = true by decide +kernel) (fun _ _ _ _ _ => (dg_tup rfl (dgs_cons (dg_name 3 sc_does_overwrite.nd) (dgs_cons (dg_tup rfl (dgs_cons (dg_name 4 sc_does_overwrite.nd) (dgs_cons (dg_name 5 sc_does_overwrite.nd) dgs_nil))) dgs_nil)))) (fun _ _ _ _ _ => dts_nil) (fun _ _ _ _ _ => (de_eq hr.units (de_sub' (hu_of hr) (de_sub' (hu_of hr) (de_var 0) (de_var 1)) (de_var 4)) (de_sub' (hu_of hr) (de_sub' (hu_of hr) (de_var 0) (de_var 1)) (de_var 3)))))) da_nil))))
/-! clash -/
abbrev t_clash : Stmt := topS 18
abbrev N_clash : List Str := ["table", "one", "other"]
theorem sc_clash : FnScope N_clash ["table", "one", "other"] (defScope t_clash) := ⟨rfl, rfl, rfl, by decide +kernel, rfl, by decide +kernel, by decide +kernel⟩
noncomputable def m_clash : MS := (mSeq (mIfS (mTru (mDef 3 s_do_commute (mCons (mVar 0) (mCons (mVar 1) (mCons (mVar 2) mNil)))))
 (mRet (mC (.bl false)))
 mSkip)
 (mRet (mAndV (mNotV (mDef 3 s_does_overwrite (mCons (mVar 0) (mCons (mVar 1) (mCons (mVar 2) mNil))))) (mNotV (mDef 3 s_does_overwrite (mCons (mVar 0) (mCons (mVar 2) (mCons (mVar 1) mNil))))))))
noncomputable def s_clash : Sem := runB 3 m_clash
theorem b_clash (z : Zs mg) (D_do_commute : Df P w K mg base 2 "do_commute" ["table", "one", "other"] s_do_commute) (D_does_overwrite : Df P w K mg base 1 "does_overwrite" ["table", "one", "other"] s_does_overwrite) : Bd P w K mg base N_clash "clash" t_clash 2 m_clash :=
 fun f cdv A outer s H E hr =>
 (ds_cons (ds_if (dt_tru (de_def D_do_commute (hr.mono (by decide)) (da_cons (de_var 0) (da_cons (de_var 1) (da_cons (de_var 2) da_nil)))))
 (ds_one (ds_ret de_bl))
 ds_nil)
 (ds_one (ds_ret (de_and (de_not (de_def D_does_overwrite (hr.mono (by decide)) (da_cons (de_var 0) (da_cons (de_var 1) (da_cons (de_var 2) da_nil))))) (de_one (de_not (de_def D_does_overwrite (hr.mono (by decide)) (da_cons (de_var 0) (da_cons (de_var 2) (da_cons (de_var 1) da_nil))))))))))
/-! first_clash -/
abbrev t_first_clash : Stmt := topS 19
abbrev N_first_clash : List Str := ["table", "one", "other"]
theorem sc_first_clash : FnScope N_first_clash ["table"] (defScope t_first_clash) := ⟨rfl, rfl, rfl, by decide +kernel, rfl, by decide +kernel, by decide +kernel⟩
noncomputable def m_first_clash : MS := (mSeq (mFor (mRange1 (mCons (mCall sLen (mCons (mVar 0) mNil)) mNil)) (mgName 1)
 (mFor (mRange2 (mCons (mVar 1) (mCons (mCall sLen (mCons (mVar 0) mNil)) mNil))) (mgName 2)
 (mIfS (mTru (mDef 3 s_clash (mCons (mVar 0) (mCons (mVar 1) (mCons (mVar 2) mNil)))))
 (mRet (mTup (mCons (mVar 1) (mCons (mVar 2) mNil))))
 mSkip)))
 (mRet (mC .non)))
noncomputable def s_first_clash : Sem := runB 3 m_first_clash
theorem b_first_clash (z : Zs mg) (D_clash : Df P w K mg base 3 "clash" ["table", "one", "other"] s_clash) : Bd P w K mg base N_first_clash "first_clash" t_first_clash 3 m_first_clash :=
 fun f cdv A outer s H E hr =>
 (ds_cons (ds_for (passes_of rfl) rfl (di_range1 z.z_range (da_cons (de_len z.z_len (da_cons (de_var 0) da_nil)) da_nil)) (dg_name 1 sc_first_clash.nd)
 (ds_one (ds_for (passes_of rfl) rfl (di_range2 z.z_range (da_cons (de_var 1) (da_cons (de_len z.z_len (da_cons (de_var 0) da_nil)) da_nil))) (dg_name 2 sc_first_clash.nd)
 (ds_one (ds_if (dt_tru (de_def D_clash (hr.mono (by decide)) (da_cons (de_var 0) (da_cons (de_var 1) (da_cons (de_var 2) da_nil)))))
 (ds_one (ds_ret (de_tup (da_cons (de_var 1) (da_cons (de_var 2) da_nil)))))
 ds_nil)))))
 (ds_one (ds_ret de_non)))
/-! _views -/
abbrev t__views : Stmt := topS 21
abbrev N__views : List Str := ["table", "state", "mine", "others", "alone", "answer", "joint", "_", "other_alone", "seen", "late"]
theorem sc__views : FnScope N__views ["table", "state", "mine", "others"] (defScope t__views) := ⟨rfl, rfl, rfl, by decide +kernel, rfl, by decide +kernel, by decide +kernel⟩
noncomputable def m__views : MS := (mSeq (mAsg (mOp2 sIx (mOp2 sIx (mVar 0) (mVar 2)) (mVar 1)) (mgTup 2 (mgCons (mgName 4) (mgCons (mgName 5) mgNil))))
 (mSeq (mAsg (mOp2 sIx (mOp2 sIx (mVar 0) (mVar 3)) (mVar 4)) (mgTup 2 (mgCons (mgName 6) (mgCons (mgName 7) mgNil))))
 (mSeq (mAsg (mOp2 sIx (mOp2 sIx (mVar 0) (mVar 3)) (mVar 1)) (mgTup 2 (mgCons (mgName 8) (mgCons (mgName 7) mgNil))))
 (mSeq (mAsg (mOp2 sIx (mOp2 sIx (mVar 0) (mVar 2)) (mVar 8)) (mgTup 2 (mgCons (mgName 9) (mgCons (mgName 10) mgNil))))
 (mRet (mTup (mCons (mTup (mCons (mTup (mCons (mVar 5) (mCons (mVar 4) mNil))) (mCons (mTup (mCons (mVar 5) (mCons (mVar 6) mNil))) mNil))) (mCons (mTup (mCons (mVar 10) (mCons (mVar 9) mNil))) mNil))))))))
noncomputable def s__views : Sem := runB 11 m__views
theorem b__views (z : Zs mg) : Bd P w K mg base N__views "_views" t__views 0 m__views :=
 fun f cdv A outer s H E hr =>
 (ds_cons (ds_asg (de_sub' (hu_of hr) (de_sub' (hu_of hr) (de_var 0) (de_var 2)) (de_var 1)) (dg_tup rfl (dgs_cons (dg_name 4 sc__views.nd) (dgs_cons (dg_name 5 sc__views.nd) dgs_nil))))
 (ds_cons (ds_asg (de_sub' (hu_of hr) (de_sub' (hu_of hr) (de_var 0) (de_var 3)) (de_var 4)) (dg_tup rfl (dgs_cons (dg_name 6 sc__views.nd) (dgs_cons (dg_name 7 sc__views.nd) dgs_nil))))
 (ds_cons (ds_asg (de_sub' (hu_of hr) (de_sub' (hu_of hr) (de_var 0) (de_var 3)) (de_var 1)) (dg_tup rfl (dgs_cons (dg_name 8 sc__views.nd) (dgs_cons (dg_name 7 sc__views.nd) dgs_nil))))
 (ds_cons (ds_asg (de_sub' (hu_of hr) (de_sub' (hu_of hr) (de_var 0) (de_var 2)) (de_var 8)) (dg_tup rfl (dgs_cons (dg_name 9 sc__views.nd) (dgs_cons (dg_name 10 sc__views.nd) dgs_nil))))
 (ds_one (ds_ret (de_tup (da_cons (de_tup (da_cons (de_tup (da_cons (de_var 5) (da_cons (de_var 4) da_nil))) (da_cons (de_tup (da_cons (de_var 5) (da_cons (de_var 6) da_nil))) da_nil))) (da_cons (de_tup (da_cons (de_var 10) (da_cons (de_var 9) da_nil))) da_nil)))))))))
/-! _first_blurred -/
abbrev t__first_blurred : Stmt := topS 22
abbrev N__first_blurred : List Str := ["table", "state", "one", "other", "hand", "mine", "others", "firsts", "second", "answer", "seen"]
theorem sc__first_blurred : FnScope N__first_blurred ["table", "state", "one", "other"] (defScope t__first_blurred) := ⟨rfl, rfl, rfl, by decide +kernel, rfl, by decide +kernel, by decide +kernel⟩
noncomputable def m__first_blurred : MS := (mSeq (mFor (mItems (mTup (mCons (mTup (mCons (mC (.int 0)) (mCons (mVar 2) (mCons (mVar 3) mNil)))) (mCons (mTup (mCons (mC (.int 1)) (mCons (mVar 3) (mCons (mVar 2) mNil)))) mNil)))) (mgTup 3 (mgCons (mgName 4) (mgCons (mgName 5) (mgCons (mgName 6) mgNil))))
 (mSeq (mAsg (mDef 4 s__views (mCons (mVar 0) (mCons (mVar 1) (mCons (mVar 5) (mCons (mVar 6) mNil))))) (mgTup 2 (mgCons (mgName 7) (mgCons (mgName 8) mgNil))))
 (mIfS (mTest (mOp2 sInQ (mVar 8) (mVar 7)))
 (mSeq (mAsg (mVar 8) (mgTup 2 (mgCons (mgName 9) (mgCons (mgName 10) mgNil))))
 (mRet (mTup (mCons (mVar 4) (mCons (mVar 9) (mCons (mVar 10) mNil))))))
 mSkip)))
 (mRet (mC .non)))
noncomputable def s__first_blurred : Sem := runB 11 m__first_blurred
theorem b__first_blurred (z : Zs mg) (D__views : Df P w K mg base 1 "_views" ["table", "state", "mine", "others"] s__views) : Bd P w K mg base N__first_blurred "_first_blurred" t__first_blurred 1 m__first_blurred :=
 fun f cdv A outer s H E hr =>
 (ds_cons (ds_for (passes_of rfl) rfl (di_seq (de_tup (da_cons (de_tup (da_cons de_int (da_cons (de_var 2) (da_cons (de_var 3) da_nil)))) (da_cons (de_tup (da_cons de_int (da_cons (de_var 3) (da_cons (de_var 2) da_nil)))) da_nil)))) (dg_tup rfl (dgs_cons (dg_name 4 sc__first_blurred.nd) (dgs_cons (dg_name 5 sc__first_blurred.nd) (dgs_cons (dg_name 6 sc__first_blurred.nd) dgs_nil))))
 (ds_cons (ds_asg (de_def D__views (hr.mono (by decide)) (da_cons (de_var 0) (da_cons (de_var 1) (da_cons (de_var 5) (da_cons (de_var 6) da_nil))))) (dg_tup rfl (dgs_cons (dg_name 7 sc__first_blurred.nd) (dgs_cons (dg_name 8 sc__first_blurred.nd) dgs_nil))))
 (ds_one (ds_if (dt_inq (hu65 hr) (de_var 8) (de_var 7))
 (ds_cons (ds_asg (de_var 8) (dg_tup rfl (dgs_cons (dg_name 9 sc__first_blurred.nd) (dgs_cons (dg_name 10 sc__first_blurred.nd) dgs_nil))))
 (ds_one (ds_ret (de_tup (da_cons (de_var 4) (da_cons (de_var 9) (da_cons (de_var 10) da_nil)))))))
 ds_nil))))
 (ds_one (ds_ret de_non)))
/-! _tells -/
abbrev t__tells : Stmt := topS 23
abbrev N__tells : List Str := ["deed", "answers", "_", "answer", "behind"]
theorem sc__tells : FnScope N__tells ["deed"] (defScope t__tells) := ⟨rfl, rfl, rfl, by decide +kernel, rfl, by decide +kernel, by decide +kernel⟩
noncomputable def m__tells : MS := (mSeq (mAsg (if false = true then mCell (mComp [2, 3] (mItems (mVar 0)) (mgTup 2 (mgCons (mgName 2) (mgCons (mgName 3) mgNil))) mYes (mVar 3)) else mVal (mComp [2, 3] (mItems (mVar 0)) (mgTup 2 (mgCons (mgName 2) (mgCons (mgName 3) mgNil))) mYes (mVar 3))) (mgName 1))
 (mRet (mAndV (mOp2 sEq (mVal (mComp [4, 2] (mItems (mVar 0)) (mgTup 2 (mgCons (mgName 4) (mgCons (mgName 2) mgNil))) mYes (mVar 4))) (mVal (mLRg1 (mCall sLen (mCons (mVar 0) mNil))))) (mOp2 sEq (mLenSet (mVar 1)) (mCall sLen (mCons (mVar 1) mNil))))))
noncomputable def s__tells : Sem := runB 5 m__tells
theorem b__tells (z : Zs mg) : Bd P w K mg base N__tells "_tells" t__tells 0 m__tells :=
 fun f cdv A outer s H E hr =>
 (ds_cons (ds_setLc (own := [("_", 2), ("answer", 3)]) 1 false rfl sc__tells.nd (di_seq (de_var 0)) (show blkC N__tells (defScope t__tells) _ [("_", 2), ("answer", 3)] = true by decide +kernel) (fun _ _ _ _ _ => (dg_tup rfl (dgs_cons (dg_name 2 sc__tells.nd) (dgs_cons (dg_name 3 sc__tells.nd) dgs_nil)))) (fun _ _ _ _ _ => dts_nil) (fun _ _ _ _ _ => (de_var 3)) (sw_true rfl rfl rfl (by decide +kernel)))
 (ds_one (ds_ret (de_and (de_eq hr.units (de_val (df_comp (own := [("behind", 4), ("_", 2)]) rfl sc__tells.nd (di_seq (de_var 0)) (show blkC N__tells (defScope t__tells) _ [("behind", 4), ("_", 2)] = true by decide +kernel) (fun _ _ _ _ _ => (dg_tup rfl (dgs_cons (dg_name 4 sc__tells.nd) (dgs_cons (dg_name 2 sc__tells.nd) dgs_nil)))) (fun _ _ _ _ _ => dts_nil) (fun _ _ _ _ _ => (de_var 4)))) (de_val (df_listRg1 rfl z.z_list z.z_range (de_len z.z_len (da_cons (de_var 0) da_nil))))) (de_one (de_eq hr.units (de_lenset z.z_len z.z_set (de_var 1)) (de_len z.z_len (da_cons (de_var 1) da_nil))))))))
/-! telling_deeds -/
abbrev t_telling_deeds : Stmt := topS 24
abbrev N_telling_deeds : List Str := ["table", "deed"]
theorem sc_telling_deeds : FnScope N_telling_deeds ["table"] (defScope t_telling_deeds) := ⟨rfl, rfl, rfl, by decide +kernel, rfl, by decide +kernel, by decide +kernel⟩
noncomputable def m_telling_deeds : MS := (mSeq (mDrop (mDef 1 s_check_table (mCons (mVar 0) mNil)))
 (mRet (mCell (mComp [1] (mRange1 (mCons (mCall sLen (mCons (mVar 0) mNil)) mNil)) (mgName 1) (mTru (mDef 1 s__tells (mCons (mOp2 sIx (mVar 0) (mVar 1)) mNil))) (mVar 1)))))
noncomputable def s_telling_deeds : Sem := runB 2 m_telling_deeds
theorem b_telling_deeds (z : Zs mg) (D_check_table : Df P w K mg base 6 "check_table" ["table"] s_check_table) (D__tells : Df P w K mg base 1 "_tells" ["deed"] s__tells) : Bd P w K mg base N_telling_deeds "telling_deeds" t_telling_deeds 6 m_telling_deeds :=
 fun f cdv A outer s H E hr =>
 (ds_cons (ds_expr (de_def D_check_table (hr.mono (by decide)) (da_cons (de_var 0) da_nil)))
 (ds_one (ds_ret (de_cell (df_comp (own := [("deed", 1)]) rfl sc_telling_deeds.nd (di_range1 z.z_range (da_cons (de_len z.z_len (da_cons (de_var 0) da_nil)) da_nil)) (show blkC N_telling_deeds (defScope t_telling_deeds) _ [("deed", 1)] = true by decide +kernel) (fun _ _ _ _ _ => (dg_name 1 sc_telling_deeds.nd)) (fun _ _ _ _ _ => (dts_one (dt_tru (de_def D__tells (hr.mono (by decide)) (da_cons (de_sub' (hu_of hr) (de_var 0) (de_var 1)) da_nil))))) (fun _ _ _ _ _ => (de_var 1)))))))
/-! _first_settling -/
abbrev t__first_settling : Stmt := topS 25
abbrev N__first_settling : List Str := ["table", "deeds", "state", "one", "other"]
theorem sc__first_settling : FnScope N__first_settling ["table"] (defScope t__first_settling) := ⟨rfl, rfl, rfl, by decide +kernel, rfl, by decide +kernel, by decide +kernel⟩
noncomputable def m__first_settling : MS := (mSeq (mAsg (mCall sRng (mCons (mCall sLen (mCons (mVar 0) mNil)) mNil)) (mgName 1))
 (mSeq (mFor (mRange1 (mCons (mCall sLen (mCons (mOp2 sIx (mVar 0) (mC (.int 0))) mNil)) mNil)) (mgName 2)
 (mFor (mItemsR (mVar 1)) (mgName 3)
 (mFor (mItemsR (mVar 1)) (mgName 4)
 (mIfS (mTest (mOp2 sIs (mDef 4 s__first_blurred (mCons (mVar 0) (mCons (mVar 2) (mCons (mVar 3) (mCons (mVar 4) mNil))))) (mC .non)))
 (mRet (mTup (mCons (mVar 2) (mCons (mVar 3) (mCons (mVar 4) mNil)))))
 mSkip))))
 (mRet (mC .non))))
noncomputable def s__first_settling : Sem := runB 5 m__first_settling
theorem b__first_settling (z : Zs mg) (D__first_blurred : Df P w K mg base 2 "_first_blurred" ["table", "state", "one", "other"] s__first_blurred) : Bd P w K mg base N__first_settling "_first_settling" t__first_settling 2 m__first_settling :=
 fun f cdv A outer s H E hr =>
 (ds_cons (ds_set 1 sc__first_settling.nd (de_range1 z.z_range (da_cons (de_len z.z_len (da_cons (de_var 0) da_nil)) da_nil)))
 (ds_cons (ds_for (passes_of rfl) rfl (di_range1 z.z_range (da_cons (de_len z.z_len (da_cons (de_sub' (hu_of hr) (de_var 0) de_int) da_nil)) da_nil)) (dg_name 2 sc__first_settling.nd)
 (ds_one (ds_for (passes_of rfl) rfl (di_rng (de_var 1)) (dg_name 3 sc__first_settling.nd)
 (ds_one (ds_for (passes_of rfl) rfl (di_rng (de_var 1)) (dg_name 4 sc__first_settling.nd)
 (ds_one (ds_if (dt_is (de_def D__first_blurred (hr.mono (by decide)) (da_cons (de_var 0) (da_cons (de_var 2) (da_cons (de_var 3) (da_cons (de_var 4) da_nil))))) de_non)
 (ds_one (ds_ret (de_tup (da_cons (de_var 2) (da_cons (de_var 3) (da_cons (de_var 4) da_nil))))))
 ds_nil)))))))
 (ds_one (ds_ret de_non))))
/-! kind_of -/
abbrev t_kind_of : Stmt := topS 26
abbrev N_kind_of : List Str := ["table", "pair", "tellers", "place"]
theorem sc_kind_of : FnScope N_kind_of ["table"] (defScope t_kind_of) := ⟨rfl, rfl, rfl, by decide +kernel, rfl, by decide +kernel, by decide +kernel⟩
noncomputable def m_kind_of : MS := (mSeq (mDrop (mDef 1 s_check_table (mCons (mVar 0) mNil)))
 (mSeq (mAsg (mDef 1 s_first_clash (mCons (mVar 0) mNil)) (mgName 1))
 (mSeq (mIfS (mTest (mOp2 sIs (mVar 1) (mC .non)))
 (mRet (mTup (mCons (mC (.str "served")) mNil)))
 mSkip)
 (mSeq (mAsg (mDef 1 s_telling_deeds (mCons (mVar 0) mNil)) (mgName 2))
 (mSeq (mAsg (mDef 1 s__first_settling (mCons (mVar 0) mNil)) (mgName 3))
 (mSeq (mIfS (mAnd (mTru (mVar 2)) (mTest (mOp2 sIsNot (mVar 3) (mC .non))))
 (mRet (mTup (mCons (mC (.str "settles")) (mStar (mVar 3) (mCons (mOp2 sIx (mVar 2) (mC (.int 0))) mNil)))))
 mSkip)
 (mRet (mTup (mCons (mC (.str "open")) (mStar (mVar 1) mNil))))))))))
noncomputable def s_kind_of : Sem := gc (runB 4 m_kind_of)
theorem b_kind_of (z : Zs mg) (D_check_table : Df P w K mg base 6 "check_table" ["table"] s_check_table) (D_first_clash : Df P w K mg base 4 "first_clash" ["table"] s_first_clash) (D_telling_deeds : Df P w K mg base 7 "telling_deeds" ["table"] s_telling_deeds) (D__first_settling : Df P w K mg base 3 "_first_settling" ["table"] s__first_settling) : Bd P w K mg base N_kind_of "kind_of" t_kind_of 7 m_kind_of :=
 fun f cdv A outer s H E hr =>
 (ds_cons (ds_expr (de_def D_check_table (hr.mono (by decide)) (da_cons (de_var 0) da_nil)))
 (ds_cons (ds_set 1 sc_kind_of.nd (de_def D_first_clash (hr.mono (by decide)) (da_cons (de_var 0) da_nil)))
 (ds_cons (ds_if (dt_is (de_var 1) de_non)
 (ds_one (ds_ret (de_tup (da_cons de_str da_nil))))
 ds_nil)
 (ds_cons (ds_set 2 sc_kind_of.nd (de_def D_telling_deeds (hr.mono (by decide)) (da_cons (de_var 0) da_nil)))
 (ds_cons (ds_set 3 sc_kind_of.nd (de_def D__first_settling (hr.mono (by decide)) (da_cons (de_var 0) da_nil)))
 (ds_cons (ds_if (dt_w (dw_and (dt_tru (de_var 2)) (dw_and1 (dt_isnot (de_var 3) de_non))))
 (ds_one (ds_ret (de_tup (da_cons de_str (da_star (de_var 3) (da_cons (de_sub' (hu_of hr) (de_var 2) de_int) da_nil))))))
 ds_nil)
 (ds_one (ds_ret (de_tup (da_cons de_str (da_star (de_var 1) da_nil)))))))))))
/-! _law_begun -/
abbrev t__law_begun : Stmt := topS 28
abbrev N__law_begun : List Str := ["script", "great", "cell"]
theorem sc__law_begun : FnScope N__law_begun ["script"] (defScope t__law_begun) := ⟨rfl, rfl, rfl, by decide +kernel, rfl, by decide +kernel, by decide +kernel⟩
noncomputable def m__law_begun : MS := (mSeq (mAsg (if true = true then mCell (mComp [2] (mItems (mVar 0)) (mgName 2) (mTest (mOp2 sGe (mCall sAbs (mCons (mVar 2) mNil)) (mOp2 sPow (mC (.int 10)) (mC (.int 18))))) (mOp2 sSub (mCall sAbs (mCons (mVar 2) mNil)) (mOp2 sPow (mC (.int 10)) (mC (.int 18))))) else mVal (mComp [2] (mItems (mVar 0)) (mgName 2) (mTest (mOp2 sGe (mCall sAbs (mCons (mVar 2) mNil)) (mOp2 sPow (mC (.int 10)) (mC (.int 18))))) (mOp2 sSub (mCall sAbs (mCons (mVar 2) mNil)) (mOp2 sPow (mC (.int 10)) (mC (.int 18)))))) (mgName 1))
 (mRet (mDict (mpCons (mC (.str "great")) (mVar 1) (mpCons (mC (.str "cells")) (mVal (mComp [2] (mItems (mVar 0)) (mgName 2) mYes (mCall sAbs (mCons (mVar 2) mNil)))) (mpCons (mC (.str "left")) (mC (.int 0)) (mpCons (mC (.str "turn")) (mC (.int 0)) mpNil)))))))
noncomputable def s__law_begun : Sem := runB 3 m__law_begun
theorem b__law_begun (z : Zs mg) : Bd P w K mg base N__law_begun "_law_begun" t__law_begun 0 m__law_begun :=
 fun f cdv A outer s H E hr =>
 (ds_cons (ds_setLc (own := [("cell", 2)]) 1 true rfl sc__law_begun.nd (di_seq (de_var 0)) (show blkC N__law_begun (defScope t__law_begun) _ [("cell", 2)] = true by decide +kernel) (fun _ _ _ _ _ => (dg_name 2 sc__law_begun.nd)) (fun _ _ _ _ _ => (dts_one (dt_ge (de_abs z.z_abs (da_cons (de_var 2) da_nil)) (de_pow de_int de_int)))) (fun _ _ _ _ _ => (de_sub (de_abs z.z_abs (da_cons (de_var 2) da_nil)) (de_pow de_int de_int))) (sw_true rfl rfl rfl (by decide +kernel)))
 (ds_one (ds_ret (de_dict (dp_cons de_str (de_var 1) (dp_cons de_str (de_val (df_comp (own := [("cell", 2)]) rfl sc__law_begun.nd (di_seq (de_var 0)) (show blkC N__law_begun (defScope t__law_begun) _ [("cell", 2)] = true by decide +kernel) (fun _ _ _ _ _ => (dg_name 2 sc__law_begun.nd)) (fun _ _ _ _ _ => dts_nil) (fun _ _ _ _ _ => (de_abs z.z_abs (da_cons (de_var 2) da_nil))))) (dp_cons de_str de_int (dp_cons de_str de_int dp_nil))))))))
/-! _law_blended -/
abbrev t__law_blended : Stmt := topS 29
abbrev N__law_blended : List Str := ["state", "turn", "prime", "found", "blend", "cell"]
theorem sc__law_blended : FnScope N__law_blended ["state"] (defScope t__law_blended) := ⟨rfl, rfl, rfl, by decide +kernel, rfl, by decide +kernel, by decide +kernel⟩
noncomputable def m__law_blended : MS := (mSeq (mPar 1 3 (mCons (mOp2 sAdd (mOp2 sIx (mVar 0) (mC (.str "turn"))) (mC (.int 1))) (mCons (mC (.int 0)) mNil)))
 (mSeq (mAsg (mVar 1) (mgSub sSet (mVar 0) (mC (.str "turn"))))
 (mSeq (mFor (mItems (mVal (mLst (mCons (mC (.int 2147483477)) (mCons (mC (.int 2147483423)) (mCons (mC (.int 2147483399)) mNil)))))) (mgName 2)
 (mSeq (mAsg (mOp2 sAdd (mOp2 sMul (mC (.int 40014)) (mVar 1)) (mOp2 sFdiv (mVar 2) (mC (.int 67)))) (mgName 4))
 (mSeq (mFor (mItems (mOp2 sIx (mVar 0) (mC (.str "cells")))) (mgName 5)
 (mAsg (mOp2 sMod (mCall sInt (mCons (mOp2 sAdd (mOp2 sAdd (mOp2 sMul (mVar 4) (mC (.int 69621))) (mVar 5)) (mVar 1)) mNil)) (mVar 2)) (mgName 4)))
 (mAsg (mOp2 sAdd (mOp2 sMul (mVar 3) (mC (.int 2147483647))) (mOp2 sMod (mCall sInt (mCons (mOp2 sPow (mVar 4) (mC (.int 5))) mNil)) (mVar 2))) (mgName 3)))))
 (mRet (mVar 3)))))
noncomputable def s__law_blended : Sem := runB 6 m__law_blended
theorem b__law_blended (z : Zs mg) : Bd P w K mg base N__law_blended "_law_blended" t__law_blended 0 m__law_blended :=
 fun f cdv A outer s H E hr =>
 (ds_cons (ds_par 1 3 rfl sc__law_blended.nd (da_cons (de_add (de_sub' (hu_of hr) (de_var 0) de_str) de_int) (da_cons de_int da_nil)))
 (ds_cons (ds_asg (de_var 1) (dg_item (hu_of hr) (de_var 0) de_str))
 (ds_cons (ds_for (passes_of rfl) rfl (di_seq (de_val (df_lst (da_cons de_int (da_cons de_int (da_cons de_int da_nil)))))) (dg_name 2 sc__law_blended.nd)
 (ds_cons (ds_set 4 sc__law_blended.nd (de_add (de_mul de_int (de_var 1)) (de_fdiv (de_var 2) de_int)))
 (ds_cons (ds_for (passes_of rfl) rfl (di_seq (de_sub' (hu_of hr) (de_var 0) de_str)) (dg_name 5 sc__law_blended.nd)
 (ds_one (ds_set 4 sc__law_blended.nd (de_mod (de_int1 z.z_int (da_cons (de_add (de_add (de_mul (de_var 4) de_int) (de_var 5)) (de_var 1)) da_nil)) (de_var 2)))))
 (ds_one (ds_set 3 sc__law_blended.nd (de_add (de_mul (de_var 3) de_int) (de_mod (de_int1 z.z_int (da_cons (de_pow (de_var 4) de_int) da_nil)) (de_var 2))))))))
 (ds_one (ds_ret (de_var 3))))))
/-! _law_draw -/
abbrev t__law_draw : Stmt := topS 30
abbrev N__law_draw : List Str := ["state", "size_here", "found"]
theorem sc__law_draw : FnScope N__law_draw ["state", "size_here"] (defScope t__law_draw) := ⟨rfl, rfl, rfl, by decide +kernel, rfl, by decide +kernel, by decide +kernel⟩
noncomputable def m__law_draw : MS := (mSeq (mIfS (mTest (mOp2 sEq (mOp2 sIx (mVar 0) (mC (.str "left"))) (mC (.int 0))))
 (mAsg (mIf (mTest (mOp2 sNe (mOp2 sIx (mVar 0) (mC (.str "great"))) (mVal (mLst mNil)))) (mMeth sPopAt (mOp2 sIx (mVar 0) (mC (.str "great"))) (mCons (mC (.int 0)) mNil)) (mDef 1 s__law_blended (mCons (mVar 0) mNil))) (mgSub sSet (mVar 0) (mC (.str "left"))))
 mSkip)
 (mSeq (mAsg (mOp2 sMod (mCall sInt (mCons (mOp2 sIx (mVar 0) (mC (.str "left"))) mNil)) (mVar 1)) (mgName 2))
 (mSeq (mAsg (mOp2 sFdiv (mOp2 sIx (mVar 0) (mC (.str "left"))) (mVar 1)) (mgSub sSet (mVar 0) (mC (.str "left"))))
 (mRet (mVar 2)))))
noncomputable def s__law_draw : Sem := runB 3 m__law_draw
theorem b__law_draw (z : Zs mg) (D__law_blended : Df P w K mg base 1 "_law_blended" ["state"] s__law_blended) : Bd P w K mg base N__law_draw "_law_draw" t__law_draw 1 m__law_draw :=
 fun f cdv A outer s H E hr =>
 (ds_cons (ds_if (dt_eq hr.units (de_sub' (hu_of hr) (de_var 0) de_str) de_int)
 (ds_one (ds_asg (de_if (dt_ne hr.units (de_sub' (hu_of hr) (de_var 0) de_str) (de_val (df_lst da_nil))) (de_popAt (de_sub' (hu_of hr) (de_var 0) de_str) (da_cons de_int da_nil)) (de_def D__law_blended (hr.mono (by decide)) (da_cons (de_var 0) da_nil))) (dg_item (hu_of hr) (de_var 0) de_str)))
 ds_nil)
 (ds_cons (ds_set 2 sc__law_draw.nd (de_mod (de_int1 z.z_int (da_cons (de_sub' (hu_of hr) (de_var 0) de_str) da_nil)) (de_var 1)))
 (ds_cons (ds_asg (de_fdiv (de_sub' (hu_of hr) (de_var 0) de_str) (de_var 1)) (dg_item (hu_of hr) (de_var 0) de_str))
 (ds_one (ds_ret (de_var 2))))))
/-! _law_pick -/
abbrev t__law_pick : Stmt := topS 31
abbrev N__law_pick : List Str := ["state", "several"]
theorem sc__law_pick : FnScope N__law_pick ["state", "several"] (defScope t__law_pick) := ⟨rfl, rfl, rfl, by decide +kernel, rfl, by decide +kernel, by decide +kernel⟩
noncomputable def m__law_pick : MS := (mRet (mOp2 sIx (mVar 1) (mDef 2 s__law_draw (mCons (mVar 0) (mCons (mCall sLen (mCons (mVar 1) mNil)) mNil)))))
noncomputable def s__law_pick : Sem := runB 2 m__law_pick
theorem b__law_pick (z : Zs mg) (D__law_draw : Df P w K mg base 2 "_law_draw" ["state", "size_here"] s__law_draw) : Bd P w K mg base N__law_pick "_law_pick" t__law_pick 2 m__law_pick :=
 fun f cdv A outer s H E hr =>
 (ds_one (ds_ret (de_sub' (hu_of hr) (de_var 1) (de_def D__law_draw (hr.mono (by decide)) (da_cons (de_var 0) (da_cons (de_len z.z_len (da_cons (de_var 1) da_nil)) da_nil))))))
/-! _law_mixed -/
abbrev t__law_mixed : Stmt := topS 32
abbrev N__law_mixed : List Str := ["state", "several", "found", "left"]
theorem sc__law_mixed : FnScope N__law_mixed ["state", "several"] (defScope t__law_mixed) := ⟨rfl, rfl, rfl, by decide +kernel, rfl, by decide +kernel, by decide +kernel⟩
noncomputable def m__law_mixed : MS := (mSeq (mPar 3 2 (mCons (mCell (mCallF sList (mCons (mVar 1) mNil))) (mCons (mCell (mLst mNil)) mNil)))
 (mSeq (mWhile 1000000 (mTest (mOp2 sNe (mVar 3) (mVal (mLst mNil))))
 (mDrop (mMeth sAppend (mVar 2) (mCons (mMeth sPopAt (mVar 3) (mCons (mDef 2 s__law_draw (mCons (mVar 0) (mCons (mCall sLen (mCons (mVar 3) mNil)) mNil))) mNil)) mNil))))
 (mRet (mVar 2))))
noncomputable def s__law_mixed : Sem := gc (runB 4 m__law_mixed)
theorem b__law_mixed (z : Zs mg) (D__law_draw : Df P w K mg base 2 "_law_draw" ["state", "size_here"] s__law_draw) : Bd P w K mg base N__law_mixed "_law_mixed" t__law_mixed 2 m__law_mixed :=
 fun f cdv A outer s H E hr =>
 (ds_cons (ds_par 3 2 rfl sc__law_mixed.nd (da_cons (de_cell (df_list z.z_list (da_cons (de_var 1) da_nil))) (da_cons (de_cell (df_lst da_nil)) da_nil)))
 (ds_cons (ds_while 1000000 (passes_of rfl) (dt_ne hr.units (de_var 3) (de_val (df_lst da_nil)))
 (ds_one (ds_expr (de_append (de_var 2) (da_cons (de_popAt (de_var 3) (da_cons (de_def D__law_draw (hr.mono (by decide)) (da_cons (de_var 0) (da_cons (de_len z.z_len (da_cons (de_var 3) da_nil)) da_nil))) da_nil)) da_nil)))))
 (ds_one (ds_ret (de_var 2)))))
/-! _law_tt_looked -/
abbrev t__law_tt_looked : Stmt := topS 33
abbrev N__law_tt_looked : List Str := ["deeds", "states", "first", "found", "deed", "there", "here"]
theorem sc__law_tt_looked : FnScope N__law_tt_looked ["deeds", "states", "first"] (defScope t__law_tt_looked) := ⟨rfl, rfl, rfl, by decide +kernel, rfl, by decide +kernel, by decide +kernel⟩
noncomputable def m__law_tt_looked : MS := (mSeq (mAsg (if false = true then mCell (mComp [4] (mItems (mVar 0)) (mgName 4) mYes (mCall sTup (mCons (mVal (mComp [5] (mItems (mVar 4)) (mgName 5) mYes (mTup (mCons (mVar 5) (mCons (mC (.int 0)) mNil))))) mNil))) else mVal (mComp [4] (mItems (mVar 0)) (mgName 4) mYes (mCall sTup (mCons (mVal (mComp [5] (mItems (mVar 4)) (mgName 5) mYes (mTup (mCons (mVar 5) (mCons (mC (.int 0)) mNil))))) mNil)))) (mgName 3))
 (mRet (mCall sTup (mCons (mVal (mOp2F sCat (mVar 3) (mVal (mLst (mCons (mCall sTup (mCons (mVal (mComp [6] (mRange1 (mCons (mVar 1) mNil)) (mgName 6) mYes (mTup (mCons (mVar 6) (mCons (mOp2 sAdd (mVar 2) (mVar 6)) mNil))))) mNil)) mNil))))) mNil))))
noncomputable def s__law_tt_looked : Sem := runB 7 m__law_tt_looked
theorem b__law_tt_looked (z : Zs mg) : Bd P w K mg base N__law_tt_looked "_law_tt_looked" t__law_tt_looked 0 m__law_tt_looked :=
 fun f cdv A outer s H E hr =>
 (ds_cons (ds_setLc (own := [("deed", 4)]) 3 false rfl sc__law_tt_looked.nd (di_seq (de_var 0)) (show blkC N__law_tt_looked (defScope t__law_tt_looked) _ [("deed", 4)] = true by decide +kernel) (fun _ _ _ _ _ => (dg_name 4 sc__law_tt_looked.nd)) (fun _ _ _ _ _ => dts_nil) (fun _ _ _ _ _ => (de_tuple z.z_tuple (da_cons (de_val (df_comp (own := [("there", 5)]) rfl sc__law_tt_looked.nd (di_seq (de_var 4)) (show blkC N__law_tt_looked (relS _ (defScope t__law_tt_looked)) _ [("there", 5)] = true by decide +kernel) (fun _ _ _ _ _ => (dg_name 5 sc__law_tt_looked.nd)) (fun _ _ _ _ _ => dts_nil) (fun _ _ _ _ _ => (de_tup (da_cons (de_var 5) (da_cons de_int da_nil)))))) da_nil))) (sw_true rfl rfl rfl (by decide +kernel)))
 (ds_one (ds_ret (de_tuple z.z_tuple (da_cons (de_val (df_add (de_var 3) (de_val (df_lst (da_cons (de_tuple z.z_tuple (da_cons (de_val (df_comp (own := [("here", 6)]) rfl sc__law_tt_looked.nd (di_range1 z.z_range (da_cons (de_var 1) da_nil)) (show blkC N__law_tt_looked (defScope t__law_tt_looked) _ [("here", 6)] = true by decide +kernel) (fun _ _ _ _ _ => (dg_name 6 sc__law_tt_looked.nd)) (fun _ _ _ _ _ => dts_nil) (fun _ _ _ _ _ => (de_tup (da_cons (de_var 6) (da_cons (de_add (de_var 2) (de_var 6)) da_nil)))))) da_nil)) da_nil))))) da_nil)))))
/-! _law_tt_small -/
abbrev t__law_tt_small : Stmt := topS 34
abbrev N__law_tt_small : List Str := ["state", "kind_here", "size", "least", "value", "step", "here"]
theorem sc__law_tt_small : FnScope N__law_tt_small ["state"] (defScope t__law_tt_small) := ⟨rfl, rfl, rfl, by decide +kernel, rfl, by decide +kernel, by decide +kernel⟩
noncomputable def m__law_tt_small : MS := (mSeq (mAsg (mTup (mCons (mDef 2 s__law_draw (mCons (mVar 0) (mCons (mC (.int 7)) mNil))) (mCons (mOp2 sAdd (mC (.int 1)) (mDef 2 s__law_draw (mCons (mVar 0) (mCons (mC (.int 4)) mNil)))) mNil))) (mgTup 2 (mgCons (mgName 1) (mgCons (mgName 2) mgNil))))
 (mSeq (mIfS (mTest (mOp2 sEq (mVar 1) (mC (.int 0))))
 (mRet (mDef 3 s__law_tt_looked (mCons (mVal (mLst (mCons (mVal (mComp [6] (mRange1 (mCons (mVar 2) mNil)) (mgName 6) mYes (mOp2 sMod (mOp2 sAdd (mVar 6) (mC (.int 1))) (mVar 2)))) (mCons (mVal (mOp2F sRep (mVal (mLst (mCons (mC (.int 0)) mNil))) (mVar 2))) mNil)))) (mCons (mVar 2) (mCons (mC (.int 0)) mNil)))))
 mSkip)
 (mSeq (mIfS (mTest (mOp2 sEq (mVar 1) (mC (.int 1))))
 (mRet (mDef 3 s__law_tt_looked (mCons (mVal (mComp [3] (mRange1 (mCons (mVar 2) mNil)) (mgName 3) mYes (mVal (mComp [6] (mRange1 (mCons (mVar 2) mNil)) (mgName 6) mYes (mCall sMax2 (mCons (mVar 6) (mCons (mVar 3) mNil))))))) (mCons (mVar 2) (mCons (mC (.int 0)) mNil)))))
 mSkip)
 (mSeq (mIfS (mTest (mOp2 sEq (mVar 1) (mC (.int 2))))
 (mRet (mDef 3 s__law_tt_looked (mCons (mVal (mLst (mCons (mVal (mComp [6] (mRange1 (mCons (mC (.int 4)) mNil)) (mgName 6) mYes (mOp2 sBor (mVar 6) (mC (.int 1))))) (mCons (mVal (mComp [6] (mRange1 (mCons (mC (.int 4)) mNil)) (mgName 6) mYes (mOp2 sBor (mVar 6) (mC (.int 2))))) mNil)))) (mCons (mC (.int 4)) (mCons (mC (.int 0)) mNil)))))
 mSkip)
 (mSeq (mIfS (mTest (mOp2 sEq (mVar 1) (mC (.int 3))))
 (mRet (mDef 3 s__law_tt_looked (mCons (mVal (mComp [4] (mRange1 (mCons (mVar 2) mNil)) (mgName 4) mYes (mVal (mOp2F sRep (mVal (mLst (mCons (mVar 4) mNil))) (mVar 2))))) (mCons (mVar 2) (mCons (mC (.int 0)) mNil)))))
 mSkip)
 (mSeq (mIfS (mTest (mOp2 sEq (mVar 1) (mC (.int 4))))
 (mRet (mDef 3 s__law_tt_looked (mCons (mVal (mComp [5] (mItems (mVal (mLst (mCons (mC (.int 1)) (mCons (mC (.int 2)) mNil))))) (mgName 5) mYes (mVal (mComp [6] (mRange1 (mCons (mOp2 sAdd (mVar 2) (mC (.int 1))) mNil)) (mgName 6) mYes (mCall sMin2 (mCons (mOp2 sAdd (mVar 6) (mVar 5)) (mCons (mVar 2) mNil))))))) (mCons (mOp2 sAdd (mVar 2) (mC (.int 1))) (mCons (mC (.int 0)) mNil)))))
 mSkip)
 (mSeq (mIfS (mTest (mOp2 sEq (mVar 1) (mC (.int 5))))
 (mRet (mDef 3 s__law_tt_looked (mCons (mVal (mLst (mCons (mVal (mOp2F sRep (mVal (mLst (mCons (mC (.int 0)) mNil))) (mC (.int 4)))) (mCons (mVal (mOp2F sRep (mVal (mLst (mCons (mC (.int 2)) mNil))) (mC (.int 4)))) (mCons (mVal (mLst (mCons (mC (.int 0)) (mCons (mC (.int 0)) (mCons (mC (.int 3)) (mCons (mC (.int 3)) mNil)))))) (mCons (mVal (mLst (mCons (mC (.int 1)) (mCons (mC (.int 0)) (mCons (mC (.int 3)) (mCons (mC (.int 2)) mNil)))))) mNil)))))) (mCons (mC (.int 4)) (mCons (mC (.int 0)) mNil)))))
 mSkip)
 (mRet (mDef 3 s__law_tt_looked (mCons (mVal (mLst (mCons (mVal (mLst (mCons (mC (.int 0)) (mCons (mC (.int 0)) (mCons (mC (.int 2)) (mCons (mC (.int 2)) mNil)))))) (mCons (mVal (mLst (mCons (mC (.int 1)) (mCons (mC (.int 1)) (mCons (mC (.int 3)) (mCons (mC (.int 3)) mNil)))))) (mCons (mVal (mLst (mCons (mC (.int 0)) (mCons (mC (.int 1)) (mCons (mC (.int 0)) (mCons (mC (.int 1)) mNil)))))) (mCons (mVal (mLst (mCons (mC (.int 2)) (mCons (mC (.int 3)) (mCons (mC (.int 2)) (mCons (mC (.int 3)) mNil)))))) mNil)))))) (mCons (mC (.int 4)) (mCons (mC (.int 0)) mNil))))))))))))
noncomputable def s__law_tt_small : Sem := runB 7 m__law_tt_small
theorem b__law_tt_small (z : Zs mg) (D__law_draw : Df P w K mg base 2 "_law_draw" ["state", "size_here"] s__law_draw) (D__law_tt_looked : Df P w K mg base 1 "_law_tt_looked" ["deeds", "states", "first"] s__law_tt_looked) : Bd P w K mg base N__law_tt_small "_law_tt_small" t__law_tt_small 2 m__law_tt_small :=
 fun f cdv A outer s H E hr =>
 (ds_cons (ds_asg (de_tup (da_cons (de_def D__law_draw (hr.mono (by decide)) (da_cons (de_var 0) (da_cons de_int da_nil))) (da_cons (de_add de_int (de_def D__law_draw (hr.mono (by decide)) (da_cons (de_var 0) (da_cons de_int da_nil)))) da_nil))) (dg_tup rfl (dgs_cons (dg_name 1 sc__law_tt_small.nd) (dgs_cons (dg_name 2 sc__law_tt_small.nd) dgs_nil))))
 (ds_cons (ds_if (dt_eq hr.units (de_var 1) de_int)
 (ds_one (ds_ret (de_def D__law_tt_looked (hr.mono (by decide)) (da_cons (de_val (df_lst (da_cons (de_val (df_comp (own := [("here", 6)]) rfl sc__law_tt_small.nd (di_range1 z.z_range (da_cons (de_var 2) da_nil)) (show blkC N__law_tt_small (defScope t__law_tt_small) _ [("here", 6)] = true by decide +kernel) (fun _ _ _ _ _ => (dg_name 6 sc__law_tt_small.nd)) (fun _ _ _ _ _ => dts_nil) (fun _ _ _ _ _ => (de_mod (de_add (de_var 6) de_int) (de_var 2))))) (da_cons (de_val (df_mul (de_val (df_lst (da_cons de_int da_nil))) (de_var 2))) da_nil)))) (da_cons (de_var 2) (da_cons de_int da_nil))))))
 ds_nil)
 (ds_cons (ds_if (dt_eq hr.units (de_var 1) de_int)
 (ds_one (ds_ret (de_def D__law_tt_looked (hr.mono (by decide)) (da_cons (de_val (df_comp (own := [("least", 3)]) rfl sc__law_tt_small.nd (di_range1 z.z_range (da_cons (de_var 2) da_nil)) (show blkC N__law_tt_small (defScope t__law_tt_small) _ [("least", 3)] = true by decide +kernel) (fun _ _ _ _ _ => (dg_name 3 sc__law_tt_small.nd)) (fun _ _ _ _ _ => dts_nil) (fun _ _ _ _ _ => (de_val (df_comp (own := [("here", 6)]) rfl sc__law_tt_small.nd (di_range1 z.z_range (da_cons (de_var 2) da_nil)) (show blkC N__law_tt_small (relS _ (defScope t__law_tt_small)) _ [("here", 6)] = true by decide +kernel) (fun _ _ _ _ _ => (dg_name 6 sc__law_tt_small.nd)) (fun _ _ _ _ _ => dts_nil) (fun _ _ _ _ _ => (de_max2 rfl z.z_max (da_cons (de_var 6) (da_cons (de_var 3) da_nil))))))))) (da_cons (de_var 2) (da_cons de_int da_nil))))))
 ds_nil)
 (ds_cons (ds_if (dt_eq hr.units (de_var 1) de_int)
 (ds_one (ds_ret (de_def D__law_tt_looked (hr.mono (by decide)) (da_cons (de_val (df_lst (da_cons (de_val (df_comp (own := [("here", 6)]) rfl sc__law_tt_small.nd (di_range1 z.z_range (da_cons de_int da_nil)) (show blkC N__law_tt_small (defScope t__law_tt_small) _ [("here", 6)] = true by decide +kernel) (fun _ _ _ _ _ => (dg_name 6 sc__law_tt_small.nd)) (fun _ _ _ _ _ => dts_nil) (fun _ _ _ _ _ => (de_bor (de_var 6) de_int)))) (da_cons (de_val (df_comp (own := [("here", 6)]) rfl sc__law_tt_small.nd (di_range1 z.z_range (da_cons de_int da_nil)) (show blkC N__law_tt_small (defScope t__law_tt_small) _ [("here", 6)] = true by decide +kernel) (fun _ _ _ _ _ => (dg_name 6 sc__law_tt_small.nd)) (fun _ _ _ _ _ => dts_nil) (fun _ _ _ _ _ => (de_bor (de_var 6) de_int)))) da_nil)))) (da_cons de_int (da_cons de_int da_nil))))))
 ds_nil)
 (ds_cons (ds_if (dt_eq hr.units (de_var 1) de_int)
 (ds_one (ds_ret (de_def D__law_tt_looked (hr.mono (by decide)) (da_cons (de_val (df_comp (own := [("value", 4)]) rfl sc__law_tt_small.nd (di_range1 z.z_range (da_cons (de_var 2) da_nil)) (show blkC N__law_tt_small (defScope t__law_tt_small) _ [("value", 4)] = true by decide +kernel) (fun _ _ _ _ _ => (dg_name 4 sc__law_tt_small.nd)) (fun _ _ _ _ _ => dts_nil) (fun _ _ _ _ _ => (de_val (df_mul (de_val (df_lst (da_cons (de_var 4) da_nil))) (de_var 2)))))) (da_cons (de_var 2) (da_cons de_int da_nil))))))
 ds_nil)
 (ds_cons (ds_if (dt_eq hr.units (de_var 1) de_int)
 (ds_one (ds_ret (de_def D__law_tt_looked (hr.mono (by decide)) (da_cons (de_val (df_comp (own := [("step", 5)]) rfl sc__law_tt_small.nd (di_seq (de_val (df_lst (da_cons de_int (da_cons de_int da_nil))))) (show blkC N__law_tt_small (defScope t__law_tt_small) _ [("step", 5)] = true by decide +kernel) (fun _ _ _ _ _ => (dg_name 5 sc__law_tt_small.nd)) (fun _ _ _ _ _ => dts_nil) (fun _ _ _ _ _ => (de_val (df_comp (own := [("here", 6)]) rfl sc__law_tt_small.nd (di_range1 z.z_range (da_cons (de_add (de_var 2) de_int) da_nil)) (show blkC N__law_tt_small (relS _ (defScope t__law_tt_small)) _ [("here", 6)] = true by decide +kernel) (fun _ _ _ _ _ => (dg_name 6 sc__law_tt_small.nd)) (fun _ _ _ _ _ => dts_nil) (fun _ _ _ _ _ => (de_min2 rfl z.z_min (da_cons (de_add (de_var 6) (de_var 5)) (da_cons (de_var 2) da_nil))))))))) (da_cons (de_add (de_var 2) de_int) (da_cons de_int da_nil))))))
 ds_nil)
 (ds_cons (ds_if (dt_eq hr.units (de_var 1) de_int)
 (ds_one (ds_ret (de_def D__law_tt_looked (hr.mono (by decide)) (da_cons (de_val (df_lst (da_cons (de_val (df_mul (de_val (df_lst (da_cons de_int da_nil))) de_int)) (da_cons (de_val (df_mul (de_val (df_lst (da_cons de_int da_nil))) de_int)) (da_cons (de_val (df_lst (da_cons de_int (da_cons de_int (da_cons de_int (da_cons de_int da_nil)))))) (da_cons (de_val (df_lst (da_cons de_int (da_cons de_int (da_cons de_int (da_cons de_int da_nil)))))) da_nil)))))) (da_cons de_int (da_cons de_int da_nil))))))
 ds_nil)
 (ds_one (ds_ret (de_def D__law_tt_looked (hr.mono (by decide)) (da_cons (de_val (df_lst (da_cons (de_val (df_lst (da_cons de_int (da_cons de_int (da_cons de_int (da_cons de_int da_nil)))))) (da_cons (de_val (df_lst (da_cons de_int (da_cons de_int (da_cons de_int (da_cons de_int da_nil)))))) (da_cons (de_val (df_lst (da_cons de_int (da_cons de_int (da_cons de_int (da_cons de_int da_nil)))))) (da_cons (de_val (df_lst (da_cons de_int (da_cons de_int (da_cons de_int (da_cons de_int da_nil)))))) da_nil)))))) (da_cons de_int (da_cons de_int da_nil)))))))))))))
/-! _law_tt_product -/
abbrev t__law_tt_product : Stmt := topS 35
abbrev N__law_tt_product : List Str := ["left", "right", "deed", "more", "found", "row", "here", "there", "answer", "other"]
theorem sc__law_tt_product : FnScope N__law_tt_product ["left", "right"] (defScope t__law_tt_product) := ⟨rfl, rfl, rfl, by decide +kernel, rfl, by decide +kernel, by decide +kernel⟩
noncomputable def m__law_tt_product : MS := (mSeq (mAsg (mTup (mCons (mCall sLen (mCons (mOp2 sIx (mVar 1) (mC (.int 0))) mNil)) (mCons (mCell (mLst mNil)) mNil))) (mgTup 2 (mgCons (mgName 3) (mgCons (mgName 4) mgNil))))
 (mSeq (mFor (mItems (mVar 0)) (mgName 2)
 (mSeq (mAsg (mVal (mLst mNil)) (mgName 5))
 (mSeq (mFor (mItems (mVar 2)) (mgTup 2 (mgCons (mgName 7) (mgCons (mgName 8) mgNil)))
 (mAsg (mVal (mOp2F sCat (mVar 5) (mVal (mComp [9] (mRange1 (mCons (mVar 3) mNil)) (mgName 9) mYes (mTup (mCons (mOp2 sAdd (mOp2 sMul (mVar 7) (mVar 3)) (mVar 9)) (mCons (mVar 8) mNil))))))) (mgName 5)))
 (mDrop (mMeth sAppend (mVar 4) (mCons (mCall sTup (mCons (mVar 5) mNil)) mNil))))))
 (mSeq (mFor (mItems (mVar 1)) (mgName 2)
 (mSeq (mAsg (mVal (mLst mNil)) (mgName 5))
 (mSeq (mFor (mRange1 (mCons (mCall sLen (mCons (mOp2 sIx (mVar 0) (mC (.int 0))) mNil)) mNil)) (mgName 6)
 (mAsg (mVal (mOp2F sCat (mVar 5) (mVal (mComp [7, 8] (mItems (mVar 2)) (mgTup 2 (mgCons (mgName 7) (mgCons (mgName 8) mgNil))) mYes (mTup (mCons (mOp2 sAdd (mOp2 sMul (mVar 6) (mVar 3)) (mVar 7)) (mCons (mVar 8) mNil))))))) (mgName 5)))
 (mDrop (mMeth sAppend (mVar 4) (mCons (mCall sTup (mCons (mVar 5) mNil)) mNil))))))
 (mRet (mCall sTup (mCons (mVar 4) mNil))))))
noncomputable def s__law_tt_product : Sem := gc (runB 10 m__law_tt_product)
theorem b__law_tt_product (z : Zs mg) : Bd P w K mg base N__law_tt_product "_law_tt_product" t__law_tt_product 0 m__law_tt_product :=
 fun f cdv A outer s H E hr =>
 (ds_cons (ds_asg (de_tup (da_cons (de_len z.z_len (da_cons (de_sub' (hu_of hr) (de_var 1) de_int) da_nil)) (da_cons (de_cell (df_lst da_nil)) da_nil))) (dg_tup rfl (dgs_cons (dg_name 3 sc__law_tt_product.nd) (dgs_cons (dg_name 4 sc__law_tt_product.nd) dgs_nil))))
 (ds_cons (ds_for (passes_of rfl) rfl (di_seq (de_var 0)) (dg_name 2 sc__law_tt_product.nd)
 (ds_cons (ds_set 5 sc__law_tt_product.nd (de_val (df_lst da_nil)))
 (ds_cons (ds_for (passes_of rfl) rfl (di_seq (de_var 2)) (dg_tup rfl (dgs_cons (dg_name 7 sc__law_tt_product.nd) (dgs_cons (dg_name 8 sc__law_tt_product.nd) dgs_nil)))
 (ds_one (ds_set 5 sc__law_tt_product.nd (de_val (df_add (de_var 5) (de_val (df_comp (own := [("other", 9)]) rfl sc__law_tt_product.nd (di_range1 z.z_range (da_cons (de_var 3) da_nil)) (show blkC N__law_tt_product (defScope t__law_tt_product) _ [("other", 9)] = true by decide +kernel) (fun _ _ _ _ _ => (dg_name 9 sc__law_tt_product.nd)) (fun _ _ _ _ _ => dts_nil) (fun _ _ _ _ _ => (de_tup (da_cons (de_add (de_mul (de_var 7) (de_var 3)) (de_var 9)) (da_cons (de_var 8) da_nil)))))))))))
 (ds_one (ds_expr (de_append (de_var 4) (da_cons (de_tuple z.z_tuple (da_cons (de_var 5) da_nil)) da_nil)))))))
 (ds_cons (ds_for (passes_of rfl) rfl (di_seq (de_var 1)) (dg_name 2 sc__law_tt_product.nd)
 (ds_cons (ds_set 5 sc__law_tt_product.nd (de_val (df_lst da_nil)))
 (ds_cons (ds_for (passes_of rfl) rfl (di_range1 z.z_range (da_cons (de_len z.z_len (da_cons (de_sub' (hu_of hr) (de_var 0) de_int) da_nil)) da_nil)) (dg_name 6 sc__law_tt_product.nd)
 (ds_one (ds_set 5 sc__law_tt_product.nd (de_val (df_add (de_var 5) (de_val (df_comp (own := [("there", 7), ("answer", 8)]) rfl sc__law_tt_product.nd (di_seq (de_var 2)) (show blkC N__law_tt_product (defScope t__law_tt_product) _ [("there", 7), ("answer", 8)] = true by decide +kernel) (fun _ _ _ _ _ => (dg_tup rfl (dgs_cons (dg_name 7 sc__law_tt_product.nd) (dgs_cons (dg_name 8 sc__law_tt_product.nd) dgs_nil)))) (fun _ _ _ _ _ => dts_nil) (fun _ _ _ _ _ => (de_tup (da_cons (de_add (de_mul (de_var 6) (de_var 3)) (de_var 7)) (da_cons (de_var 8) da_nil)))))))))))
 (ds_one (ds_expr (de_append (de_var 4) (da_cons (de_tuple z.z_tuple (da_cons (de_var 5) da_nil)) da_nil)))))))
 (ds_one (ds_ret (de_tuple z.z_tuple (da_cons (de_var 4) da_nil)))))))
/-! _law_tt_renamed -/
abbrev t__law_tt_renamed : Stmt := topS 36
abbrev N__law_tt_renamed : List Str := ["state", "table_here", "many", "place", "found", "deed", "row", "here"]
theorem sc__law_tt_renamed : FnScope N__law_tt_renamed ["state", "table_here"] (defScope t__law_tt_renamed) := ⟨rfl, rfl, rfl, by decide +kernel, rfl, by decide +kernel, by decide +kernel⟩
noncomputable def m__law_tt_renamed : MS := (mSeq (mAsg (mCall sLen (mCons (mOp2 sIx (mVar 1) (mC (.int 0))) mNil)) (mgName 2))
 (mSeq (mAsg (mDef 2 s__law_mixed (mCons (mVar 0) (mCons (mVal (mLRg1 (mVar 2))) mNil))) (mgName 3))
 (mSeq (mAsg (mCell (mLst mNil)) (mgName 4))
 (mSeq (mFor (mItems (mDef 2 s__law_mixed (mCons (mVar 0) (mCons (mVar 1) mNil)))) (mgName 5)
 (mSeq (mAsg (mCell (mOp2F sRep (mVal (mLst (mCons (mC .non) mNil))) (mVar 2))) (mgName 6))
 (mSeq (mFor (mRange1 (mCons (mVar 2) mNil)) (mgName 7)
 (mAsg (mTup (mCons (mOp2 sIx (mVar 3) (mOp2 sIx (mOp2 sIx (mVar 5) (mVar 7)) (mC (.int 0)))) (mCons (mOp2 sIx (mOp2 sIx (mVar 5) (mVar 7)) (mC (.int 1))) mNil))) (mgSub sSet (mVar 6) (mOp2 sIx (mVar 3) (mVar 7)))))
 (mDrop (mMeth sAppend (mVar 4) (mCons (mCall sTup (mCons (mVar 6) mNil)) mNil))))))
 (mRet (mCall sTup (mCons (mVar 4) mNil)))))))
noncomputable def s__law_tt_renamed : Sem := gc (runB 8 m__law_tt_renamed)
theorem b__law_tt_renamed (z : Zs mg) (D__law_mixed : Df P w K mg base 3 "_law_mixed" ["state", "several"] s__law_mixed) : Bd P w K mg base N__law_tt_renamed "_law_tt_renamed" t__law_tt_renamed 3 m__law_tt_renamed :=
 fun f cdv A outer s H E hr =>
 (ds_cons (ds_set 2 sc__law_tt_renamed.nd (de_len z.z_len (da_cons (de_sub' (hu_of hr) (de_var 1) de_int) da_nil)))
 (ds_cons (ds_set 3 sc__law_tt_renamed.nd (de_def D__law_mixed (hr.mono (by decide)) (da_cons (de_var 0) (da_cons (de_val (df_listRg1 rfl z.z_list z.z_range (de_var 2))) da_nil))))
 (ds_cons (ds_set 4 sc__law_tt_renamed.nd (de_cell (df_lst da_nil)))
 (ds_cons (ds_for (passes_of rfl) rfl (di_seq (de_def D__law_mixed (hr.mono (by decide)) (da_cons (de_var 0) (da_cons (de_var 1) da_nil)))) (dg_name 5 sc__law_tt_renamed.nd)
 (ds_cons (ds_set 6 sc__law_tt_renamed.nd (de_cell (df_mul (de_val (df_lst (da_cons de_non da_nil))) (de_var 2))))
 (ds_cons (ds_for (passes_of rfl) rfl (di_range1 z.z_range (da_cons (de_var 2) da_nil)) (dg_name 7 sc__law_tt_renamed.nd)
 (ds_one (ds_asg (de_tup (da_cons (de_sub' (hu_of hr) (de_var 3) (de_sub' (hu_of hr) (de_sub' (hu_of hr) (de_var 5) (de_var 7)) de_int)) (da_cons (de_sub' (hu_of hr) (de_sub' (hu_of hr) (de_var 5) (de_var 7)) de_int) da_nil))) (dg_item (hu_of hr) (de_var 6) (de_sub' (hu_of hr) (de_var 3) (de_var 7))))))
 (ds_one (ds_expr (de_append (de_var 4) (da_cons (de_tuple z.z_tuple (da_cons (de_var 6) da_nil)) da_nil)))))))
 (ds_one (ds_ret (de_tuple z.z_tuple (da_cons (de_var 4) da_nil))))))))
/-! _law_tt_served -/
abbrev t__law_tt_served : Stmt := topS 37
abbrev N__law_tt_served : List Str := ["state", "most", "found", "other", "here"]
theorem sc__law_tt_served : FnScope N__law_tt_served ["state", "most"] (defScope t__law_tt_served) := ⟨rfl, rfl, rfl, by decide +kernel, rfl, by decide +kernel, by decide +kernel⟩
noncomputable def m__law_tt_served : MS := (mSeq (mAsg (mDef 1 s__law_tt_small (mCons (mVar 0) mNil)) (mgName 2))
 (mSeq (mIfS (mTest (mOp2 sEq (mDef 2 s__law_draw (mCons (mVar 0) (mCons (mC (.int 2)) mNil))) (mC (.int 0))))
 (mSeq (mAsg (mDef 1 s__law_tt_small (mCons (mVar 0) mNil)) (mgName 3))
 (mIfS (mAnd (mTest (mOp2 sLe (mOp2 sMul (mCall sLen (mCons (mOp2 sIx (mVar 2) (mC (.int 0))) mNil)) (mCall sLen (mCons (mOp2 sIx (mVar 3) (mC (.int 0))) mNil))) (mVar 1))) (mTest (mOp2 sLt (mOp2 sAdd (mCall sLen (mCons (mVar 2) mNil)) (mCall sLen (mCons (mVar 3) mNil))) (mC (.int 9)))))
 (mAsg (mDef 2 s__law_tt_product (mCons (mVar 2) (mCons (mVar 3) mNil))) (mgName 2))
 mSkip))
 mSkip)
 (mSeq (mIfS (mTest (mOp2 sEq (mDef 2 s__law_draw (mCons (mVar 0) (mCons (mC (.int 3)) mNil))) (mC (.int 0))))
 (mAsg (mOp2 sAdd (mVar 2) (mTup (mCons (mCall sTup (mCons (mVal (mComp [4] (mRange1 (mCons (mCall sLen (mCons (mOp2 sIx (mVar 2) (mC (.int 0))) mNil)) mNil)) (mgName 4) mYes (mTup (mCons (mVar 4) (mCons (mC (.int 7)) mNil))))) mNil)) mNil))) (mgName 2))
 mSkip)
 (mSeq (mIfS (mTest (mOp2 sEq (mDef 2 s__law_draw (mCons (mVar 0) (mCons (mC (.int 3)) mNil))) (mC (.int 0))))
 (mAsg (mOp2 sAdd (mVar 2) (mTup (mCons (mDef 2 s__law_pick (mCons (mVar 0) (mCons (mVar 2) mNil))) mNil))) (mgName 2))
 mSkip)
 (mRet (mDef 2 s__law_tt_renamed (mCons (mVar 0) (mCons (mVar 2) mNil))))))))
noncomputable def s__law_tt_served : Sem := runB 5 m__law_tt_served
theorem b__law_tt_served (z : Zs mg) (D__law_tt_small : Df P w K mg base 3 "_law_tt_small" ["state"] s__law_tt_small) (D__law_draw : Df P w K mg base 2 "_law_draw" ["state", "size_here"] s__law_draw) (D__law_tt_product : Df P w K mg base 1 "_law_tt_product" ["left", "right"] s__law_tt_product) (D__law_pick : Df P w K mg base 3 "_law_pick" ["state", "several"] s__law_pick) (D__law_tt_renamed : Df P w K mg base 4 "_law_tt_renamed" ["state", "table_here"] s__law_tt_renamed) : Bd P w K mg base N__law_tt_served "_law_tt_served" t__law_tt_served 4 m__law_tt_served :=
 fun f cdv A outer s H E hr =>
 (ds_cons (ds_set 2 sc__law_tt_served.nd (de_def D__law_tt_small (hr.mono (by decide)) (da_cons (de_var 0) da_nil)))
 (ds_cons (ds_if (dt_eq hr.units (de_def D__law_draw (hr.mono (by decide)) (da_cons (de_var 0) (da_cons de_int da_nil))) de_int)
 (ds_cons (ds_set 3 sc__law_tt_served.nd (de_def D__law_tt_small (hr.mono (by decide)) (da_cons (de_var 0) da_nil)))
 (ds_one (ds_if (dt_w (dw_and (dt_le (de_mul (de_len z.z_len (da_cons (de_sub' (hu_of hr) (de_var 2) de_int) da_nil)) (de_len z.z_len (da_cons (de_sub' (hu_of hr) (de_var 3) de_int) da_nil))) (de_var 1)) (dw_and1 (dt_lt (de_add (de_len z.z_len (da_cons (de_var 2) da_nil)) (de_len z.z_len (da_cons (de_var 3) da_nil))) de_int))))
 (ds_one (ds_set 2 sc__law_tt_served.nd (de_def D__law_tt_product (hr.mono (by decide)) (da_cons (de_var 2) (da_cons (de_var 3) da_nil)))))
 ds_nil)))
 ds_nil)
 (ds_cons (ds_if (dt_eq hr.units (de_def D__law_draw (hr.mono (by decide)) (da_cons (de_var 0) (da_cons de_int da_nil))) de_int)
 (ds_one (ds_set 2 sc__law_tt_served.nd (de_add (de_var 2) (de_tup (da_cons (de_tuple z.z_tuple (da_cons (de_val (df_comp (own := [("here", 4)]) rfl sc__law_tt_served.nd (di_range1 z.z_range (da_cons (de_len z.z_len (da_cons (de_sub' (hu_of hr) (de_var 2) de_int) da_nil)) da_nil)) (show blkC N__law_tt_served (defScope t__law_tt_served) _ [("here", 4)] = true by decide +kernel) (fun _ _ _ _ _ => (dg_name 4 sc__law_tt_served.nd)) (fun _ _ _ _ _ => dts_nil) (fun _ _ _ _ _ => (de_tup (da_cons (de_var 4) (da_cons de_int da_nil)))))) da_nil)) da_nil)))))
 ds_nil)
 (ds_cons (ds_if (dt_eq hr.units (de_def D__law_draw (hr.mono (by decide)) (da_cons (de_var 0) (da_cons de_int da_nil))) de_int)
 (ds_one (ds_set 2 sc__law_tt_served.nd (de_add (de_var 2) (de_tup (da_cons (de_def D__law_pick (hr.mono (by decide)) (da_cons (de_var 0) (da_cons (de_var 2) da_nil))) da_nil)))))
 ds_nil)
 (ds_one (ds_ret (de_def D__law_tt_renamed (hr.mono (by decide)) (da_cons (de_var 0) (da_cons (de_var 2) da_nil)))))))))
/-! _law_tt_random -/
abbrev t__law_tt_random : Stmt := topS 38
abbrev N__law_tt_random : List Str := ["state", "turn", "states_here", "many", "answers_here", "found", "row", "here"]
theorem sc__law_tt_random : FnScope N__law_tt_random ["state"] (defScope t__law_tt_random) := ⟨rfl, rfl, rfl, by decide +kernel, rfl, by decide +kernel, by decide +kernel⟩
noncomputable def m__law_tt_random : MS := (mSeq (mAsg (mTup (mCons (mOp2 sAdd (mC (.int 1)) (mDef 2 s__law_draw (mCons (mVar 0) (mCons (mC (.int 5)) mNil)))) (mCons (mOp2 sAdd (mC (.int 1)) (mDef 2 s__law_draw (mCons (mVar 0) (mCons (mC (.int 3)) mNil)))) mNil))) (mgTup 2 (mgCons (mgName 2) (mgCons (mgName 3) mgNil))))
 (mSeq (mAsg (mTup (mCons (mOp2 sAdd (mC (.int 1)) (mDef 2 s__law_draw (mCons (mVar 0) (mCons (mC (.int 3)) mNil)))) (mCons (mCell (mLst mNil)) mNil))) (mgTup 2 (mgCons (mgName 4) (mgCons (mgName 5) mgNil))))
 (mSeq (mFor (mRange1 (mCons (mVar 3) mNil)) (mgName 1)
 (mSeq (mAsg (if false = true then mCell (mComp [7] (mRange1 (mCons (mVar 2) mNil)) (mgName 7) mYes (mTup (mCons (mDef 2 s__law_draw (mCons (mVar 0) (mCons (mVar 2) mNil))) (mCons (mDef 2 s__law_draw (mCons (mVar 0) (mCons (mVar 4) mNil))) mNil)))) else mVal (mComp [7] (mRange1 (mCons (mVar 2) mNil)) (mgName 7) mYes (mTup (mCons (mDef 2 s__law_draw (mCons (mVar 0) (mCons (mVar 2) mNil))) (mCons (mDef 2 s__law_draw (mCons (mVar 0) (mCons (mVar 4) mNil))) mNil))))) (mgName 6))
 (mDrop (mMeth sAppend (mVar 5) (mCons (mCall sTup (mCons (mVar 6) mNil)) mNil)))))
 (mRet (mCall sTup (mCons (mVar 5) mNil))))))
noncomputable def s__law_tt_random : Sem := gc (runB 8 m__law_tt_random)
theorem b__law_tt_random (z : Zs mg) (D__law_draw : Df P w K mg base 2 "_law_draw" ["state", "size_here"] s__law_draw) : Bd P w K mg base N__law_tt_random "_law_tt_random" t__law_tt_random 2 m__law_tt_random :=
 fun f cdv A outer s H E hr =>
 (ds_cons (ds_asg (de_tup (da_cons (de_add de_int (de_def D__law_draw (hr.mono (by decide)) (da_cons (de_var 0) (da_cons de_int da_nil)))) (da_cons (de_add de_int (de_def D__law_draw (hr.mono (by decide)) (da_cons (de_var 0) (da_cons de_int da_nil)))) da_nil))) (dg_tup rfl (dgs_cons (dg_name 2 sc__law_tt_random.nd) (dgs_cons (dg_name 3 sc__law_tt_random.nd) dgs_nil))))
 (ds_cons (ds_asg (de_tup (da_cons (de_add de_int (de_def D__law_draw (hr.mono (by decide)) (da_cons (de_var 0) (da_cons de_int da_nil)))) (da_cons (de_cell (df_lst da_nil)) da_nil))) (dg_tup rfl (dgs_cons (dg_name 4 sc__law_tt_random.nd) (dgs_cons (dg_name 5 sc__law_tt_random.nd) dgs_nil))))
 (ds_cons (ds_for (passes_of rfl) rfl (di_range1 z.z_range (da_cons (de_var 3) da_nil)) (dg_name 1 sc__law_tt_random.nd)
 (ds_cons (ds_setLc (own := [("here", 7)]) 6 false rfl sc__law_tt_random.nd (di_range1 z.z_range (da_cons (de_var 2) da_nil)) (show blkC N__law_tt_random (defScope t__law_tt_random) _ [("here", 7)] = true by decide +kernel) (fun _ _ _ _ _ => (dg_name 7 sc__law_tt_random.nd)) (fun _ _ _ _ _ => dts_nil) (fun _ _ _ _ _ => (de_tup (da_cons (de_def D__law_draw (hr.mono (by decide)) (da_cons (de_var 0) (da_cons (de_var 2) da_nil))) (da_cons (de_def D__law_draw (hr.mono (by decide)) (da_cons (de_var 0) (da_cons (de_var 4) da_nil))) da_nil)))) (sw_true rfl rfl rfl (by decide +kernel)))
 (ds_one (ds_expr (de_append (de_var 5) (da_cons (de_tuple z.z_tuple (da_cons (de_var 6) da_nil)) da_nil))))))
 (ds_one (ds_ret (de_tuple z.z_tuple (da_cons (de_var 5) da_nil)))))))
/-! _law_tt_wild -/
abbrev t__law_tt_wild : Stmt := topS 39
abbrev N__law_tt_wild : List Str := ["state", "kind_here", "size", "deeds", "value", "here", "step", "kept", "deed"]
theorem sc__law_tt_wild : FnScope N__law_tt_wild ["state"] (defScope t__law_tt_wild) := ⟨rfl, rfl, rfl, by decide +kernel, rfl, by decide +kernel, by decide +kernel⟩
noncomputable def m__law_tt_wild : MS := (mSeq (mAsg (mTup (mCons (mDef 2 s__law_draw (mCons (mVar 0) (mCons (mC (.int 9)) mNil))) (mCons (mOp2 sAdd (mC (.int 2)) (mDef 2 s__law_draw (mCons (mVar 0) (mCons (mC (.int 3)) mNil)))) mNil))) (mgTup 2 (mgCons (mgName 1) (mgCons (mgName 2) mgNil))))
 (mSeq (mIfS (mTest (mOp2 sEq (mVar 1) (mC (.int 0))))
 (mAsg (mCell (mComp [4] (mRange1 (mCons (mVar 2) mNil)) (mgName 4) mYes (mCall sTup (mCons (mVal (mComp [5] (mRange1 (mCons (mVar 2) mNil)) (mgName 5) mYes (mTup (mCons (mVar 4) (mCons (mVar 5) mNil))))) mNil)))) (mgName 3))
 (mIfS (mTest (mOp2 sEq (mVar 1) (mC (.int 1))))
 (mAsg (mCell (mComp [4] (mRange1 (mCons (mC (.int 2)) mNil)) (mgName 4) mYes (mCall sTup (mCons (mVal (mComp [5] (mRange1 (mCons (mC (.int 3)) mNil)) (mgName 5) mYes (mTup (mCons (mIf (mTest (mOp2 sEq (mVar 5) (mC (.int 0)))) (mOp2 sAdd (mVar 4) (mC (.int 1))) (mVar 5)) (mCons (mVar 5) mNil))))) mNil)))) (mgName 3))
 (mIfS (mTest (mOp2 sEq (mVar 1) (mC (.int 2))))
 (mAsg (mCell (mComp [6] (mItems (mVal (mLst (mCons (mC (.int 1)) (mCons (mC (.int 2)) mNil))))) (mgName 6) mYes (mCall sTup (mCons (mVal (mComp [5] (mRange1 (mCons (mVar 2) mNil)) (mgName 5) mYes (mTup (mCons (mOp2 sMod (mOp2 sAdd (mVar 5) (mVar 6)) (mVar 2)) (mCons (mVar 5) mNil))))) mNil)))) (mgName 3))
 (mIfS (mTest (mOp2 sEq (mVar 1) (mC (.int 3))))
 (mSeq (mAsg (mCell (mLst (mCons (mCall sTup (mCons (mVal (mComp [5] (mRange1 (mCons (mVar 2) mNil)) (mgName 5) mYes (mTup (mCons (mCall sMax2 (mCons (mOp2 sSub (mVar 5) (mC (.int 1))) (mCons (mC (.int 0)) mNil))) (mCons (mCall sMin2 (mCons (mVar 5) (mCons (mC (.int 1)) mNil))) mNil))))) mNil)) mNil))) (mgName 3))
 (mDrop (mMeth sAppend (mVar 3) (mCons (mCall sTup (mCons (mVal (mComp [5] (mRange1 (mCons (mVar 2) mNil)) (mgName 5) mYes (mTup (mCons (mCall sMin2 (mCons (mOp2 sAdd (mVar 5) (mC (.int 1))) (mCons (mOp2 sSub (mVar 2) (mC (.int 1))) mNil))) (mCons (mC (.int 0)) mNil))))) mNil)) mNil))))
 (mIfS (mTest (mOp2 sEq (mVar 1) (mC (.int 4))))
 (mAsg (mCell (mLst (mCons (mOp2 sAdd (mOp2 sMul (mTup (mCons (mTup (mCons (mC (.int 0)) (mCons (mC (.int 0)) mNil))) mNil)) (mC (.int 2))) (mTup (mCons (mTup (mCons (mC (.int 3)) (mCons (mC (.int 0)) mNil))) (mCons (mTup (mCons (mC (.int 2)) (mCons (mC (.int 0)) mNil))) mNil)))) (mCons (mOp2 sAdd (mOp2 sMul (mTup (mCons (mTup (mCons (mC (.int 1)) (mCons (mC (.int 0)) mNil))) mNil)) (mC (.int 2))) (mTup (mCons (mTup (mCons (mC (.int 2)) (mCons (mC (.int 0)) mNil))) (mCons (mTup (mCons (mC (.int 2)) (mCons (mC (.int 0)) mNil))) mNil)))) (mCons (mTup (mCons (mTup (mCons (mC (.int 0)) (mCons (mC (.int 0)) mNil))) (mCons (mTup (mCons (mC (.int 0)) (mCons (mC (.int 0)) mNil))) (mCons (mTup (mCons (mC (.int 2)) (mCons (mC (.int 0)) mNil))) (mCons (mTup (mCons (mC (.int 3)) (mCons (mC (.int 0)) mNil))) mNil))))) mNil))))) (mgName 3))
 (mIfS (mTest (mOp2 sEq (mVar 1) (mC (.int 5))))
 (mAsg (mCell (mComp [7] (mItems (mVal (mLst (mCons (mC (.int 0)) (mCons (mC (.int 1)) mNil))))) (mgName 7) mYes (mCall sTup (mCons (mVal (mComp [5] (mRange1 (mCons (mC (.int 3)) mNil)) (mgName 5) mYes (mTup (mCons (mOp2 sMod (mOp2 sAdd (mVar 5) (mC (.int 1))) (mC (.int 3))) (mCons (mOp2 sMul (mVar 5) (mVar 7)) mNil))))) mNil)))) (mgName 3))
 (mIfS (mTest (mOp2 sEq (mVar 1) (mC (.int 6))))
 (mAsg (mCell (mLst (mCons (mTup (mCons (mTup (mCons (mC (.int 1)) (mCons (mC (.int 0)) mNil))) (mCons (mTup (mCons (mC (.int 0)) (mCons (mC (.int 0)) mNil))) (mCons (mTup (mCons (mC (.int 3)) (mCons (mC (.int 0)) mNil))) (mCons (mTup (mCons (mC (.int 2)) (mCons (mC (.int 0)) mNil))) mNil))))) (mCons (mTup (mCons (mTup (mCons (mC (.int 2)) (mCons (mC (.int 0)) mNil))) (mCons (mTup (mCons (mC (.int 3)) (mCons (mC (.int 1)) mNil))) (mCons (mTup (mCons (mC (.int 0)) (mCons (mC (.int 0)) mNil))) (mCons (mTup (mCons (mC (.int 1)) (mCons (mC (.int 1)) mNil))) mNil))))) mNil)))) (mgName 3))
 (mIfS (mTest (mOp2 sEq (mVar 1) (mC (.int 7))))
 (mSeq (mAsg (mCell (mOp2F sCat (mVal (mCallF sList (mCons (mDef 1 s__law_tt_small (mCons (mVar 0) mNil)) mNil))) (mVal (mLst (mCons (mOp2 sMul (mDef 2 s__law_pick (mCons (mVar 0) (mCons (mVal (mLst (mCons (mTup (mCons (mTup (mCons (mC (.int 0)) (mCons (mC (.int 0)) mNil))) mNil)) (mCons (mTup (mCons (mTup (mCons (mC (.int 0)) (mCons (mC (.int 1)) mNil))) mNil)) mNil)))) mNil))) (mC (.int 30))) mNil))))) (mgName 3))
 (mAsg (mCell (mComp [8] (mItems (mVar 3)) (mgName 8) mYes (mSlT (mVar 8) mNoPart (mPart (mCall sLen (mCons (mOp2 sIx (mVar 3) (mC (.int 0))) mNil)))))) (mgName 3)))
 (mAsg (mCell (mCallF sList (mCons (mDef 1 s__law_tt_random (mCons (mVar 0) mNil)) mNil))) (mgName 3))))))))))
 (mSeq (mIfS (mTest (mOp2 sGt (mDef 2 s__law_draw (mCons (mVar 0) (mCons (mC (.int 4)) mNil))) (mC (.int 0))))
 (mDrop (mMeth sAppend (mVar 3) (mCons (mCall sTup (mCons (mVal (mComp [5] (mRange1 (mCons (mCall sLen (mCons (mOp2 sIx (mVar 3) (mC (.int 0))) mNil)) mNil)) (mgName 5) mYes (mTup (mCons (mVar 5) (mCons (mVar 5) mNil))))) mNil)) mNil)))
 mSkip)
 (mRet (mDef 2 s__law_tt_renamed (mCons (mVar 0) (mCons (mCall sTup (mCons (mVar 3) mNil)) mNil)))))))
noncomputable def s__law_tt_wild : Sem := gc (runB 9 m__law_tt_wild)
theorem b__law_tt_wild (z : Zs mg) (D__law_draw : Df P w K mg base 2 "_law_draw" ["state", "size_here"] s__law_draw) (D__law_tt_small : Df P w K mg base 3 "_law_tt_small" ["state"] s__law_tt_small) (D__law_pick : Df P w K mg base 3 "_law_pick" ["state", "several"] s__law_pick) (D__law_tt_random : Df P w K mg base 3 "_law_tt_random" ["state"] s__law_tt_random) (D__law_tt_renamed : Df P w K mg base 4 "_law_tt_renamed" ["state", "table_here"] s__law_tt_renamed) : Bd P w K mg base N__law_tt_wild "_law_tt_wild" t__law_tt_wild 4 m__law_tt_wild :=
 fun f cdv A outer s H E hr =>
 (ds_cons (ds_asg (de_tup (da_cons (de_def D__law_draw (hr.mono (by decide)) (da_cons (de_var 0) (da_cons de_int da_nil))) (da_cons (de_add de_int (de_def D__law_draw (hr.mono (by decide)) (da_cons (de_var 0) (da_cons de_int da_nil)))) da_nil))) (dg_tup rfl (dgs_cons (dg_name 1 sc__law_tt_wild.nd) (dgs_cons (dg_name 2 sc__law_tt_wild.nd) dgs_nil))))
 (ds_cons (ds_if (dt_eq hr.units (de_var 1) de_int)
 (ds_one (ds_set 3 sc__law_tt_wild.nd (de_cell (df_comp (own := [("value", 4)]) rfl sc__law_tt_wild.nd (di_range1 z.z_range (da_cons (de_var 2) da_nil)) (show blkC N__law_tt_wild (defScope t__law_tt_wild) _ [("value", 4)] = true by decide +kernel) (fun _ _ _ _ _ => (dg_name 4 sc__law_tt_wild.nd)) (fun _ _ _ _ _ => dts_nil) (fun _ _ _ _ _ => (de_tuple z.z_tuple (da_cons (de_val (df_comp (own := [("here", 5)]) rfl sc__law_tt_wild.nd (di_range1 z.z_range (da_cons (de_var 2) da_nil)) (show blkC N__law_tt_wild (relS _ (defScope t__law_tt_wild)) _ [("here", 5)] = true by decide +kernel) (fun _ _ _ _ _ => (dg_name 5 sc__law_tt_wild.nd)) (fun _ _ _ _ _ => dts_nil) (fun _ _ _ _ _ => (de_tup (da_cons (de_var 4) (da_cons (de_var 5) da_nil)))))) da_nil)))))))
 (ds_one (ds_if (dt_eq hr.units (de_var 1) de_int)
 (ds_one (ds_set 3 sc__law_tt_wild.nd (de_cell (df_comp (own := [("value", 4)]) rfl sc__law_tt_wild.nd (di_range1 z.z_range (da_cons de_int da_nil)) (show blkC N__law_tt_wild (defScope t__law_tt_wild) _ [("value", 4)] = true by decide +kernel) (fun _ _ _ _ _ => (dg_name 4 sc__law_tt_wild.nd)) (fun _ _ _ _ _ => dts_nil) (fun _ _ _ _ _ => (de_tuple z.z_tuple (da_cons (de_val (df_comp (own := [("here", 5)]) rfl sc__law_tt_wild.nd (di_range1 z.z_range (da_cons de_int da_nil)) (show blkC N__law_tt_wild (relS _ (defScope t__law_tt_wild)) _ [("here", 5)] = true by decide +kernel) (fun _ _ _ _ _ => (dg_name 5 sc__law_tt_wild.nd)) (fun _ _ _ _ _ => dts_nil) (fun _ _ _ _ _ => (de_tup (da_cons (de_if (dt_eq hr.units (de_var 5) de_int) (de_add (de_var 4) de_int) (de_var 5)) (da_cons (de_var 5) da_nil)))))) da_nil)))))))
 (ds_one (ds_if (dt_eq hr.units (de_var 1) de_int)
 (ds_one (ds_set 3 sc__law_tt_wild.nd (de_cell (df_comp (own := [("step", 6)]) rfl sc__law_tt_wild.nd (di_seq (de_val (df_lst (da_cons de_int (da_cons de_int da_nil))))) (show blkC N__law_tt_wild (defScope t__law_tt_wild) _ [("step", 6)] = true by decide +kernel) (fun _ _ _ _ _ => (dg_name 6 sc__law_tt_wild.nd)) (fun _ _ _ _ _ => dts_nil) (fun _ _ _ _ _ => (de_tuple z.z_tuple (da_cons (de_val (df_comp (own := [("here", 5)]) rfl sc__law_tt_wild.nd (di_range1 z.z_range (da_cons (de_var 2) da_nil)) (show blkC N__law_tt_wild (relS _ (defScope t__law_tt_wild)) _ [("here", 5)] = true by decide +kernel) (fun _ _ _ _ _ => (dg_name 5 sc__law_tt_wild.nd)) (fun _ _ _ _ _ => dts_nil) (fun _ _ _ _ _ => (de_tup (da_cons (de_mod (de_add (de_var 5) (de_var 6)) (de_var 2)) (da_cons (de_var 5) da_nil)))))) da_nil)))))))
 (ds_one (ds_if (dt_eq hr.units (de_var 1) de_int)
 (ds_cons (ds_set 3 sc__law_tt_wild.nd (de_cell (df_lst (da_cons (de_tuple z.z_tuple (da_cons (de_val (df_comp (own := [("here", 5)]) rfl sc__law_tt_wild.nd (di_range1 z.z_range (da_cons (de_var 2) da_nil)) (show blkC N__law_tt_wild (defScope t__law_tt_wild) _ [("here", 5)] = true by decide +kernel) (fun _ _ _ _ _ => (dg_name 5 sc__law_tt_wild.nd)) (fun _ _ _ _ _ => dts_nil) (fun _ _ _ _ _ => (de_tup (da_cons (de_max2 rfl z.z_max (da_cons (de_sub (de_var 5) de_int) (da_cons de_int da_nil))) (da_cons (de_min2 rfl z.z_min (da_cons (de_var 5) (da_cons de_int da_nil))) da_nil)))))) da_nil)) da_nil))))
 (ds_one (ds_expr (de_append (de_var 3) (da_cons (de_tuple z.z_tuple (da_cons (de_val (df_comp (own := [("here", 5)]) rfl sc__law_tt_wild.nd (di_range1 z.z_range (da_cons (de_var 2) da_nil)) (show blkC N__law_tt_wild (defScope t__law_tt_wild) _ [("here", 5)] = true by decide +kernel) (fun _ _ _ _ _ => (dg_name 5 sc__law_tt_wild.nd)) (fun _ _ _ _ _ => dts_nil) (fun _ _ _ _ _ => (de_tup (da_cons (de_min2 rfl z.z_min (da_cons (de_add (de_var 5) de_int) (da_cons (de_sub (de_var 2) de_int) da_nil))) (da_cons de_int da_nil)))))) da_nil)) da_nil)))))
 (ds_one (ds_if (dt_eq hr.units (de_var 1) de_int)
 (ds_one (ds_set 3 sc__law_tt_wild.nd (de_cell (df_lst (da_cons (de_add (de_mul (de_tup (da_cons (de_tup (da_cons de_int (da_cons de_int da_nil))) da_nil)) de_int) (de_tup (da_cons (de_tup (da_cons de_int (da_cons de_int da_nil))) (da_cons (de_tup (da_cons de_int (da_cons de_int da_nil))) da_nil)))) (da_cons (de_add (de_mul (de_tup (da_cons (de_tup (da_cons de_int (da_cons de_int da_nil))) da_nil)) de_int) (de_tup (da_cons (de_tup (da_cons de_int (da_cons de_int da_nil))) (da_cons (de_tup (da_cons de_int (da_cons de_int da_nil))) da_nil)))) (da_cons (de_tup (da_cons (de_tup (da_cons de_int (da_cons de_int da_nil))) (da_cons (de_tup (da_cons de_int (da_cons de_int da_nil))) (da_cons (de_tup (da_cons de_int (da_cons de_int da_nil))) (da_cons (de_tup (da_cons de_int (da_cons de_int da_nil))) da_nil))))) da_nil)))))))
 (ds_one (ds_if (dt_eq hr.units (de_var 1) de_int)
 (ds_one (ds_set 3 sc__law_tt_wild.nd (de_cell (df_comp (own := [("kept", 7)]) rfl sc__law_tt_wild.nd (di_seq (de_val (df_lst (da_cons de_int (da_cons de_int da_nil))))) (show blkC N__law_tt_wild (defScope t__law_tt_wild) _ [("kept", 7)] = true by decide +kernel) (fun _ _ _ _ _ => (dg_name 7 sc__law_tt_wild.nd)) (fun _ _ _ _ _ => dts_nil) (fun _ _ _ _ _ => (de_tuple z.z_tuple (da_cons (de_val (df_comp (own := [("here", 5)]) rfl sc__law_tt_wild.nd (di_range1 z.z_range (da_cons de_int da_nil)) (show blkC N__law_tt_wild (relS _ (defScope t__law_tt_wild)) _ [("here", 5)] = true by decide +kernel) (fun _ _ _ _ _ => (dg_name 5 sc__law_tt_wild.nd)) (fun _ _ _ _ _ => dts_nil) (fun _ _ _ _ _ => (de_tup (da_cons (de_mod (de_add (de_var 5) de_int) de_int) (da_cons (de_mul (de_var 5) (de_var 7)) da_nil)))))) da_nil)))))))
 (ds_one (ds_if (dt_eq hr.units (de_var 1) de_int)
 (ds_one (ds_set 3 sc__law_tt_wild.nd (de_cell (df_lst (da_cons (de_tup (da_cons (de_tup (da_cons de_int (da_cons de_int da_nil))) (da_cons (de_tup (da_cons de_int (da_cons de_int da_nil))) (da_cons (de_tup (da_cons de_int (da_cons de_int da_nil))) (da_cons (de_tup (da_cons de_int (da_cons de_int da_nil))) da_nil))))) (da_cons (de_tup (da_cons (de_tup (da_cons de_int (da_cons de_int da_nil))) (da_cons (de_tup (da_cons de_int (da_cons de_int da_nil))) (da_cons (de_tup (da_cons de_int (da_cons de_int da_nil))) (da_cons (de_tup (da_cons de_int (da_cons de_int da_nil))) da_nil))))) da_nil))))))
 (ds_one (ds_if (dt_eq hr.units (de_var 1) de_int)
 (ds_cons (ds_set 3 sc__law_tt_wild.nd (de_cell (df_add (de_val (df_list z.z_list (da_cons (de_def D__law_tt_small (hr.mono (by decide)) (da_cons (de_var 0) da_nil)) da_nil))) (de_val (df_lst (da_cons (de_mul (de_def D__law_pick (hr.mono (by decide)) (da_cons (de_var 0) (da_cons (de_val (df_lst (da_cons (de_tup (da_cons (de_tup (da_cons de_int (da_cons de_int da_nil))) da_nil)) (da_cons (de_tup (da_cons (de_tup (da_cons de_int (da_cons de_int da_nil))) da_nil)) da_nil)))) da_nil))) de_int) da_nil))))))
 (ds_one (ds_set 3 sc__law_tt_wild.nd (de_cell (df_comp (own := [("deed", 8)]) rfl sc__law_tt_wild.nd (di_seq (de_var 3)) (show blkC N__law_tt_wild (defScope t__law_tt_wild) _ [("deed", 8)] = true by decide +kernel) (fun _ _ _ _ _ => (dg_name 8 sc__law_tt_wild.nd)) (fun _ _ _ _ _ => dts_nil) (fun _ _ _ _ _ => (de_slice (de_var 8) do_none (do_some (de_len z.z_len (da_cons (de_sub' (hu_of hr) (de_var 3) de_int) da_nil))))))))))
 (ds_one (ds_set 3 sc__law_tt_wild.nd (de_cell (df_list z.z_list (da_cons (de_def D__law_tt_random (hr.mono (by decide)) (da_cons (de_var 0) da_nil)) da_nil))))))))))))))))))))
 (ds_cons (ds_if (dt_gt (de_def D__law_draw (hr.mono (by decide)) (da_cons (de_var 0) (da_cons de_int da_nil))) de_int)
 (ds_one (ds_expr (de_append (de_var 3) (da_cons (de_tuple z.z_tuple (da_cons (de_val (df_comp (own := [("here", 5)]) rfl sc__law_tt_wild.nd (di_range1 z.z_range (da_cons (de_len z.z_len (da_cons (de_sub' (hu_of hr) (de_var 3) de_int) da_nil)) da_nil)) (show blkC N__law_tt_wild (defScope t__law_tt_wild) _ [("here", 5)] = true by decide +kernel) (fun _ _ _ _ _ => (dg_name 5 sc__law_tt_wild.nd)) (fun _ _ _ _ _ => dts_nil) (fun _ _ _ _ _ => (de_tup (da_cons (de_var 5) (da_cons (de_var 5) da_nil)))))) da_nil)) da_nil))))
 ds_nil)
 (ds_one (ds_ret (de_def D__law_tt_renamed (hr.mono (by decide)) (da_cons (de_var 0) (da_cons (de_tuple z.z_tuple (da_cons (de_var 3) da_nil)) da_nil))))))))
/-! _law_tt_any -/
abbrev t__law_tt_any : Stmt := topS 40
abbrev N__law_tt_any : List Str := ["state", "most"]
theorem sc__law_tt_any : FnScope N__law_tt_any ["state", "most"] (defScope t__law_tt_any) := ⟨rfl, rfl, rfl, by decide +kernel, rfl, by decide +kernel, by decide +kernel⟩
noncomputable def m__law_tt_any : MS := (mRet (mIf (mTest (mOp2 sEq (mDef 2 s__law_draw (mCons (mVar 0) (mCons (mC (.int 2)) mNil))) (mC (.int 0)))) (mDef 2 s__law_tt_served (mCons (mVar 0) (mCons (mVar 1) mNil))) (mDef 1 s__law_tt_wild (mCons (mVar 0) mNil))))
noncomputable def s__law_tt_any : Sem := runB 2 m__law_tt_any
theorem b__law_tt_any (z : Zs mg) (D__law_draw : Df P w K mg base 2 "_law_draw" ["state", "size_here"] s__law_draw) (D__law_tt_served : Df P w K mg base 5 "_law_tt_served" ["state", "most"] s__law_tt_served) (D__law_tt_wild : Df P w K mg base 5 "_law_tt_wild" ["state"] s__law_tt_wild) : Bd P w K mg base N__law_tt_any "_law_tt_any" t__law_tt_any 5 m__law_tt_any :=
 fun f cdv A outer s H E hr =>
 (ds_one (ds_ret (de_if (dt_eq hr.units (de_def D__law_draw (hr.mono (by decide)) (da_cons (de_var 0) (da_cons de_int da_nil))) de_int) (de_def D__law_tt_served (hr.mono (by decide)) (da_cons (de_var 0) (da_cons (de_var 1) da_nil))) (de_def D__law_tt_wild (hr.mono (by decide)) (da_cons (de_var 0) da_nil)))))
/-! _law_tt_run -/
abbrev t__law_tt_run : Stmt := topS 41
abbrev N__law_tt_run : List Str := ["table_here", "begin", "deeds", "deed", "here", "answers"]
theorem sc__law_tt_run : FnScope N__law_tt_run ["table_here", "begin", "deeds"] (defScope t__law_tt_run) := ⟨rfl, rfl, rfl, by decide +kernel, rfl, by decide +kernel, by decide +kernel⟩
noncomputable def m__law_tt_run : MS := (mSeq (mPar 4 5 (mCons (mVar 1) (mCons (mCell (mLst mNil)) mNil)))
 (mSeq (mFor (mItems (mVar 2)) (mgName 3)
 (mSeq (mDrop (mMeth sAppend (mVar 5) (mCons (mOp2 sIx (mOp2 sIx (mOp2 sIx (mVar 0) (mVar 3)) (mVar 4)) (mC (.int 1))) mNil)))
 (mAsg (mOp2 sIx (mOp2 sIx (mOp2 sIx (mVar 0) (mVar 3)) (mVar 4)) (mC (.int 0))) (mgName 4))))
 (mRet (mTup (mCons (mVar 4) (mCons (mVar 5) mNil))))))
noncomputable def s__law_tt_run : Sem := runB 6 m__law_tt_run
theorem b__law_tt_run (z : Zs mg) : Bd P w K mg base N__law_tt_run "_law_tt_run" t__law_tt_run 0 m__law_tt_run :=
 fun f cdv A outer s H E hr =>
 (ds_cons (ds_par 4 5 rfl sc__law_tt_run.nd (da_cons (de_var 1) (da_cons (de_cell (df_lst da_nil)) da_nil)))
 (ds_cons (ds_for (passes_of rfl) rfl (di_seq (de_var 2)) (dg_name 3 sc__law_tt_run.nd)
 (ds_cons (ds_expr (de_append (de_var 5) (da_cons (de_sub' (hu_of hr) (de_sub' (hu_of hr) (de_sub' (hu_of hr) (de_var 0) (de_var 3)) (de_var 4)) de_int) da_nil)))
 (ds_one (ds_set 4 sc__law_tt_run.nd (de_sub' (hu_of hr) (de_sub' (hu_of hr) (de_sub' (hu_of hr) (de_var 0) (de_var 3)) (de_var 4)) de_int)))))
 (ds_one (ds_ret (de_tup (da_cons (de_var 4) (da_cons (de_var 5) da_nil)))))))
/-! _law_tt_commute -/
abbrev t__law_tt_commute : Stmt := topS 42
abbrev N__law_tt_commute : List Str := ["table_here", "one", "other", "begin", "there", "answers", "back", "replies"]
theorem sc__law_tt_commute : FnScope N__law_tt_commute ["table_here", "one", "other"] (defScope t__law_tt_commute) := ⟨rfl, rfl, rfl, by decide +kernel, rfl, by decide +kernel, by decide +kernel⟩
noncomputable def m__law_tt_commute : MS := (mSeq (mFor (mRange1 (mCons (mCall sLen (mCons (mOp2 sIx (mVar 0) (mC (.int 0))) mNil)) mNil)) (mgName 3)
 (mSeq (mAsg (mDef 3 s__law_tt_run (mCons (mVar 0) (mCons (mVar 3) (mCons (mVal (mLst (mCons (mVar 1) (mCons (mVar 2) mNil)))) mNil)))) (mgTup 2 (mgCons (mgName 4) (mgCons (mgName 5) mgNil))))
 (mSeq (mAsg (mDef 3 s__law_tt_run (mCons (mVar 0) (mCons (mVar 3) (mCons (mVal (mLst (mCons (mVar 2) (mCons (mVar 1) mNil)))) mNil)))) (mgTup 2 (mgCons (mgName 6) (mgCons (mgName 7) mgNil))))
 (mIfS (mOr (mTest (mOp2 sNe (mVar 4) (mVar 6))) (mTest (mOp2 sNe (mVar 5) (mVal (mRevL (mVar 7))))))
 (mRet (mC (.bl false)))
 mSkip))))
 (mRet (mC (.bl true))))
noncomputable def s__law_tt_commute : Sem := gc (runB 8 m__law_tt_commute)
theorem b__law_tt_commute (z : Zs mg) (D__law_tt_run : Df P w K mg base 1 "_law_tt_run" ["table_here", "begin", "deeds"] s__law_tt_run) : Bd P w K mg base N__law_tt_commute "_law_tt_commute" t__law_tt_commute 1 m__law_tt_commute :=
 fun f cdv A outer s H E hr =>
 (ds_cons (ds_for (passes_of rfl) rfl (di_range1 z.z_range (da_cons (de_len z.z_len (da_cons (de_sub' (hu_of hr) (de_var 0) de_int) da_nil)) da_nil)) (dg_name 3 sc__law_tt_commute.nd)
 (ds_cons (ds_asg (de_def D__law_tt_run (hr.mono (by decide)) (da_cons (de_var 0) (da_cons (de_var 3) (da_cons (de_val (df_lst (da_cons (de_var 1) (da_cons (de_var 2) da_nil)))) da_nil)))) (dg_tup rfl (dgs_cons (dg_name 4 sc__law_tt_commute.nd) (dgs_cons (dg_name 5 sc__law_tt_commute.nd) dgs_nil))))
 (ds_cons (ds_asg (de_def D__law_tt_run (hr.mono (by decide)) (da_cons (de_var 0) (da_cons (de_var 3) (da_cons (de_val (df_lst (da_cons (de_var 2) (da_cons (de_var 1) da_nil)))) da_nil)))) (dg_tup rfl (dgs_cons (dg_name 6 sc__law_tt_commute.nd) (dgs_cons (dg_name 7 sc__law_tt_commute.nd) dgs_nil))))
 (ds_one (ds_if (dt_w (dw_or (dt_ne hr.units (de_var 4) (de_var 6)) (dw_or1 (dt_ne hr.units (de_var 5) (de_val (df_revL (de_var 7)))))))
 (ds_one (ds_ret de_bl))
 ds_nil)))))
 (ds_one (ds_ret de_bl)))
/-! _law_tt_over -/
abbrev t__law_tt_over : Stmt := topS 43
abbrev N__law_tt_over : List Str := ["table_here", "one", "other", "begin", "there", "answers"]
theorem sc__law_tt_over : FnScope N__law_tt_over ["table_here", "one", "other"] (defScope t__law_tt_over) := ⟨rfl, rfl, rfl, by decide +kernel, rfl, by decide +kernel, by decide +kernel⟩
noncomputable def m__law_tt_over : MS := (mSeq (mFor (mRange1 (mCons (mCall sLen (mCons (mOp2 sIx (mVar 0) (mC (.int 0))) mNil)) mNil)) (mgName 3)
 (mSeq (mAsg (mDef 3 s__law_tt_run (mCons (mVar 0) (mCons (mVar 3) (mCons (mVal (mLst (mCons (mVar 2) (mCons (mVar 1) mNil)))) mNil)))) (mgTup 2 (mgCons (mgName 4) (mgCons (mgName 5) mgNil))))
 (mIfS (mTest (mOp2 sNe (mTup (mCons (mVar 4) (mCons (mVal (mSlL (mVar 5) (mPart (mC (.int 1))) mNoPart)) mNil))) (mDef 3 s__law_tt_run (mCons (mVar 0) (mCons (mVar 3) (mCons (mVal (mLst (mCons (mVar 1) mNil))) mNil))))))
 (mRet (mC (.bl false)))
 mSkip)))
 (mRet (mC (.bl true))))
noncomputable def s__law_tt_over : Sem := gc (runB 6 m__law_tt_over)
theorem b__law_tt_over (z : Zs mg) (D__law_tt_run : Df P w K mg base 1 "_law_tt_run" ["table_here", "begin", "deeds"] s__law_tt_run) : Bd P w K mg base N__law_tt_over "_law_tt_over" t__law_tt_over 1 m__law_tt_over :=
 fun f cdv A outer s H E hr =>
 (ds_cons (ds_for (passes_of rfl) rfl (di_range1 z.z_range (da_cons (de_len z.z_len (da_cons (de_sub' (hu_of hr) (de_var 0) de_int) da_nil)) da_nil)) (dg_name 3 sc__law_tt_over.nd)
 (ds_cons (ds_asg (de_def D__law_tt_run (hr.mono (by decide)) (da_cons (de_var 0) (da_cons (de_var 3) (da_cons (de_val (df_lst (da_cons (de_var 2) (da_cons (de_var 1) da_nil)))) da_nil)))) (dg_tup rfl (dgs_cons (dg_name 4 sc__law_tt_over.nd) (dgs_cons (dg_name 5 sc__law_tt_over.nd) dgs_nil))))
 (ds_one (ds_if (dt_ne hr.units (de_tup (da_cons (de_var 4) (da_cons (de_val (df_slice (de_var 5) (do_some de_int) do_none)) da_nil))) (de_def D__law_tt_run (hr.mono (by decide)) (da_cons (de_var 0) (da_cons (de_var 3) (da_cons (de_val (df_lst (da_cons (de_var 1) da_nil))) da_nil)))))
 (ds_one (ds_ret de_bl))
 ds_nil))))
 (ds_one (ds_ret de_bl)))
/-! _law_tt_is_fine -/
abbrev t__law_tt_is_fine : Stmt := topS 44
abbrev N__law_tt_is_fine : List Str := ["table_here", "one", "other"]
theorem sc__law_tt_is_fine : FnScope N__law_tt_is_fine ["table_here", "one", "other"] (defScope t__law_tt_is_fine) := ⟨rfl, rfl, rfl, by decide +kernel, rfl, by decide +kernel, by decide +kernel⟩
noncomputable def m__law_tt_is_fine : MS := (mSeq (mIfS (mOr (mTru (mDef 3 s__law_tt_commute (mCons (mVar 0) (mCons (mVar 1) (mCons (mVar 2) mNil))))) (mTru (mDef 3 s__law_tt_over (mCons (mVar 0) (mCons (mVar 1) (mCons (mVar 2) mNil))))))
 (mRet (mC (.bl true)))
 mSkip)
 (mRet (mDef 3 s__law_tt_over (mCons (mVar 0) (mCons (mVar 2) (mCons (mVar 1) mNil))))))
noncomputable def s__law_tt_is_fine : Sem := runB 3 m__law_tt_is_fine
theorem b__law_tt_is_fine (z : Zs mg) (D__law_tt_over : Df P w K mg base 2 "_law_tt_over" ["table_here", "one", "other"] s__law_tt_over) (D__law_tt_commute : Df P w K mg base 2 "_law_tt_commute" ["table_here", "one", "other"] s__law_tt_commute) : Bd P w K mg base N__law_tt_is_fine "_law_tt_is_fine" t__law_tt_is_fine 2 m__law_tt_is_fine :=
 fun f cdv A outer s H E hr =>
 (ds_cons (ds_if (dt_w (dw_or (dt_tru (de_def D__law_tt_commute (hr.mono (by decide)) (da_cons (de_var 0) (da_cons (de_var 1) (da_cons (de_var 2) da_nil))))) (dw_or1 (dt_tru (de_def D__law_tt_over (hr.mono (by decide)) (da_cons (de_var 0) (da_cons (de_var 1) (da_cons (de_var 2) da_nil))))))))
 (ds_one (ds_ret de_bl))
 ds_nil)
 (ds_one (ds_ret (de_def D__law_tt_over (hr.mono (by decide)) (da_cons (de_var 0) (da_cons (de_var 2) (da_cons (de_var 1) da_nil)))))))
/-! _law_tt_failing -/
abbrev t__law_tt_failing : Stmt := topS 45
abbrev N__law_tt_failing : List Str := ["table_here", "found", "one", "other"]
theorem sc__law_tt_failing : FnScope N__law_tt_failing ["table_here"] (defScope t__law_tt_failing) := ⟨rfl, rfl, rfl, by decide +kernel, rfl, by decide +kernel, by decide +kernel⟩
noncomputable def m__law_tt_failing : MS := (mSeq (mAsg (mCell (mLst mNil)) (mgName 1))
 (mSeq (mFor (mRange1 (mCons (mCall sLen (mCons (mVar 0) mNil)) mNil)) (mgName 2)
 (mFor (mRange2 (mCons (mVar 2) (mCons (mCall sLen (mCons (mVar 0) mNil)) mNil))) (mgName 3)
 (mIfS (mNot (mTru (mDef 3 s__law_tt_is_fine (mCons (mVar 0) (mCons (mVar 2) (mCons (mVar 3) mNil))))))
 (mDrop (mMeth sAppend (mVar 1) (mCons (mTup (mCons (mVar 2) (mCons (mVar 3) mNil))) mNil)))
 mSkip)))
 (mRet (mVar 1))))
noncomputable def s__law_tt_failing : Sem := gc (runB 4 m__law_tt_failing)
theorem b__law_tt_failing (z : Zs mg) (D__law_tt_is_fine : Df P w K mg base 3 "_law_tt_is_fine" ["table_here", "one", "other"] s__law_tt_is_fine) : Bd P w K mg base N__law_tt_failing "_law_tt_failing" t__law_tt_failing 3 m__law_tt_failing :=
 fun f cdv A outer s H E hr =>
 (ds_cons (ds_set 1 sc__law_tt_failing.nd (de_cell (df_lst da_nil)))
 (ds_cons (ds_for (passes_of rfl) rfl (di_range1 z.z_range (da_cons (de_len z.z_len (da_cons (de_var 0) da_nil)) da_nil)) (dg_name 2 sc__law_tt_failing.nd)
 (ds_one (ds_for (passes_of rfl) rfl (di_range2 z.z_range (da_cons (de_var 2) (da_cons (de_len z.z_len (da_cons (de_var 0) da_nil)) da_nil))) (dg_name 3 sc__law_tt_failing.nd)
 (ds_one (ds_if (dt_not (dt_tru (de_def D__law_tt_is_fine (hr.mono (by decide)) (da_cons (de_var 0) (da_cons (de_var 2) (da_cons (de_var 3) da_nil))))))
 (ds_one (ds_expr (de_append (de_var 1) (da_cons (de_tup (da_cons (de_var 2) (da_cons (de_var 3) da_nil))) da_nil))))
 ds_nil)))))
 (ds_one (ds_ret (de_var 1)))))
/-! _law_tt_mixes -/
abbrev t__law_tt_mixes : Stmt := topS 46
abbrev N__law_tt_mixes : List Str := []
theorem sc__law_tt_mixes : FnScope N__law_tt_mixes [] (defScope t__law_tt_mixes) := ⟨rfl, rfl, rfl, by decide +kernel, rfl, by decide +kernel, by decide +kernel⟩
noncomputable def m__law_tt_mixes : MS := (mRet (mVal (mLst (mCons (mVal (mLst (mCons (mC (.int 0)) (mCons (mC (.int 0)) (mCons (mC (.int 1)) (mCons (mC (.int 1)) mNil)))))) (mCons (mVal (mLst (mCons (mC (.int 0)) (mCons (mC (.int 1)) (mCons (mC (.int 0)) (mCons (mC (.int 1)) mNil)))))) (mCons (mVal (mLst (mCons (mC (.int 0)) (mCons (mC (.int 1)) (mCons (mC (.int 1)) (mCons (mC (.int 0)) mNil)))))) (mCons (mVal (mLst (mCons (mC (.int 1)) (mCons (mC (.int 0)) (mCons (mC (.int 0)) (mCons (mC (.int 1)) mNil)))))) (mCons (mVal (mLst (mCons (mC (.int 1)) (mCons (mC (.int 0)) (mCons (mC (.int 1)) (mCons (mC (.int 0)) mNil)))))) (mCons (mVal (mLst (mCons (mC (.int 1)) (mCons (mC (.int 1)) (mCons (mC (.int 0)) (mCons (mC (.int 0)) mNil)))))) mNil)))))))))
noncomputable def s__law_tt_mixes : Sem := runB 0 m__law_tt_mixes
theorem b__law_tt_mixes (z : Zs mg) : Bd P w K mg base N__law_tt_mixes "_law_tt_mixes" t__law_tt_mixes 0 m__law_tt_mixes :=
 fun f cdv A outer s H E hr =>
 (ds_one (ds_ret (de_val (df_lst (da_cons (de_val (df_lst (da_cons de_int (da_cons de_int (da_cons de_int (da_cons de_int da_nil)))))) (da_cons (de_val (df_lst (da_cons de_int (da_cons de_int (da_cons de_int (da_cons de_int da_nil)))))) (da_cons (de_val (df_lst (da_cons de_int (da_cons de_int (da_cons de_int (da_cons de_int da_nil)))))) (da_cons (de_val (df_lst (da_cons de_int (da_cons de_int (da_cons de_int (da_cons de_int da_nil)))))) (da_cons (de_val (df_lst (da_cons de_int (da_cons de_int (da_cons de_int (da_cons de_int da_nil)))))) (da_cons (de_val (df_lst (da_cons de_int (da_cons de_int (da_cons de_int (da_cons de_int da_nil)))))) da_nil))))))))))
/-! _law_tt_views -/
abbrev t__law_tt_views : Stmt := topS 47
abbrev N__law_tt_views : List Str := ["table_here", "begin", "one", "other", "found", "mix", "hand", "here", "views", "answers", "alone", "acted"]
theorem sc__law_tt_views : FnScope N__law_tt_views ["table_here", "begin", "one", "other"] (defScope t__law_tt_views) := ⟨rfl, rfl, rfl, by decide +kernel, rfl, by decide +kernel, by decide +kernel⟩
noncomputable def m__law_tt_views : MS := (mSeq (mAsg (mCell (mLst mNil)) (mgName 4))
 (mSeq (mFor (mItems (mDef0 s__law_tt_mixes)) (mgName 5)
 (mSeq (mAsg (mTup (mCons (mVar 1) (mCons (mCell (mLst (mCons (mC .non) (mCons (mC .non) mNil)))) (mCons (mCell (mLst (mCons (mC .non) (mCons (mC .non) mNil)))) (mCons (mCell (mLst (mCons (mC (.bl false)) (mCons (mC (.bl false)) mNil)))) (mCons (mCell (mLst mNil)) mNil)))))) (mgTup 5 (mgCons (mgName 7) (mgCons (mgName 8) (mgCons (mgName 9) (mgCons (mgName 10) (mgCons (mgName 11) mgNil)))))))
 (mSeq (mFor (mItems (mVar 5)) (mgName 6)
 (mIfS (mTest (mOp2 sIs (mOp2 sIx (mVar 9) (mVar 6)) (mC .non)))
 (mSeq (mAsg (mOp2 sIx (mOp2 sIx (mVar 0) (mOp2 sIx (mVal (mLst (mCons (mVar 2) (mCons (mVar 3) mNil)))) (mVar 6))) (mVar 7)) (mgTup 2 (mgCons (mgName 7) (mgCons (mgSub sSet (mVar 9) (mVar 6)) mgNil))))
 (mDrop (mMeth sAppend (mVar 11) (mCons (mVar 6) mNil))))
 (mSeq (mAsg (mTup (mCons (mOp2 sIx (mVar 9) (mVar 6)) (mCons (mVar 7) mNil))) (mgSub sSet (mVar 8) (mVar 6)))
 (mAsg (mOp2 sEq (mVar 11) (mVal (mLst (mCons (mVar 6) mNil)))) (mgSub sSet (mVar 10) (mVar 6))))))
 (mDrop (mMeth sAppend (mVar 4) (mCons (mTup (mCons (mOp2 sIx (mVar 5) (mC (.int 0))) (mCons (mVar 8) (mCons (mVar 10) mNil)))) mNil))))))
 (mRet (mVar 4))))
noncomputable def s__law_tt_views : Sem := gc (runB 12 m__law_tt_views)
theorem b__law_tt_views (z : Zs mg) (D__law_tt_mixes : Df P w K mg base 1 "_law_tt_mixes" [] s__law_tt_mixes) : Bd P w K mg base N__law_tt_views "_law_tt_views" t__law_tt_views 1 m__law_tt_views :=
 fun f cdv A outer s H E hr =>
 (ds_cons (ds_set 4 sc__law_tt_views.nd (de_cell (df_lst da_nil)))
 (ds_cons (ds_for (passes_of rfl) rfl (di_seq (de_def0 D__law_tt_mixes (hr.mono (by decide)))) (dg_name 5 sc__law_tt_views.nd)
 (ds_cons (ds_asg (de_tup (da_cons (de_var 1) (da_cons (de_cell (df_lst (da_cons de_non (da_cons de_non da_nil)))) (da_cons (de_cell (df_lst (da_cons de_non (da_cons de_non da_nil)))) (da_cons (de_cell (df_lst (da_cons de_bl (da_cons de_bl da_nil)))) (da_cons (de_cell (df_lst da_nil)) da_nil)))))) (dg_tup rfl (dgs_cons (dg_name 7 sc__law_tt_views.nd) (dgs_cons (dg_name 8 sc__law_tt_views.nd) (dgs_cons (dg_name 9 sc__law_tt_views.nd) (dgs_cons (dg_name 10 sc__law_tt_views.nd) (dgs_cons (dg_name 11 sc__law_tt_views.nd) dgs_nil)))))))
 (ds_cons (ds_for (passes_of rfl) rfl (di_seq (de_var 5)) (dg_name 6 sc__law_tt_views.nd)
 (ds_one (ds_if (dt_is (de_sub' (hu_of hr) (de_var 9) (de_var 6)) de_non)
 (ds_cons (ds_asg (de_sub' (hu_of hr) (de_sub' (hu_of hr) (de_var 0) (de_sub' (hu_of hr) (de_val (df_lst (da_cons (de_var 2) (da_cons (de_var 3) da_nil)))) (de_var 6))) (de_var 7)) (dg_tup rfl (dgs_cons (dg_name 7 sc__law_tt_views.nd) (dgs_cons (dg_item (hu_of hr) (de_var 9) (de_var 6)) dgs_nil))))
 (ds_one (ds_expr (de_append (de_var 11) (da_cons (de_var 6) da_nil)))))
 (ds_cons (ds_asg (de_tup (da_cons (de_sub' (hu_of hr) (de_var 9) (de_var 6)) (da_cons (de_var 7) da_nil))) (dg_item (hu_of hr) (de_var 8) (de_var 6)))
 (ds_one (ds_asg (de_eq hr.units (de_var 11) (de_val (df_lst (da_cons (de_var 6) da_nil)))) (dg_item (hu_of hr) (de_var 10) (de_var 6))))))))
 (ds_one (ds_expr (de_append (de_var 4) (da_cons (de_tup (da_cons (de_sub' (hu_of hr) (de_var 5) de_int) (da_cons (de_var 8) (da_cons (de_var 10) da_nil)))) da_nil)))))))
 (ds_one (ds_ret (de_var 4)))))
/-! _law_tt_blurred -/
abbrev t__law_tt_blurred : Stmt := topS 48
abbrev N__law_tt_blurred : List Str := ["table_here", "begin", "one", "other", "found", "ways_here", "hand", "first", "views", "alone", "near", "again", "others", "lone"]
theorem sc__law_tt_blurred : FnScope N__law_tt_blurred ["table_here", "begin", "one", "other"] (defScope t__law_tt_blurred) := ⟨rfl, rfl, rfl, by decide +kernel, rfl, by decide +kernel, by decide +kernel⟩
noncomputable def m__law_tt_blurred : MS := (mSeq (mAsg (mCell (mLst mNil)) (mgName 4))
 (mSeq (mAsg (mDef 4 s__law_tt_views (mCons (mVar 0) (mCons (mVar 1) (mCons (mVar 2) (mCons (mVar 3) mNil))))) (mgName 5))
 (mSeq (mFor (mRange1 (mCons (mC (.int 2)) mNil)) (mgName 6)
 (mFor (mItems (mVar 5)) (mgTup 3 (mgCons (mgName 7) (mgCons (mgName 8) (mgCons (mgName 9) mgNil))))
 (mSeq (mAsg (if false = true then mCell (mComp [11, 12, 13] (mItems (mVar 5)) (mgTup 3 (mgCons (mgName 11) (mgCons (mgName 12) (mgCons (mgName 13) mgNil)))) (mAnd (mTest (mOp2 sNe (mVar 11) (mVar 7))) (mTest (mOp2 sEq (mOp2 sIx (mVar 12) (mVar 6)) (mOp2 sIx (mVar 8) (mVar 6))))) (mC (.int 1))) else mVal (mComp [11, 12, 13] (mItems (mVar 5)) (mgTup 3 (mgCons (mgName 11) (mgCons (mgName 12) (mgCons (mgName 13) mgNil)))) (mAnd (mTest (mOp2 sNe (mVar 11) (mVar 7))) (mTest (mOp2 sEq (mOp2 sIx (mVar 12) (mVar 6)) (mOp2 sIx (mVar 8) (mVar 6))))) (mC (.int 1)))) (mgName 10))
 (mIfS (mTest (mOp2 sNe (mVar 10) (mVal (mLst mNil))))
 (mDrop (mMeth sAppend (mVar 4) (mCons (mOp2 sAdd (mTup (mCons (mVar 6) mNil)) (mOp2 sIx (mVar 8) (mVar 6))) mNil)))
 mSkip))))
 (mRet (mVal (mCallF (sSortT 3) (mCons (mVar 4) mNil)))))))
noncomputable def s__law_tt_blurred : Sem := gc (runB 14 m__law_tt_blurred)
theorem b__law_tt_blurred (z : Zs mg) (D__law_tt_views : Df P w K mg base 2 "_law_tt_views" ["table_here", "begin", "one", "other"] s__law_tt_views) : Bd P w K mg base N__law_tt_blurred "_law_tt_blurred" t__law_tt_blurred 2 m__law_tt_blurred :=
 fun f cdv A outer s H E hr =>
 (ds_cons (ds_set 4 sc__law_tt_blurred.nd (de_cell (df_lst da_nil)))
 (ds_cons (ds_set 5 sc__law_tt_blurred.nd (de_def D__law_tt_views (hr.mono (by decide)) (da_cons (de_var 0) (da_cons (de_var 1) (da_cons (de_var 2) (da_cons (de_var 3) da_nil))))))
 (ds_cons (ds_for (passes_of rfl) rfl (di_range1 z.z_range (da_cons de_int da_nil)) (dg_name 6 sc__law_tt_blurred.nd)
 (ds_one (ds_for (passes_of rfl) rfl (di_seq (de_var 5)) (dg_tup rfl (dgs_cons (dg_name 7 sc__law_tt_blurred.nd) (dgs_cons (dg_name 8 sc__law_tt_blurred.nd) (dgs_cons (dg_name 9 sc__law_tt_blurred.nd) dgs_nil))))
 (ds_cons (ds_setLc (own := [("again", 11), ("others", 12), ("lone", 13)]) 10 false rfl sc__law_tt_blurred.nd (di_seq (de_var 5)) (show blkC N__law_tt_blurred (defScope t__law_tt_blurred) _ [("again", 11), ("others", 12), ("lone", 13)] = true by decide +kernel) (fun _ _ _ _ _ => (dg_tup rfl (dgs_cons (dg_name 11 sc__law_tt_blurred.nd) (dgs_cons (dg_name 12 sc__law_tt_blurred.nd) (dgs_cons (dg_name 13 sc__law_tt_blurred.nd) dgs_nil))))) (fun _ _ _ _ _ => (dts_one (dt_w (dw_and (dt_ne hr.units (de_var 11) (de_var 7)) (dw_and1 (dt_eq hr.units (de_sub' (hu_of hr) (de_var 12) (de_var 6)) (de_sub' (hu_of hr) (de_var 8) (de_var 6)))))))) (fun _ _ _ _ _ => de_int) (sw_true rfl rfl rfl (by decide +kernel)))
 (ds_one (ds_if (dt_ne hr.units (de_var 10) (de_val (df_lst da_nil)))
 (ds_one (ds_expr (de_append (de_var 4) (da_cons (de_add (de_tup (da_cons (de_var 6) da_nil)) (de_sub' (hu_of hr) (de_var 8) (de_var 6))) da_nil))))
 ds_nil))))))
 (ds_one (ds_ret (de_val (df_sortT z.z_sorted (da_cons (de_var 4) da_nil))))))))
/-! _law_tt_settling -/
abbrev t__law_tt_settling : Stmt := topS 49
abbrev N__law_tt_settling : List Str := ["table_here", "found", "begin", "one", "other"]
theorem sc__law_tt_settling : FnScope N__law_tt_settling ["table_here"] (defScope t__law_tt_settling) := ⟨rfl, rfl, rfl, by decide +kernel, rfl, by decide +kernel, by decide +kernel⟩
noncomputable def m__law_tt_settling : MS := (mSeq (mAsg (mCell (mLst mNil)) (mgName 1))
 (mSeq (mFor (mRange1 (mCons (mCall sLen (mCons (mOp2 sIx (mVar 0) (mC (.int 0))) mNil)) mNil)) (mgName 2)
 (mFor (mRange1 (mCons (mCall sLen (mCons (mVar 0) mNil)) mNil)) (mgName 3)
 (mFor (mRange1 (mCons (mCall sLen (mCons (mVar 0) mNil)) mNil)) (mgName 4)
 (mIfS (mTest (mOp2 sEq (mDef 4 s__law_tt_blurred (mCons (mVar 0) (mCons (mVar 2) (mCons (mVar 3) (mCons (mVar 4) mNil))))) (mVal (mLst mNil))))
 (mDrop (mMeth sAppend (mVar 1) (mCons (mTup (mCons (mVar 2) (mCons (mVar 3) (mCons (mVar 4) mNil)))) mNil)))
 mSkip))))
 (mRet (mVar 1))))
noncomputable def s__law_tt_settling : Sem := gc (runB 5 m__law_tt_settling)
theorem b__law_tt_settling (z : Zs mg) (D__law_tt_blurred : Df P w K mg base 3 "_law_tt_blurred" ["table_here", "begin", "one", "other"] s__law_tt_blurred) : Bd P w K mg base N__law_tt_settling "_law_tt_settling" t__law_tt_settling 3 m__law_tt_settling :=
 fun f cdv A outer s H E hr =>
 (ds_cons (ds_set 1 sc__law_tt_settling.nd (de_cell (df_lst da_nil)))
 (ds_cons (ds_for (passes_of rfl) rfl (di_range1 z.z_range (da_cons (de_len z.z_len (da_cons (de_sub' (hu_of hr) (de_var 0) de_int) da_nil)) da_nil)) (dg_name 2 sc__law_tt_settling.nd)
 (ds_one (ds_for (passes_of rfl) rfl (di_range1 z.z_range (da_cons (de_len z.z_len (da_cons (de_var 0) da_nil)) da_nil)) (dg_name 3 sc__law_tt_settling.nd)
 (ds_one (ds_for (passes_of rfl) rfl (di_range1 z.z_range (da_cons (de_len z.z_len (da_cons (de_var 0) da_nil)) da_nil)) (dg_name 4 sc__law_tt_settling.nd)
 (ds_one (ds_if (dt_eq hr.units (de_def D__law_tt_blurred (hr.mono (by decide)) (da_cons (de_var 0) (da_cons (de_var 2) (da_cons (de_var 3) (da_cons (de_var 4) da_nil))))) (de_val (df_lst da_nil)))
 (ds_one (ds_expr (de_append (de_var 1) (da_cons (de_tup (da_cons (de_var 2) (da_cons (de_var 3) (da_cons (de_var 4) da_nil)))) da_nil))))
 ds_nil)))))))
 (ds_one (ds_ret (de_var 1)))))
/-! _law_tt_tellers -/
abbrev t__law_tt_tellers : Stmt := topS 50
abbrev N__law_tt_tellers : List Str := ["table_here", "found", "deed", "states_here", "pair"]
theorem sc__law_tt_tellers : FnScope N__law_tt_tellers ["table_here"] (defScope t__law_tt_tellers) := ⟨rfl, rfl, rfl, by decide +kernel, rfl, by decide +kernel, by decide +kernel⟩
noncomputable def m__law_tt_tellers : MS := (mSeq (mAsg (mCell (mLst mNil)) (mgName 1))
 (mSeq (mFor (mRange1 (mCons (mCall sLen (mCons (mVar 0) mNil)) mNil)) (mgName 2)
 (mSeq (mAsg (if false = true then mCell (mComp [4] (mItems (mOp2 sIx (mVar 0) (mVar 2))) (mgName 4) mYes (mOp2 sIx (mVar 4) (mC (.int 0)))) else mVal (mComp [4] (mItems (mOp2 sIx (mVar 0) (mVar 2))) (mgName 4) mYes (mOp2 sIx (mVar 4) (mC (.int 0))))) (mgName 3))
 (mIfS (mTest (mOp2 sEq (mVar 3) (mVal (mLRg1 (mCall sLen (mCons (mVar 3) mNil))))))
 (mIfS (mTest (mOp2 sEq (mLenSet (mVal (mComp [4] (mItems (mOp2 sIx (mVar 0) (mVar 2))) (mgName 4) mYes (mOp2 sIx (mVar 4) (mC (.int 1)))))) (mCall sLen (mCons (mVar 3) mNil))))
 (mDrop (mMeth sAppend (mVar 1) (mCons (mVar 2) mNil)))
 mSkip)
 mSkip)))
 (mRet (mVar 1))))
noncomputable def s__law_tt_tellers : Sem := gc (runB 5 m__law_tt_tellers)
theorem b__law_tt_tellers (z : Zs mg) : Bd P w K mg base N__law_tt_tellers "_law_tt_tellers" t__law_tt_tellers 0 m__law_tt_tellers :=
 fun f cdv A outer s H E hr =>
 (ds_cons (ds_set 1 sc__law_tt_tellers.nd (de_cell (df_lst da_nil)))
 (ds_cons (ds_for (passes_of rfl) rfl (di_range1 z.z_range (da_cons (de_len z.z_len (da_cons (de_var 0) da_nil)) da_nil)) (dg_name 2 sc__law_tt_tellers.nd)
 (ds_cons (ds_setLc (own := [("pair", 4)]) 3 false rfl sc__law_tt_tellers.nd (di_seq (de_sub' (hu_of hr) (de_var 0) (de_var 2))) (show blkC N__law_tt_tellers (defScope t__law_tt_tellers) _ [("pair", 4)] = true by decide +kernel) (fun _ _ _ _ _ => (dg_name 4 sc__law_tt_tellers.nd)) (fun _ _ _ _ _ => dts_nil) (fun _ _ _ _ _ => (de_sub' (hu_of hr) (de_var 4) de_int)) (sw_true rfl rfl rfl (by decide +kernel)))
 (ds_one (ds_if (dt_eq hr.units (de_var 3) (de_val (df_listRg1 rfl z.z_list z.z_range (de_len z.z_len (da_cons (de_var 3) da_nil)))))
 (ds_one (ds_if (dt_eq hr.units (de_lenset z.z_len z.z_set (de_val (df_comp (own := [("pair", 4)]) rfl sc__law_tt_tellers.nd (di_seq (de_sub' (hu_of hr) (de_var 0) (de_var 2))) (show blkC N__law_tt_tellers (defScope t__law_tt_tellers) _ [("pair", 4)] = true by decide +kernel) (fun _ _ _ _ _ => (dg_name 4 sc__law_tt_tellers.nd)) (fun _ _ _ _ _ => dts_nil) (fun _ _ _ _ _ => (de_sub' (hu_of hr) (de_var 4) de_int))))) (de_len z.z_len (da_cons (de_var 3) da_nil)))
 (ds_one (ds_expr (de_append (de_var 1) (da_cons (de_var 2) da_nil))))
 ds_nil))
 ds_nil))))
 (ds_one (ds_ret (de_var 1)))))
/-! _law_wide_table -/
abbrev t__law_wide_table : Stmt := topS 51
abbrev N__law_wide_table : List Str := ["state", "deeds", "size", "kept", "here"]
theorem sc__law_wide_table : FnScope N__law_wide_table ["state"] (defScope t__law_wide_table) := ⟨rfl, rfl, rfl, by decide +kernel, rfl, by decide +kernel, by decide +kernel⟩
noncomputable def m__law_wide_table : MS := (mSeq (mAsg (mTup (mCons (mDef 2 s__law_pick (mCons (mVar 0) (mCons (mVal (mLst (mCons (mC (.int 29)) (mCons (mC (.int 30)) mNil)))) mNil))) (mCons (mDef 2 s__law_draw (mCons (mVar 0) (mCons (mC (.int 2)) mNil))) mNil))) (mgTup 2 (mgCons (mgName 2) (mgCons (mgName 3) mgNil))))
 (mSeq (mAsg (mVal (mLst (mCons (mCall sTup (mCons (mVal (mComp [4] (mRange1 (mCons (mVar 2) mNil)) (mgName 4) mYes (mTup (mCons (mOp2 sMod (mOp2 sAdd (mVar 4) (mC (.int 1))) (mVar 2)) (mCons (mOp2 sMul (mVar 4) (mVar 3)) mNil))))) mNil)) (mCons (mCall sTup (mCons (mVal (mOp2F sRep (mVal (mLst (mCons (mTup (mCons (mC (.int 0)) (mCons (mC (.int 0)) mNil))) mNil))) (mVar 2))) mNil)) mNil)))) (mgName 1))
 (mRet (mDef 2 s__law_tt_renamed (mCons (mVar 0) (mCons (mCall sTup (mCons (mVal (mOp2F sCat (mVar 1) (mVal (mLst (mCons (mCall sTup (mCons (mVal (mComp [4] (mRange1 (mCons (mVar 2) mNil)) (mgName 4) mYes (mTup (mCons (mVar 4) (mCons (mOp2 sAdd (mVar 4) (mC (.int 3))) mNil))))) mNil)) mNil))))) mNil)) mNil))))))
noncomputable def s__law_wide_table : Sem := runB 5 m__law_wide_table
theorem b__law_wide_table (z : Zs mg) (D__law_draw : Df P w K mg base 2 "_law_draw" ["state", "size_here"] s__law_draw) (D__law_pick : Df P w K mg base 3 "_law_pick" ["state", "several"] s__law_pick) (D__law_tt_renamed : Df P w K mg base 4 "_law_tt_renamed" ["state", "table_here"] s__law_tt_renamed) : Bd P w K mg base N__law_wide_table "_law_wide_table" t__law_wide_table 4 m__law_wide_table :=
 fun f cdv A outer s H E hr =>
 (ds_cons (ds_asg (de_tup (da_cons (de_def D__law_pick (hr.mono (by decide)) (da_cons (de_var 0) (da_cons (de_val (df_lst (da_cons de_int (da_cons de_int da_nil)))) da_nil))) (da_cons (de_def D__law_draw (hr.mono (by decide)) (da_cons (de_var 0) (da_cons de_int da_nil))) da_nil))) (dg_tup rfl (dgs_cons (dg_name 2 sc__law_wide_table.nd) (dgs_cons (dg_name 3 sc__law_wide_table.nd) dgs_nil))))
 (ds_cons (ds_set 1 sc__law_wide_table.nd (de_val (df_lst (da_cons (de_tuple z.z_tuple (da_cons (de_val (df_comp (own := [("here", 4)]) rfl sc__law_wide_table.nd (di_range1 z.z_range (da_cons (de_var 2) da_nil)) (show blkC N__law_wide_table (defScope t__law_wide_table) _ [("here", 4)] = true by decide +kernel) (fun _ _ _ _ _ => (dg_name 4 sc__law_wide_table.nd)) (fun _ _ _ _ _ => dts_nil) (fun _ _ _ _ _ => (de_tup (da_cons (de_mod (de_add (de_var 4) de_int) (de_var 2)) (da_cons (de_mul (de_var 4) (de_var 3)) da_nil)))))) da_nil)) (da_cons (de_tuple z.z_tuple (da_cons (de_val (df_mul (de_val (df_lst (da_cons (de_tup (da_cons de_int (da_cons de_int da_nil))) da_nil))) (de_var 2))) da_nil)) da_nil)))))
 (ds_one (ds_ret (de_def D__law_tt_renamed (hr.mono (by decide)) (da_cons (de_var 0) (da_cons (de_tuple z.z_tuple (da_cons (de_val (df_add (de_var 1) (de_val (df_lst (da_cons (de_tuple z.z_tuple (da_cons (de_val (df_comp (own := [("here", 4)]) rfl sc__law_wide_table.nd (di_range1 z.z_range (da_cons (de_var 2) da_nil)) (show blkC N__law_wide_table (defScope t__law_wide_table) _ [("here", 4)] = true by decide +kernel) (fun _ _ _ _ _ => (dg_name 4 sc__law_wide_table.nd)) (fun _ _ _ _ _ => dts_nil) (fun _ _ _ _ _ => (de_tup (da_cons (de_var 4) (da_cons (de_add (de_var 4) de_int) da_nil)))))) da_nil)) da_nil))))) da_nil)) da_nil)))))))
/-! _law_kind_right -/
abbrev t__law_kind_right : Stmt := topS 52
abbrev N__law_kind_right : List Str := ["table_here", "found", "due", "telling", "failing", "some"]
theorem sc__law_kind_right : FnScope N__law_kind_right ["table_here"] (defScope t__law_kind_right) := ⟨rfl, rfl, rfl, by decide +kernel, rfl, by decide +kernel, by decide +kernel⟩
noncomputable def m__law_kind_right : MS := (mSeq (mPar3 3 4 5 (mCons (mDef 1 s__law_tt_tellers (mCons (mVar 0) mNil)) (mCons (mDef 1 s__law_tt_failing (mCons (mVar 0) mNil)) (mCons (mDef 1 s__law_tt_settling (mCons (mVar 0) mNil)) mNil))))
 (mSeq (mAsg (mDefP 1 0 1 [0] s_telling_deeds mNil (mCons (mVar 0) mNil)) (mgName 1))
 (mSeq (mIfS (mTest (mOp2 sNe (mVar 1) (mVar 3)))
 (mRet (mC (.bl false)))
 mSkip)
 (mSeq (mDrop (mMeth sAppend (mVar 1) (mCons (mC (.int 0)) mNil)))
 (mSeq (mIfS (mTest (mOp2 sNe (mDef 1 s_telling_deeds (mCons (mVar 0) mNil)) (mVar 3)))
 (mRet (mC (.bl false)))
 mSkip)
 (mSeq (mAsg (mTup (mCons (mC (.str "served")) mNil)) (mgName 2))
 (mSeq (mIfS (mTest (mOp2 sNe (mVar 4) (mVal (mLst mNil))))
 (mSeq (mAsg (mOp2 sAdd (mTup (mCons (mC (.str "open")) mNil)) (mOp2 sIx (mVar 4) (mC (.int 0)))) (mgName 2))
 (mIfS (mAnd (mTest (mOp2 sNe (mVar 3) (mVal (mLst mNil)))) (mTest (mOp2 sNe (mVar 5) (mVal (mLst mNil)))))
 (mAsg (mOp2 sAdd (mOp2 sAdd (mTup (mCons (mC (.str "settles")) mNil)) (mOp2 sIx (mVar 5) (mC (.int 0)))) (mTup (mCons (mOp2 sIx (mVar 3) (mC (.int 0))) mNil))) (mgName 2))
 mSkip))
 mSkip)
 (mSeq (mIfS (mAnd (mTest (mOp2 sEq (mVar 4) (mVal (mLst mNil)))) (mTest (mOp2 sNe (mVar 5) (mVal (mLst mNil)))))
 (mRet (mC (.bl false)))
 mSkip)
 (mRet (mAndV (mOp2 sEq (mDef 1 s_kind_of (mCons (mVar 0) mNil)) (mVar 2)) (mOp2 sEq (mDefP 1 0 1 [0] s_kind_of mNil (mCons (mVar 0) mNil)) (mVar 2))))))))))))
noncomputable def s__law_kind_right : Sem := gc (runB 6 m__law_kind_right)
theorem b__law_kind_right (z : Zs mg) (D__law_tt_settling : Df P w K mg base 4 "_law_tt_settling" ["table_here"] s__law_tt_settling) (D__law_tt_failing : Df P w K mg base 4 "_law_tt_failing" ["table_here"] s__law_tt_failing) (D__law_tt_tellers : Df P w K mg base 1 "_law_tt_tellers" ["table_here"] s__law_tt_tellers) (D_telling_deeds : Df P w K mg base 7 "telling_deeds" ["table"] s_telling_deeds) (D_kind_of : Df P w K mg base 8 "kind_of" ["table"] s_kind_of) (PD_telling_deeds_0 : DfP P w K mg base 7 "telling_deeds" 1 0 ["table"] [0] s_telling_deeds) (PD_kind_of_0 : DfP P w K mg base 8 "kind_of" 1 0 ["table"] [0] s_kind_of) : Bd P w K mg base N__law_kind_right "_law_kind_right" t__law_kind_right 8 m__law_kind_right :=
 fun f cdv A outer s H E hr =>
 (ds_cons (ds_par3 3 4 5 rfl sc__law_kind_right.nd (da_cons (de_def D__law_tt_tellers (hr.mono (by decide)) (da_cons (de_var 0) da_nil)) (da_cons (de_def D__law_tt_failing (hr.mono (by decide)) (da_cons (de_var 0) da_nil)) (da_cons (de_def D__law_tt_settling (hr.mono (by decide)) (da_cons (de_var 0) da_nil)) da_nil))))
 (ds_cons (ds_set 1 sc__law_kind_right.nd (de_defP0 PD_telling_deeds_0 (hr.mono (by decide)) (dk_cons (de_var 0) dk_nil)))
 (ds_cons (ds_if (dt_ne hr.units (de_var 1) (de_var 3))
 (ds_one (ds_ret de_bl))
 ds_nil)
 (ds_cons (ds_expr (de_append (de_var 1) (da_cons de_int da_nil)))
 (ds_cons (ds_if (dt_ne hr.units (de_def D_telling_deeds (hr.mono (by decide)) (da_cons (de_var 0) da_nil)) (de_var 3))
 (ds_one (ds_ret de_bl))
 ds_nil)
 (ds_cons (ds_set 2 sc__law_kind_right.nd (de_tup (da_cons de_str da_nil)))
 (ds_cons (ds_if (dt_ne hr.units (de_var 4) (de_val (df_lst da_nil)))
 (ds_cons (ds_set 2 sc__law_kind_right.nd (de_add (de_tup (da_cons de_str da_nil)) (de_sub' (hu_of hr) (de_var 4) de_int)))
 (ds_one (ds_if (dt_w (dw_and (dt_ne hr.units (de_var 3) (de_val (df_lst da_nil))) (dw_and1 (dt_ne hr.units (de_var 5) (de_val (df_lst da_nil))))))
 (ds_one (ds_set 2 sc__law_kind_right.nd (de_add (de_add (de_tup (da_cons de_str da_nil)) (de_sub' (hu_of hr) (de_var 5) de_int)) (de_tup (da_cons (de_sub' (hu_of hr) (de_var 3) de_int) da_nil)))))
 ds_nil)))
 ds_nil)
 (ds_cons (ds_if (dt_w (dw_and (dt_eq hr.units (de_var 4) (de_val (df_lst da_nil))) (dw_and1 (dt_ne hr.units (de_var 5) (de_val (df_lst da_nil))))))
 (ds_one (ds_ret de_bl))
 ds_nil)
 (ds_one (ds_ret (de_and (de_eq hr.units (de_def D_kind_of (hr.mono (by decide)) (da_cons (de_var 0) da_nil)) (de_var 2)) (de_one (de_eq hr.units (de_defP0 PD_kind_of_0 (hr.mono (by decide)) (dk_cons (de_var 0) dk_nil)) (de_var 2))))))))))))))
/-! law -/
abbrev t_law : Stmt := topS 53
abbrev N_law : List Str := ["script", "state", "turn"]
theorem sc_law : FnScope N_law ["script"] (defScope t_law) := ⟨rfl, rfl, rfl, by decide +kernel, rfl, by decide +kernel, by decide +kernel⟩
noncomputable def m_law : MS := (mSeq (mAsg (mDef 1 s__law_begun (mCons (mVar 0) mNil)) (mgName 1))
 (mSeq (mFor (mRange1 (mCons (mC (.int 2)) mNil)) (mgName 2)
 (mIfS (mNot (mTru (mDef 1 s__law_kind_right (mCons (mDef 2 s__law_tt_any (mCons (mVar 1) (mCons (mC (.int 8)) mNil))) mNil))))
 (mRet (mC (.bl false)))
 mSkip))
 (mRet (mDef 1 s__law_kind_right (mCons (mDef 1 s__law_wide_table (mCons (mVar 1) mNil)) mNil)))))
noncomputable def s_law : Sem := runB 3 m_law
theorem b_law (z : Zs mg) (D__law_begun : Df P w K mg base 1 "_law_begun" ["script"] s__law_begun) (D__law_tt_any : Df P w K mg base 6 "_law_tt_any" ["state", "most"] s__law_tt_any) (D__law_kind_right : Df P w K mg base 9 "_law_kind_right" ["table_here"] s__law_kind_right) (D__law_wide_table : Df P w K mg base 5 "_law_wide_table" ["state"] s__law_wide_table) : Bd P w K mg base N_law "law" t_law 9 m_law :=
 fun f cdv A outer s H E hr =>
 (ds_cons (ds_set 1 sc_law.nd (de_def D__law_begun (hr.mono (by decide)) (da_cons (de_var 0) da_nil)))
 (ds_cons (ds_for (passes_of rfl) rfl (di_range1 z.z_range (da_cons de_int da_nil)) (dg_name 2 sc_law.nd)
 (ds_one (ds_if (dt_not (dt_tru (de_def D__law_kind_right (hr.mono (by decide)) (da_cons (de_def D__law_tt_any (hr.mono (by decide)) (da_cons (de_var 1) (da_cons de_int da_nil))) da_nil))))
 (ds_one (ds_ret de_bl))
 ds_nil)))
 (ds_one (ds_ret (de_def D__law_kind_right (hr.mono (by decide)) (da_cons (de_def D__law_wide_table (hr.mono (by decide)) (da_cons (de_var 1) da_nil)) da_nil))))))
end
end VS

set_option Elab.async false
set_option linter.all false
set_option maxRecDepth 100000
set_option maxHeartbeats 4000000
namespace VS
open PySem PySem.Spec PyProof.Rows L2
/-! ### running by simp -/
section
variable {w w' : World} {ρ : Env} {i j : Nat} {t u : T} {a b c : ME} {s : S2}
@[simp] theorem bind_ok' {α β : Type} {x : α} {f : α → World → R β} : (R.ok x w).bind f = f x w := rfl
@[simp] theorem bind_no' {α β : Type} {f : α → World → R β} : (R.no : R α).bind f = .no := rfl
@[simp] theorem mVar0 {o : Option T} {r : Env} : mVar 0 (some t :: r) w = .ok t w := rfl
@[simp] theorem mVarS {o : Option T} {r : Env} : mVar (i + 1) (o :: r) w = mVar i r w := by simp [mVar]
@[simp] theorem mC_ : mC t ρ w = .ok t w := rfl
@[simp] theorem mOp2_ : mOp2 s a b ρ w = (a ρ w).bind fun x w1 => (b ρ w1).bind fun y w2 => s x y w2 := rfl
@[simp] theorem mOp1_ {s : S1} : mOp1 s a ρ w = (a ρ w).bind s := rfl
@[simp] theorem asB_bl {k : Bool} : asB (.ok (.bl k) w) = .ok k w := rfl
@[simp] theorem mTest_ : mTest a ρ w = asB (a ρ w) := rfl
@[simp] theorem mTru_ : mTru a ρ w = (a ρ w).bind sTru := rfl
@[simp] theorem sTru_bl {k : Bool} : sTru (.bl k) w = .ok k w := rfl
@[simp] theorem sTru_int {k : Int} : sTru (.int k) w = .ok (k != 0) w := rfl
@[simp] theorem sTru_non : sTru .non w = .ok false w := rfl
@[simp] theorem mChain_ {s' : S2} : mChain s s' a b c ρ w = (a ρ w).bind fun x w1 => (b ρ w1).bind fun y w2 => (asB (s x y w2)).bind fun k w3 => if k = true then (c ρ w3).bind fun z w4 => s' y z w4 else .ok (.bl false) w3 := rfl
@[simp] theorem mAnd_ {a b : MT} : mAnd a b ρ w = (a ρ w).bind fun x w1 => if x = true then b ρ w1 else .ok false w1 := rfl
@[simp] theorem mOr_ {a b : MT} : mOr a b ρ w = (a ρ w).bind fun x w1 => if x = true then .ok true w1 else b ρ w1 := rfl
@[simp] theorem mNot_ {a : MT} : mNot a ρ w = (a ρ w).bind fun x w1 => .ok (!x) w1 := rfl
@[simp] theorem mAndV_ : mAndV a b ρ w = (a ρ w).bind fun x w1 => (sTru x w1).bind fun k w2 => if k = true then b ρ w2 else .ok x w2 := rfl
@[simp] theorem mOrV_ : mOrV a b ρ w = (a ρ w).bind fun x w1 => (sTru x w1).bind fun k w2 => if k = true then .ok x w2 else b ρ w2 := rfl
@[simp] theorem mNotV_ : mNotV a ρ w = (a ρ w).bind fun x w1 => (sTru x w1).bind fun k w2 => .ok (.bl (!k)) w2 := rfl
@[simp] theorem mIf_ {c : MT} : mIf c a b ρ w = (c ρ w).bind fun k w1 => if k = true then a ρ w1 else b ρ w1 := rfl
@[simp] theorem mNil_ : mNil ρ w = .ok [] w := rfl
@[simp] theorem mCons_ {r : MF} : mCons a r ρ w = (a ρ w).bind fun x w1 => (r ρ w1).bind fun xs w2 => .ok (x :: xs) w2 := rfl
@[simp] theorem mTup_ {m : MF} : mTup m ρ w = (m ρ w).bind fun ts w1 => if ts.length ≤ sizeLine then .ok (.tup ts) w1 else .no := rfl
@[simp] theorem mLst_ {m : MF} : mLst m ρ w = (m ρ w).bind fun ts w1 => if ts.length ≤ sizeLine then .ok ts w1 else .no := rfl
@[simp] theorem mVal_ {m : MF} : mVal m ρ w = (m ρ w).bind fun ts w1 => .ok (.lst ts) w1 := rfl
@[simp] theorem mCell_ {m : MF} : mCell m ρ w = (m ρ w).bind fun ts w1 => .ok (.cell w1.length) (w1 ++ [.lst ts]) := rfl
@[simp] theorem mCall_ {s : SC} {m : MF} : mCall s m ρ w = (m ρ w).bind s := rfl
@[simp] theorem mCallF_ {s : SCF} {m : MF} : mCallF s m ρ w = (m ρ w).bind s := rfl
@[simp] theorem mOp2F_ {s : S2F} : mOp2F s a b ρ w = (a ρ w).bind fun x w1 => (b ρ w1).bind fun y w2 => s x y w2 := rfl
@[simp] theorem mDef_ {n : Nat} {f : Sem} {m : MF} : mDef n f m ρ w = (m ρ w).bind fun ds w1 => if ds.length = n then f ds w1 else .no := rfl
@[simp] theorem mDefK_ {n : Nat} {f : Sem} {m mk : MF} : mDefK n f m mk ρ w = (m ρ w).bind fun ds w1 => (mk ρ w1).bind fun es w2 => if ds.length + es.length = n then f (ds ++ es) w2 else .no := rfl
@[simp] theorem mSkip_ : mSkip ρ w = .ok (ρ, .nx) w := rfl
/-- what follows a statement -/
def andThen (r : R (Env × Fl)) (f : Env → World → R (Env × Fl)) : R (Env × Fl) := r.bind fun r w1 => match r.2 with
  | .nx => f r.1 w1
  | _ => .ok r w1
@[simp] theorem mSeq_ {m1 m2 : MS} : mSeq m1 m2 ρ w = andThen (m1 ρ w) m2 := rfl
@[simp] theorem then_nx {f : Env → World → R (Env × Fl)} : andThen (.ok (ρ, .nx) w) f = f ρ w := rfl
@[simp] theorem then_ret {f : Env → World → R (Env × Fl)} : andThen (.ok (ρ, .ret t) w) f = .ok (ρ, .ret t) w := rfl
@[simp] theorem then_bk {f : Env → World → R (Env × Fl)} : andThen (.ok (ρ, .bk) w) f = .ok (ρ, .bk) w := rfl
@[simp] theorem then_ct {f : Env → World → R (Env × Fl)} : andThen (.ok (ρ, .ct) w) f = .ok (ρ, .ct) w := rfl
@[simp] theorem then_no {f : Env → World → R (Env × Fl)} : andThen .no f = .no := rfl
@[simp] theorem mRet_ : mRet a ρ w = (a ρ w).bind fun t w1 => .ok (ρ, .ret t) w1 := rfl
@[simp] theorem mDrop_ : mDrop a ρ w = (a ρ w).bind fun _ w1 => .ok (ρ, .nx) w1 := rfl
@[simp] theorem mIfS_ {c : MT} {x y : MS} : mIfS c x y ρ w = (c ρ w).bind fun k w1 => if k = true then x ρ w1 else y ρ w1 := rfl
@[simp] theorem mgName_ : mgName i t ρ w = .ok (ρ.set i (some t)) w := rfl
@[simp] theorem mAsg_ {g : MG} : mAsg a g ρ w = (a ρ w).bind fun t w1 => (g t ρ w1).bind fun ρ1 w2 => .ok (ρ1, .nx) w2 := rfl
@[simp] theorem mgSub_ {s : S3} : mgSub s a b t ρ w = (a ρ w).bind fun d1 w1 => (b ρ w1).bind fun d2 w2 => (s d1 d2 t w2).bind fun _ w3 => .ok ρ w3 := rfl
@[simp] theorem mgTup_ {n : Nat} {g : MGs} {ts : List T} : mgTup n g (.tup ts) ρ w = if ts.length = n then g ts ρ w else .no := rfl
@[simp] theorem mgNil_ : mgNil [] ρ w = .ok ρ w := rfl
@[simp] theorem mgCons_ {g : MG} {r : MGs} {ts : List T} : mgCons g r (t :: ts) ρ w = (g t ρ w).bind fun ρ1 w1 => r ts ρ1 w1 := rfl
@[simp] theorem mPar_ {m : MF} : mPar i j m ρ w = (m ρ w).bind fun ts w1 => match ts with
  | [t, u] => .ok ((ρ.set i (some t)).set j (some u), .nx) w1
  | _ => .no := rfl
@[simp] theorem mPar3_ {l : Nat} {m : MF} : mPar3 i j l m ρ w = (m ρ w).bind fun ts w1 => match ts with
  | [t, u, v] => .ok (((ρ.set i (some t)).set j (some u)).set l (some v), .nx) w1
  | _ => .no := rfl
@[simp] theorem mFor_ {it : MI} {g : MG} {m : MS} : mFor it g m ρ w = (it ρ w).bind fun r w1 => forL g m r.2 r.1 r.1 ρ w1 := rfl
@[simp] theorem mItems_ : mItems a ρ w = (a ρ w).bind sItems := rfl
@[simp] theorem sItems_lst {ts : List T} : sItems (.lst ts) w = .ok (ts, none) w := rfl
@[simp] theorem sItems_tup {ts : List T} : sItems (.tup ts) w = .ok (ts, none) w := rfl
@[simp] theorem sItems_frz {ts : List T} : sItems (.frz ts) w = .ok (ts, none) w := rfl
theorem sItems_cell {k : Nat} {ts : List T} (h : w[k]? = some (.lst ts)) : sItems (.cell k) w = .ok (ts, some k) w := by simp [sItems, items, h]
@[simp] theorem mRange1_ {m : MF} : mRange1 m ρ w = (m ρ w).bind sRange1 := rfl
@[simp] theorem mRange2_ {m : MF} : mRange2 m ρ w = (m ρ w).bind sRange2 := rfl
theorem sRange1_ {n : Int} (h0 : 0 ≤ n) (h : n < 1000000000) : sRange1 [.int n] w = .ok (rgT 0 n.toNat, none) w := by
  have : RgOk 0 n := ⟨by decide, by decide, by omega, by omega⟩
  simp [sRange1, this]
@[simp] theorem mComp_ {vs : List Nat} {it : MI} {g : MG} {c : MT} {e : ME} : mComp vs it g c e ρ w = (it ρ w).bind fun r w1 => compL g c e r.2 r.1 (wipeE ρ vs) r.1 [] w1 := rfl
@[simp] theorem mYes_ : mYes ρ w = .ok true w := rfl
@[simp] theorem mSlL_ {lo hi : MO} : mSlL a lo hi ρ w = (a ρ w).bind fun t w1 => (lo ρ w1).bind fun l w2 => (hi ρ w2).bind fun u w3 => match lst? w3 t with
  | some ts => .ok (cutT ts l u) w3
  | _ => .no := rfl
@[simp] theorem mSlT_ {lo hi : MO} : mSlT a lo hi ρ w = (a ρ w).bind fun t w1 => (lo ρ w1).bind fun l w2 => (hi ρ w2).bind fun u w3 => match t with
  | .tup ts => .ok (.tup (cutT ts l u)) w3
  | _ => .no := rfl
@[simp] theorem mNoPart_ : mNoPart ρ w = .ok none w := rfl
@[simp] theorem mPart_ : mPart a ρ w = (a ρ w).bind fun t w1 => match t with
  | .int i => .ok (some i) w1
  | _ => .no := rfl
@[simp] theorem mMeth_ {s : SM} {m : MF} : mMeth s a m ρ w = (a ρ w).bind fun d w1 => match lst? w1 d with
  | some _ => (m ρ w1).bind fun ds w2 => s d ds w2
  | none => .no := rfl
@[simp] theorem mDict_ {m : MPs} : mDict m ρ w = (m ρ w).bind fun kvs w1 => if kvs.length ≤ 15 ∧ (kvs.map (·.1)).Nodup then .ok (.cell w1.length) (w1 ++ [.dic kvs]) else .no := rfl
@[simp] theorem mpNil_ : mpNil ρ w = .ok [] w := rfl
@[simp] theorem mpCons_ {m : MPs} : mpCons a b m ρ w = (a ρ w).bind fun kt w1 => (b ρ w1).bind fun t w2 => (m ρ w2).bind fun ps w3 => match keyT kt with
  | some key => .ok ((key, t) :: ps) w3
  | none => .no := rfl
@[simp] theorem mLRg1_ : mLRg1 a ρ w = (a ρ w).bind fun t w1 => match t with
  | .int n => if L2.RgOk 0 n then .ok (rgT 0 n.toNat) w1 else .no
  | _ => .no := rfl
end
/-! ### operators -/
section
variable {w : World} {i j : Int}
@[simp] theorem sSub_ : sSub (.int i) (.int j) w = .ok (.int (i - j)) w := by simp [sSub, s2I]
@[simp] theorem sBor_ : sBor (.int i) (.int j) w = .ok (.int (Builtin.bitOr i j)) w := by simp [sBor, s2I]
@[simp] theorem sLt_ : sLt (.int i) (.int j) w = .ok (.bl (decide (i < j))) w := by simp [sLt, s2I]
@[simp] theorem sLe_ : sLe (.int i) (.int j) w = .ok (.bl (decide (i ≤ j))) w := by simp [sLe, s2I]
@[simp] theorem sGt_ : sGt (.int i) (.int j) w = .ok (.bl (decide (j < i))) w := by simp [sGt, s2I]
@[simp] theorem sGe_ : sGe (.int i) (.int j) w = .ok (.bl (decide (j ≤ i))) w := by simp [sGe, s2I]
@[simp] theorem sAdd_ : sAdd (.int i) (.int j) w = .ok (.int (i + j)) w := rfl
@[simp] theorem sNeg_ : sNeg (.int i) w = .ok (.int (-i)) w := rfl
theorem sMod_ (h : 0 < j) : sMod (.int i) (.int j) w = .ok (.int (i % j)) w := by simp [sMod, s2I, h]
theorem sFdiv_ (h : 0 < j) (h2 : j < 1073741824) : sFdiv (.int i) (.int j) w = .ok (.int (i / j)) w := by simp [sFdiv, s2I, CDiv, h, h2]
theorem sMul_l (h : -(2 ^ 64) < i ∧ i < 2 ^ 64) : sMul (.int i) (.int j) w = .ok (.int (i * j)) w := by simp only [sMul]; rw [if_pos (.inl h)]
theorem sMul_r (h : -(2 ^ 64) < j ∧ j < 2 ^ 64) : sMul (.int i) (.int j) w = .ok (.int (i * j)) w := by simp only [sMul]; rw [if_pos (.inr h)]
@[simp] theorem sInt_ : sInt [.int i] w = .ok (.int i) w := rfl
@[simp] theorem sAbs_ : sAbs [.int i] w = .ok (.int (if i < 0 then -i else i)) w := rfl
@[simp] theorem sMax2_ : sMax2 [.int i, .int j] w = .ok (.int (if j > i then j else i)) w := rfl
@[simp] theorem sMin2_ : sMin2 [.int i, .int j] w = .ok (.int (if j < i then j else i)) w := rfl
@[simp] theorem sLen_tup {ts : List T} : sLen [.tup ts] w = .ok (.int ts.length) w := rfl
@[simp] theorem sLen_lst {ts : List T} : sLen [.lst ts] w = .ok (.int ts.length) w := rfl
@[simp] theorem sLen_frz {ts : List T} : sLen [.frz ts] w = .ok (.int ts.length) w := rfl
theorem sLen_cell {k : Nat} {ts : List T} (h : w[k]? = some (.lst ts)) : sLen [.cell k] w = .ok (.int ts.length) w := by simp [sLen, h]
@[simp] theorem sTup_lst {ts : List T} : sTup [.lst ts] w = .ok (.tup ts) w := rfl
@[simp] theorem sTup_tup {ts : List T} : sTup [.tup ts] w = .ok (.tup ts) w := rfl
theorem sTup_cell {k : Nat} {ts : List T} (h : w[k]? = some (.lst ts)) : sTup [.cell k] w = .ok (.tup ts) w := by simp [sTup, seq?, h]
@[simp] theorem sList_lst {ts : List T} : sList [.lst ts] w = .ok ts w := rfl
@[simp] theorem sList_tup {ts : List T} : sList [.tup ts] w = .ok ts w := rfl
theorem sList_cell {k : Nat} {ts : List T} (h : w[k]? = some (.lst ts)) : sList [.cell k] w = .ok ts w := by simp [sList, seq?, h]
@[simp] theorem lst_lst {ts : List T} : lst? w (.lst ts) = some ts := rfl
theorem lst_cell {k : Nat} {ts : List T} (h : w[k]? = some (.lst ts)) : lst? w (.cell k) = some ts := by simp [lst?, h]
theorem sIx_tup {ts : List T} {t : T} (h : ts[i.toNat]? = some t) (h0 : 0 ≤ i) : sIx (.tup ts) (.int i) w = .ok t w := by
  have e : atI ts i = some t := by rw [show i = ((i.toNat : Nat) : Int) by omega]; exact atI_nat h
  simp [sIx, seq?, e]
theorem sIx_lst {ts : List T} {t : T} (h : ts[i.toNat]? = some t) (h0 : 0 ≤ i) : sIx (.lst ts) (.int i) w = .ok t w := by
  have e : atI ts i = some t := by rw [show i = ((i.toNat : Nat) : Int) by omega]; exact atI_nat h
  simp [sIx, seq?, e]
theorem sIx_cell {k : Nat} {ts : List T} {t : T} (hk : w[k]? = some (.lst ts)) (h : ts[i.toNat]? = some t) (h0 : 0 ≤ i) : sIx (.cell k) (.int i) w = .ok t w := by
  have e : atI ts i = some t := by rw [show i = ((i.toNat : Nat) : Int) by omega]; exact atI_nat h
  simp [sIx, hk, e]
@[simp] theorem sIx_0 {t : T} {ts : List T} : sIx (.tup (t :: ts)) (.int 0) w = .ok t w := sIx_tup rfl (by decide)
@[simp] theorem sIx_1 {t u : T} {ts : List T} : sIx (.tup (u :: t :: ts)) (.int 1) w = .ok t w := sIx_tup rfl (by decide)
theorem append_cell {k : Nat} {ts : List T} {t : T} (h : w[k]? = some (.lst ts)) (hl : ts.length < 16777216) : sAppend (.cell k) [t] w = .ok .non (w.set k (.lst (ts ++ [t]))) := by
  have : ts.length < sizeLine := by rw [sizeLine_eq]; exact hl
  simp [sAppend, h, this]
/-! equality -/
theorem eqT_of {x y : T} {d e : PyData} (hx : pd w x = some d) (hy : pd w y = some e) (sd : SeqAt.shaped d = true) (se : SeqAt.shaped e = true) : eqT w x y = some (PyData.eqv d e) := by simp [eqT, hx, hy, sd, se]
@[simp] theorem eqT_int : eqT w (.int i) (.int j) = some (decide (i = j)) := by
  rw [eqT_of (d := .int i) (e := .int j) (by simp [pd]) (by simp [pd]) rfl rfl]
  simp [PyData.eqv]
  rfl
@[simp] theorem sEq_int : sEq (.int i) (.int j) w = .ok (.bl (decide (i = j))) w := by simp [sEq]
@[simp] theorem sNe_int : sNe (.int i) (.int j) w = .ok (.bl (!decide (i = j))) w := by simp [sNe]
theorem pds0_ints : ∀ ns : List Int, pds0 (ns.map .int) = some (ns.map .int)
  | [] => rfl
  | n :: ns => by simp [pds0, pd0, pds0_ints ns]
theorem lay_ints : ∀ ns : List Int, PyData.canLayAll0 (ns.map .int) = true
  | [] => rfl
  | n :: ns => by simp [PyData.canLayAll0, PyData.canLay0, lay_ints ns]
theorem depth_ints : ∀ ns : List Int, PyData.depthAll (ns.map .int) ≤ 1
  | [] => by simp [PyData.depthAll]
  | n :: ns => by
    have := depth_ints ns
    simp [PyData.depthAll, PyData.depth]
    omega
theorem shaped_ints (ns : List Int) : SeqAt.shaped (.list (ns.map .int)) = true := by
  have h := depth_ints ns
  simp [SeqAt.shaped, PyData.canLay0, lay_ints, PyData.depth]
  omega
theorem eqv_ints : ∀ ns ms : List Int, PyData.eqvAll (ns.map .int) (ms.map .int) = decide (ns = ms)
  | [], [] => by simp [PyData.eqvAll]
  | [], m :: ms => by simp [PyData.eqvAll]
  | n :: ns, [] => by simp [PyData.eqvAll]
  | n :: ns, m :: ms => by
    simp [PyData.eqvAll, PyData.eqv, eqv_ints ns ms]
    by_cases h : n = m <;> simp [h]
theorem pd_cell {k : Nat} {ns : List Int} (h : w[k]? = some (.lst (ns.map .int))) : pd w (.cell k) = some (.list (ns.map .int)) := by simp [pd, h, pds0_ints]
end
/-! ### loops by an invariant -/
section
variable {g : MG} {b : MS} {oc : Option Nat} {all : List T} {w : World} {ρ : Env}
theorem bind_eq {α β : Type} {r : R α} {a : α} {f : α → World → R β} (h : r = .ok a w) : r.bind f = f a w := by rw [h]; rfl
theorem forL_go (P : Nat → Env → World → Prop) (hk : ∀ i ρ w, P i ρ w → Kept oc all w)
    (h : ∀ i t ρ w, all[i]? = some t → P i ρ w → ∃ ρ1 w1, ((g t ρ w).bind fun ρ1 w1 => b ρ1 w1) = .ok (ρ1, .nx) w1 ∧ P (i + 1) ρ1 w1) :
    ∀ (n i : Nat) (ρ : Env) (w : World), n + i = all.length → P i ρ w → ∃ ρ' w', forL g b oc all (all.drop i) ρ w = .ok (ρ', .nx) w' ∧ P all.length ρ' w'
  | 0, i, ρ, w, hn, p => by
    have e : i = all.length := by omega
    subst e
    refine ⟨ρ, w, ?_, p⟩
    rw [List.drop_length]
    unfold forL
    rw [if_pos (hk _ _ _ p)]
  | n + 1, i, ρ, w, hn, p => by
    have hi : i < all.length := by omega
    obtain ⟨ρ1, w1, e1, p1⟩ := h i all[i] ρ w (by simp [hi]) p
    obtain ⟨ρ2, w2, e2, p2⟩ := forL_go P hk h n (i + 1) ρ1 w1 (by omega) p1
    refine ⟨ρ2, w2, ?_, p2⟩
    rw [List.drop_eq_getElem_cons hi]
    unfold forL
    rw [if_pos (hk _ _ _ p)]
    cases q : g all[i] ρ w with
    | no => rw [q] at e1; cases e1
    | ok ρ0 w0 =>
      rw [q, bind_ok'] at e1
      rw [bind_ok', e1, bind_ok']
      exact e2
/-- a for over a value that stays, with an invariant over (turn, slots, world) -/
theorem forL_run (P : Nat → Env → World → Prop) (h0 : P 0 ρ w)
    (h : ∀ i t ρ w, all[i]? = some t → P i ρ w → ∃ ρ1 w1, ((g t ρ w).bind fun ρ1 w1 => b ρ1 w1) = .ok (ρ1, .nx) w1 ∧ P (i + 1) ρ1 w1) :
    ∃ ρ' w', forL g b none all all ρ w = .ok (ρ', .nx) w' ∧ P all.length ρ' w' := by
  have := forL_go P (fun _ _ _ _ => kept_none) h all.length 0 ρ w (by omega) h0
  rwa [List.drop_zero] at this
theorem forL_cell {k : Nat} (P : Nat → Env → World → Prop) (h0 : P 0 ρ w) (hk : ∀ i ρ w, P i ρ w → w[k]? = some (.lst all))
    (h : ∀ i t ρ w, all[i]? = some t → P i ρ w → ∃ ρ1 w1, ((g t ρ w).bind fun ρ1 w1 => b ρ1 w1) = .ok (ρ1, .nx) w1 ∧ P (i + 1) ρ1 w1) :
    ∃ ρ' w', forL g b (some k) all all ρ w = .ok (ρ', .nx) w' ∧ P all.length ρ' w' := by
  have := forL_go P (fun i ρ w p => kept_some (hk i ρ w p)) h all.length 0 ρ w (by omega) h0
  rwa [List.drop_zero] at this
/-- a comprehension over a value that stays: the items one by one, an invariant over what is made so far -/
theorem compL_go {c : MT} {e : ME} {ρ0 : Env} (P : Nat → List T → World → Prop)
    (h : ∀ i t out w, all[i]? = some t → P i out w → ∃ ρ1 w1, g t ρ0 w = .ok ρ1 w1 ∧ ((∃ w2 y w3, c ρ1 w1 = .ok true w2 ∧ e ρ1 w2 = .ok y w3 ∧ out.length < 16777216 ∧ P (i + 1) (out ++ [y]) w3) ∨ ∃ w2, c ρ1 w1 = .ok false w2 ∧ P (i + 1) out w2)) :
    ∀ (n i : Nat) (out : List T) (w : World), n + i = all.length → P i out w → ∃ out' w', compL g c e none all ρ0 (all.drop i) out w = .ok out' w' ∧ P all.length out' w'
  | 0, i, out, w, hn, p => by
    have e : i = all.length := by omega
    subst e
    refine ⟨out, w, ?_, p⟩
    rw [List.drop_length]
    unfold compL
    rw [if_pos kept_none]
  | n + 1, i, out, w, hn, p => by
    have hi : i < all.length := by omega
    obtain ⟨ρ1, w1, e1, q⟩ := h i all[i] out w (by simp [hi]) p
    rw [List.drop_eq_getElem_cons hi]
    unfold compL
    rw [if_pos kept_none, e1, bind_ok']
    rcases q with ⟨w2, y, w3, e2, e3, hl, p1⟩ | ⟨w2, e2, p1⟩
    · obtain ⟨out2, w4, e4, p2⟩ := compL_go P h n (i + 1) _ _ (by omega) p1
      refine ⟨out2, w4, ?_, p2⟩
      rw [e2, bind_ok', if_pos rfl, e3, bind_ok', if_pos (by rw [sizeLine_eq]; exact hl)]
      exact e4
    · obtain ⟨out2, w4, e4, p2⟩ := compL_go P h n (i + 1) _ _ (by omega) p1
      refine ⟨out2, w4, ?_, p2⟩
      rw [e2, bind_ok', if_neg Bool.false_ne_true]
      exact e4
theorem compL_run {c : MT} {e : ME} {ρ0 : Env} (P : Nat → List T → World → Prop) (h0 : P 0 [] w)
    (h : ∀ i t out w, all[i]? = some t → P i out w → ∃ ρ1 w1, g t ρ0 w = .ok ρ1 w1 ∧ ((∃ w2 y w3, c ρ1 w1 = .ok true w2 ∧ e ρ1 w2 = .ok y w3 ∧ out.length < 16777216 ∧ P (i + 1) (out ++ [y]) w3) ∨ ∃ w2, c ρ1 w1 = .ok false w2 ∧ P (i + 1) out w2)) :
    ∃ out' w', compL g c e none all ρ0 all [] w = .ok out' w' ∧ P all.length out' w' := by
  have := compL_go P h all.length 0 [] w (by omega) h0
  rwa [List.drop_zero] at this
/-- a comprehension whose items are worked out by a function, the world untouched, nothing left out -/
theorem compL_map {c : MT} {e : ME} {ρ0 : Env} (f : T → T) (hl : all.length < 16777216) (h : ∀ t ∈ all, ∃ ρ1, g t ρ0 w = .ok ρ1 w ∧ c ρ1 w = .ok true w ∧ e ρ1 w = .ok (f t) w) : compL g c e none all ρ0 all [] w = .ok (all.map f) w := by
  obtain ⟨out, w', e1, e2, e3⟩ := compL_run (w := w) (P := fun i out w' => w' = w ∧ out = (all.take i).map f) (g := g) (c := c) (e := e) (ρ0 := ρ0) (all := all) ⟨rfl, by simp⟩ (fun i t out w' ht p => by
    obtain ⟨rfl, rfl⟩ := p
    obtain ⟨hi, hx⟩ := List.getElem?_eq_some_iff.mp ht
    obtain ⟨ρ1, a, b, d⟩ := h t (List.mem_of_getElem? ht)
    refine ⟨ρ1, _, a, .inl ⟨_, _, _, b, d, by simp; omega, rfl, ?_⟩⟩
    rw [List.take_add_one, ht, List.map_append]
    rfl)
  rw [e1, e2, e3, List.take_length]
/-- .. some left out -/
theorem compL_filter {c : MT} {e : ME} {ρ0 : Env} (p : T → Bool) (f : T → T) (hl : all.length < 16777216) (h : ∀ t ∈ all, ∃ ρ1, g t ρ0 w = .ok ρ1 w ∧ c ρ1 w = .ok (p t) w ∧ (p t = true → e ρ1 w = .ok (f t) w)) : compL g c e none all ρ0 all [] w = .ok ((all.filter p).map f) w := by
  obtain ⟨out, w', e1, e2, e3⟩ := compL_run (w := w) (P := fun i out w' => w' = w ∧ out = ((all.take i).filter p).map f) (g := g) (c := c) (e := e) (ρ0 := ρ0) (all := all) ⟨rfl, by simp⟩ (fun i t out w' ht q => by
    obtain ⟨rfl, rfl⟩ := q
    obtain ⟨hi, hx⟩ := List.getElem?_eq_some_iff.mp ht
    obtain ⟨ρ1, a, b, d⟩ := h t (List.mem_of_getElem? ht)
    refine ⟨ρ1, _, a, ?_⟩
    cases hp : p t with
    | true =>
      refine .inl ⟨_, _, _, by rw [b, hp], d hp, ?_, rfl, ?_⟩
      · have h1 := List.length_filter_le p (all.take i)
        have h2 := List.length_take_le i all
        simp only [List.length_map]
        omega
      · rw [List.take_add_one, ht, List.filter_append, List.map_append]
        simp [hp]
    | false =>
      refine .inr ⟨_, by rw [b, hp], rfl, ?_⟩
      rw [List.take_add_one, ht, List.filter_append, List.map_append]
      simp [hp])
  rw [e1, e2, e3, List.take_length]
end
end VS

set_option Elab.async false
set_option linter.all false
set_option maxRecDepth 100000
set_option maxHeartbeats 4000000
namespace VS
open PySem PySem.Spec PyProof.Rows L2
/-! ### draws -/
structure Rng where
  great : List Int
  cells : List Int
  left : Int
  turn : Int
abbrev kG : Key := .inr "great"
abbrev kC : Key := .inr "cells"
abbrev kL : Key := .inr "left"
abbrev kT : Key := .inr "turn"
theorem kGC : (("great" : Str) = "cells") = False := eq_false (by decide +kernel)
theorem kGL : (("great" : Str) = "left") = False := eq_false (by decide +kernel)
theorem kGT : (("great" : Str) = "turn") = False := eq_false (by decide +kernel)
theorem kCG : (("cells" : Str) = "great") = False := eq_false (by decide +kernel)
theorem kCL : (("cells" : Str) = "left") = False := eq_false (by decide +kernel)
theorem kCT : (("cells" : Str) = "turn") = False := eq_false (by decide +kernel)
theorem kLG : (("left" : Str) = "great") = False := eq_false (by decide +kernel)
theorem kLC : (("left" : Str) = "cells") = False := eq_false (by decide +kernel)
theorem kLT : (("left" : Str) = "turn") = False := eq_false (by decide +kernel)
theorem kTG : (("turn" : Str) = "great") = False := eq_false (by decide +kernel)
theorem kTC : (("turn" : Str) = "cells") = False := eq_false (by decide +kernel)
theorem kTL : (("turn" : Str) = "left") = False := eq_false (by decide +kernel)
def rdic (r : Rng) : List (Key × T) := [(kG, .cell 0), (kC, .lst (r.cells.map .int)), (kL, .int r.left), (kT, .int r.turn)]
def WD (r : Rng) (rest : World) : World := .lst (r.great.map .int) :: .dic (rdic r) :: rest
section
variable {r : Rng} {rest : World} {i : Int}
theorem val_G : valT (rdic r) kG = some (.cell 0) := by simp [valT, rdic, List.find?_cons]
theorem val_C : valT (rdic r) kC = some (.lst (r.cells.map .int)) := by simp [valT, rdic, List.find?_cons, kGC]
theorem val_L : valT (rdic r) kL = some (.int r.left) := by simp [valT, rdic, List.find?_cons, kGL, kCL]
theorem val_T : valT (rdic r) kT = some (.int r.turn) := by simp [valT, rdic, List.find?_cons, kGT, kCT, kLT]
theorem put_L : putT (rdic r) kL (.int i) = rdic { r with left := i } := by simp [putT, rdic, kGL, kCL, kLT, kTL]
theorem put_T : putT (rdic r) kT (.int i) = rdic { r with turn := i } := by simp [putT, rdic, kGT, kCT, kLT]
theorem rlen : (rdic r).length < sizeLine := by show 4 < sizeLine; rw [sizeLine_eq]; decide
@[simp] theorem ix_G : sIx (.cell 1) (.str "great") (WD r rest) = .ok (.cell 0) (WD r rest) := by
  have := val_G (r := r); simp [sIx, WD, keyT, this]
@[simp] theorem ix_C : sIx (.cell 1) (.str "cells") (WD r rest) = .ok (.lst (r.cells.map .int)) (WD r rest) := by
  have := val_C (r := r); simp [sIx, WD, keyT, this]
@[simp] theorem ix_L : sIx (.cell 1) (.str "left") (WD r rest) = .ok (.int r.left) (WD r rest) := by
  have := val_L (r := r); simp [sIx, WD, keyT, this]
@[simp] theorem ix_T : sIx (.cell 1) (.str "turn") (WD r rest) = .ok (.int r.turn) (WD r rest) := by
  have := val_T (r := r); simp [sIx, WD, keyT, this]
@[simp] theorem set_L : sSet (.cell 1) (.str "left") (.int i) (WD r rest) = .ok () (WD { r with left := i } rest) := by
  have := put_L (r := r) (i := i); simp [sSet, WD, keyT, this, rlen]
@[simp] theorem set_T : sSet (.cell 1) (.str "turn") (.int i) (WD r rest) = .ok () (WD { r with turn := i } rest) := by
  have := put_T (r := r) (i := i); simp [sSet, WD, keyT, this, rlen]
@[simp] theorem at_0 : (WD r rest)[0]? = some (.lst (r.great.map .int)) := rfl
end
/-- r' is r some turns on -/
structure Adv (c : Int) (r r' : Rng) : Prop where
  lo : r.turn ≤ r'.turn
  hi : r'.turn ≤ r.turn + c
def Ok (c : Int) (r : Rng) : Prop := 0 ≤ r.turn ∧ r.turn + c ≤ 35184372088832
theorem Adv.refl {r : Rng} : Adv 0 r r := ⟨by omega, by omega⟩
theorem Adv.trans {c d : Int} {r s t : Rng} (a : Adv c r s) (b : Adv d s t) : Adv (c + d) r t := ⟨by have := a.lo; have := b.lo; omega, by have := a.hi; have := b.hi; omega⟩
theorem Adv.mono {c d : Int} {r s : Rng} (a : Adv c r s) (h : c ≤ d) : Adv d r s := ⟨a.lo, by have := a.hi; omega⟩
theorem Ok.on {c d : Int} {r s : Rng} (o : Ok c r) (a : Adv d r s) (e : Int) (h : d + e ≤ c) : Ok e s := ⟨by have := o.1; have := a.lo; omega, by have := o.2; have := a.hi; omega⟩

theorem shaped_int (i : Int) : SeqAt.shaped (.int i) = true := rfl
@[simp] theorem ne_great {r : Rng} {rest : World} : sNe (.cell 0) (.lst []) (WD r rest) = .ok (.bl (!decide (r.great = []))) (WD r rest) := by
  have e : eqT (WD r rest) (.cell 0) (.lst []) = some (decide (r.great = [])) := by
    rw [eqT_of (pd_cell (at_0 (r := r) (rest := rest))) (by simp [pd, pds]; rfl) (shaped_ints _) rfl]
    show some (PyData.eqvAll (r.great.map .int) (([] : List Int).map .int)) = _
    rw [eqv_ints]
  simp [sNe, e]
theorem pow5 {i : Int} {w : World} (h : i.natAbs < 2 ^ 64) : sPow (.int i) (.int 5) w = .ok (.int (i ^ 5)) w := by
  have : CPow i 5 := ⟨by decide, by decide, h⟩
  simp [sPow, s2I, this]
theorem int3 {P : Int → Prop} {a b c : Int} {i : Nat} {t : T} (ht : ([.int a, .int b, .int c] : List T)[i]? = some t) (ha : P a) (hb : P b) (hc : P c) : ∃ x : Int, t = .int x ∧ P x := by
  match i, ht with
  | 0, ht => cases ht; exact ⟨_, rfl, ha⟩
  | 1, ht => cases ht; exact ⟨_, rfl, hb⟩
  | 2, ht => cases ht; exact ⟨_, rfl, hc⟩
theorem ints_at {ns : List Int} {i : Nat} {t : T} (ht : (ns.map T.int)[i]? = some t) : ∃ x : Int, t = .int x ∧ ns[i]? = some x := by
  rw [List.getElem?_map] at ht
  cases q : ns[i]? with
  | none => rw [q] at ht; cases ht
  | some x => rw [q] at ht; cases ht; exact ⟨x, rfl, rfl⟩
theorem blended_ok {r : Rng} {rest : World} (o : Ok 1 r) : ∃ q, s__law_blended [.cell 1] (WD r rest) = .ok (.int q) (WD { r with turn := r.turn + 1 } rest) := by
  obtain ⟨o1, o2⟩ := o
  unfold s__law_blended m__law_blended runB
  have h3 : (3 : Nat) ≤ sizeLine := by rw [sizeLine_eq]; decide
  simp [h3]
  generalize hL : forL (mgName 2) _ _ _ _ _ _ = L
  obtain ⟨ρ', w', e, rfl, a, f, c, d, rfl⟩ : ∃ ρ' w', L = .ok (ρ', .nx) w' ∧ w' = WD { r with turn := r.turn + 1 } rest ∧ ∃ a f c d, ρ' = [some (.cell 1), some (.int (r.turn + 1)), a, some (.int f), c, d] := by
    rw [← hL]
    refine forL_run (P := fun i ρ w => w = WD { r with turn := r.turn + 1 } rest ∧ ∃ a f c d, ρ = [some (.cell 1), some (.int (r.turn + 1)), a, some (.int f), c, d]) ⟨rfl, _, _, _, _, rfl⟩ (fun i t ρ w ht p => ?_)
    obtain ⟨rfl, a, f, c, d, rfl⟩ := p
    obtain ⟨pr, rfl, p0, p1⟩ := int3 (P := fun x => 0 < x ∧ x < 2147483648) ht (by decide) (by decide) (by decide)
    simp [sMul_l (i := 40014) ⟨by decide, by decide⟩, sFdiv_ (j := 67) (by decide) (by decide)]
    generalize hM : forL (mgName 5) _ _ _ _ _ _ = M
    obtain ⟨ρ', w', e, rfl, x, d', hx, rfl⟩ : ∃ ρ' w', M = .ok (ρ', .nx) w' ∧ w' = WD { r with turn := r.turn + 1 } rest ∧ ∃ x d, x.natAbs < 2 ^ 64 ∧ ρ' = [some (.cell 1), some (.int (r.turn + 1)), some (.int pr), some (.int f), some (.int x), d] := by
      rw [← hM]
      have hdiv : 0 ≤ pr / 67 ∧ pr / 67 < 2147483648 := by omega
      refine forL_run (P := fun i ρ w => w = WD { r with turn := r.turn + 1 } rest ∧ ∃ x d, x.natAbs < 2 ^ 64 ∧ ρ = [some (.cell 1), some (.int (r.turn + 1)), some (.int pr), some (.int f), some (.int x), d]) ⟨rfl, 40014 * (r.turn + 1) + pr / 67, _, by omega, rfl⟩ (fun i t ρ w ht p => ?_)
      obtain ⟨rfl, x, d, hx, rfl⟩ := p
      obtain ⟨y, rfl, _⟩ := ints_at ht
      simp [sMul_r (j := 69621) ⟨by decide, by decide⟩, sMod_ p0]
      have h1 := Int.emod_nonneg (x * 69621 + y + (r.turn + 1)) (show pr ≠ 0 by omega)
      have h2 := Int.emod_lt_of_pos (x * 69621 + y + (r.turn + 1)) p0
      exact ⟨_, _, ⟨rfl, rfl⟩, rfl, (x * 69621 + y + (r.turn + 1)) % pr, by omega, _, rfl⟩
    rw [e]
    simp [pow5 hx, sMod_ p0, sMul_r (j := 2147483647) ⟨by decide, by decide⟩]
    exact ⟨_, _, ⟨rfl, rfl⟩, rfl, _, _, _, _, rfl⟩
  rw [e]
  simp
theorem draw_ok {r : Rng} {rest : World} {n : Int} (h0 : 0 < n) (h1 : n < 1073741824) (o : Ok 1 r) : ∃ q r', s__law_draw [.cell 1, .int n] (WD r rest) = .ok (.int q) (WD r' rest) ∧ 0 ≤ q ∧ q < n ∧ Adv 1 r r' := by
  -- the world behind the first statement
  have go : ∀ r1 : Rng, Adv 1 r r1 → ∃ q r', (match ((andThen (.ok ([some (T.cell 1), some (T.int n), none], .nx) (WD r1 rest))
            (mSeq (mAsg (mOp2 sMod (mCall sInt (mCons (mOp2 sIx (mVar 0) (mC (.str "left"))) mNil)) (mVar 1)) (mgName 2))
              (mSeq (mAsg (mOp2 sFdiv (mOp2 sIx (mVar 0) (mC (.str "left"))) (mVar 1)) (mgSub sSet (mVar 0) (mC (.str "left")))) (mRet (mVar 2))))) : R (Env × Fl)) with
        | R.ok (fst, Fl.ret t) w' => R.ok t w'
        | R.ok (fst, Fl.nx) w' => R.ok T.non w'
        | x => R.no) = R.ok (T.int q) (WD r' rest) ∧ 0 ≤ q ∧ q < n ∧ Adv 1 r r' := fun r1 a => by
    simp [sMod_ h0, sFdiv_ h0 h1]
    refine ⟨r1.left % n, { r1 with left := r1.left / n }, ⟨rfl, rfl⟩, Int.emod_nonneg _ (by omega), Int.emod_lt_of_pos _ h0, a.lo, a.hi⟩
  unfold s__law_draw m__law_draw runB
  simp
  by_cases hl : r.left = 0
  · rw [if_pos hl]
    by_cases hg : r.great = []
    · rw [if_pos hg]
      obtain ⟨q, e⟩ := blended_ok (rest := rest) o
      rw [e]
      simp
      have := go { r with turn := r.turn + 1, left := q } ⟨by show r.turn ≤ r.turn + 1; omega, by show r.turn + 1 ≤ r.turn + 1; omega⟩
      simpa [sMod_ h0, sFdiv_ h0 h1] using this
    · rw [if_neg hg]
      obtain ⟨x, gs, hgs⟩ : ∃ x gs, r.great = x :: gs := by
        cases h : r.great with
        | nil => exact absurd h hg
        | cons x gs => exact ⟨x, gs, rfl⟩
      have e1 : lst? (WD r rest) (.cell 0) = some (r.great.map .int) := rfl
      have e2 : sPopAt (.cell 0) [.int 0] (WD r rest) = .ok (.int x) (WD { r with great := gs } rest) := by
        simp [sPopAt, WD, hgs, seqIndex?, rdic]
      rw [e1]
      simp [e2]
      have := go { r with great := gs, left := x } ⟨by show r.turn ≤ r.turn; omega, by show r.turn ≤ r.turn + 1; omega⟩
      simpa [sMod_ h0, sFdiv_ h0 h1] using this
  · rw [if_neg hl]
    have := go r ⟨by omega, by omega⟩
    simpa [sMod_ h0, sFdiv_ h0 h1] using this
end VS

set_option Elab.async false
set_option linter.all false
set_option maxRecDepth 100000
set_option maxHeartbeats 4000000
namespace VS
open PySem PySem.Spec PyProof.Rows L2
/-! ### tables as values -/
def Step (n : Int) (t : T) : Prop := ∃ s a : Int, t = .tup [.int s, .int a] ∧ 0 ≤ s ∧ s < n ∧ 0 ≤ a ∧ a ≤ 999999999999999999
def Row (n : Int) (t : T) : Prop := ∃ ss, t = .tup ss ∧ (ss.length : Int) = n ∧ ∀ s ∈ ss, Step n s
def Rows (m n : Int) (rs : List T) : Prop := (rs.length : Int) = m ∧ ∀ r ∈ rs, Row n r
theorem step_mono {n n' : Int} {t : T} (h : Step n t) (e : n ≤ n') : Step n' t := by
  obtain ⟨s, a, rfl, h1, h2, h3, h4⟩ := h
  exact ⟨s, a, rfl, h1, by omega, h3, h4⟩
section
variable {w : World} {i j n m : Int} {ts rs : List T} {t : T}
@[simp] theorem isi_int : sIsi [.int i, .ty "int"] w = .ok (.bl true) w := by simp [sIsi, kindT, kinds, isiB]
@[simp] theorem isi_int_bool : sIsi [.int i, .ty "bool"] w = .ok (.bl false) w := by simp [sIsi, kindT, kinds, isiB]
@[simp] theorem isi_tup : sIsi [.tup ts, .ty "tuple"] w = .ok (.bl true) w := by simp [sIsi, kindT, kinds, isiB]
@[simp] theorem isi_lst_lt : sIsi [.lst ts, .tup [.ty "list", .ty "tuple"]] w = .ok (.bl true) w := by simp [sIsi, kindT, kinds, isiB, tysT]
@[simp] theorem isi_tup_lt : sIsi [.tup ts, .tup [.ty "list", .ty "tuple"]] w = .ok (.bl true) w := by simp [sIsi, kindT, kinds, isiB, tysT]
theorem isi_cell {k : Nat} (h : w[k]? = some (.lst ts)) : sIsi [.cell k, .ty "list"] w = .ok (.bl true) w := by simp [sIsi, kindT, kinds, isiB, h]
theorem two_le : (2 : Nat) ≤ sizeLine := by rw [sizeLine_eq]; decide
theorem zero_le : (0 : Nat) ≤ sizeLine := by omega
theorem one_le : (1 : Nat) ≤ sizeLine := by rw [sizeLine_eq]; decide
theorem le_size {n : Nat} (h : n ≤ 16777216) : n ≤ sizeLine := by rw [sizeLine_eq]; exact h
theorem lt_size {n : Nat} (h : n < 16777216) : n < sizeLine := by rw [sizeLine_eq]; exact h
theorem bls_all : ∀ n : Nat, blsT (List.replicate n (.bl true)) = some (List.replicate n true)
  | 0 => rfl
  | n + 1 => by simp [List.replicate_succ, blsT, bls_all n]
theorem all_true {n : Nat} : sAll [.lst (List.replicate n (.bl true))] w = .ok (.bl true) w := by
  simp [sAll, bls_all]
@[simp] theorem is_number_ok (h1 : -999999999999999999 ≤ i) (h2 : i ≤ 999999999999999999) : s_is_number [.int i] w = .ok (.bl true) w := by
  unfold s_is_number m_is_number runB
  simp [h1, h2]
theorem is_count_ok (h1 : 0 ≤ i) (h2 : i ≤ 999999999999999999) : s_is_count [.int i] w = .ok (.bl true) w := by
  unfold s_is_count m_is_count runB
  have := is_number_ok (w := w) (i := i) (by omega) h2
  simp [this, h1]
theorem is_place_ok (h1 : 0 ≤ i) (h2 : i ≤ 999999999999999999) (h3 : i < n) : s_is_place [.int i, .int n] w = .ok (.bl true) w := by
  unfold s_is_place m_is_place runB
  have := is_count_ok (w := w) h1 h2
  simp [this, h3]
theorem is_tuple_ok (h : (ts.length : Int) = n) : s_is_tuple_of [.tup ts, .int n] w = .ok (.bl true) w := by
  unfold s_is_tuple_of m_is_tuple_of runB
  simp [h]
theorem is_step_ok (h : Step n t) (hn : n ≤ 1000) : s__is_step [t, .int n] w = .ok (.bl true) w := by
  obtain ⟨s, a, rfl, h1, h2, h3, h4⟩ := h
  unfold s__is_step m__is_step runB
  have e1 := is_tuple_ok (w := w) (ts := [.int s, .int a]) (n := 2) rfl
  have e2 := is_place_ok (w := w) h1 (by omega) h2
  have e3 := is_count_ok (w := w) h3 h4
  simp [e1, e2, e3]
theorem compL_true {all out : List T} {g : MG} {c : MT} {e : ME} {ρ0 : Env} (hl : out.length + all.length < 16777216) (h : ∀ t ∈ all, ∃ ρ1, g t ρ0 w = .ok ρ1 w ∧ c ρ1 w = .ok true w ∧ e ρ1 w = .ok (.bl true) w) : ∀ whole : List T, compL g c e none whole ρ0 all out w = .ok (out ++ List.replicate all.length (.bl true)) w := by
  induction all generalizing out with
  | nil => intro whole; unfold compL; rw [if_pos kept_none]; simp
  | cons t ts ih =>
    intro whole
    obtain ⟨ρ1, e1, e2, e3⟩ := h t (.head _)
    unfold compL
    rw [if_pos kept_none, e1, bind_ok', e2, bind_ok', if_pos rfl, e3, bind_ok', if_pos (by rw [sizeLine_eq]; simp at hl; omega)]
    rw [ih (by simp at hl ⊢; omega) (fun t ht => h t (.tail _ ht))]
    simp [List.replicate_succ]
theorem rows_first (h : Rows m n rs) (hm : 1 ≤ m) : ∃ ss rest, rs = .tup ss :: rest ∧ (ss.length : Int) = n ∧ ∀ s ∈ ss, Step n s := by
  obtain ⟨h1, h2⟩ := h
  cases rs with
  | nil => simp at h1; omega
  | cons r rs =>
    obtain ⟨ss, rfl, h3, h4⟩ := h2 r (.head _)
    exact ⟨ss, rs, rfl, h3, h4⟩
theorem comp2_steps {rs out : List T} {ρ0 : Env} {a : T} (hρ : ρ0 = [some a, some (.int n), none, none]) (hn : n ≤ 1000) (hl : out.length + rs.length * 1000 < 16777216) (h : ∀ r ∈ rs, Row n r) : ∀ whole : List T, ∃ k, compL2 (mgName 2) mYes (mItems (mVar 2)) [3] (mgName 3) mYes (mDef 2 s__is_step (mCons (mVar 3) (mCons (mVar 1) mNil))) none whole ρ0 rs out w = .ok (out ++ List.replicate k (.bl true)) w := by
  induction rs generalizing out with
  | nil => intro whole; refine ⟨0, ?_⟩; unfold compL2; rw [if_pos kept_none]; simp
  | cons r rs ih =>
    intro whole
    obtain ⟨ss, rfl, h1, h2⟩ := h r (.head _)
    subst hρ
    simp only [List.length_cons] at hl
    have hs : ss.length ≤ 1000 := by omega
    have e := compL_true (w := w) (all := ss) (out := out) (g := mgName 3) (c := mYes) (e := mDef 2 s__is_step (mCons (mVar 3) (mCons (mVar 1) mNil))) (ρ0 := [some a, some (.int n), some (.tup ss), none]) (by omega) (fun t ht => ⟨[some a, some (.int n), some (.tup ss), some t], by simp, rfl, by
      have := is_step_ok (w := w) (h2 t ht) hn
      simp [this]⟩) ss
    obtain ⟨k, ek⟩ := ih (out := out ++ List.replicate ss.length (.bl true)) (by simp; omega) (fun r hr => h r (.tail _ hr)) whole
    refine ⟨ss.length + k, ?_⟩
    unfold compL2
    rw [if_pos kept_none]
    simp [wipeE]
    rw [e, bind_ok', ek]
    rw [List.append_assoc, List.replicate_append_replicate]
theorem is_table_ok (h : Rows m n rs) (hm : 1 ≤ m) (hm' : m ≤ 12) (hn : 1 ≤ n) (hn' : n ≤ 30) : s_is_table [.tup rs] w = .ok (.bl true) w := by
  obtain ⟨ss, rest, er, h1, h2⟩ := rows_first h hm
  obtain ⟨h3, h4⟩ := h
  unfold s_is_table m_is_table runB
  have hf : (rs[(0 : Int).toNat]?) = some (.tup ss) := by rw [er]; rfl
  have ix := sIx_tup (w := w) hf (by decide)
  have e1 := compL_true (w := w) (all := rs) (out := []) (g := mgName 2) (c := mYes) (e := mDef 2 s_is_tuple_of (mCons (mVar 2) (mCons (mVar 1) mNil))) (ρ0 := [some (.tup rs), some (.int n), none, none]) (by simp; omega) (fun t ht => by
    obtain ⟨us, rfl, h5, h6⟩ := h4 t ht
    exact ⟨[some (.tup rs), some (.int n), some (.tup us), none], by simp, rfl, by
      have := is_tuple_ok (w := w) h5
      simp [this]⟩) rs
  obtain ⟨k, e2⟩ := comp2_steps (w := w) (rs := rs) (out := []) (a := .tup rs) (n := n) rfl (by omega) (by simp; omega) h4 rs
  have c1 : 1 ≤ (rs.length : Int) := by omega
  have c2 : (rs.length : Int) ≤ 12 := by omega
  simp [ix, h1, h3, hm, hm', hn, hn', wipeE]
  rw [e1]
  simp [all_true, mComp2, wipeE]
  rw [e2]
  simp [all_true]
theorem check_table_ok (h : Rows m n rs) (hm : 1 ≤ m) (hm' : m ≤ 12) (hn : 1 ≤ n) (hn' : n ≤ 30) : s_check_table [.tup rs] w = .ok .non w := by
  unfold s_check_table m_check_table runB
  have := is_table_ok (w := w) h hm hm' hn hn'
  simp [this]
/-! one deed -/
def stepAt (rs : List T) (d s : Int) : Int × Int := match rs[d.toNat]? with
  | some (.tup ss) => match ss[s.toNat]? with
    | some (.tup [.int s', .int a]) => (s', a)
    | _ => (0, 0)
  | _ => (0, 0)
theorem stepAt_ok {d s : Int} (h : Rows m n rs) (h0 : 0 ≤ d) (h1 : d < m) (h2 : 0 ≤ s) (h3 : s < n) : ∃ ss, (∀ w : World, sIx (.tup rs) (.int d) w = .ok (.tup ss) w ∧ sIx (.tup ss) (.int s) w = .ok (.tup [.int (stepAt rs d s).1, .int (stepAt rs d s).2]) w) ∧ 0 ≤ (stepAt rs d s).1 ∧ (stepAt rs d s).1 < n ∧ 0 ≤ (stepAt rs d s).2 ∧ (stepAt rs d s).2 ≤ 999999999999999999 := by
  obtain ⟨h4, h5⟩ := h
  have hd : d.toNat < rs.length := by omega
  have e1 : rs[d.toNat]? = some rs[d.toNat] := by simp [hd]
  obtain ⟨ss, e2, h6, h7⟩ := h5 rs[d.toNat] (by simp)
  have hs : s.toNat < ss.length := by omega
  have e3 : ss[s.toNat]? = some ss[s.toNat] := by simp [hs]
  obtain ⟨s', a, e4, q⟩ := h7 ss[s.toNat] (by simp)
  have e : stepAt rs d s = (s', a) := by
    unfold stepAt
    rw [e1, e2]
    simp only
    rw [e3, e4]
  rw [e]
  refine ⟨ss, fun w => ⟨sIx_tup (by rw [e1, e2]) h0, sIx_tup (by rw [e3, e4]) h2⟩, q⟩
def runAll (rs : List T) : Int → List Int → Int
  | s, [] => s
  | s, d :: ds => runAll rs (stepAt rs d s).1 ds
def answers (rs : List T) : Int → List Int → List Int
  | _, [] => []
  | s, d :: ds => (stepAt rs d s).2 :: answers rs (stepAt rs d s).1 ds
def Deeds (m : Int) (ds : List Int) : Prop := ds.length ≤ 1000 ∧ ∀ d ∈ ds, 0 ≤ d ∧ d < m
theorem run_snoc (rs : List T) : ∀ (ds : List Int) (s d : Int), runAll rs s (ds ++ [d]) = (stepAt rs d (runAll rs s ds)).1
  | [], s, d => rfl
  | e :: ds, s, d => by simp [runAll, run_snoc rs ds]
theorem ans_snoc (rs : List T) : ∀ (ds : List Int) (s d : Int), answers rs s (ds ++ [d]) = answers rs s ds ++ [(stepAt rs d (runAll rs s ds)).2]
  | [], s, d => rfl
  | e :: ds, s, d => by simp [runAll, answers, ans_snoc rs ds]
theorem run_append (rs : List T) : ∀ (ds es : List Int) (s : Int), runAll rs s (ds ++ es) = runAll rs (runAll rs s ds) es
  | [], es, s => rfl
  | d :: ds, es, s => by simp [runAll, run_append rs ds es]
theorem ans_append (rs : List T) : ∀ (ds es : List Int) (s : Int), answers rs s (ds ++ es) = answers rs s ds ++ answers rs (runAll rs s ds) es
  | [], es, s => rfl
  | d :: ds, es, s => by simp [runAll, answers, ans_append rs ds es]
theorem ans_len (rs : List T) : ∀ (ds : List Int) (s : Int), (answers rs s ds).length = ds.length
  | [], s => rfl
  | d :: ds, s => by simp [answers, ans_len rs ds]
theorem run_in (h : Rows m n rs) : ∀ (ds : List Int) (s : Int), (∀ d ∈ ds, 0 ≤ d ∧ d < m) → 0 ≤ s → s < n → 0 ≤ runAll rs s ds ∧ runAll rs s ds < n
  | [], s, _, h1, h2 => ⟨h1, h2⟩
  | d :: ds, s, hd, h1, h2 => by
    obtain ⟨_, _, h3, h4, _⟩ := stepAt_ok h (hd d (.head _)).1 (hd d (.head _)).2 h1 h2
    exact run_in h ds _ (fun d hx => hd d (.tail _ hx)) h3 h4
end
end VS

set_option Elab.async false
set_option linter.all false
set_option maxRecDepth 100000
set_option maxHeartbeats 4000000
namespace VS
open PySem PySem.Spec PyProof.Rows L2
section
variable {w : World} {i j n m s : Int} {ts rs : List T} {t : T} {ds : List Int}
theorem last_at {w : World} {c : Cell} : (w ++ [c])[w.length]? = some c := by simp
theorem take_snoc {α : Type} {ds : List α} {i : Nat} {d : α} (h : ds[i]? = some d) : ds.take (i + 1) = ds.take i ++ [d] := by
  rw [List.take_add_one, h]; rfl
theorem take_in {ds : List Int} (h : ∀ d ∈ ds, 0 ≤ d ∧ d < m) (i : Nat) : ∀ d ∈ ds.take i, 0 ≤ d ∧ d < m := fun d hd => h d (List.mem_of_mem_take hd)
@[simp] theorem forL_nil {g : MG} {b : MS} {oc : Option Nat} {all : List T} {ρ : Env} (h : Kept oc all w) : forL g b oc all [] ρ w = .ok (ρ, .nx) w := by unfold forL; rw [if_pos h]
theorem run_ok (h : Rows m n rs) (hd : Deeds m ds) (h0 : 0 ≤ s) (hs : s < n) : s__law_tt_run [.tup rs, .int s, .lst (ds.map T.int)] w = .ok (.tup [.int (runAll rs s ds), .cell w.length]) (w ++ [.lst ((answers rs s ds).map T.int)]) := by
  unfold s__law_tt_run m__law_tt_run runB
  simp
  generalize hL : forL (mgName 3) _ _ _ _ _ _ = L
  obtain ⟨ρ', w', e, rfl, a, rfl⟩ : ∃ ρ' w', L = .ok (ρ', .nx) w' ∧ w' = w ++ [.lst ((answers rs s (ds.take (ds.map T.int).length)).map T.int)] ∧ ∃ a, ρ' = [some (.tup rs), some (.int s), some (.lst (ds.map T.int)), a, some (.int (runAll rs s (ds.take (ds.map T.int).length))), some (.cell w.length)] := by
    rw [← hL]
    refine forL_run (P := fun i ρ w' => w' = w ++ [.lst ((answers rs s (ds.take i)).map T.int)] ∧ ∃ a, ρ = [some (.tup rs), some (.int s), some (.lst (ds.map T.int)), a, some (.int (runAll rs s (ds.take i))), some (.cell w.length)]) ⟨rfl, _, rfl⟩ (fun i t ρ w' ht p => ?_)
    obtain ⟨rfl, a, rfl⟩ := p
    obtain ⟨d, rfl, hi⟩ := ints_at ht
    have hdd := hd.2 d (List.mem_of_getElem? hi)
    obtain ⟨r0, r1⟩ := run_in h (ds.take i) s (take_in hd.2 i) h0 hs
    obtain ⟨ss, q, _⟩ := stepAt_ok h hdd.1 hdd.2 r0 r1
    have e1 := fun w => (q w).1
    have e2 := fun w => (q w).2
    have e3 := append_cell (t := .int (stepAt rs d (runAll rs s (ds.take i))).2) (last_at (w := w) (c := .lst ((answers rs s (ds.take i)).map T.int))) (by
      rw [List.length_map, ans_len]
      have := List.length_take_le' i ds
      have := hd.1
      omega)
    have e4 := lst_cell (last_at (w := w) (c := .lst ((answers rs s (ds.take i)).map T.int)))
    simp only [mSeq_, mAsg_, mOp2_, mVar0, mVarS, mC_, mgName_, bind_ok', List.set_cons_zero, List.set_cons_succ, e1, e2, sIx_0, sIx_1, then_nx, mDrop_, mMeth_, e4, mCons_, mNil_, e3]
    rw [take_snoc hi, run_snoc, ans_snoc]
    exact ⟨_, _, rfl, by simp, _, rfl⟩
  rw [e]
  simp [two_le]
end
end VS

set_option Elab.async false
set_option linter.all false
set_option maxRecDepth 100000
set_option maxHeartbeats 4000000
namespace VS
open PySem PySem.Spec PyProof.Rows L2
/-! ### values that hold no cell -/
def Plain (k : Nat) (t : T) : Prop := ∃ d, pd0 t = some d ∧ (∀ w, pd w t = some d) ∧ d.canLay0 = true ∧ d.depth ≤ k
def Plains (k : Nat) (ts : List T) : Prop := ∃ ds, pds0 ts = some ds ∧ (∀ w, pds w ts = some ds) ∧ PyData.canLayAll0 ds = true ∧ PyData.depthAll ds ≤ k
theorem plain_int {i : Int} : Plain 1 (.int i) := ⟨.int i, by simp [pd0], fun w => by simp [pd], rfl, by simp [PyData.depth]⟩
theorem plains_of {k : Nat} : ∀ {ts : List T}, (∀ t ∈ ts, Plain k t) → Plains k ts
  | [], _ => ⟨[], rfl, fun w => by simp [pds], rfl, by simp [PyData.depthAll]⟩
  | t :: ts, h => by
    obtain ⟨d, h1, h2, h3, h4⟩ := h t (.head _)
    obtain ⟨ds, g1, g2, g3, g4⟩ := plains_of (fun s hs => h s (.tail _ hs))
    refine ⟨d :: ds, by simp [pds0, h1, g1], fun w => by simp [pds, h2 w, g2 w], by simp [PyData.canLayAll0, h3, g3], ?_⟩
    simp [PyData.depthAll]
    omega
theorem plain_tup {k : Nat} {ts : List T} (h : ∀ t ∈ ts, Plain k t) : Plain (k + 1) (.tup ts) := by
  obtain ⟨ds, g1, g2, g3, g4⟩ := plains_of h
  refine ⟨.tuple ds, by simp [pd0, g1], fun w => by simp [pd, g2 w], by simp [PyData.canLay0, g3], ?_⟩
  simp [PyData.depth]
  omega
theorem plain_mono {k l : Nat} {t : T} (h : Plain k t) (e : k ≤ l) : Plain l t := by
  obtain ⟨d, h1, h2, h3, h4⟩ := h
  exact ⟨d, h1, h2, h3, by omega⟩
theorem step_plain {n : Int} {t : T} (h : Step n t) : Plain 2 t := by
  obtain ⟨s, a, rfl, _⟩ := h
  exact plain_tup (fun t ht => by simp at ht; rcases ht with rfl | rfl <;> exact plain_int)
theorem row_plain {n : Int} {t : T} (h : Row n t) : Plain 3 t := by
  obtain ⟨ss, rfl, _, h⟩ := h
  exact plain_tup (fun t ht => step_plain (h t ht))
theorem eqvAll_nil : ∀ ds : List PyData, PyData.eqvAll ds [] = decide (ds = [])
  | [] => by simp [PyData.eqvAll]
  | d :: ds => by simp [PyData.eqvAll]
theorem pds0_nil : ∀ {ts : List T} {ds : List PyData}, pds0 ts = some ds → (ds = [] ↔ ts = [])
  | [], ds, h => by cases h; simp
  | t :: ts, ds, h => by
    obtain ⟨d, r, rfl, _, _⟩ := pds0_cons h
    simp
theorem ne_nil {w : World} {k : Nat} {ts : List T} (hk : w[k]? = some (.lst ts)) (h : ∀ t ∈ ts, Plain 50 t) : sNe (.cell k) (.lst []) w = .ok (.bl (!decide (ts = []))) w := by
  obtain ⟨ds, g1, g2, g3, g4⟩ := plains_of h
  have e : eqT w (.cell k) (.lst []) = some (decide (ts = [])) := by
    rw [eqT_of (d := .list ds) (e := .list []) (by simp [pd, hk, g1]) (by simp [pd, pds]) (by simp [SeqAt.shaped, PyData.canLay0, g3, PyData.depth]; omega) rfl]
    show some (PyData.eqvAll ds []) = _
    rw [eqvAll_nil]
    congr 1
    exact decide_eq_decide.mpr (pds0_nil g1)
  simp [sNe, e]
/-! no cells -/
mutual
theorem flat_of : ∀ {t : T} {d : PyData}, pd0 t = some d → ∀ n, NoRef n t
  | .non, _, _, n => by unfold NoRef; trivial
  | .bl _, _, _, n => by unfold NoRef; trivial
  | .int _, _, _, n => by unfold NoRef; trivial
  | .str _, _, _, n => by unfold NoRef; trivial
  | .ty _, _, _, n => by unfold NoRef; trivial
  | .tup ts, d, h, n => by unfold pd0 at h; obtain ⟨ds, h, _⟩ := map_some h; unfold NoRef; exact flats_of h n
  | .lst ts, d, h, n => by unfold pd0 at h; obtain ⟨ds, h, _⟩ := map_some h; unfold NoRef; exact flats_of h n
  | .frz ts, d, h, n => by unfold pd0 at h; obtain ⟨ds, h, _⟩ := map_some h; unfold NoRef; exact flats_of h n
  | .rng _, d, h, n => by cases h
  | .cell k, d, h, n => by cases h
theorem flats_of : ∀ {ts : List T} {ds : List PyData}, pds0 ts = some ds → ∀ n, NoRefs n ts
  | [], _, _, n => by unfold NoRefs; trivial
  | t :: ts, ds, h, n => by
    obtain ⟨d, r, rfl, h1, h2⟩ := pds0_cons h
    unfold NoRefs
    exact ⟨flat_of h1 n, flats_of h2 n⟩
end
mutual
theorem mapC_id {g : Nat → T} : ∀ {t : T}, NoRef 0 t → mapC g t = t
  | .non, _ => rfl
  | .bl _, _ => rfl
  | .int _, _ => rfl
  | .str _, _ => rfl
  | .ty _, _ => rfl
  | .tup ts, h => by unfold NoRef at h; unfold mapC; rw [mapCs_id h]
  | .lst ts, h => by unfold NoRef at h; unfold mapC; rw [mapCs_id h]
  | .frz ts, h => by unfold NoRef at h; unfold mapC; rw [mapCs_id h]
  | .rng _, _ => rfl
  | .cell k, h => by unfold NoRef at h; omega
theorem mapCs_id {g : Nat → T} : ∀ {ts : List T}, NoRefs 0 ts → mapCs g ts = ts
  | [], _ => rfl
  | t :: ts, h => by unfold NoRefs at h; unfold mapCs; rw [mapC_id h.1, mapCs_id h.2]
end
theorem fz_id {n : Nat} {w : World} : ∀ (f : Nat) {t : T}, NoRef 0 t → fz n w f t = t
  | 0, t, h => rfl
  | f + 1, t, h => by unfold fz; exact mapC_id h
theorem plain_flat {k : Nat} {t : T} (h : Plain k t) (n : Nat) : NoRef n t := by obtain ⟨d, h1, _⟩ := h; exact flat_of h1 n
theorem plains_flat {k : Nat} : ∀ {ts : List T}, (∀ t ∈ ts, Plain k t) → ∀ n, NoRefs n ts
  | [], _, n => by unfold NoRefs; trivial
  | t :: ts, h, n => by unfold NoRefs; exact ⟨plain_flat (h t (.head _)) n, plains_flat (fun s hs => h s (.tail _ hs)) n⟩
theorem ints_flat : ∀ (ns : List Int) (n : Nat), NoRefs n (ns.map T.int)
  | [], n => by unfold NoRefs; trivial
  | i :: ns, n => by simp only [List.map_cons]; unfold NoRefs; exact ⟨by unfold NoRef; trivial, ints_flat ns n⟩
theorem gcok_app {w ex : World} : GcOk w (w ++ ex) := ⟨by simp, fun k c hk h => .inl (by rw [List.getElem?_append_left hk] at h; exact h)⟩
theorem gcok_WD {r r' : Rng} {rest ex : World} : GcOk (WD r rest) (WD r' (rest ++ ex)) := by
  refine ⟨by simp [WD], fun k c hk h => ?_⟩
  match k with
  | 0 =>
    right
    cases h
    exact ints_flat _ _
  | 1 =>
    right
    cases h
    show NoRefs _ [T.cell 0, .lst (r'.cells.map .int), .int r'.left, .int r'.turn]
    unfold NoRefs
    refine ⟨by unfold NoRef; simp [WD], ?_⟩
    unfold NoRefs
    refine ⟨by unfold NoRef; exact ints_flat _ _, ?_⟩
    unfold NoRefs
    refine ⟨by unfold NoRef; trivial, ?_⟩
    unfold NoRefs
    refine ⟨by unfold NoRef; trivial, by unfold NoRefs; trivial⟩
  | k + 2 =>
    left
    have e : (WD r' (rest ++ ex))[k + 2]? = (rest ++ ex)[k]? := rfl
    rw [e] at h
    show rest[k]? = some c
    have hk' : k < rest.length := by simp [WD] at hk; exact hk
    rw [List.getElem?_append_left hk'] at h
    exact h
theorem gc_of {f : Sem} {ds : List T} {w w' w0 : World} {t t' : T} (e : f ds w = .ok t w') (g : GcOk w w') (ht : fz w.length w' 3 t = t') (hn : NoRef w.length t') (hw : w'.take w.length = w0) : gc f ds w = .ok t' w0 := by
  unfold gc
  rw [e]
  unfold gcR
  simp only
  rw [if_pos ⟨g, by rw [ht]; exact hn⟩, ht, hw]
theorem take_WD {r r' : Rng} {rest ex : World} : (WD r' (rest ++ ex)).take (WD r rest).length = WD r' rest := by
  simp [WD]
theorem WD_len {r : Rng} {rest : World} : (WD r rest).length = rest.length + 2 := rfl
/-- a value without cells comes back -/
theorem gc_flat {f : Sem} {ds : List T} {r r' : Rng} {rest ex : World} {t : T} {k : Nat} (e : f ds (WD r rest) = .ok t (WD r' (rest ++ ex))) (h : Plain k t) : gc f ds (WD r rest) = .ok t (WD r' rest) :=
  gc_of e gcok_WD (fz_id 3 (plain_flat h 0)) (plain_flat h _) take_WD
theorem gc_flat0 {f : Sem} {ds : List T} {w ex : World} {t : T} {k : Nat} (e : f ds w = .ok t (w ++ ex)) (h : Plain k t) : gc f ds w = .ok t w :=
  gc_of e gcok_app (fz_id 3 (plain_flat h 0)) (plain_flat h _) (by simp)
/-- a list that was made here comes back as it is -/
theorem gc_list {f : Sem} {ds : List T} {r r' : Rng} {rest ex : World} {ts : List T} {k j : Nat} (e : f ds (WD r rest) = .ok (.cell (rest.length + 2 + j)) (WD r' (rest ++ ex))) (hj : ex[j]? = some (.lst ts)) (h : ∀ t ∈ ts, Plain k t) : gc f ds (WD r rest) = .ok (.lst ts) (WD r' rest) := by
  have hw : (WD r' (rest ++ ex))[rest.length + 2 + j]? = some (.lst ts) := by
    have : rest.length + 2 + j = (rest.length + j) + 2 := by omega
    rw [this]
    show (rest ++ ex)[rest.length + j]? = _
    rw [List.getElem?_append_right (by omega)]
    simpa using hj
  refine gc_of e gcok_WD ?_ (t' := .lst ts) (by unfold NoRef; exact plains_flat h _) take_WD
  unfold fz
  unfold mapC
  rw [if_neg (by rw [WD_len]; omega), hw]
  simp only
  congr 1
  have : ∀ us : List T, (∀ t ∈ us, Plain k t) → us.map (fz (WD r rest).length (WD r' (rest ++ ex)) 2) = us := fun us => by
    induction us with
    | nil => intro _; rfl
    | cons u us ih =>
      intro h
      rw [List.map_cons, fz_id 2 (plain_flat (h u (.head _)) 0), ih (fun s hs => h s (.tail _ hs))]
  exact this ts h
/-! ### one of several -/
section
variable {r : Rng} {rest : World} {ts : List T} {n : Int}
theorem at_draw {q : Int} (h0 : 0 ≤ q) (h1 : q < (ts.length : Int)) : ∃ t, ts[q.toNat]? = some t ∧ t ∈ ts := by
  have : q.toNat < ts.length := by omega
  exact ⟨ts[q.toNat], by simp [this], List.getElem_mem this⟩
theorem pick_lst (h0 : 0 < ts.length) (h1 : ts.length < 1073741824) (o : Ok 1 r) : ∃ t r', s__law_pick [.cell 1, .lst ts] (WD r rest) = .ok t (WD r' rest) ∧ t ∈ ts ∧ Adv 1 r r' := by
  obtain ⟨q, r', e, q0, q1, a⟩ := draw_ok (rest := rest) (n := ts.length) (by omega) (by omega) o
  obtain ⟨t, ht, hm⟩ := at_draw q0 q1
  refine ⟨t, r', ?_, hm, a⟩
  unfold s__law_pick m__law_pick runB
  simp [e, sIx_lst ht q0]
theorem pick_tup (h0 : 0 < ts.length) (h1 : ts.length < 1073741824) (o : Ok 1 r) : ∃ t r', s__law_pick [.cell 1, .tup ts] (WD r rest) = .ok t (WD r' rest) ∧ t ∈ ts ∧ Adv 1 r r' := by
  obtain ⟨q, r', e, q0, q1, a⟩ := draw_ok (rest := rest) (n := ts.length) (by omega) (by omega) o
  obtain ⟨t, ht, hm⟩ := at_draw q0 q1
  refine ⟨t, r', ?_, hm, a⟩
  unfold s__law_pick m__law_pick runB
  simp [e, sIx_tup ht q0]
end
end VS

set_option Elab.async false
set_option linter.all false
set_option maxRecDepth 100000
set_option maxHeartbeats 4000000
namespace VS
open PySem PySem.Spec PyProof.Rows L2
section
variable {r : Rng} {rest ex : World} {ts : List T} {n : Int} {c : Cell} {j : Nat}
theorem at_WD : (WD r rest)[j + 2]? = rest[j]? := rfl
theorem set_WD : (WD r rest).set (j + 2) c = WD r (rest.set j c) := rfl
theorem at_app : (rest ++ ex)[rest.length + j]? = ex[j]? := by
  rw [List.getElem?_append_right (by omega)]; congr 1; omega
theorem set_app : (rest ++ ex).set (rest.length + j) c = rest ++ ex.set j c := by
  rw [List.set_append_right (s := rest) (h := by omega)]
  congr 2
  omega
theorem wd2 : (WD r (rest ++ ex))[rest.length + 2]? = ex[0]? := (at_WD (j := rest.length)).trans (at_app (j := 0))
theorem wd3 : (WD r (rest ++ ex))[rest.length + 3]? = ex[1]? := (at_WD (j := rest.length + 1)).trans (at_app (j := 1))
theorem ws2 : (WD r (rest ++ ex)).set (rest.length + 2) c = WD r (rest ++ ex.set 0 c) := (set_WD (j := rest.length)).trans (congrArg (WD r) (set_app (j := 0)))
theorem ws3 : (WD r (rest ++ ex)).set (rest.length + 3) c = WD r (rest ++ ex.set 1 c) := (set_WD (j := rest.length + 1)).trans (congrArg (WD r) (set_app (j := 1)))
theorem erase_perm : ∀ {l : List T} {i : Nat} {t : T}, l[i]? = some t → (t :: l.eraseIdx i).Perm l
  | a :: l, 0, t, h => by cases h; exact .refl _
  | a :: l, i + 1, t, h => by
    have := erase_perm (l := l) (i := i) h
    exact (List.Perm.swap a t _).trans (this.cons a)
  | [], i, t, h => by cases h
theorem seq_index {q : Int} {m : Nat} (h0 : 0 ≤ q) (h1 : q < (m : Int)) : seqIndex? q m = some q.toNat := by
  unfold seqIndex?
  have h2 : ¬ q < 0 := by omega
  simp [h0, h1, h2]
abbrev mixEnv (rest : World) (sv : T) : Env := [some (.cell 1), some sv, some (.cell (rest.length + 3)), some (.cell (rest.length + 2))]
theorem mixed_loop {sv : T} {k : Nat} (hk : k ≤ 50) (hp : ∀ t ∈ ts, Plain k t) (hs : ts.length < 1000000) : ∀ (m : Nat) (left found : List T) (r : Rng) (fuel : Nat), left.length = m → (found ++ left).Perm ts → m < fuel → Ok m r →
    ∃ out r', whl (mTest (mOp2 sNe (mVar 3) (mVal (mLst mNil)))) (mDrop (mMeth sAppend (mVar 2) (mCons (mMeth sPopAt (mVar 3) (mCons (mDef 2 s__law_draw (mCons (mVar 0) (mCons (mCall sLen (mCons (mVar 3) mNil)) mNil))) mNil)) mNil))) fuel (mixEnv rest sv) (WD r (rest ++ [.lst left, .lst found])) = .ok (mixEnv rest sv, .nx) (WD r' (rest ++ [.lst [], .lst out])) ∧ out.Perm ts ∧ Adv m r r'
  | m, left, found, r, 0, hl, pm, hf, o => absurd hf (by omega)
  | 0, left, found, r, fuel + 1, hl, pm, hf, o => by
    have : left = [] := List.eq_nil_of_length_eq_zero hl
    subst this
    have e := ne_nil (w := WD r (rest ++ [.lst [], .lst found])) (k := rest.length + 2) (ts := []) wd2 (fun t ht => nomatch ht)
    refine ⟨found, r, ?_, by simpa using pm, Adv.refl⟩
    unfold whl
    simp [e]
  | m + 1, left, found, r, fuel + 1, hl, pm, hf, o => by
    have hm : ∀ t ∈ left, t ∈ ts := fun t ht => pm.mem_iff.mp (List.mem_append_right _ ht)
    have hlen : found.length + left.length = ts.length := by rw [← List.length_append]; exact pm.length_eq
    have e := ne_nil (w := WD r (rest ++ [.lst left, .lst found])) (k := rest.length + 2) (ts := left) wd2 (fun t ht => plain_mono (hp t (hm t ht)) hk)
    have el := sLen_cell (w := WD r (rest ++ [.lst left, .lst found])) (k := rest.length + 2) (ts := left) wd2
    have hne : left ≠ [] := fun h => by rw [h] at hl; cases hl
    obtain ⟨q, r1, e1, q0, q1, a⟩ := draw_ok (rest := rest ++ [.lst left, .lst found]) (r := r) (n := left.length) (by omega) (by omega) ⟨o.1, by have := o.2; omega⟩
    obtain ⟨t, ht, htm⟩ := at_draw q0 q1
    have e2 : sPopAt (.cell (rest.length + 2)) [.int q] (WD r1 (rest ++ [.lst left, .lst found])) = .ok t (WD r1 (rest ++ [.lst (left.eraseIdx q.toNat), .lst found])) := by
      unfold sPopAt
      simp only [wd2]
      simp only [List.getElem?_cons_zero]
      rw [if_pos ⟨by omega, by omega⟩, seq_index q0 q1]
      simp only [ht, ws2]
      rfl
    have e3 : sAppend (.cell (rest.length + 3)) [t] (WD r1 (rest ++ [.lst (left.eraseIdx q.toNat), .lst found])) = .ok .non (WD r1 (rest ++ [.lst (left.eraseIdx q.toNat), .lst (found ++ [t])])) := by
      rw [append_cell wd3 (by omega), ws3]
      rfl
    have l1 := lst_cell (w := WD r (rest ++ [.lst left, .lst found])) (k := rest.length + 3) (ts := found) wd3
    have l2 := lst_cell (w := WD r (rest ++ [.lst left, .lst found])) (k := rest.length + 2) (ts := left) wd2
    have pe := erase_perm ht
    obtain ⟨out, r2, e4, p4, a4⟩ := mixed_loop hk hp hs m (left.eraseIdx q.toNat) (found ++ [t]) r1 fuel (by have := pe.length_eq; simp at this; omega) (by
      rw [List.append_assoc]
      exact (List.Perm.append_left found pe).trans pm) (by omega) (o.on a m (by omega))
    refine ⟨out, r2, ?_, p4, (a.trans a4).mono (by omega)⟩
    unfold whl
    simp [e, hne, el, l1, l2, e1, e2, e3]
    exact e4
theorem mixed_ok {sv : T} {k : Nat} (hsv : sv = .lst ts ∨ sv = .tup ts) (hk : k ≤ 50) (hp : ∀ t ∈ ts, Plain k t) (hs : ts.length < 1000000) (o : Ok ts.length r) : ∃ out r', s__law_mixed [.cell 1, sv] (WD r rest) = .ok (.lst out) (WD r' rest) ∧ out.Perm ts ∧ Adv ts.length r r' := by
  obtain ⟨out, r', e, p, a⟩ := mixed_loop (rest := rest) (sv := sv) hk hp hs ts.length ts [] r 1000000 rfl (.refl _) hs o
  refine ⟨out, r', gc_list (ex := [.lst [], .lst out]) (j := 1) ?_ rfl (fun t ht => hp t (p.mem_iff.mp ht)), p, a⟩
  unfold m__law_mixed runB mWhile
  rcases hsv with rfl | rfl
  · simp [WD_len]
    rw [show WD r rest ++ [Cell.lst ts, .lst []] = WD r (rest ++ [Cell.lst ts, .lst []]) from rfl, e]
    simp
  · simp [WD_len]
    rw [show WD r rest ++ [Cell.lst ts, .lst []] = WD r (rest ++ [Cell.lst ts, .lst []]) from rfl, e]
    simp
end
end VS

set_option Elab.async false
set_option linter.all false
set_option maxRecDepth 100000
set_option maxHeartbeats 4000000
namespace VS
open PySem PySem.Spec PyProof.Rows L2
section
variable {r : Rng} {rest : World} {w : World} {all ts : List T} {n m : Int} {g : MG} {c : MT} {e : ME} {b : MS} {ρ0 : Env}
theorem comp_go {P : T → Prop} (h : ∀ t ∈ all, ∃ ρ1 y, g t ρ0 w = .ok ρ1 w ∧ c ρ1 w = .ok true w ∧ e ρ1 w = .ok y w ∧ P y) : ∀ (whole out : List T), out.length + all.length < 16777216 → (∀ y ∈ out, P y) → ∃ out', compL g c e none whole ρ0 all out w = .ok out' w ∧ out'.length = out.length + all.length ∧ ∀ y ∈ out', P y := by
  induction all with
  | nil => intro whole out hl hp; refine ⟨out, ?_, by simp, hp⟩; unfold compL; rw [if_pos kept_none]
  | cons t ts ih =>
    intro whole out hl hp
    obtain ⟨ρ1, y, e1, e2, e3, py⟩ := h t (.head _)
    obtain ⟨out', e4, l4, p4⟩ := ih (fun t ht => h t (.tail _ ht)) whole (out ++ [y]) (by simp at hl ⊢; omega) (fun x hx => by
      rcases List.mem_append.mp hx with hx | hx
      · exact hp x hx
      · simp at hx; subst hx; exact py)
    refine ⟨out', ?_, by simp at l4 ⊢; omega, p4⟩
    unfold compL
    rw [if_pos kept_none, e1, bind_ok', e2, bind_ok', if_pos rfl, e3, bind_ok', if_pos (by rw [sizeLine_eq]; simp at hl; omega), e4]
theorem comp_ex (P : T → Prop) (hl : all.length < 16777216) (h : ∀ t ∈ all, ∃ ρ1 y, g t ρ0 w = .ok ρ1 w ∧ c ρ1 w = .ok true w ∧ e ρ1 w = .ok y w ∧ P y) : ∃ out, compL g c e none all ρ0 all [] w = .ok out w ∧ out.length = all.length ∧ ∀ y ∈ out, P y := by
  obtain ⟨out, e1, l1, p1⟩ := comp_go h all [] (by simpa using hl) (fun _ h => nomatch h)
  exact ⟨out, e1, by simpa using l1, p1⟩
theorem comp_adv_go {P : T → Prop} {k : Int} (hk : 0 ≤ k) (h : ∀ t ∈ all, ∀ r', Ok k r' → ∃ ρ1 y r'', g t ρ0 (WD r' rest) = .ok ρ1 (WD r' rest) ∧ c ρ1 (WD r' rest) = .ok true (WD r' rest) ∧ e ρ1 (WD r' rest) = .ok y (WD r'' rest) ∧ P y ∧ Adv k r' r'') : ∀ (whole out : List T) (r : Rng), out.length + all.length < 16777216 → (∀ y ∈ out, P y) → Ok (k * all.length) r → ∃ out' r', compL g c e none whole ρ0 all out (WD r rest) = .ok out' (WD r' rest) ∧ out'.length = out.length + all.length ∧ (∀ y ∈ out', P y) ∧ Adv (k * all.length) r r' := by
  induction all with
  | nil => intro whole out r hl hp o; refine ⟨out, r, ?_, by simp, hp, Adv.refl.mono (by simp)⟩; unfold compL; rw [if_pos kept_none]
  | cons t ts ih =>
    intro whole out r hl hp o
    have hmul : k * ((t :: ts).length : Int) = k + k * ts.length := by rw [List.length_cons]; push_cast; rw [Int.mul_add]; omega
    have hnn : 0 ≤ k * (ts.length : Int) := Int.mul_nonneg hk (by omega)
    rw [hmul] at o ⊢
    obtain ⟨ρ1, y, r1, e1, e2, e3, py, a1⟩ := h t (.head _) r ⟨o.1, by have := o.2; omega⟩
    obtain ⟨out', r2, e4, l4, p4, a4⟩ := ih (fun t ht => h t (.tail _ ht)) whole (out ++ [y]) r1 (by simp at hl ⊢; omega) (fun x hx => by
      rcases List.mem_append.mp hx with hx | hx
      · exact hp x hx
      · simp at hx; subst hx; exact py) (o.on a1 _ (by omega))
    refine ⟨out', r2, ?_, by simp at l4 ⊢; omega, p4, a1.trans a4⟩
    unfold compL
    rw [if_pos kept_none, e1, bind_ok', e2, bind_ok', if_pos rfl, e3, bind_ok', if_pos (by rw [sizeLine_eq]; simp at hl; omega), e4]
theorem comp_adv (P : T → Prop) (k : Int) (hk : 0 ≤ k) (hl : all.length < 16777216) (o : Ok (k * all.length) r) (h : ∀ t ∈ all, ∀ r', Ok k r' → ∃ ρ1 y r'', g t ρ0 (WD r' rest) = .ok ρ1 (WD r' rest) ∧ c ρ1 (WD r' rest) = .ok true (WD r' rest) ∧ e ρ1 (WD r' rest) = .ok y (WD r'' rest) ∧ P y ∧ Adv k r' r'') : ∃ out r', compL g c e none all ρ0 all [] (WD r rest) = .ok out (WD r' rest) ∧ out.length = all.length ∧ (∀ y ∈ out, P y) ∧ Adv (k * all.length) r r' := by
  obtain ⟨out, r', e1, l1, p1, a⟩ := comp_adv_go hk h all [] r (by simpa using hl) (fun _ h => nomatch h) o
  exact ⟨out, r', e1, by simpa using l1, p1, a⟩
theorem rgT_mem {k : Nat} {t : T} (h : t ∈ rgT 0 k) : ∃ i : Int, t = .int i ∧ 0 ≤ i ∧ i < k := by
  unfold rgT at h
  obtain ⟨i, hi, rfl⟩ := List.mem_map.mp h
  exact ⟨0 + (i : Int), rfl, by omega, by have := List.mem_range.mp hi; omega⟩
/-- a list of states -/
def IRow (n : Int) (t : T) : Prop := ∃ us, t = .lst us ∧ (us.length : Int) = n ∧ ∀ u ∈ us, ∃ x : Int, u = .int x ∧ 0 ≤ x ∧ x < n
theorem rows_snoc {t : T} (h : Rows m n ts) (ht : Row n t) : Rows (m + 1) n (ts ++ [t]) := ⟨by have := h.1; simp; omega, fun x hx => by
  rcases List.mem_append.mp hx with hx | hx
  · exact h.2 x hx
  · simp at hx; subst hx; exact ht⟩
theorem looked_ok (hn0 : 0 ≤ n) (hn : n ≤ 1000) (hd : ts.length ≤ 1000) (h : ∀ t ∈ ts, IRow n t) : ∃ rs, s__law_tt_looked [.lst ts, .int n, .int 0] w = .ok (.tup rs) w ∧ Rows (ts.length + 1) n rs := by
  unfold s__law_tt_looked m__law_tt_looked runB
  simp [wipeE]
  generalize hC : compL _ _ _ _ _ _ _ _ _ = C
  obtain ⟨out, e1, l1, p1⟩ : ∃ out, C = .ok out w ∧ out.length = ts.length ∧ ∀ y ∈ out, Row n y := by
    rw [← hC]
    refine comp_ex _ (by omega) (fun t ht => ?_)
    obtain ⟨us, rfl, hl, hx⟩ := h t ht
    simp [wipeE]
    generalize hC : compL _ _ _ _ _ _ _ _ _ = C
    obtain ⟨out, e1, l1, p1⟩ : ∃ out, C = .ok out w ∧ out.length = us.length ∧ ∀ y ∈ out, Step n y := by
      rw [← hC]
      refine comp_ex _ (by omega) (fun t ht => ?_)
      obtain ⟨x, rfl, x0, x1⟩ := hx t ht
      simp [two_le]
      exact ⟨x, 0, rfl, x0, x1, by decide, by decide⟩
    rw [e1]
    simp
    exact ⟨out, rfl, by omega, p1⟩
  rw [e1]
  simp [sRange1_ hn0 (by omega : n < 1000000000)]
  generalize hC : compL _ _ _ _ _ _ _ _ _ = C
  obtain ⟨out2, e2, l2, p2⟩ : ∃ out, C = .ok out w ∧ out.length = (rgT 0 n.toNat).length ∧ ∀ y ∈ out, Step n y := by
    rw [← hC]
    refine comp_ex _ (by rw [rgT_length]; omega) (fun t ht => ?_)
    obtain ⟨x, rfl, x0, x1⟩ := rgT_mem ht
    simp [two_le]
    exact ⟨_, rfl, x, 0 + x, rfl, x0, by omega, by omega, by omega⟩
  rw [e2]
  rw [rgT_length] at l2
  have hlen : out.length + 1 ≤ sizeLine := le_size (by omega)
  simp [one_le, sCat, hlen]
  have := rows_snoc (ts := out) (m := ts.length) (t := .tup out2) ⟨by omega, p1⟩ ⟨out2, rfl, by omega, p2⟩
  exact this
end
end VS

set_option Elab.async false
set_option linter.all false
set_option maxRecDepth 100000
set_option maxHeartbeats 4000000
namespace VS
open PySem PySem.Spec PyProof.Rows L2
section
variable {r : Rng} {rest : World} {w : World} {all ts : List T} {n m : Int} {g : MG} {c : MT} {e : ME} {b : MS} {ρ0 : Env} {t : T}
theorem rep1 {k : Int} (h0 : 0 ≤ k) (h1 : k ≤ 1000) : sRep (.lst [t]) (.int k) w = .ok (List.replicate k.toNat t) w := by
  have c1 : k.toNat ≤ sizeLine := le_size (by omega)
  have c2 : -(2 ^ 63) ≤ k := by omega
  have c3 : k < 2 ^ 63 := by omega
  have c : -(2 ^ 63) ≤ k ∧ k < 2 ^ 63 ∧ [t].length * k.toNat ≤ sizeLine := ⟨c2, c3, by simpa using c1⟩
  simp only [sRep, lst_lst]
  rw [if_pos c]
  simp
theorem irow_rep {v : Int} (h0 : 0 ≤ n) (hv : 0 ≤ v ∧ v < n) : IRow n (.lst (List.replicate n.toNat (.int v))) := ⟨_, rfl, by simp; omega, fun u hu => by
  have := List.eq_of_mem_replicate hu
  exact ⟨v, this, hv⟩⟩
theorem irow_of {us : List T} (h : (us.length : Int) = n) (hp : ∀ u ∈ us, ∃ x : Int, u = .int x ∧ 0 ≤ x ∧ x < n) : IRow n (.lst us) := ⟨us, rfl, h, hp⟩
/-- a tables' maker: what it gives -/
def Gives (f : Sem) (ds : List T) (k : Int) (r : Rng) (rest : World) (M N : Int) : Prop := ∃ rs m n r', f ds (WD r rest) = .ok (.tup rs) (WD r' rest) ∧ Rows m n rs ∧ 1 ≤ m ∧ m ≤ M ∧ 1 ≤ n ∧ n ≤ N ∧ Adv k r r'
theorem mem2 {P : T → Prop} {a b : T} (ha : P a) (hb : P b) : ∀ t ∈ [a, b], P t := fun t ht => by simp at ht; rcases ht with rfl | rfl <;> assumption
theorem mem4 {P : T → Prop} {a b c d : T} (ha : P a) (hb : P b) (hc : P c) (hd : P d) : ∀ t ∈ [a, b, c, d], P t := fun t ht => by simp at ht; rcases ht with rfl | rfl | rfl | rfl <;> assumption
theorem irow4 {a b c d : Int} (ha : 0 ≤ a ∧ a < 4) (hb : 0 ≤ b ∧ b < 4) (hc : 0 ≤ c ∧ c < 4) (hd : 0 ≤ d ∧ d < 4) : IRow 4 (.lst [.int a, .int b, .int c, .int d]) := ⟨_, rfl, rfl, mem4 ⟨_, rfl, ha⟩ ⟨_, rfl, hb⟩ ⟨_, rfl, hc⟩ ⟨_, rfl, hd⟩⟩
theorem bor4 : ∀ x : Int, 0 ≤ x → x < 4 → (0 ≤ Builtin.bitOr x 1 ∧ Builtin.bitOr x 1 < 4) ∧ (0 ≤ Builtin.bitOr x 2 ∧ Builtin.bitOr x 2 < 4) := fun x h0 h1 => by
  have : x = 0 ∨ x = 1 ∨ x = 2 ∨ x = 3 := by omega
  rcases this with rfl | rfl | rfl | rfl <;> decide +kernel
theorem small_ok (o : Ok 2 r) : Gives s__law_tt_small [.cell 1] 2 r rest 5 5 := by
  obtain ⟨q, r1, e1, q0, q1, a1⟩ := draw_ok (rest := rest) (n := 7) (by decide) (by decide) (r := r) ⟨o.1, by have := o.2; omega⟩
  obtain ⟨p, r2, e2, p0, p1, a2⟩ := draw_ok (rest := rest) (n := 4) (by decide) (by decide) (r := r1) (o.on a1 1 (by omega))
  have a := a1.trans a2
  suffices h : ∀ rs m n, s__law_tt_small [.cell 1] (WD r rest) = .ok (.tup rs) (WD r2 rest) → Rows m n rs → 1 ≤ m → m ≤ 5 → 1 ≤ n → n ≤ 5 → Gives s__law_tt_small [.cell 1] 2 r rest 5 5 by
    generalize hz : s__law_tt_small [.cell 1] (WD r rest) = Z at h
    unfold s__law_tt_small m__law_tt_small runB at hz
    have hs : 0 ≤ 1 + p := by omega
    have rg := sRange1_ (w := WD r2 rest) hs (by omega)
    have rg4 := sRange1_ (w := WD r2 rest) (n := 4) (by decide) (by decide)
    have hq : q = 0 ∨ q = 1 ∨ q = 2 ∨ q = 3 ∨ q = 4 ∨ q = 5 ∨ q = 6 := by omega
    rcases hq with rfl | rfl | rfl | rfl | rfl | rfl | rfl
    · simp [e1, e2, two_le, one_le, rg, wipeE] at hz
      generalize hC : compL _ _ _ _ _ _ _ _ _ = C at hz
      obtain ⟨out, e3, l3, p3⟩ : ∃ out, C = .ok out (WD r2 rest) ∧ out.length = (rgT 0 (1 + p).toNat).length ∧ ∀ u ∈ out, ∃ x : Int, u = .int x ∧ 0 ≤ x ∧ x < 1 + p := by
        rw [← hC]
        refine comp_ex _ (by rw [rgT_length]; omega) (fun t ht => ?_)
        obtain ⟨x, rfl, x0, x1⟩ := rgT_mem ht
        simp [sMod_ (show 0 < 1 + p by omega)]
        exact ⟨Int.emod_nonneg _ (by omega), Int.emod_lt_of_pos _ (by omega)⟩
      rw [rgT_length] at l3
      rw [e3] at hz
      obtain ⟨rs, e4, R4⟩ := looked_ok (w := WD r2 rest) (n := 1 + p) (ts := [.lst out, .lst (List.replicate (1 + p).toNat (.int 0))]) hs (by omega) (by simp) (mem2 (irow_of (by omega) p3) (irow_rep (by omega) (by omega)))
      simp [rep1 hs (by omega), e4, two_le] at hz
      exact h rs _ _ hz.symm R4 (by simp) (by simp) (by omega) (by omega)
    · simp [e1, e2, two_le, one_le, rg, wipeE] at hz
      generalize hC : compL _ _ _ _ _ _ _ _ _ = C at hz
      obtain ⟨out, e3, l3, p3⟩ : ∃ out, C = .ok out (WD r2 rest) ∧ out.length = (rgT 0 (1 + p).toNat).length ∧ ∀ u ∈ out, IRow (1 + p) u := by
        rw [← hC]
        refine comp_ex _ (by rw [rgT_length]; omega) (fun t ht => ?_)
        obtain ⟨x, rfl, x0, x1⟩ := rgT_mem ht
        simp [rg, wipeE]
        generalize hC : compL _ _ _ _ _ _ _ _ _ = C
        obtain ⟨out, e3, l3, p3⟩ : ∃ out, C = .ok out (WD r2 rest) ∧ out.length = (rgT 0 (1 + p).toNat).length ∧ ∀ u ∈ out, ∃ x : Int, u = .int x ∧ 0 ≤ x ∧ x < 1 + p := by
          rw [← hC]
          refine comp_ex _ (by rw [rgT_length]; omega) (fun t ht => ?_)
          obtain ⟨y, rfl, y0, y1⟩ := rgT_mem ht
          simp
          split <;> omega
        rw [rgT_length] at l3
        rw [e3]
        simp
        exact irow_of (by omega) p3
      rw [rgT_length] at l3
      rw [e3] at hz
      obtain ⟨rs, e4, R4⟩ := looked_ok (w := WD r2 rest) (n := 1 + p) (ts := out) hs (by omega) (by omega) p3
      simp [e4] at hz
      exact h rs _ _ hz.symm R4 (by omega) (by omega) (by omega) (by omega)
    · simp [e1, e2, two_le, one_le, rg4, wipeE] at hz
      generalize hC : compL _ _ _ _ _ _ _ _ _ = C at hz
      obtain ⟨out, e3, l3, p3⟩ : ∃ out, C = .ok out (WD r2 rest) ∧ out.length = (rgT 0 4).length ∧ ∀ u ∈ out, ∃ x : Int, u = .int x ∧ 0 ≤ x ∧ x < 4 := by
        rw [← hC]
        refine comp_ex _ (by rw [rgT_length]; omega) (fun t ht => ?_)
        obtain ⟨x, rfl, x0, x1⟩ := rgT_mem ht
        simp
        exact (bor4 x x0 (by omega)).1
      rw [rgT_length] at l3
      rw [e3] at hz
      simp [rg4, wipeE] at hz
      generalize hC : compL _ _ _ _ _ _ _ _ _ = C at hz
      obtain ⟨out2, e5, l5, p5⟩ : ∃ out, C = .ok out (WD r2 rest) ∧ out.length = (rgT 0 4).length ∧ ∀ u ∈ out, ∃ x : Int, u = .int x ∧ 0 ≤ x ∧ x < 4 := by
        rw [← hC]
        refine comp_ex _ (by rw [rgT_length]; omega) (fun t ht => ?_)
        obtain ⟨x, rfl, x0, x1⟩ := rgT_mem ht
        simp
        exact (bor4 x x0 (by omega)).2
      rw [rgT_length] at l5
      rw [e5] at hz
      obtain ⟨rs, e4, R4⟩ := looked_ok (w := WD r2 rest) (n := 4) (ts := [.lst out, .lst out2]) (by decide) (by omega) (by simp) (mem2 (irow_of (by omega) p3) (irow_of (by omega) p5))
      simp [e4, two_le] at hz
      exact h rs _ _ hz.symm R4 (by simp) (by simp) (by omega) (by omega)
    · simp [e1, e2, two_le, one_le, rg, wipeE] at hz
      generalize hC : compL _ _ _ _ _ _ _ _ _ = C at hz
      obtain ⟨out, e3, l3, p3⟩ : ∃ out, C = .ok out (WD r2 rest) ∧ out.length = (rgT 0 (1 + p).toNat).length ∧ ∀ u ∈ out, IRow (1 + p) u := by
        rw [← hC]
        refine comp_ex _ (by rw [rgT_length]; omega) (fun t ht => ?_)
        obtain ⟨x, rfl, x0, x1⟩ := rgT_mem ht
        simp [one_le, rep1 hs (by omega)]
        exact irow_rep (by omega) (by omega)
      rw [rgT_length] at l3
      rw [e3] at hz
      obtain ⟨rs, e4, R4⟩ := looked_ok (w := WD r2 rest) (n := 1 + p) (ts := out) hs (by omega) (by omega) p3
      simp [e4] at hz
      exact h rs _ _ hz.symm R4 (by omega) (by omega) (by omega) (by omega)
    · have rg1 := sRange1_ (w := WD r2 rest) (n := 1 + p + 1) (by omega) (by omega)
      simp [e1, e2, two_le, one_le, wipeE] at hz
      generalize hC : compL _ _ _ _ _ _ _ _ _ = C at hz
      obtain ⟨out, e3, l3, p3⟩ : ∃ out, C = .ok out (WD r2 rest) ∧ out.length = [T.int 1, T.int 2].length ∧ ∀ u ∈ out, IRow (1 + p + 1) u := by
        rw [← hC]
        refine comp_ex _ (by decide) (fun t ht => ?_)
        obtain ⟨x, rfl, x0⟩ : ∃ x : Int, t = .int x ∧ 0 ≤ x := by
          simp at ht
          rcases ht with rfl | rfl
          · exact ⟨1, rfl, by decide⟩
          · exact ⟨2, rfl, by decide⟩
        simp [rg1, wipeE]
        generalize hC : compL _ _ _ _ _ _ _ _ _ = C
        obtain ⟨out, e3, l3, p3⟩ : ∃ out, C = .ok out (WD r2 rest) ∧ out.length = (rgT 0 (1 + p + 1).toNat).length ∧ ∀ u ∈ out, ∃ x : Int, u = .int x ∧ 0 ≤ x ∧ x < 1 + p + 1 := by
          rw [← hC]
          refine comp_ex _ (by rw [rgT_length]; omega) (fun t ht => ?_)
          obtain ⟨y, rfl, y0, y1⟩ := rgT_mem ht
          simp
          split <;> omega
        rw [rgT_length] at l3
        rw [e3]
        simp
        exact irow_of (by omega) p3
      rw [e3] at hz
      obtain ⟨rs, e4, R4⟩ := looked_ok (w := WD r2 rest) (n := 1 + p + 1) (ts := out) (by omega) (by omega) (by simp at l3; omega) p3
      simp [e4] at hz
      simp at l3
      exact h rs _ _ hz.symm R4 (by omega) (by omega) (by omega) (by omega)
    · obtain ⟨rs, e4, R4⟩ := looked_ok (w := WD r2 rest) (n := 4) (ts := [.lst [.int 0, .int 0, .int 0, .int 0], .lst [.int 2, .int 2, .int 2, .int 2], .lst [.int 0, .int 0, .int 3, .int 3], .lst [.int 1, .int 0, .int 3, .int 2]]) (by decide) (by omega) (by simp) (mem4 (irow4 (by decide) (by decide) (by decide) (by decide)) (irow4 (by decide) (by decide) (by decide) (by decide)) (irow4 (by decide) (by decide) (by decide) (by decide)) (irow4 (by decide) (by decide) (by decide) (by decide)))
      have f4 : (4 : Nat) ≤ sizeLine := le_size (by decide)
      have rp := fun (t : T) => rep1 (w := WD r2 rest) (t := t) (k := 4) (by decide) (by decide)
      simp [e1, e2, one_le, two_le, f4, rp] at hz
      simp [e4] at hz
      exact h rs _ _ hz.symm R4 (by simp) (by simp) (by omega) (by omega)
    · obtain ⟨rs, e4, R4⟩ := looked_ok (w := WD r2 rest) (n := 4) (ts := [.lst [.int 0, .int 0, .int 2, .int 2], .lst [.int 1, .int 1, .int 3, .int 3], .lst [.int 0, .int 1, .int 0, .int 1], .lst [.int 2, .int 3, .int 2, .int 3]]) (by decide) (by omega) (by simp) (mem4 (irow4 (by decide) (by decide) (by decide) (by decide)) (irow4 (by decide) (by decide) (by decide) (by decide)) (irow4 (by decide) (by decide) (by decide) (by decide)) (irow4 (by decide) (by decide) (by decide) (by decide)))
      have f4 : (4 : Nat) ≤ sizeLine := le_size (by decide)
      simp [e1, e2, one_le, two_le, f4, e4] at hz
      exact h rs _ _ hz.symm R4 (by simp) (by simp) (by omega) (by omega)
  intro rs m n e3 R m0 m1 n0 n1
  exact ⟨rs, m, n, r2, e3, R, m0, m1, n0, n1, a⟩
end
end VS

set_option Elab.async false
set_option linter.all false
set_option maxRecDepth 100000
set_option maxHeartbeats 4000000
namespace VS
open PySem PySem.Spec PyProof.Rows L2
section
variable {r : Rng} {rest : World} {w : World} {all ts rs rs' : List T} {n m n' m' : Int} {g : MG} {c : MT} {e : ME} {b : MS} {ρ0 : Env} {t : T}
theorem cell_step {a x : Int} (h0 : 0 ≤ a) (h1 : a < n) (x0 : 0 ≤ x) (x1 : x < n') : 0 ≤ a * n' + x ∧ a * n' + x < n * n' := by
  have p := Int.mul_nonneg h0 (show 0 ≤ n' by omega)
  have q := Int.mul_le_mul_of_nonneg_right (show a ≤ n - 1 by omega) (show 0 ≤ n' by omega)
  rw [Int.sub_mul, Int.one_mul] at q
  omega
theorem cat_lst {us vs : List T} (h : us.length + vs.length ≤ 16777216) : sCat (.lst us) (.lst vs) w = .ok (us ++ vs) w := by
  simp [sCat, le_size h]
theorem app_all {P : T → Prop} {us vs : List T} (h : ∀ u ∈ us, P u) (h' : ∀ u ∈ vs, P u) : ∀ u ∈ us ++ vs, P u := fun u hu => (List.mem_append.mp hu).elim (h u) (h' u)
theorem snoc_all {P : T → Prop} {us : List T} {v : T} (h : ∀ u ∈ us, P u) (h' : P v) : ∀ u ∈ us ++ [v], P u := app_all h (fun u hu => by simp at hu; subst hu; exact h')
theorem table_plain (h : Rows m n rs) : Plain 4 (.tup rs) := plain_tup (fun t ht => row_plain (h.2 t ht))
theorem len_first (h : Rows m n rs) (hm : 1 ≤ m) : ∃ ss, (∀ w : World, sIx (.tup rs) (.int 0) w = .ok (.tup ss) w) ∧ (ss.length : Int) = n := by
  obtain ⟨ss, rest, er, h1, h2⟩ := rows_first h hm
  exact ⟨ss, fun w => sIx_tup (by rw [er]; rfl) (by decide), h1⟩
theorem prod1 (h : Rows m n rs) (h' : Rows m' n' rs') (hm : 1 ≤ m) (hm' : 1 ≤ m') (hM : m ≤ 1000) (hM' : m' ≤ 1000) (hn : 1 ≤ n) (hn' : 1 ≤ n') (hN : n ≤ 1000) (hN' : n' ≤ 1000) (hb : n * n' ≤ 1000000) : ∃ ρ' w', forL (mgName 2) (mSeq (mAsg (mVal (mLst mNil)) (mgName 5)) (mSeq (mFor (mItems (mVar 2)) (mgTup 2 (mgCons (mgName 7) (mgCons (mgName 8) mgNil))) (mAsg (mVal (mOp2F sCat (mVar 5) (mVal (mComp [9] (mRange1 (mCons (mVar 3) mNil)) (mgName 9) mYes (mTup (mCons (mOp2 sAdd (mOp2 sMul (mVar 7) (mVar 3)) (mVar 9)) (mCons (mVar 8) mNil))))))) (mgName 5))) (mDrop (mMeth sAppend (mVar 4) (mCons (mCall sTup (mCons (mVar 5) mNil)) mNil))))) none rs rs [some (.tup rs), some (.tup rs'), none, some (.int n'), some (.cell w.length), none, none, none, none, none] (w ++ [.lst []]) = .ok (ρ', .nx) w' ∧ ∃ out : List T, w' = w ++ [.lst out] ∧ out.length = rs.length ∧ (∀ u ∈ out, Row (n * n') u) ∧ ∃ a b c d x y, ρ' = [some (.tup rs), some (.tup rs'), a, some (.int n'), some (.cell w.length), b, c, d, x, y] := by
  refine forL_run (P := fun i ρ w' => ∃ out : List T, w' = w ++ [.lst out] ∧ out.length = i ∧ (∀ u ∈ out, Row (n * n') u) ∧ ∃ a b c d x y, ρ = [some (.tup rs), some (.tup rs'), a, some (.int n'), some (.cell w.length), b, c, d, x, y]) ⟨[], rfl, rfl, (fun _ h => nomatch h), _, _, _, _, _, _, rfl⟩ (fun i t ρ w' ht p => ?_)
  obtain ⟨out, rfl, lo, po, a, b, c, d, x, y, rfl⟩ := p
  obtain ⟨ss, rfl, hl, hs⟩ := h.2 t (List.mem_of_getElem? ht)
  have hi : i < rs.length := (List.getElem?_eq_some_iff.mp ht).1
  have hrl := h.1
  simp
  generalize hL : forL (mgTup 2 _) _ _ _ _ _ _ = L
  obtain ⟨ρ', w', e, rfl, us, lu, pu, d, x, y, rfl⟩ : ∃ ρ' w', L = .ok (ρ', .nx) w' ∧ w' = w ++ [.lst out] ∧ ∃ us : List T, (us.length : Int) = (ss.length : Nat) * n' ∧ (∀ u ∈ us, Step (n * n') u) ∧ ∃ d x y, ρ' = [some (.tup rs), some (.tup rs'), some (.tup ss), some (.int n'), some (.cell w.length), some (.lst us), c, d, x, y] := by
    rw [← hL]
    refine forL_run (P := fun i ρ w' => w' = w ++ [.lst out] ∧ ∃ us : List T, (us.length : Int) = (i : Nat) * n' ∧ (∀ u ∈ us, Step (n * n') u) ∧ ∃ d x y, ρ = [some (.tup rs), some (.tup rs'), some (.tup ss), some (.int n'), some (.cell w.length), some (.lst us), c, d, x, y]) ⟨rfl, [], by simp, (fun _ h => nomatch h), _, _, _, rfl⟩ (fun i t ρ w' ht p => ?_)
    obtain ⟨rfl, us, lu, pu, d, x, y, rfl⟩ := p
    obtain ⟨s, an, rfl, s0, s1, a0, a1⟩ := hs t (List.mem_of_getElem? ht)
    have hi : i < ss.length := (List.getElem?_eq_some_iff.mp ht).1
    have hq := cell_step (n := n) (n' := n') (a := (i : Int)) (x := 0) (by omega) (by omega) (by omega) (by omega)
    simp [sRange1_ (n := n') (by omega) (by omega), wipeE]
    generalize hC : compL _ _ _ _ _ _ _ _ _ = C
    obtain ⟨vs, e3, l3, p3⟩ : ∃ vs, C = .ok vs (w ++ [.lst out]) ∧ vs.length = (rgT 0 n'.toNat).length ∧ ∀ u ∈ vs, Step (n * n') u := by
      rw [← hC]
      refine comp_ex _ (by rw [rgT_length]; omega) (fun t ht => ?_)
      obtain ⟨z, rfl, z0, z1⟩ := rgT_mem ht
      simp [sMul_l (i := s) (j := n') ⟨by omega, by omega⟩, two_le]
      exact ⟨_, _, rfl, (cell_step s0 s1 z0 (by omega)).1, (cell_step s0 s1 z0 (by omega)).2, a0, a1⟩
    rw [rgT_length] at l3
    rw [e3]
    simp [cat_lst (show us.length + vs.length ≤ 16777216 by omega)]
    refine ⟨_, _, ⟨rfl, rfl⟩, rfl, us ++ vs, ?_, app_all pu p3, _, _, _, rfl⟩
    rw [List.length_append]
    push_cast
    rw [lu, Int.add_mul, Int.one_mul]
    omega
  rw [e]
  have ha := append_cell (t := .tup us) (last_at (w := w) (c := .lst out)) (by omega)
  simp [lst_cell (last_at (w := w) (c := .lst out)), ha]
  exact ⟨_, _, ⟨rfl, rfl⟩, out ++ [.tup us], rfl, by simp; omega, snoc_all po ⟨us, rfl, by rw [lu, hl], pu⟩, _, _, _, _, _, _, rfl⟩
theorem prod2 (h : Rows m n rs) (h' : Rows m' n' rs') (hm : 1 ≤ m) (hm' : 1 ≤ m') (hM : m ≤ 1000) (hM' : m' ≤ 1000) (hn : 1 ≤ n) (hn' : 1 ≤ n') (hN : n ≤ 1000) (hN' : n' ≤ 1000) (hb : n * n' ≤ 1000000) {out : List T} (lo : out.length = rs.length) (po : ∀ u ∈ out, Row (n * n') u) {s0 : List T} (ix0 : ∀ w : World, sIx (.tup rs) (.int 0) w = .ok (.tup s0) w) (l0 : (s0.length : Int) = n) {a b c d x y : Option T} : ∃ ρ' w', forL (mgName 2) (mSeq (mAsg (mVal (mLst mNil)) (mgName 5)) (mSeq (mFor (mRange1 (mCons (mCall sLen (mCons (mOp2 sIx (mVar 0) (mC (.int 0))) mNil)) mNil)) (mgName 6) (mAsg (mVal (mOp2F sCat (mVar 5) (mVal (mComp [7, 8] (mItems (mVar 2)) (mgTup 2 (mgCons (mgName 7) (mgCons (mgName 8) mgNil))) mYes (mTup (mCons (mOp2 sAdd (mOp2 sMul (mVar 6) (mVar 3)) (mVar 7)) (mCons (mVar 8) mNil))))))) (mgName 5))) (mDrop (mMeth sAppend (mVar 4) (mCons (mCall sTup (mCons (mVar 5) mNil)) mNil))))) none rs' rs' [some (.tup rs), some (.tup rs'), a, some (.int n'), some (.cell w.length), b, c, d, x, y] (w ++ [.lst out]) = .ok (ρ', .nx) w' ∧ ∃ out2 : List T, w' = w ++ [.lst out2] ∧ out2.length = rs.length + rs'.length ∧ (∀ u ∈ out2, Row (n * n') u) ∧ ∃ a b c d x y, ρ' = [some (.tup rs), some (.tup rs'), a, some (.int n'), some (.cell w.length), b, c, d, x, y] := by
  have hn64 : -(2 ^ 64) < n' ∧ n' < 2 ^ 64 := ⟨by omega, by omega⟩
  refine forL_run (P := fun i ρ w' => ∃ out : List T, w' = w ++ [.lst out] ∧ out.length = rs.length + i ∧ (∀ u ∈ out, Row (n * n') u) ∧ ∃ a b c d x y, ρ = [some (.tup rs), some (.tup rs'), a, some (.int n'), some (.cell w.length), b, c, d, x, y]) ⟨out, rfl, lo, po, _, _, _, _, _, _, rfl⟩ (fun i t ρ w' ht p => ?_)
  obtain ⟨out, rfl, lo, po, a, b, c, d, x, y, rfl⟩ := p
  obtain ⟨ss, rfl, hl, hs⟩ := h'.2 t (List.mem_of_getElem? ht)
  have hi : i < rs'.length := (List.getElem?_eq_some_iff.mp ht).1
  have hrl := h.1
  have hrl' := h'.1
  simp [ix0, l0, sRange1_ (n := n) (by omega) (by omega)]
  generalize hL : forL (mgName 6) _ _ _ _ _ _ = L
  obtain ⟨ρ', w', e, rfl, us, lu, pu, d, x, y, z, rfl⟩ : ∃ ρ' w', L = .ok (ρ', .nx) w' ∧ w' = w ++ [.lst out] ∧ ∃ us : List T, (us.length : Int) = ((rgT 0 n.toNat).length : Nat) * n' ∧ (∀ u ∈ us, Step (n * n') u) ∧ ∃ c d x y, ρ' = [some (.tup rs), some (.tup rs'), some (.tup ss), some (.int n'), some (.cell w.length), some (.lst us), c, d, x, y] := by
    rw [← hL]
    refine forL_run (P := fun i ρ w' => w' = w ++ [.lst out] ∧ ∃ us : List T, (us.length : Int) = (i : Nat) * n' ∧ (∀ u ∈ us, Step (n * n') u) ∧ ∃ c d x y, ρ = [some (.tup rs), some (.tup rs'), some (.tup ss), some (.int n'), some (.cell w.length), some (.lst us), c, d, x, y]) ⟨rfl, [], by simp, (fun _ h => nomatch h), _, _, _, _, rfl⟩ (fun i t ρ w' ht p => ?_)
    obtain ⟨rfl, us, lu, pu, c, d, x, y, rfl⟩ := p
    obtain ⟨ht', hi⟩ := rgT_at ht
    obtain ⟨k, hk⟩ : ∃ k : Int, k = 0 + (i : Int) := ⟨_, rfl⟩
    rw [← hk] at ht'
    subst ht'
    have hq := cell_step (n := n) (n' := n') (a := (i : Int)) (x := 0) (by omega) (by omega) (by omega) (by omega)
    simp [wipeE]
    generalize hC : compL _ _ _ _ _ _ _ _ _ = C
    obtain ⟨vs, e3, l3, p3⟩ : ∃ vs, C = .ok vs (w ++ [.lst out]) ∧ vs.length = ss.length ∧ ∀ u ∈ vs, Step (n * n') u := by
      rw [← hC]
      refine comp_ex _ (by omega) (fun t ht => ?_)
      obtain ⟨s, an, rfl, s0, s1, a0, a1⟩ := hs t ht
      simp [sMul_r (i := k) (j := n') hn64, two_le]
      exact ⟨_, _, rfl, (cell_step (a := k) (n := n) (by omega) (by omega) s0 s1).1, (cell_step (a := k) (n := n) (by omega) (by omega) s0 s1).2, a0, a1⟩
    rw [e3]
    simp [cat_lst (show us.length + vs.length ≤ 16777216 by omega)]
    refine ⟨_, _, ⟨rfl, rfl⟩, rfl, us ++ vs, ?_, app_all pu p3, _, _, _, _, rfl⟩
    rw [List.length_append]
    push_cast
    rw [lu, Int.add_mul, Int.one_mul]
    omega
  rw [rgT_length] at lu
  rw [e]
  have ha := append_cell (t := .tup us) (last_at (w := w) (c := .lst out)) (by omega)
  simp [lst_cell (last_at (w := w) (c := .lst out)), ha]
  exact ⟨_, _, ⟨rfl, rfl⟩, out ++ [.tup us], rfl, by simp; omega, snoc_all po ⟨us, rfl, by rw [lu]; congr 1; omega, pu⟩, _, _, _, _, _, _, rfl⟩
theorem product_ok (h : Rows m n rs) (h' : Rows m' n' rs') (hm : 1 ≤ m) (hm' : 1 ≤ m') (hM : m ≤ 1000) (hM' : m' ≤ 1000) (hn : 1 ≤ n) (hn' : 1 ≤ n') (hN : n ≤ 1000) (hN' : n' ≤ 1000) : ∃ out, s__law_tt_product [.tup rs, .tup rs'] w = .ok (.tup out) w ∧ Rows (m + m') (n * n') out := by
  obtain ⟨s0, ix0, l0⟩ := len_first h hm
  obtain ⟨s1, ix1, l1⟩ := len_first h' hm'
  have hb : n * n' ≤ 1000000 := by
    have := Int.mul_le_mul hN hN' (by omega) (by decide)
    omega
  suffices hz : ∃ out, runB 10 m__law_tt_product [.tup rs, .tup rs'] w = .ok (.tup out) (w ++ [.lst out]) ∧ Rows (m + m') (n * n') out by
    obtain ⟨out, e, R⟩ := hz
    exact ⟨out, gc_flat0 e (table_plain R), R⟩
  unfold m__law_tt_product runB
  simp [ix1, l1, two_le]
  obtain ⟨ρ', w', e, out, rfl, lo, po, a, b, c, d, x, y, rfl⟩ := prod1 (w := w) h h' hm hm' hM hM' hn hn' hN hN' hb
  rw [e]
  simp
  obtain ⟨ρ', w', e, out2, rfl, lo2, po2, a, b, c, d, x, y, rfl⟩ := prod2 (w := w) h h' hm hm' hM hM' hn hn' hN hN' hb lo po ix0 l0 (a := a) (b := b) (c := c) (d := d) (x := x) (y := y)
  rw [e]
  simp [sTup_cell (last_at (w := w) (c := .lst out2))]
  exact ⟨by have := h.1; have := h'.1; omega, po2⟩
end
end VS

set_option Elab.async false
set_option linter.all false
set_option maxRecDepth 100000
set_option maxHeartbeats 4000000
namespace VS
open PySem PySem.Spec PyProof.Rows L2
section
variable {r : Rng} {rest ex : World} {w : World} {all ts rs rs' : List T} {n m n' m' : Int} {g : MG} {c : Cell} {b : MS} {ρ0 : Env} {t : T}
theorem WD_app : WD r (rest ++ ex) ++ [c] = WD r (rest ++ (ex ++ [c])) := by simp [WD]
theorem set_last {c c' : Cell} : (w ++ [c]).set w.length c' = w ++ [c'] := by simp
theorem set_cell {k : Nat} {p : Int} (h : w[k]? = some (.lst ts)) (p0 : 0 ≤ p) (p1 : p < (ts.length : Int)) : sSet (.cell k) (.int p) t w = .ok () (w.set k (.lst (ts.set p.toNat t))) := by
  have e : ixN ts.length p = some p.toNat := by unfold ixN; rw [if_pos p0, if_pos p1]
  simp only [sSet, h, e]
theorem perm_at {place : List T} (hp : place.Perm (rgT 0 n.toNat)) {k : Int} (k0 : 0 ≤ k) (k1 : k < n) : ∃ p : Int, 0 ≤ p ∧ p < n ∧ place[k.toNat]? = some (.int p) ∧ ∀ w : World, sIx (.lst place) (.int k) w = .ok (.int p) w := by
  have hl := hp.length_eq
  rw [rgT_length] at hl
  have hk : k.toNat < place.length := by omega
  obtain ⟨p, e, p0, p1⟩ := rgT_mem (hp.mem_iff.mp (List.getElem_mem hk))
  have e' : place[k.toNat]? = some (.int p) := by rw [List.getElem?_eq_getElem hk, e]
  exact ⟨p, p0, by omega, e', fun w => sIx_lst e' k0⟩
theorem step_at {ss : List T} (hl : (ss.length : Int) = n) (hs : ∀ s ∈ ss, Step n s) {k : Int} (k0 : 0 ≤ k) (k1 : k < n) : ∃ s a : Int, 0 ≤ s ∧ s < n ∧ 0 ≤ a ∧ a ≤ 999999999999999999 ∧ ∀ w : World, sIx (.tup ss) (.int k) w = .ok (.tup [.int s, .int a]) w := by
  have hk : k.toNat < ss.length := by omega
  obtain ⟨s, a, e, h0, h1, h2, h3⟩ := hs _ (List.getElem_mem hk)
  exact ⟨s, a, h0, h1, h2, h3, fun w => sIx_tup (by rw [List.getElem?_eq_getElem hk, e]) k0⟩
theorem ren_inner {place ss : List T} {x0 x1 x4 x5 x7 : Option T} (hp : place.Perm (rgT 0 n.toNat)) (hl : (ss.length : Int) = n) (hs : ∀ s ∈ ss, Step n s) (hx : x5 = some (.tup ss)) : ∃ ρ' w', forL (mgName 7) (mAsg (mTup (mCons (mOp2 sIx (mVar 3) (mOp2 sIx (mOp2 sIx (mVar 5) (mVar 7)) (mC (.int 0)))) (mCons (mOp2 sIx (mOp2 sIx (mVar 5) (mVar 7)) (mC (.int 1))) mNil))) (mgSub sSet (mVar 6) (mOp2 sIx (mVar 3) (mVar 7)))) none (rgT 0 n.toNat) (rgT 0 n.toNat) [x0, x1, some (.int n), some (.lst place), x4, x5, some (.cell w.length), x7] (w ++ [.lst (List.replicate n.toNat .non)]) = .ok (ρ', .nx) w' ∧ ∃ row : List T, w' = w ++ [.lst row] ∧ (row.length : Int) = n ∧ (∀ u ∈ row, Step n u) ∧ ∃ x7, ρ' = [x0, x1, some (.int n), some (.lst place), x4, x5, some (.cell w.length), x7] := by
  subst hx
  obtain ⟨ρ', w', e, row, rfl, lr, pr, x7', rfl⟩ := forL_run (P := fun i ρ w' => ∃ row : List T, w' = w ++ [.lst row] ∧ row.length = n.toNat ∧ (∀ j < i, ∀ p : Int, place[j]? = some (.int p) → ∃ t, row[p.toNat]? = some t ∧ Step n t) ∧ ∃ x7, ρ = [x0, x1, some (.int n), some (.lst place), x4, some (.tup ss), some (.cell w.length), x7])
    (g := mgName 7) (b := mAsg (mTup (mCons (mOp2 sIx (mVar 3) (mOp2 sIx (mOp2 sIx (mVar 5) (mVar 7)) (mC (.int 0)))) (mCons (mOp2 sIx (mOp2 sIx (mVar 5) (mVar 7)) (mC (.int 1))) mNil))) (mgSub sSet (mVar 6) (mOp2 sIx (mVar 3) (mVar 7)))) (all := rgT 0 n.toNat) (w := w ++ [.lst (List.replicate n.toNat .non)]) (ρ := [x0, x1, some (.int n), some (.lst place), x4, some (.tup ss), some (.cell w.length), x7])
    ⟨_, rfl, by simp, fun j hj => absurd hj (by omega), _, rfl⟩ (fun i t ρ w' ht p => by
      obtain ⟨row, rfl, lr, pr, x7', rfl⟩ := p
      obtain ⟨ht', hi⟩ := rgT_at ht
      obtain ⟨k, hk⟩ : ∃ k : Int, k = 0 + (i : Int) := ⟨_, rfl⟩
      rw [← hk] at ht'
      subst ht'
      obtain ⟨p, p0, p1, ep, ip⟩ := perm_at hp (k := k) (by omega) (by omega)
      obtain ⟨s, a, s0, s1, a0, a1, is⟩ := step_at hl hs (k := k) (by omega) (by omega)
      obtain ⟨p', p0', p1', ep', ip'⟩ := perm_at hp s0 s1
      have hset := set_cell (t := .tup [.int p', .int a]) (last_at (w := w) (c := .lst row)) p0 (by omega)
      simp [ip, is, ip', hset, two_le]
      refine ⟨_, _, ⟨rfl, rfl⟩, row.set p.toNat (.tup [.int p', .int a]), rfl, by simp [lr], fun j hj q hq => ?_, _, rfl⟩
      have sp : Step n (.tup [.int p', .int a]) := ⟨p', a, rfl, p0', p1', a0, a1⟩
      by_cases hqp : p.toNat = q.toNat
      · refine ⟨_, ?_, sp⟩
        rw [hqp, List.getElem?_set_self (by omega)]
      · rw [List.getElem?_set_ne hqp]
        have : j ≠ i := by
          rintro rfl
          rw [show j = k.toNat by omega, ep] at hq
          cases hq
          exact hqp rfl
        exact pr j (by omega) q hq)
  refine ⟨_, _, e, row, rfl, by have := step_at (n := n) (ss := ss); omega, fun u hu => ?_, x7', rfl⟩
  obtain ⟨q, hq, rfl⟩ := List.getElem_of_mem hu
  have hm : T.int (q : Int) ∈ place := hp.mem_iff.mpr (by
    unfold rgT
    exact List.mem_map.mpr ⟨q, List.mem_range.mpr (by omega), by simp⟩)
  obtain ⟨j, hj, ej⟩ := List.getElem_of_mem hm
  have hpl := hp.length_eq
  rw [rgT_length] at hpl
  obtain ⟨t, e1, e2⟩ := pr j (by rw [rgT_length]; omega) q (by rw [List.getElem?_eq_getElem hj, ej])
  rw [show ((q : Nat) : Int).toNat = q by omega, List.getElem?_eq_getElem hq] at e1
  cases e1
  exact e2
theorem renamed_ok (h : Rows m n rs) (hm : 1 ≤ m) (hM : m ≤ 1000) (hn : 1 ≤ n) (hN : n ≤ 1000) (o : Ok (m + n) r) : ∃ out r', s__law_tt_renamed [.cell 1, .tup rs] (WD r rest) = .ok (.tup out) (WD r' rest) ∧ Rows m n out ∧ Adv (m + n) r r' := by
  obtain ⟨s0, ix0, l0⟩ := len_first h hm
  have h1 := h.1
  have hnn : ((rgT 0 n.toNat).length : Int) = n := by rw [rgT_length]; omega
  obtain ⟨place, r1, e1, p1, a1⟩ := mixed_ok (r := r) (rest := rest) (ts := rgT 0 n.toNat) (.inl rfl) (k := 1) (by decide) (fun t ht => by
    obtain ⟨i, rfl, _⟩ := rgT_mem ht
    exact plain_int) (by rw [rgT_length]; omega) ⟨o.1, by have := o.2; omega⟩
  obtain ⟨deeds, r2, e2, p2, a2⟩ := mixed_ok (r := r1) (rest := rest ++ [.lst []]) (ts := rs) (.inr rfl) (k := 3) (by decide) (fun t ht => row_plain (h.2 t ht)) (by omega) (o.on a1 _ (by omega))
  have hrg : L2.RgOk 0 n := ⟨by decide, by decide, by omega, by omega⟩
  suffices hz : ∃ out ex, runB 8 m__law_tt_renamed [.cell 1, .tup rs] (WD r rest) = .ok (.tup out) (WD r2 (rest ++ ex)) ∧ Rows m n out by
    obtain ⟨out, ex, e, R⟩ := hz
    exact ⟨out, r2, gc_flat e (table_plain R), R, (a1.trans a2).mono (by omega)⟩
  unfold m__law_tt_renamed runB
  simp [ix0, l0, hrg, e1]
  rw [show WD r1 rest ++ [Cell.lst []] = WD r1 (rest ++ [.lst []]) from rfl]
  simp [WD_len, e2]
  generalize hL : forL (mgName 5) _ _ _ _ _ _ = L
  obtain ⟨ρ', w', e, out, ex, rfl, lo, po, a, b, c, rfl⟩ : ∃ ρ' w', L = .ok (ρ', .nx) w' ∧ ∃ (out : List T) (ex : World), w' = WD r2 (rest ++ (.lst out :: ex)) ∧ out.length = deeds.length ∧ (∀ u ∈ out, Row n u) ∧ ∃ a b c, ρ' = [some (.cell 1), some (.tup rs), some (.int n), some (.lst place), some (.cell (rest.length + 2)), a, b, c] := by
    rw [← hL]
    refine forL_run (P := fun i ρ w' => ∃ (out : List T) (ex : World), w' = WD r2 (rest ++ (.lst out :: ex)) ∧ out.length = i ∧ (∀ u ∈ out, Row n u) ∧ ∃ a b c, ρ = [some (.cell 1), some (.tup rs), some (.int n), some (.lst place), some (.cell (rest.length + 2)), a, b, c]) ⟨[], [], rfl, rfl, (fun _ h => nomatch h), _, _, _, rfl⟩ (fun i t ρ w' ht p => ?_)
    obtain ⟨out, ex, rfl, lo, po, a, b, c, rfl⟩ := p
    obtain ⟨ss, rfl, hl, hs⟩ := h.2 t (p2.mem_iff.mp (List.mem_of_getElem? ht))
    have hi : i < deeds.length := (List.getElem?_eq_some_iff.mp ht).1
    have hdl := p2.length_eq
    obtain ⟨ρ', w', e3, row, rfl, lr, pr, x7, rfl⟩ := ren_inner (w := WD r2 (rest ++ (.lst out :: ex))) (x0 := some (.cell 1)) (x1 := some (.tup rs)) (x4 := some (.cell (rest.length + 2))) (x7 := c) p1 hl hs rfl
    rw [WD_app] at e3
    have hf : (WD r2 (rest ++ ((.lst out :: ex) ++ [.lst row])))[rest.length + 2]? = some (.lst out) := wd2
    have hlast := last_at (w := WD r2 (rest ++ (.lst out :: ex))) (c := .lst row)
    have htup := sTup_cell hlast
    have hap := append_cell (t := .tup row) hf (by omega)
    have hl2 := lst_cell hf
    simp only [mSeq_, mAsg_, mCell_, mOp2F_, mVal_, mLst_, mCons_, mNil_, mC_, mVar0, mVarS, mgName_, bind_ok', List.set_cons_zero, List.set_cons_succ, List.length_cons, List.length_nil, rep1 (w := WD r2 (rest ++ (.lst out :: ex))) (t := .non) (k := n) (by omega) (by omega), if_pos one_le, then_nx, mFor_, mRange1_, sRange1_ (n := n) (by omega) (by omega), WD_app]
    rw [e3]
    rw [WD_app] at htup ⊢
    simp only [then_nx, mDrop_, mMeth_, mVar0, mVarS, bind_ok', hl2, mCons_, mNil_, mCall_, htup, hap]
    refine ⟨_, _, rfl, out ++ [.tup row], ex ++ [.lst row], ?_, by simp; omega, snoc_all po ⟨row, rfl, lr, pr⟩, _, _, _, rfl⟩
    rw [ws2]
    rfl
  have hf : (WD r2 (rest ++ (.lst out :: ex)))[rest.length + 2]? = some (.lst out) := wd2
  rw [e]
  simp [sTup_cell hf]
  exact ⟨_, ⟨rfl, _, rfl⟩, by have := p2.length_eq; omega, po⟩
end
end VS

set_option Elab.async false
set_option linter.all false
set_option maxRecDepth 100000
set_option maxHeartbeats 4000000
namespace VS
open PySem PySem.Spec PyProof.Rows L2
section
variable {r : Rng} {rest ex : World} {w : World} {all ts rs rs' : List T} {n m n' m' : Int} {g : MG} {c : Cell} {b : MS} {ρ0 : Env} {t : T}
theorem catT {us vs : List T} (h : us.length + vs.length ≤ 16777216) : sAdd (.tup us) (.tup vs) w = .ok (.tup (us ++ vs)) w := by
  simp [sAdd, le_size h]
/-- a table is there, within bounds -/
def Tb (rs : List T) (M N : Int) : Prop := ∃ m n, Rows m n rs ∧ 1 ≤ m ∧ m ≤ M ∧ 1 ≤ n ∧ n ≤ N
theorem served_a {M : Int} (hM : M ≤ 24) (T0 : Tb rs 5 5) {x y : Option T} (o : Ok 3 r) : ∃ rs' r' z, (mIfS (mTest (mOp2 sEq (mDef 2 s__law_draw (mCons (mVar 0) (mCons (mC (.int 2)) mNil))) (mC (.int 0))))
 (mSeq (mAsg (mDef 1 s__law_tt_small (mCons (mVar 0) mNil)) (mgName 3))
 (mIfS (mAnd (mTest (mOp2 sLe (mOp2 sMul (mCall sLen (mCons (mOp2 sIx (mVar 2) (mC (.int 0))) mNil)) (mCall sLen (mCons (mOp2 sIx (mVar 3) (mC (.int 0))) mNil))) (mVar 1))) (mTest (mOp2 sLt (mOp2 sAdd (mCall sLen (mCons (mVar 2) mNil)) (mCall sLen (mCons (mVar 3) mNil))) (mC (.int 9)))))
 (mAsg (mDef 2 s__law_tt_product (mCons (mVar 2) (mCons (mVar 3) mNil))) (mgName 2))
 mSkip))
 mSkip) [some (.cell 1), some (.int M), some (.tup rs), x, y] (WD r rest) = .ok ([some (.cell 1), some (.int M), some (.tup rs'), z, y], .nx) (WD r' rest) ∧ Tb rs' 8 25 ∧ Adv 3 r r' := by
  obtain ⟨m, n, R, m0, m1, n0, n1⟩ := T0
  obtain ⟨q, r1, e1, q0, q1, a1⟩ := draw_ok (rest := rest) (r := r) (n := 2) (by decide) (by decide) ⟨o.1, by have := o.2; omega⟩
  by_cases hq : q = 0
  · obtain ⟨rs', m', n', r2, e2, R', m0', m1', n0', n1', a2⟩ := small_ok (r := r1) (rest := rest) (o.on a1 2 (by omega))
    obtain ⟨s0, ix0, l0⟩ := len_first R m0
    obtain ⟨s1, ix1, l1⟩ := len_first R' m0'
    have hl := R.1
    have hl' := R'.1
    by_cases hc : n * n' ≤ M ∧ m + m' < 9
    · obtain ⟨out, e3, R3⟩ := product_ok (w := WD r2 rest) R R' m0 m0' (by omega) (by omega) n0 n0' (by omega) (by omega)
      have hp : 1 ≤ n * n' := by
        have := Int.mul_le_mul n0 n0' (by decide) (by omega)
        omega
      refine ⟨out, r2, some (.tup rs'), ?_, ⟨_, _, R3, by omega, by omega, hp, by omega⟩, (a1.trans a2).mono (by omega)⟩
      simp [e1, hq, e2, ix0, ix1, l0, l1, hl, hl', sMul_l (i := n) (j := n') ⟨by omega, by omega⟩, hc.1, hc.2, e3]
    · refine ⟨rs, r2, some (.tup rs'), ?_, ⟨_, _, R, m0, by omega, n0, by omega⟩, (a1.trans a2).mono (by omega)⟩
      simp [e1, hq, e2, ix0, ix1, l0, l1, hl, hl', sMul_l (i := n) (j := n') ⟨by omega, by omega⟩]
      by_cases h1 : n * n' ≤ M
      · have h2 : ¬ (m + m' < 9) := fun h => hc ⟨h1, h⟩
        simp [h1, h2]
      · simp [h1]
  · refine ⟨rs, r1, x, ?_, ⟨_, _, R, m0, by omega, n0, by omega⟩, a1.mono (by omega)⟩
    simp [e1, hq]
theorem rows_add {t : T} (h : Rows m n rs) (ht : Row n t) : Rows (m + 1) n (rs ++ [t]) := rows_snoc h ht
theorem served_b {M : Int} (T0 : Tb rs 8 25) {x : Option T} (o : Ok 1 r) : ∃ rs' r', (mIfS (mTest (mOp2 sEq (mDef 2 s__law_draw (mCons (mVar 0) (mCons (mC (.int 3)) mNil))) (mC (.int 0))))
 (mAsg (mOp2 sAdd (mVar 2) (mTup (mCons (mCall sTup (mCons (mVal (mComp [4] (mRange1 (mCons (mCall sLen (mCons (mOp2 sIx (mVar 2) (mC (.int 0))) mNil)) mNil)) (mgName 4) mYes (mTup (mCons (mVar 4) (mCons (mC (.int 7)) mNil))))) mNil)) mNil))) (mgName 2))
 mSkip) [some (.cell 1), some (.int M), some (.tup rs), x, none] (WD r rest) = .ok ([some (.cell 1), some (.int M), some (.tup rs'), x, none], .nx) (WD r' rest) ∧ Tb rs' 9 25 ∧ Adv 1 r r' := by
  obtain ⟨m, n, R, m0, m1, n0, n1⟩ := T0
  obtain ⟨q, r1, e1, q0, q1, a1⟩ := draw_ok (rest := rest) (r := r) (n := 3) (by decide) (by decide) o
  by_cases hq : q = 0
  · obtain ⟨s0, ix0, l0⟩ := len_first R m0
    have hl := R.1
    obtain ⟨out, e2, l2, p2⟩ := comp_ex (w := WD r1 rest) (all := rgT 0 n.toNat) (g := mgName 4) (c := mYes) (e := mTup (mCons (mVar 4) (mCons (mC (.int 7)) mNil))) (ρ0 := [some (.cell 1), some (.int M), some (.tup rs), x, none]) (Step n) (by rw [rgT_length]; omega) (fun t ht => by
      obtain ⟨z, rfl, z0, z1⟩ := rgT_mem ht
      simp [two_le]
      exact ⟨_, _, rfl, z0, by omega, by decide, by decide⟩)
    rw [rgT_length] at l2
    refine ⟨rs ++ [.tup out], r1, ?_, ⟨_, _, rows_snoc R ⟨out, rfl, by omega, p2⟩, by omega, by omega, n0, n1⟩, a1⟩
    simp [e1, hq, ix0, l0, sRange1_ (n := n) (by omega) (by omega), wipeE, e2, one_le, catT (us := rs) (vs := [.tup out]) (by simp; omega)]
  · refine ⟨rs, r1, ?_, ⟨_, _, R, m0, by omega, n0, by omega⟩, a1.mono (by omega)⟩
    simp [e1, hq]
theorem served_c {M : Int} (T0 : Tb rs 9 25) {x y : Option T} (o : Ok 2 r) : ∃ rs' r', (mIfS (mTest (mOp2 sEq (mDef 2 s__law_draw (mCons (mVar 0) (mCons (mC (.int 3)) mNil))) (mC (.int 0))))
 (mAsg (mOp2 sAdd (mVar 2) (mTup (mCons (mDef 2 s__law_pick (mCons (mVar 0) (mCons (mVar 2) mNil))) mNil))) (mgName 2))
 mSkip) [some (.cell 1), some (.int M), some (.tup rs), x, y] (WD r rest) = .ok ([some (.cell 1), some (.int M), some (.tup rs'), x, y], .nx) (WD r' rest) ∧ Tb rs' 10 25 ∧ Adv 2 r r' := by
  obtain ⟨m, n, R, m0, m1, n0, n1⟩ := T0
  have hl := R.1
  obtain ⟨q, r1, e1, q0, q1, a1⟩ := draw_ok (rest := rest) (r := r) (n := 3) (by decide) (by decide) ⟨o.1, by have := o.2; omega⟩
  by_cases hq : q = 0
  · obtain ⟨t, r2, e2, ht, a2⟩ := pick_tup (r := r1) (rest := rest) (ts := rs) (by omega) (by omega) (o.on a1 1 (by omega))
    refine ⟨rs ++ [t], r2, ?_, ⟨_, _, rows_snoc R (R.2 t ht), by omega, by omega, n0, n1⟩, (a1.trans a2).mono (by omega)⟩
    simp [e1, hq, e2, one_le, catT (us := rs) (vs := [t]) (by simp; omega)]
  · refine ⟨rs, r1, ?_, ⟨_, _, R, m0, by omega, n0, by omega⟩, a1.mono (by omega)⟩
    simp [e1, hq]
theorem served_ok {M : Int} (hM : M ≤ 24) (o : Ok 100 r) : Gives s__law_tt_served [.cell 1, .int M] 100 r rest 12 30 := by
  obtain ⟨rs, m, n, r1, e1, R1, b1, b2, b3, b4, a1⟩ := small_ok (r := r) (rest := rest) ⟨o.1, by have := o.2; omega⟩
  obtain ⟨rs2, r2, z, e2, T2, a2⟩ := served_a (M := M) hM (r := r1) (rest := rest) (x := none) (y := none) ⟨m, n, R1, b1, b2, b3, b4⟩ (o.on a1 3 (by omega))
  have A2 := a1.trans a2
  obtain ⟨rs3, r3, e3, T3, a3⟩ := served_b (M := M) (r := r2) (rest := rest) (x := z) T2 (o.on A2 1 (by omega))
  have A3 := A2.trans a3
  obtain ⟨rs4, r4, e4, T4, a4⟩ := served_c (M := M) (r := r3) (rest := rest) (x := z) (y := none) T3 (o.on A3 2 (by omega))
  have A4 := A3.trans a4
  obtain ⟨m5, n5, R5, c1, c2, c3, c4⟩ := T4
  obtain ⟨out, r5, e5, R6, a5⟩ := renamed_ok (r := r4) (rest := rest) R5 c1 (by omega) c3 (by omega) (o.on A4 _ (by omega))
  refine ⟨out, m5, n5, r5, ?_, R6, c1, by omega, c3, by omega, (A4.trans a5).mono (by omega)⟩
  unfold s__law_tt_served m__law_tt_served runB
  simp only [List.map_cons, List.map_nil, List.length_cons, List.length_nil, Nat.reduceAdd, Nat.reduceSub, List.replicate_succ, List.replicate_zero, List.cons_append, List.nil_append, mSeq_, mAsg_, mDef_, mCons_, mNil_, mVar0, mVarS, bind_ok', mgName_, if_pos, e1, then_nx, List.set_cons_succ, List.set_cons_zero]
  rw [e2]
  simp only [then_nx, mSeq_]
  rw [e3]
  simp only [then_nx, mSeq_]
  rw [e4]
  simp [e5]
/-- rows that are drawn -/
theorem drawn_rows {f : Sem} {n A : Int} {x2 x3 x4 : Option T} {e1 e2 : ME} {K L : Int} (hn0 : 1 ≤ n) (hn : n ≤ 30) (hm0 : 0 ≤ m) (hm : m ≤ 12)
    (he : ∀ (r : Rng) (rest' : World) (ρ : Env), Ok 2 r → (∃ x1 x5 x6 x7, ρ = [some (.cell 1), x1, some (.int n), x3, x4, x5, x6, x7]) → ∃ y r', (mTup (mCons e1 (mCons e2 mNil))) ρ (WD r rest') = .ok y (WD r' rest') ∧ Step n y ∧ Adv 2 r r') {x1 x6 x7 : Option T} (o : Ok 720 r) :
    ∃ ρ' w', forL (mgName 1) (mSeq (mAsg (if false = true then mCell (mComp [7] (mRange1 (mCons (mVar 2) mNil)) (mgName 7) mYes (mTup (mCons e1 (mCons e2 mNil)))) else mVal (mComp [7] (mRange1 (mCons (mVar 2) mNil)) (mgName 7) mYes (mTup (mCons e1 (mCons e2 mNil))))) (mgName 6)) (mDrop (mMeth sAppend (mVar 5) (mCons (mCall sTup (mCons (mVar 6) mNil)) mNil)))) none (rgT 0 m.toNat) (rgT 0 m.toNat) [some (.cell 1), x1, some (.int n), x3, x4, some (.cell (rest.length + 2)), x6, x7] (WD r (rest ++ [.lst []])) = .ok (ρ', .nx) w' ∧ ∃ out r', w' = WD r' (rest ++ [.lst out]) ∧ Rows m n out ∧ Adv 720 r r' ∧ ∃ x1 x6 x7, ρ' = [some (.cell 1), x1, some (.int n), x3, x4, some (.cell (rest.length + 2)), x6, x7] := by
  obtain ⟨ρ', w', e, out, r', rfl, lo, po, a, y1, y6, y7, rfl⟩ := forL_run (P := fun i ρ w' => ∃ out r', w' = WD r' (rest ++ [.lst out]) ∧ out.length = i ∧ (∀ u ∈ out, Row n u) ∧ Adv (60 * (i : Int)) r r' ∧ ∃ x1 x6 x7, ρ = [some (.cell 1), x1, some (.int n), x3, x4, some (.cell (rest.length + 2)), x6, x7]) (g := mgName 1)
    (b := mSeq (mAsg (if false = true then mCell (mComp [7] (mRange1 (mCons (mVar 2) mNil)) (mgName 7) mYes (mTup (mCons e1 (mCons e2 mNil)))) else mVal (mComp [7] (mRange1 (mCons (mVar 2) mNil)) (mgName 7) mYes (mTup (mCons e1 (mCons e2 mNil))))) (mgName 6)) (mDrop (mMeth sAppend (mVar 5) (mCons (mCall sTup (mCons (mVar 6) mNil)) mNil)))) (all := rgT 0 m.toNat) (w := WD r (rest ++ [.lst []])) (ρ := [some (.cell 1), x1, some (.int n), x3, x4, some (.cell (rest.length + 2)), x6, x7])
    ⟨[], r, rfl, rfl, (fun _ h => nomatch h), Adv.refl.mono (by omega), _, _, _, rfl⟩ (fun i t ρ w' ht p => by
      obtain ⟨out, r', rfl, lo, po, a, y1, y6, y7, rfl⟩ := p
      obtain ⟨rfl, hi⟩ := rgT_at ht
      obtain ⟨vs, r2, e3, l3, p3, a3⟩ := comp_adv (r := r') (rest := rest ++ [.lst out]) (all := rgT 0 n.toNat) (g := mgName 7) (c := mYes) (e := mTup (mCons e1 (mCons e2 mNil))) (ρ0 := [some (.cell 1), some (.int (0 + (i : Int))), some (.int n), x3, x4, some (.cell (rest.length + 2)), y6, none]) (Step n) 2 (by decide) (by rw [rgT_length]; omega) (by rw [rgT_length]; exact o.on a _ (by omega)) (fun t ht r' o' => by
        obtain ⟨y, r'', e, s, a⟩ := he r' (rest ++ [.lst out]) [some (.cell 1), some (.int (0 + (i : Int))), some (.int n), x3, x4, some (.cell (rest.length + 2)), y6, some t] o' ⟨_, _, _, _, rfl⟩
        exact ⟨[some (.cell 1), some (.int (0 + (i : Int))), some (.int n), x3, x4, some (.cell (rest.length + 2)), y6, some t], y, r'', by simp, rfl, e, s, a⟩)
      rw [rgT_length] at l3 a3
      have hf : (WD r2 (rest ++ [.lst out]))[rest.length + 2]? = some (.lst out) := wd2
      have hap := append_cell (t := .tup vs) hf (by omega)
      rw [ws2] at hap
      simp only [mSeq_, mAsg_, if_neg Bool.false_ne_true, mVal_, mComp_, mRange1_, mCons_, mNil_, mVar0, mVarS, bind_ok', mgName_, List.set_cons_zero, List.set_cons_succ, sRange1_ (n := n) (by omega) (by omega), wipeE, e3, then_nx, mDrop_, mMeth_, lst_cell hf, mCall_, sTup_lst, hap]
      exact ⟨_, _, rfl, out ++ [.tup vs], r2, rfl, by simp; omega, snoc_all po ⟨vs, rfl, by omega, p3⟩, (a.trans a3).mono (by omega), _, _, _, rfl⟩)
  rw [rgT_length] at lo a
  exact ⟨_, _, e, out, r', rfl, ⟨by omega, po⟩, a.mono (by omega), _, _, _, rfl⟩
end
end VS

set_option Elab.async false
set_option linter.all false
set_option maxRecDepth 100000
set_option maxHeartbeats 4000000
namespace VS
open PySem PySem.Spec PyProof.Rows L2
section
variable {r : Rng} {rest ex : World} {w : World} {all ts rs rs' : List T} {n m n' m' : Int} {g : MG} {c : Cell} {b : MS} {ρ0 : Env} {t : T}
theorem random_ok (o : Ok 800 r) : Gives s__law_tt_random [.cell 1] 800 r rest 3 5 := by
  obtain ⟨q1, r1, e1, q10, q11, a1⟩ := draw_ok (rest := rest) (r := r) (n := 5) (by decide) (by decide) ⟨o.1, by have := o.2; omega⟩
  obtain ⟨q2, r2, e2, q20, q21, a2⟩ := draw_ok (rest := rest) (r := r1) (n := 3) (by decide) (by decide) (o.on a1 1 (by omega))
  have A2 := a1.trans a2
  obtain ⟨q3, r3, e3, q30, q31, a3⟩ := draw_ok (rest := rest) (r := r2) (n := 3) (by decide) (by decide) (o.on A2 1 (by omega))
  have A3 := A2.trans a3
  obtain ⟨ρ', w', e, out, r', rfl, R, a, x1, x6, x7, rfl⟩ := drawn_rows (f := s__law_draw) (A := 0) (K := 0) (L := 0) (x2 := none) (rest := rest) (r := r3) (n := 1 + q1) (m := 1 + q2) (x1 := none) (x6 := none) (x7 := none) (x3 := some (.int (1 + q2))) (x4 := some (.int (1 + q3))) (e1 := mDef 2 s__law_draw (mCons (mVar 0) (mCons (mVar 2) mNil))) (e2 := mDef 2 s__law_draw (mCons (mVar 0) (mCons (mVar 4) mNil))) (by omega) (by omega) (by omega) (by omega) (fun r rest' ρ o hρ => by
    obtain ⟨y1, y5, y6, y7, rfl⟩ := hρ
    obtain ⟨s, r1, e1, s0, s1, a1⟩ := draw_ok (rest := rest') (r := r) (n := 1 + q1) (by omega) (by omega) ⟨o.1, by have := o.2; omega⟩
    obtain ⟨v, r2, e2, v0, v1, a2⟩ := draw_ok (rest := rest') (r := r1) (n := 1 + q3) (by omega) (by omega) (o.on a1 1 (by omega))
    refine ⟨.tup [.int s, .int v], r2, ?_, ⟨s, v, rfl, s0, s1, v0, by omega⟩, a1.trans a2⟩
    simp [e1, e2, two_le]) (o.on A3 _ (by omega))
  refine ⟨out, _, _, r', gc_flat (ex := [.lst out]) ?_ (table_plain R), R, by omega, by omega, by omega, by omega, (A3.trans a).mono (by omega)⟩
  unfold m__law_tt_random runB
  have hw : WD r3 rest ++ [Cell.lst []] = WD r3 (rest ++ [.lst []]) := rfl
  have hf : (WD r' (rest ++ [.lst out]))[rest.length + 2]? = some (.lst out) := wd2
  simp only [List.map_cons, List.map_nil, List.length_cons, List.length_nil, Nat.reduceAdd, Nat.reduceSub, List.replicate_succ, List.replicate_zero, List.cons_append, List.nil_append, mSeq_, mAsg_, mDef_, mTup_, mOp2_, mC_, mCons_, mNil_, mVar0, mVarS, bind_ok', mgTup_, mgCons_, mgNil_, mgName_, if_pos, e1, e2, e3, sAdd_, if_pos two_le, then_nx, List.set_cons_succ, List.set_cons_zero, mCell_, mLst_, if_pos zero_le, WD_len, hw, mFor_, mRange1_, sRange1_ (n := 1 + q2) (by omega) (by omega), e, mRet_, mCall_, sTup_cell hf]
theorem five {P : Int → Prop} {a b c d e : Int} (ha : P a) (hb : P b) (hc : P c) (hd : P d) (he : P e) {t : T} (h : t ∈ [T.int a, .int b, .int c, .int d, .int e]) : ∃ x : Int, t = .int x ∧ P x := by
  simp at h
  rcases h with rfl | rfl | rfl | rfl | rfl
  · exact ⟨_, rfl, ha⟩
  · exact ⟨_, rfl, hb⟩
  · exact ⟨_, rfl, hc⟩
  · exact ⟨_, rfl, hd⟩
  · exact ⟨_, rfl, he⟩
theorem three {P : Int → Prop} {a b c : Int} (ha : P a) (hb : P b) (hc : P c) {t : T} (h : t ∈ [T.int a, .int b, .int c]) : ∃ x : Int, t = .int x ∧ P x := by
  simp at h
  rcases h with rfl | rfl | rfl
  · exact ⟨_, rfl, ha⟩
  · exact ⟨_, rfl, hb⟩
  · exact ⟨_, rfl, hc⟩
theorem pw {i : Int} {j : Nat} (h : CPow i (j : Nat)) : sPow (.int i) (.int (j : Nat)) w = .ok (.int (i ^ j)) w := by
  simp [sPow, s2I, h]
theorem p18 : sPow (.int 10) (.int 18) w = .ok (.int 1000000000000000000) w := by
  have : CPow 10 18 := ⟨by decide, by decide, by decide⟩
  simp [sPow, s2I, this]
theorem p17 : sPow (.int 10) (.int 17) w = .ok (.int 100000000000000000) w := by
  have : CPow 10 17 := ⟨by decide, by decide, by decide⟩
  simp [sPow, s2I, this]
end
end VS

set_option Elab.async false
set_option linter.all false
set_option maxRecDepth 100000
set_option maxHeartbeats 4000000
namespace VS
open PySem PySem.Spec PyProof.Rows L2
noncomputable def whead : MS := (mAsg (mTup (mCons (mDef 2 s__law_draw (mCons (mVar 0) (mCons (mC (.int 9)) mNil))) (mCons (mOp2 sAdd (mC (.int 2)) (mDef 2 s__law_draw (mCons (mVar 0) (mCons (mC (.int 3)) mNil)))) mNil))) (mgTup 2 (mgCons (mgName 1) (mgCons (mgName 2) mgNil))))
noncomputable def wchain : MS := (mIfS (mTest (mOp2 sEq (mVar 1) (mC (.int 0))))
 (mAsg (mCell (mComp [4] (mRange1 (mCons (mVar 2) mNil)) (mgName 4) mYes (mCall sTup (mCons (mVal (mComp [5] (mRange1 (mCons (mVar 2) mNil)) (mgName 5) mYes (mTup (mCons (mVar 4) (mCons (mVar 5) mNil))))) mNil)))) (mgName 3))
 (mIfS (mTest (mOp2 sEq (mVar 1) (mC (.int 1))))
 (mAsg (mCell (mComp [4] (mRange1 (mCons (mC (.int 2)) mNil)) (mgName 4) mYes (mCall sTup (mCons (mVal (mComp [5] (mRange1 (mCons (mC (.int 3)) mNil)) (mgName 5) mYes (mTup (mCons (mIf (mTest (mOp2 sEq (mVar 5) (mC (.int 0)))) (mOp2 sAdd (mVar 4) (mC (.int 1))) (mVar 5)) (mCons (mVar 5) mNil))))) mNil)))) (mgName 3))
 (mIfS (mTest (mOp2 sEq (mVar 1) (mC (.int 2))))
 (mAsg (mCell (mComp [6] (mItems (mVal (mLst (mCons (mC (.int 1)) (mCons (mC (.int 2)) mNil))))) (mgName 6) mYes (mCall sTup (mCons (mVal (mComp [5] (mRange1 (mCons (mVar 2) mNil)) (mgName 5) mYes (mTup (mCons (mOp2 sMod (mOp2 sAdd (mVar 5) (mVar 6)) (mVar 2)) (mCons (mVar 5) mNil))))) mNil)))) (mgName 3))
 (mIfS (mTest (mOp2 sEq (mVar 1) (mC (.int 3))))
 (mSeq (mAsg (mCell (mLst (mCons (mCall sTup (mCons (mVal (mComp [5] (mRange1 (mCons (mVar 2) mNil)) (mgName 5) mYes (mTup (mCons (mCall sMax2 (mCons (mOp2 sSub (mVar 5) (mC (.int 1))) (mCons (mC (.int 0)) mNil))) (mCons (mCall sMin2 (mCons (mVar 5) (mCons (mC (.int 1)) mNil))) mNil))))) mNil)) mNil))) (mgName 3))
 (mDrop (mMeth sAppend (mVar 3) (mCons (mCall sTup (mCons (mVal (mComp [5] (mRange1 (mCons (mVar 2) mNil)) (mgName 5) mYes (mTup (mCons (mCall sMin2 (mCons (mOp2 sAdd (mVar 5) (mC (.int 1))) (mCons (mOp2 sSub (mVar 2) (mC (.int 1))) mNil))) (mCons (mC (.int 0)) mNil))))) mNil)) mNil))))
 (mIfS (mTest (mOp2 sEq (mVar 1) (mC (.int 4))))
 (mAsg (mCell (mLst (mCons (mOp2 sAdd (mOp2 sMul (mTup (mCons (mTup (mCons (mC (.int 0)) (mCons (mC (.int 0)) mNil))) mNil)) (mC (.int 2))) (mTup (mCons (mTup (mCons (mC (.int 3)) (mCons (mC (.int 0)) mNil))) (mCons (mTup (mCons (mC (.int 2)) (mCons (mC (.int 0)) mNil))) mNil)))) (mCons (mOp2 sAdd (mOp2 sMul (mTup (mCons (mTup (mCons (mC (.int 1)) (mCons (mC (.int 0)) mNil))) mNil)) (mC (.int 2))) (mTup (mCons (mTup (mCons (mC (.int 2)) (mCons (mC (.int 0)) mNil))) (mCons (mTup (mCons (mC (.int 2)) (mCons (mC (.int 0)) mNil))) mNil)))) (mCons (mTup (mCons (mTup (mCons (mC (.int 0)) (mCons (mC (.int 0)) mNil))) (mCons (mTup (mCons (mC (.int 0)) (mCons (mC (.int 0)) mNil))) (mCons (mTup (mCons (mC (.int 2)) (mCons (mC (.int 0)) mNil))) (mCons (mTup (mCons (mC (.int 3)) (mCons (mC (.int 0)) mNil))) mNil))))) mNil))))) (mgName 3))
 (mIfS (mTest (mOp2 sEq (mVar 1) (mC (.int 5))))
 (mAsg (mCell (mComp [7] (mItems (mVal (mLst (mCons (mC (.int 0)) (mCons (mC (.int 1)) mNil))))) (mgName 7) mYes (mCall sTup (mCons (mVal (mComp [5] (mRange1 (mCons (mC (.int 3)) mNil)) (mgName 5) mYes (mTup (mCons (mOp2 sMod (mOp2 sAdd (mVar 5) (mC (.int 1))) (mC (.int 3))) (mCons (mOp2 sMul (mVar 5) (mVar 7)) mNil))))) mNil)))) (mgName 3))
 (mIfS (mTest (mOp2 sEq (mVar 1) (mC (.int 6))))
 (mAsg (mCell (mLst (mCons (mTup (mCons (mTup (mCons (mC (.int 1)) (mCons (mC (.int 0)) mNil))) (mCons (mTup (mCons (mC (.int 0)) (mCons (mC (.int 0)) mNil))) (mCons (mTup (mCons (mC (.int 3)) (mCons (mC (.int 0)) mNil))) (mCons (mTup (mCons (mC (.int 2)) (mCons (mC (.int 0)) mNil))) mNil))))) (mCons (mTup (mCons (mTup (mCons (mC (.int 2)) (mCons (mC (.int 0)) mNil))) (mCons (mTup (mCons (mC (.int 3)) (mCons (mC (.int 1)) mNil))) (mCons (mTup (mCons (mC (.int 0)) (mCons (mC (.int 0)) mNil))) (mCons (mTup (mCons (mC (.int 1)) (mCons (mC (.int 1)) mNil))) mNil))))) mNil)))) (mgName 3))
 (mIfS (mTest (mOp2 sEq (mVar 1) (mC (.int 7))))
 (mSeq (mAsg (mCell (mOp2F sCat (mVal (mCallF sList (mCons (mDef 1 s__law_tt_small (mCons (mVar 0) mNil)) mNil))) (mVal (mLst (mCons (mOp2 sMul (mDef 2 s__law_pick (mCons (mVar 0) (mCons (mVal (mLst (mCons (mTup (mCons (mTup (mCons (mC (.int 0)) (mCons (mC (.int 0)) mNil))) mNil)) (mCons (mTup (mCons (mTup (mCons (mC (.int 0)) (mCons (mC (.int 1)) mNil))) mNil)) mNil)))) mNil))) (mC (.int 30))) mNil))))) (mgName 3))
 (mAsg (mCell (mComp [8] (mItems (mVar 3)) (mgName 8) mYes (mSlT (mVar 8) mNoPart (mPart (mCall sLen (mCons (mOp2 sIx (mVar 3) (mC (.int 0))) mNil)))))) (mgName 3)))
 (mAsg (mCell (mCallF sList (mCons (mDef 1 s__law_tt_random (mCons (mVar 0) mNil)) mNil))) (mgName 3))))))))))
noncomputable def wadd : MS := (mIfS (mTest (mOp2 sGt (mDef 2 s__law_draw (mCons (mVar 0) (mCons (mC (.int 4)) mNil))) (mC (.int 0))))
 (mDrop (mMeth sAppend (mVar 3) (mCons (mCall sTup (mCons (mVal (mComp [5] (mRange1 (mCons (mCall sLen (mCons (mOp2 sIx (mVar 3) (mC (.int 0))) mNil)) mNil)) (mgName 5) mYes (mTup (mCons (mVar 5) (mCons (mVar 5) mNil))))) mNil)) mNil)))
 mSkip)
noncomputable def wend : MS := (mRet (mDef 2 s__law_tt_renamed (mCons (mVar 0) (mCons (mCall sTup (mCons (mVar 3) mNil)) mNil))))
theorem wild_parts : m__law_tt_wild = mSeq whead (mSeq wchain (mSeq wadd wend)) := rfl
section
variable {r : Rng} {rest ex : World} {w : World} {all ts rs rs' : List T} {n m n' m' : Int} {g : MG} {c : Cell} {b : MS} {ρ0 : Env} {t : T}
theorem comp_goC {k : Nat} {c : MT} {e : ME} {P : T → Prop} {whole : List T} (hk : w[k]? = some (.lst whole)) {all : List T} (h : ∀ t ∈ all, ∃ ρ1 y, g t ρ0 w = .ok ρ1 w ∧ c ρ1 w = .ok true w ∧ e ρ1 w = .ok y w ∧ P y) : ∀ (out : List T), out.length + all.length < 16777216 → (∀ y ∈ out, P y) → ∃ out', compL g c e (some k) whole ρ0 all out w = .ok out' w ∧ out'.length = out.length + all.length ∧ ∀ y ∈ out', P y := by
  induction all with
  | nil => intro out hl hp; refine ⟨out, ?_, by simp, hp⟩; unfold compL; rw [if_pos (kept_some hk)]
  | cons t ts ih =>
    intro out hl hp
    obtain ⟨ρ1, y, e1, e2, e3, py⟩ := h t (.head _)
    obtain ⟨out', e4, l4, p4⟩ := ih (fun t ht => h t (.tail _ ht)) (out ++ [y]) (by simp at hl ⊢; omega) (snoc_all hp py)
    refine ⟨out', ?_, by simp at l4 ⊢; omega, p4⟩
    unfold compL
    rw [if_pos (kept_some hk), e1, bind_ok', e2, bind_ok', if_pos rfl, e3, bind_ok', if_pos (by rw [sizeLine_eq]; simp at hl; omega), e4]
theorem atc {j : Nat} : (WD r (rest ++ ex))[rest.length + j + 2]? = ex[j]? := (at_WD (j := rest.length + j)).trans at_app
theorem setc {j : Nat} : (WD r (rest ++ ex)).set (rest.length + j + 2) c = WD r (rest ++ ex.set j c) := (set_WD (j := rest.length + j)).trans (congrArg (WD r) set_app)
theorem wadd_ok {deeds : List T} {j : Nat} {x1 x2 x4 x5 x6 x7 x8 : Option T} (hj : ex[j]? = some (.lst deeds)) (T0 : Tb deeds 7 5) (o : Ok 1 r) : ∃ deeds' r' ex' y, wadd [some (.cell 1), x1, x2, some (.cell (rest.length + j + 2)), x4, x5, x6, x7, x8] (WD r (rest ++ ex)) = .ok ([some (.cell 1), x1, x2, some (.cell (rest.length + j + 2)), x4, y, x6, x7, x8], .nx) (WD r' (rest ++ ex')) ∧ ex'[j]? = some (.lst deeds') ∧ Tb deeds' 8 5 ∧ Adv 1 r r' := by
  obtain ⟨m, n, R, m0, m1, n0, n1⟩ := T0
  obtain ⟨q, r1, e1, q0, q1, a1⟩ := draw_ok (rest := rest ++ ex) (r := r) (n := 4) (by decide) (by decide) o
  have hl := R.1
  by_cases hq : 0 < q
  · have hc : (WD r1 (rest ++ ex))[rest.length + j + 2]? = some (.lst deeds) := atc.trans hj
    obtain ⟨ss, ds, er, h1, h2⟩ := rows_first R m0
    have hix : sIx (.cell (rest.length + j + 2)) (.int 0) (WD r1 (rest ++ ex)) = .ok (.tup ss) (WD r1 (rest ++ ex)) := sIx_cell hc (by rw [er]; rfl) (by decide)
    obtain ⟨out, e2, l2, p2⟩ := comp_ex (w := WD r1 (rest ++ ex)) (all := rgT 0 n.toNat) (g := mgName 5) (c := mYes) (e := mTup (mCons (mVar 5) (mCons (mVar 5) mNil))) (ρ0 := [some (.cell 1), x1, x2, some (.cell (rest.length + j + 2)), x4, none, x6, x7, x8]) (Step n) (by rw [rgT_length]; omega) (fun t ht => by
      obtain ⟨z, rfl, z0, z1⟩ := rgT_mem ht
      simp [two_le]
      exact ⟨_, _, rfl, z0, by omega, by omega, by omega⟩)
    rw [rgT_length] at l2
    have hap := append_cell (t := .tup out) hc (by omega)
    rw [setc] at hap
    refine ⟨deeds ++ [.tup out], r1, ex.set j (.lst (deeds ++ [.tup out])), x5, ?_, ?_, ⟨_, _, rows_snoc R ⟨out, rfl, by omega, p2⟩, by omega, by omega, n0, n1⟩, a1⟩
    · unfold wadd
      simp [e1, hq, lst_cell hc, hix, h1, sRange1_ (n := n) (by omega) (by omega), wipeE, e2, hap]
    · have : j < ex.length := (List.getElem?_eq_some_iff.mp hj).1
      rw [List.getElem?_set_self this]
  · refine ⟨deeds, r1, ex, x5, ?_, hj, ⟨_, _, R, m0, by omega, n0, n1⟩, a1⟩
    unfold wadd
    simp [e1, hq]
theorem wend_ok {deeds : List T} {j : Nat} {x1 x2 x4 x5 x6 x7 x8 : Option T} (hj : ex[j]? = some (.lst deeds)) (T0 : Tb deeds 8 5) (o : Ok 20 r) : ∃ out r', wend [some (.cell 1), x1, x2, some (.cell (rest.length + j + 2)), x4, x5, x6, x7, x8] (WD r (rest ++ ex)) = .ok ([some (.cell 1), x1, x2, some (.cell (rest.length + j + 2)), x4, x5, x6, x7, x8], .ret (.tup out)) (WD r' (rest ++ ex)) ∧ Tb out 8 5 ∧ Adv 20 r r' := by
  obtain ⟨m, n, R, m0, m1, n0, n1⟩ := T0
  have hc : (WD r (rest ++ ex))[rest.length + j + 2]? = some (.lst deeds) := atc.trans hj
  obtain ⟨out, r', e, R', a⟩ := renamed_ok (rest := rest ++ ex) R m0 (by omega) n0 (by omega) (⟨o.1, by have := o.2; omega⟩ : Ok (m + n) r)
  refine ⟨out, r', ?_, ⟨m, n, R', m0, m1, n0, n1⟩, a.mono (by omega)⟩
  unfold wend
  simp [sTup_cell hc, e]
theorem steps4 {a b c d a' b' c' d' : Int} (ha : 0 ≤ a ∧ a < 4) (hb : 0 ≤ b ∧ b < 4) (hc : 0 ≤ c ∧ c < 4) (hd : 0 ≤ d ∧ d < 4) (ha' : 0 ≤ a' ∧ a' ≤ 9) (hb' : 0 ≤ b' ∧ b' ≤ 9) (hc' : 0 ≤ c' ∧ c' ≤ 9) (hd' : 0 ≤ d' ∧ d' ≤ 9) : Row 4 (.tup [.tup [.int a, .int a'], .tup [.int b, .int b'], .tup [.int c, .int c'], .tup [.int d, .int d']]) :=
  ⟨_, rfl, rfl, mem4 ⟨_, _, rfl, ha.1, ha.2, ha'.1, by omega⟩ ⟨_, _, rfl, hb.1, hb.2, hb'.1, by omega⟩ ⟨_, _, rfl, hc.1, hc.2, hc'.1, by omega⟩ ⟨_, _, rfl, hd.1, hd.2, hd'.1, by omega⟩⟩
def ChainOk (r : Rng) (rest : World) (q z : Int) (Z : R (Env × Fl)) : Prop := ∃ deeds r' ex j x4 x5 x6 x7 x8, Z = .ok ([some (.cell 1), some (.int q), some (.int z), some (.cell (rest.length + j + 2)), x4, x5, x6, x7, x8], .nx) (WD r' (rest ++ ex)) ∧ ex[j]? = some (.lst deeds) ∧ Tb deeds 7 5 ∧ Adv 900 r r'
theorem twice {t : T} : sMul (.tup [t]) (.int 2) w = .ok (.tup [t, t]) w := by
  simp [sMul]
theorem cut_take {us : List T} {n : Int} (h : 0 ≤ n) : T.tup (cutT us none (some n)) = .tup (us.take n.toNat) := by
  have e1 : HT.sIx us.length 0 none = 0 := rfl
  have e2 : HT.sIx us.length us.length (some n) = min n.toNat us.length := by
    show (if n < 0 then (n + (us.length : Int)).toNat else min n.toNat us.length) = _
    rw [if_neg (by omega)]
  unfold cutT
  rw [e1, e2, List.drop_zero, Nat.sub_zero]
  congr 1
  rw [List.take_eq_take_iff]
  omega
theorem wchain_ok {q z : Int} (q0 : 0 ≤ q) (q1 : q < 9) (z0 : 2 ≤ z) (z1 : z ≤ 4) (o : Ok 900 r) : ChainOk r rest q z (wchain [some (.cell 1), some (.int q), some (.int z), none, none, none, none, none, none] (WD r rest)) := by
  generalize hz : wchain [some (.cell 1), some (.int q), some (.int z), none, none, none, none, none, none] (WD r rest) = Z
  unfold wchain at hz
  have rg := sRange1_ (w := WD r rest) (n := z) (by omega) (by omega)
  have rg2 := sRange1_ (w := WD r rest) (n := 2) (by decide) (by decide)
  have rg3 := sRange1_ (w := WD r rest) (n := 3) (by decide) (by decide)
  have A0 : Adv 900 r r := Adv.refl.mono (by decide)
  have one : ∀ l : List T, WD r rest ++ [Cell.lst l] = WD r (rest ++ [.lst l]) := fun _ => rfl
  have hq : q = 0 ∨ q = 1 ∨ q = 2 ∨ q = 3 ∨ q = 4 ∨ q = 5 ∨ q = 6 ∨ q = 7 ∨ q = 8 := by omega
  -- a list made by a comprehension of rows over the states
  rcases hq with rfl | rfl | rfl | rfl | rfl | rfl | rfl | rfl | rfl
  · simp [rg, wipeE] at hz
    generalize hC : compL _ _ _ _ _ _ _ _ _ = C at hz
    obtain ⟨out, e3, l3, p3⟩ : ∃ out, C = .ok out (WD r rest) ∧ out.length = (rgT 0 z.toNat).length ∧ ∀ u ∈ out, Row z u := by
      rw [← hC]
      refine comp_ex _ (by rw [rgT_length]; omega) (fun t ht => ?_)
      obtain ⟨x, rfl, x0, x1⟩ := rgT_mem ht
      simp [rg, wipeE]
      generalize hC : compL _ _ _ _ _ _ _ _ _ = C
      obtain ⟨out, e3, l3, p3⟩ : ∃ out, C = .ok out (WD r rest) ∧ out.length = (rgT 0 z.toNat).length ∧ ∀ u ∈ out, Step z u := by
        rw [← hC]
        refine comp_ex _ (by rw [rgT_length]; omega) (fun t ht => ?_)
        obtain ⟨y, rfl, y0, y1⟩ := rgT_mem ht
        simp [two_le]
        exact ⟨_, _, rfl, x0, by omega, y0, by omega⟩
      rw [rgT_length] at l3
      rw [e3]
      simp
      exact ⟨_, rfl, by omega, p3⟩
    rw [rgT_length] at l3
    rw [e3] at hz
    simp [one, WD_len] at hz
    exact ⟨out, r, [.lst out], 0, _, _, _, _, _, hz.symm, rfl, ⟨z, z, ⟨by omega, p3⟩, by omega, by omega, by omega, by omega⟩, A0⟩
  · simp [rg2, wipeE] at hz
    generalize hC : compL _ _ _ _ _ _ _ _ _ = C at hz
    obtain ⟨out, e3, l3, p3⟩ : ∃ out, C = .ok out (WD r rest) ∧ out.length = (rgT 0 2).length ∧ ∀ u ∈ out, Row 3 u := by
      rw [← hC]
      refine comp_ex _ (by rw [rgT_length]; omega) (fun t ht => ?_)
      obtain ⟨x, rfl, x0, x1⟩ := rgT_mem ht
      simp [rg3, wipeE]
      generalize hC : compL _ _ _ _ _ _ _ _ _ = C
      obtain ⟨out, e3, l3, p3⟩ : ∃ out, C = .ok out (WD r rest) ∧ out.length = (rgT 0 3).length ∧ ∀ u ∈ out, Step 3 u := by
        rw [← hC]
        refine comp_ex _ (by rw [rgT_length]; omega) (fun t ht => ?_)
        obtain ⟨y, rfl, y0, y1⟩ := rgT_mem ht
        by_cases hy : y = 0
        · simp [two_le, hy]
          exact ⟨_, _, rfl, by omega, by omega, by omega, by omega⟩
        · simp [two_le, hy]
          exact ⟨_, _, rfl, by omega, by omega, by omega, by omega⟩
      rw [rgT_length] at l3
      rw [e3]
      simp
      exact ⟨_, rfl, by omega, p3⟩
    rw [rgT_length] at l3
    rw [e3] at hz
    simp [one, WD_len] at hz
    exact ⟨out, r, [.lst out], 0, _, _, _, _, _, hz.symm, rfl, ⟨2, 3, ⟨by omega, p3⟩, by omega, by omega, by omega, by omega⟩, A0⟩
  · simp [two_le, wipeE] at hz
    generalize hC : compL _ _ _ _ _ _ _ _ _ = C at hz
    obtain ⟨out, e3, l3, p3⟩ : ∃ out, C = .ok out (WD r rest) ∧ out.length = [T.int 1, T.int 2].length ∧ ∀ u ∈ out, Row z u := by
      rw [← hC]
      refine comp_ex _ (by decide) (fun t ht => ?_)
      obtain ⟨x, rfl⟩ : ∃ x : Int, t = .int x := by
        simp at ht
        rcases ht with rfl | rfl
        · exact ⟨1, rfl⟩
        · exact ⟨2, rfl⟩
      simp [rg, wipeE]
      generalize hC : compL _ _ _ _ _ _ _ _ _ = C
      obtain ⟨out, e3, l3, p3⟩ : ∃ out, C = .ok out (WD r rest) ∧ out.length = (rgT 0 z.toNat).length ∧ ∀ u ∈ out, Step z u := by
        rw [← hC]
        refine comp_ex _ (by rw [rgT_length]; omega) (fun t ht => ?_)
        obtain ⟨y, rfl, y0, y1⟩ := rgT_mem ht
        simp [two_le, sMod_ (show 0 < z by omega)]
        exact ⟨_, _, rfl, Int.emod_nonneg _ (by omega), Int.emod_lt_of_pos _ (by omega), y0, by omega⟩
      rw [rgT_length] at l3
      rw [e3]
      simp
      exact ⟨_, rfl, by omega, p3⟩
    rw [e3] at hz
    simp [one, WD_len] at hz
    simp at l3
    exact ⟨out, r, [.lst out], 0, _, _, _, _, _, hz.symm, rfl, ⟨2, z, ⟨by omega, p3⟩, by omega, by omega, by omega, by omega⟩, A0⟩
  · simp [rg, wipeE] at hz
    generalize hC : compL _ _ _ _ _ _ _ _ (WD r rest) = C at hz
    obtain ⟨out, e3, l3, p3⟩ : ∃ out, C = .ok out (WD r rest) ∧ out.length = (rgT 0 z.toNat).length ∧ ∀ u ∈ out, Step z u := by
      rw [← hC]
      refine comp_ex _ (by rw [rgT_length]; omega) (fun t ht => ?_)
      obtain ⟨y, rfl, y0, y1⟩ := rgT_mem ht
      simp [two_le]
      refine ⟨_, _, rfl, ?_, ?_, ?_, ?_⟩ <;> split <;> omega
    rw [rgT_length] at l3
    rw [e3] at hz
    have rg' := sRange1_ (w := WD r (rest ++ [.lst [.tup out]])) (n := z) (by omega) (by omega)
    have hc : (WD r (rest ++ [.lst [.tup out]]))[rest.length + 2]? = some (.lst [.tup out]) := wd2
    simp [one, one_le, WD_len, lst_cell hc, rg', wipeE] at hz
    generalize hC : compL _ _ _ _ _ _ _ _ _ = C at hz
    obtain ⟨out2, e4, l4, p4⟩ : ∃ out2, C = .ok out2 (WD r (rest ++ [.lst [.tup out]])) ∧ out2.length = (rgT 0 z.toNat).length ∧ ∀ u ∈ out2, Step z u := by
      rw [← hC]
      refine comp_ex _ (by rw [rgT_length]; omega) (fun t ht => ?_)
      obtain ⟨y, rfl, y0, y1⟩ := rgT_mem ht
      simp [two_le]
      refine ⟨_, _, rfl, ?_, ?_, by decide, by decide⟩ <;> split <;> omega
    rw [rgT_length] at l4
    rw [e4] at hz
    have hap := append_cell (t := .tup out2) hc (by simp)
    rw [ws2] at hap
    simp [hap] at hz
    exact ⟨[.tup out, .tup out2], r, [.lst [.tup out, .tup out2]], 0, _, _, _, _, _, hz.symm, rfl, ⟨2, z, ⟨rfl, mem2 ⟨out, rfl, by omega, p3⟩ ⟨out2, rfl, by omega, p4⟩⟩, by omega, by omega, by omega, by omega⟩, A0⟩
  · have f3 : (3 : Nat) ≤ sizeLine := le_size (by decide)
    have f4 : (4 : Nat) ≤ sizeLine := le_size (by decide)
    simp [two_le, one_le, f3, f4, twice, sAdd, one, WD_len] at hz
    exact ⟨_, r, _, 0, _, _, _, _, _, hz.symm, rfl, ⟨3, 4, ⟨rfl, fun t ht => by
      simp at ht
      rcases ht with rfl | rfl | rfl <;> exact steps4 (by decide) (by decide) (by decide) (by decide) (by decide) (by decide) (by decide) (by decide)⟩, by omega, by omega, by omega, by omega⟩, A0⟩
  · simp [two_le, wipeE] at hz
    generalize hC : compL _ _ _ _ _ _ _ _ _ = C at hz
    obtain ⟨out, e3, l3, p3⟩ : ∃ out, C = .ok out (WD r rest) ∧ out.length = [T.int 0, T.int 1].length ∧ ∀ u ∈ out, Row 3 u := by
      rw [← hC]
      refine comp_ex _ (by decide) (fun t ht => ?_)
      obtain ⟨x, rfl, hx⟩ : ∃ x : Int, t = .int x ∧ (x = 0 ∨ x = 1) := by
        simp at ht
        rcases ht with rfl | rfl
        · exact ⟨0, rfl, .inl rfl⟩
        · exact ⟨1, rfl, .inr rfl⟩
      simp [rg3, wipeE]
      generalize hC : compL _ _ _ _ _ _ _ _ _ = C
      obtain ⟨out, e3, l3, p3⟩ : ∃ out, C = .ok out (WD r rest) ∧ out.length = (rgT 0 3).length ∧ ∀ u ∈ out, Step 3 u := by
        rw [← hC]
        refine comp_ex _ (by rw [rgT_length]; omega) (fun t ht => ?_)
        obtain ⟨y, rfl, y0, y1⟩ := rgT_mem ht
        have hy : y ≤ 2 := by omega
        have hxy : 0 ≤ y * x ∧ y * x ≤ 2 := by rcases hx with rfl | rfl <;> omega
        simp [two_le, sMod_ (show (0 : Int) < 3 by decide), sMul_r (i := y) (j := x) ⟨by rcases hx with rfl | rfl <;> decide, by rcases hx with rfl | rfl <;> decide⟩]
        exact ⟨_, _, rfl, Int.emod_nonneg _ (by decide), Int.emod_lt_of_pos _ (by decide), hxy.1, by omega⟩
      rw [rgT_length] at l3
      rw [e3]
      simp
      exact ⟨_, rfl, by omega, p3⟩
    rw [e3] at hz
    simp [one, WD_len] at hz
    simp at l3
    exact ⟨out, r, [.lst out], 0, _, _, _, _, _, hz.symm, rfl, ⟨2, 3, ⟨by omega, p3⟩, by omega, by omega, by omega, by omega⟩, A0⟩
  · have f4 : (4 : Nat) ≤ sizeLine := le_size (by decide)
    simp [two_le, f4, one, WD_len] at hz
    exact ⟨_, r, _, 0, _, _, _, _, _, hz.symm, rfl, ⟨2, 4, ⟨rfl, fun t ht => by
      simp at ht
      rcases ht with rfl | rfl <;> exact steps4 (by decide) (by decide) (by decide) (by decide) (by decide) (by decide) (by decide) (by decide)⟩, by omega, by omega, by omega, by omega⟩, A0⟩
  · obtain ⟨rs, m, n, r1, e1, R1, b1, b2, b3, b4, a1⟩ := small_ok (r := r) (rest := rest) ⟨o.1, by have := o.2; omega⟩
    obtain ⟨t, r2, e2, ht, a2⟩ := pick_lst (r := r1) (rest := rest) (ts := [.tup [.tup [.int 0, .int 0]], .tup [.tup [.int 0, .int 1]]]) (by decide) (by decide) (o.on a1 1 (by omega))
    obtain ⟨v, rfl, v0, v1⟩ : ∃ v : Int, t = .tup [.tup [.int 0, .int v]] ∧ 0 ≤ v ∧ v ≤ 1 := by
      simp at ht
      rcases ht with rfl | rfl
      · exact ⟨0, rfl, by decide, by decide⟩
      · exact ⟨1, rfl, by decide, by decide⟩
    have hl := R1.1
    have h30 : sMul (.tup [.tup [.int 0, .int v]]) (.int 30) (WD r2 rest) = .ok (.tup (List.replicate 30 (.tup [.int 0, .int v]))) (WD r2 rest) := by
      simp only [sMul]
      rw [if_pos ⟨by simp, by decide, by decide, by simp⟩]
      rw [show (30 : Int).toNat = 30 from rfl, List.flatten_replicate_singleton]
    have hcat := cat_lst (w := WD r2 rest) (us := rs) (vs := [.tup (List.replicate 30 (.tup [.int 0, .int v]))]) (by simp; omega)
    generalize hD : List.replicate 30 (T.tup [.int 0, .int v]) = D at h30 hcat
    have hDl : D.length = 30 := by rw [← hD]; simp
    have hDs : ∀ s ∈ D, Step n s := fun s hs => by
      rw [← hD] at hs
      rw [List.eq_of_mem_replicate hs]
      exact ⟨0, v, rfl, by decide, by omega, v0, by omega⟩
    have one2 : ∀ l : List T, WD r2 rest ++ [Cell.lst l] = WD r2 (rest ++ [.lst l]) := fun _ => rfl
    have hc : (WD r2 (rest ++ [.lst (rs ++ [.tup D])]))[rest.length + 2]? = some (.lst (rs ++ [.tup D])) := wd2
    obtain ⟨ss, ds, er, h1, h2⟩ := rows_first R1 b1
    have hix : sIx (.cell (rest.length + 2)) (.int 0) (WD r2 (rest ++ [.lst (rs ++ [.tup D])])) = .ok (.tup ss) (WD r2 (rest ++ [.lst (rs ++ [.tup D])])) := sIx_cell hc (by rw [er]; rfl) (by decide)
    simp [e1, e2, two_le, one_le, h30, hcat, one2, WD_len, sItems_cell hc, wipeE] at hz
    generalize hC : compL _ _ _ _ _ _ _ _ _ = C at hz
    obtain ⟨out, e3, l3, p3⟩ : ∃ out, C = .ok out (WD r2 (rest ++ [.lst (rs ++ [.tup D])])) ∧ out.length = ([] : List T).length + (rs ++ [T.tup D]).length ∧ ∀ u ∈ out, Row n u := by
      rw [← hC]
      refine comp_goC hc (fun t ht => ?_) [] (by simp; omega) (fun _ h => nomatch h)
      obtain ⟨us, rfl, hu, hs⟩ : ∃ us, t = .tup us ∧ n ≤ (us.length : Int) ∧ ∀ s ∈ us, Step n s := by
        rcases List.mem_append.mp ht with ht | ht
        · obtain ⟨us, rfl, h3, h4⟩ := R1.2 t ht
          exact ⟨us, rfl, by omega, h4⟩
        · simp at ht
          exact ⟨D, ht, by omega, hDs⟩
      simp [hix, h1]
      refine ⟨_, cut_take (by omega), ?_, fun s hs' => hs s (List.mem_of_mem_take hs')⟩
      rw [List.length_take]
      omega
    rw [e3] at hz
    simp at hz l3
    have hw : WD r2 (rest ++ [.lst (rs ++ [.tup D])]) ++ [.lst out] = WD r2 (rest ++ [.lst (rs ++ [.tup D]), .lst out]) := by simp [WD]
    have hk : (WD r2 (rest ++ [.lst (rs ++ [.tup D])])).length = rest.length + 1 + 2 := by simp [WD]
    rw [hw, hk] at hz
    exact ⟨out, r2, [.lst (rs ++ [.tup D]), .lst out], 1, _, _, _, _, _, hz.symm, rfl, ⟨m + 1, n, ⟨by omega, p3⟩, by omega, by omega, by omega, by omega⟩, (a1.trans a2).mono (by omega)⟩
  · obtain ⟨rs, m, n, r1, e1, R1, b1, b2, b3, b4, a1⟩ := random_ok (r := r) (rest := rest) ⟨o.1, by have := o.2; omega⟩
    simp [e1] at hz
    exact ⟨rs, r1, [.lst rs], 0, _, _, _, _, _, hz.symm, rfl, ⟨m, n, R1, b1, by omega, b3, b4⟩, a1.mono (by decide)⟩
end
end VS

set_option Elab.async false
set_option linter.all false
set_option maxRecDepth 100000
set_option maxHeartbeats 4000000
namespace VS
open PySem PySem.Spec PyProof.Rows L2
section
variable {r : Rng} {rest ex : World} {w : World} {all ts rs rs' : List T} {n m s a i : Int} {ds ns : List Int} {t x y : T} {k l : Nat}
theorem wild_ok (o : Ok 1000 r) : Gives s__law_tt_wild [.cell 1] 1000 r rest 12 30 := by
  obtain ⟨q, r1, e1, q0, q1, a1⟩ := draw_ok (rest := rest) (r := r) (n := 9) (by decide) (by decide) ⟨o.1, by have := o.2; omega⟩
  obtain ⟨p, r2, e2, p0, p1, a2⟩ := draw_ok (rest := rest) (r := r1) (n := 3) (by decide) (by decide) (o.on a1 1 (by omega))
  have A2 := a1.trans a2
  obtain ⟨deeds, r3, ex, j, x4, x5, x6, x7, x8, e3, hj, T3, a3⟩ := wchain_ok (r := r2) (rest := rest) (q := q) (z := 2 + p) q0 q1 (by omega) (by omega) (o.on A2 _ (by omega))
  have A3 := A2.trans a3
  obtain ⟨deeds', r4, ex', y, e4, hj', T4, a4⟩ := wadd_ok (r := r3) (rest := rest) (x1 := some (.int q)) (x2 := some (.int (2 + p))) (x4 := x4) (x5 := x5) (x6 := x6) (x7 := x7) (x8 := x8) hj T3 (o.on A3 _ (by omega))
  have A4 := A3.trans a4
  obtain ⟨out, r5, e5, T5, a5⟩ := wend_ok (r := r4) (rest := rest) (x1 := some (.int q)) (x2 := some (.int (2 + p))) (x4 := x4) (x5 := y) (x6 := x6) (x7 := x7) (x8 := x8) hj' T4 (o.on A4 _ (by omega))
  obtain ⟨m, n, R, b1, b2, b3, b4⟩ := T5
  refine ⟨out, m, n, r5, gc_flat (ex := ex') ?_ (table_plain R), R, b1, by omega, b3, by omega, (A4.trans a5).mono (by omega)⟩
  rw [wild_parts]
  unfold runB whead
  simp only [List.map_cons, List.map_nil, List.length_cons, List.length_nil, Nat.reduceAdd, Nat.reduceSub, List.replicate_succ, List.replicate_zero, List.cons_append, List.nil_append, mSeq_, mAsg_, mDef_, mTup_, mOp2_, mC_, mCons_, mNil_, mVar0, mVarS, bind_ok', mgTup_, mgCons_, mgNil_, mgName_, if_pos, e1, e2, sAdd_, if_pos two_le, then_nx, List.set_cons_succ, List.set_cons_zero, e3, e4, e5]
theorem any_ok {M : Int} (hM : M ≤ 24) (o : Ok 1100 r) : Gives s__law_tt_any [.cell 1, .int M] 1100 r rest 12 30 := by
  obtain ⟨q, r1, e1, q0, q1, a1⟩ := draw_ok (rest := rest) (r := r) (n := 2) (by decide) (by decide) ⟨o.1, by have := o.2; omega⟩
  by_cases hq : q = 0
  · obtain ⟨rs, m, n, r2, e2, R, b1, b2, b3, b4, a2⟩ := served_ok hM (r := r1) (rest := rest) (o.on a1 _ (by omega))
    refine ⟨rs, m, n, r2, ?_, R, b1, b2, b3, b4, (a1.trans a2).mono (by omega)⟩
    unfold s__law_tt_any m__law_tt_any runB
    simp [e1, hq, e2]
  · obtain ⟨rs, m, n, r2, e2, R, b1, b2, b3, b4, a2⟩ := wild_ok (r := r1) (rest := rest) (o.on a1 _ (by omega))
    refine ⟨rs, m, n, r2, ?_, R, b1, b2, b3, b4, (a1.trans a2).mono (by omega)⟩
    unfold s__law_tt_any m__law_tt_any runB
    simp [e1, hq, e2]
theorem begun_ok (hl : ns.length ≤ 63) : ∃ r, s__law_begun [.frz (ns.map T.int)] [] = .ok (.cell 1) (WD r []) ∧ r.turn = 0 := by
  obtain ⟨out, w', e1, rfl, gs, rfl, hgl⟩ := compL_run (w := []) (P := fun i out w' => w' = ([] : World) ∧ ∃ gs : List Int, out = gs.map T.int ∧ gs.length ≤ i) (all := ns.map T.int) (g := mgName 2) (c := mTest (mOp2 sGe (mCall sAbs (mCons (mVar 2) mNil)) (mOp2 sPow (mC (.int 10)) (mC (.int 18))))) (e := mOp2 sSub (mCall sAbs (mCons (mVar 2) mNil)) (mOp2 sPow (mC (.int 10)) (mC (.int 18)))) (ρ0 := [some (.frz (ns.map T.int)), none, none]) ⟨rfl, [], rfl, by simp⟩ (fun i t out w ht p => by
    obtain ⟨rfl, gs, rfl, hg⟩ := p
    obtain ⟨v, rfl, hi⟩ := ints_at ht
    have hi' : i < ns.length := (List.getElem?_eq_some_iff.mp hi).1
    refine ⟨[some (.frz (ns.map T.int)), none, some (.int v)], [], by simp, ?_⟩
    by_cases hv : 1000000000000000000 ≤ (if v < 0 then -v else v)
    · refine .inl ⟨[], .int ((if v < 0 then -v else v) - 1000000000000000000), [], by simp [p18, hv], by simp [p18], by simp; omega, rfl, gs ++ [(if v < 0 then -v else v) - 1000000000000000000], by simp, by simp; omega⟩
    · exact .inr ⟨[], by simp [p18]; omega, rfl, gs, rfl, by omega⟩)
  obtain ⟨out2, w2, e2, rfl, cs, rfl, _⟩ := compL_run (w := [Cell.lst (gs.map T.int)]) (P := fun i out w' => w' = [Cell.lst (gs.map T.int)] ∧ ∃ cs : List Int, out = cs.map T.int ∧ cs.length = i) (all := ns.map T.int) (g := mgName 2) (c := mYes) (e := mCall sAbs (mCons (mVar 2) mNil)) (ρ0 := [some (.frz (ns.map T.int)), some (.cell 0), none]) ⟨rfl, [], rfl, rfl⟩ (fun i t out w ht p => by
    obtain ⟨rfl, cs, rfl, hc⟩ := p
    obtain ⟨v, rfl, hi⟩ := ints_at ht
    have hi' : i < ns.length := (List.getElem?_eq_some_iff.mp hi).1
    exact ⟨[some (.frz (ns.map T.int)), some (.cell 0), some (.int v)], [Cell.lst (gs.map T.int)], by simp, .inl ⟨[Cell.lst (gs.map T.int)], .int (if v < 0 then -v else v), [Cell.lst (gs.map T.int)], rfl, by simp, by simp; omega, rfl, cs ++ [if v < 0 then -v else v], by simp, by simp; omega⟩⟩)
  refine ⟨⟨gs, cs, 0, 0⟩, ?_, rfl⟩
  unfold s__law_begun m__law_begun runB
  have hnd : ([kG, kC, kL, kT] : List Key).Nodup := by decide +kernel
  simp [wipeE, e1, e2, keyT, hnd]
  rfl
end
end VS

set_option Elab.async false
set_option linter.all false
set_option maxRecDepth 100000
set_option maxHeartbeats 4000000
namespace VS
open PySem PySem.Spec PyProof.Rows L2
section
variable {r : Rng} {rest ex : World} {w : World} {all ts rs rs' : List T} {n m s a i : Int} {ds ns : List Int} {t x y : T} {k l : Nat} {c d : Cell}
theorem keepc (h : w[k]? = some c) : (w ++ [d])[k]? = some c := by
  rw [List.getElem?_append_left (List.getElem?_eq_some_iff.mp h).1]; exact h
theorem pd_lst : pd w (.lst (ns.map .int)) = some (.list (ns.map .int)) := by
  have : ∀ ns : List Int, pds w (ns.map .int) = some (ns.map .int) := fun ns => by
    induction ns with
    | nil => rfl
    | cons n ns ih => simp [pds, pd, ih]
  simp [pd, this]
theorem eqv_self : ∀ ns : List Int, PyData.eqvAll (ns.map .int) (ns.map .int) = true := fun ns => by rw [eqv_ints]; simp
theorem shaped_res (i : Int) (ns : List Int) : SeqAt.shaped (.tuple [.int i, .list (ns.map .int)]) = true := by
  have h := depth_ints ns
  simp [SeqAt.shaped, PyData.canLay0, PyData.canLayAll0, lay_ints, PyData.depth, PyData.depthAll]
  omega
theorem eq_res (hx : pd w x = some (.list (ns.map .int))) (hy : pd w y = some (.list (ns.map .int))) : eqT w (.tup [.int i, x]) (.tup [.int i, y]) = some true := by
  rw [eqT_of (d := .tuple [.int i, .list (ns.map .int)]) (e := .tuple [.int i, .list (ns.map .int)]) (by simp [pd, pds, hx]) (by simp [pd, pds, hy]) (shaped_res i ns) (shaped_res i ns)]
  simp [PyData.eqv, PyData.eqvAll, eqv_self]
theorem ne_res (hx : pd w x = some (.list (ns.map .int))) (hy : pd w y = some (.list (ns.map .int))) : sNe (.tup [.int i, x]) (.tup [.int i, y]) w = .ok (.bl false) w := by
  simp [sNe, eq_res hx hy]
theorem eqs_res (hx : pd w x = some (.list (ns.map .int))) (hy : pd w y = some (.list (ns.map .int))) : sEq (.tup [.int i, x]) (.tup [.int i, y]) w = .ok (.bl true) w := by
  simp [sEq, eq_res hx hy]
theorem ne_lst : sNe (.lst (ns.map .int)) (.lst (ns.map .int)) w = .ok (.bl false) w := by
  have e : eqT w (.lst (ns.map .int)) (.lst (ns.map .int)) = some true := by
    rw [eqT_of (w := w) pd_lst pd_lst (shaped_ints _) (shaped_ints _)]
    simp [PyData.eqv, eqv_self]
  simp [sNe, e]
theorem cut_lo {us : List T} {n : Int} (h : 0 ≤ n) (h' : n ≤ (us.length : Int)) : cutT us none (some n) = us.take n.toNat := by
  have e1 : HT.sIx us.length 0 none = 0 := rfl
  have e2 : HT.sIx us.length us.length (some n) = min n.toNat us.length := by
    show (if n < 0 then (n + (us.length : Int)).toNat else min n.toNat us.length) = _
    rw [if_neg (by omega)]
  unfold cutT
  rw [e1, e2, List.drop_zero, Nat.sub_zero]
  congr 1
  omega
theorem cut_hi {us : List T} {n : Int} (h : 0 ≤ n) (h' : n ≤ (us.length : Int)) : cutT us (some n) none = us.drop n.toNat := by
  have e1 : HT.sIx us.length us.length none = us.length := rfl
  have e2 : HT.sIx us.length 0 (some n) = min n.toNat us.length := by
    show (if n < 0 then (n + (us.length : Int)).toNat else min n.toNat us.length) = _
    rw [if_neg (by omega)]
  unfold cutT
  rw [e1, e2, Nat.min_eq_left (by omega)]
  apply List.take_of_length_le
  simp
end
end VS

set_option Elab.async false
set_option linter.all false
set_option maxRecDepth 100000
set_option maxHeartbeats 4000000
namespace VS
open PySem PySem.Spec PyProof.Rows L2
section
variable {w : World} {ρ : Env} {all rs : List T} {n m one other s : Int} {g : MG} {b : MS} {c : MT} {e : ME}
@[simp] theorem mEnum_ {m : MF} : mEnum m ρ w = (m ρ w).bind sEnum := rfl
@[simp] theorem mDefP_ {n np nk : Nat} {ix : List Nat} {f : Sem} {m mk : MF} : mDefP n np nk ix f m mk ρ w = (m ρ w).bind fun ds w1 => (mk ρ w1).bind fun es w2 => if ds.length = np ∧ es.length = nk ∧ (prm ix (ds ++ es)).length = n then f (prm ix (ds ++ es)) w2 else .no := rfl
@[simp] theorem mRevL_ {a : ME} : mRevL a ρ w = (a ρ w).bind fun t w1 => match lst? w1 t with
  | some ts => .ok ts.reverse w1
  | _ => .no := rfl
@[simp] theorem sIsB_ {i j : Bool} : sIsB (.bl i) (.bl j) w = .ok (.bl (decide (i = j))) w := rfl
/-- a for that may end with a value -/
theorem forL_until_go (p : Nat → Bool) (U : T → Prop) (P : Nat → Env → World → Prop) (Q : World → Prop)
    (h : ∀ i t ρ w, all[i]? = some t → P i ρ w → ∃ ρ1 w1 x, (p i = true ∧ ((g t ρ w).bind fun ρ1 w1 => b ρ1 w1) = .ok (ρ1, .nx) w1 ∧ P (i + 1) ρ1 w1) ∨ (p i = false ∧ ((g t ρ w).bind fun ρ1 w1 => b ρ1 w1) = .ok (ρ1, .ret x) w1 ∧ U x ∧ Q w1)) :
    ∀ (k i : Nat) (ρ : Env) (w : World), k + i = all.length → (∀ j < i, p j = true) → P i ρ w → ∃ ρ' w', ((∀ j < all.length, p j = true) ∧ forL g b none all (all.drop i) ρ w = .ok (ρ', .nx) w' ∧ P all.length ρ' w') ∨ ((∃ j, j < all.length ∧ p j = false) ∧ (∃ x, forL g b none all (all.drop i) ρ w = .ok (ρ', .ret x) w' ∧ U x) ∧ Q w')
  | 0, i, ρ, w, hk, hp, q => by
    have ei : i = all.length := by omega
    subst ei
    refine ⟨ρ, w, .inl ⟨hp, ?_, q⟩⟩
    rw [List.drop_length]
    unfold forL
    rw [if_pos kept_none]
  | k + 1, i, ρ, w, hk, hp, q => by
    have hi : i < all.length := by omega
    obtain ⟨ρ1, w1, x, h1⟩ := h i all[i] ρ w (by simp [hi]) q
    rcases h1 with ⟨p1, e1, q1⟩ | ⟨p1, e1, u1, q1⟩
    · obtain ⟨ρ2, w2, h2⟩ := forL_until_go p U P Q h k (i + 1) ρ1 w1 (by omega) (fun j hj => by
        by_cases hji : j = i
        · rw [hji]; exact p1
        · exact hp j (by omega)) q1
      have e : forL g b none all (all.drop i) ρ w = forL g b none all (all.drop (i + 1)) ρ1 w1 := by
        rw [List.drop_eq_getElem_cons hi]
        show forL g b none all (all[i] :: all.drop (i + 1)) ρ w = _
        rw [forL.eq_2, if_pos kept_none]
        cases q0 : g all[i] ρ w with
        | no => rw [q0] at e1; cases e1
        | ok ρ0 w0 =>
          rw [q0, bind_ok'] at e1
          rw [bind_ok', e1, bind_ok']
      rw [e]
      exact ⟨ρ2, w2, h2⟩
    · refine ⟨ρ1, w1, .inr ⟨⟨i, hi, p1⟩, ⟨x, ?_, u1⟩, q1⟩⟩
      rw [List.drop_eq_getElem_cons hi]
      rw [forL.eq_2, if_pos kept_none]
      cases q0 : g all[i] ρ w with
      | no => rw [q0] at e1; cases e1
      | ok ρ0 w0 =>
        rw [q0, bind_ok'] at e1
        rw [bind_ok', e1, bind_ok']
theorem forL_until (p : Nat → Bool) (U : T → Prop) (P : Nat → Env → World → Prop) (Q : World → Prop) (h0 : P 0 ρ w)
    (h : ∀ i t ρ w, all[i]? = some t → P i ρ w → ∃ ρ1 w1 x, (p i = true ∧ ((g t ρ w).bind fun ρ1 w1 => b ρ1 w1) = .ok (ρ1, .nx) w1 ∧ P (i + 1) ρ1 w1) ∨ (p i = false ∧ ((g t ρ w).bind fun ρ1 w1 => b ρ1 w1) = .ok (ρ1, .ret x) w1 ∧ U x ∧ Q w1)) :
    ∃ ρ' w', ((∀ j < all.length, p j = true) ∧ forL g b none all all ρ w = .ok (ρ', .nx) w' ∧ P all.length ρ' w') ∨ ((∃ j, j < all.length ∧ p j = false) ∧ (∃ x, forL g b none all all ρ w = .ok (ρ', .ret x) w' ∧ U x) ∧ Q w') := by
  have := forL_until_go (g := g) (b := b) p U P Q h all.length 0 ρ w (by omega) (fun j hj => absurd hj (by omega)) h0
  rwa [List.drop_zero] at this
/-! two deeds -/
def cB (rs : List T) (one other s : Int) : Bool := decide ((stepAt rs one (stepAt rs other s).1).1 = (stepAt rs other (stepAt rs one s).1).1) && (decide ((stepAt rs one (stepAt rs other s).1).2 = (stepAt rs one s).2) && decide ((stepAt rs other (stepAt rs one s).1).2 = (stepAt rs other s).2))
def oB (rs : List T) (one other s : Int) : Bool := decide ((stepAt rs one (stepAt rs other s).1).1 = (stepAt rs one s).1) && decide ((stepAt rs one (stepAt rs other s).1).2 = (stepAt rs one s).2)
def cA (rs : List T) (n one other : Int) : Bool := (List.range n.toNat).all fun i => cB rs one other (i : Nat)
def oA (rs : List T) (n one other : Int) : Bool := (List.range n.toNat).all fun i => oB rs one other (i : Nat)
def fine (rs : List T) (n one other : Int) : Bool := cA rs n one other || oA rs n one other || oA rs n other one
theorem commute_at_ok (R : Rows m n rs) (h1 : 0 ≤ one) (h2 : one < m) (h3 : 0 ≤ other) (h4 : other < m) (s0 : 0 ≤ s) (s1 : s < n) : s__commute_at [.tup rs, .int s, .int one, .int other] w = .ok (.bl (cB rs one other s)) w := by
  obtain ⟨sa, qa, a0, a1, _⟩ := stepAt_ok R h1 h2 s0 s1
  obtain ⟨sb, qb, b0, b1, _⟩ := stepAt_ok R h3 h4 s0 s1
  obtain ⟨sc, qc, _⟩ := stepAt_ok R h1 h2 b0 b1
  obtain ⟨sd, qd, _⟩ := stepAt_ok R h3 h4 a0 a1
  have ea := (qa w).1
  have eb := (qb w).1
  have ec := (qc w).1
  have ed := (qd w).1
  rw [ea] at ec
  rw [eb] at ed
  cases ec
  cases ed
  unfold s__commute_at m__commute_at runB
  simp only [List.map_cons, List.map_nil, List.length_cons, List.length_nil, Nat.reduceAdd, Nat.reduceSub, List.replicate_succ, List.replicate_zero, List.cons_append, List.nil_append, mSeq_, mAsg_, mOp2_, mVar0, mVarS, bind_ok', mgTup_, mgCons_, mgNil_, mgName_, if_pos, ea, eb, (qa w).2, (qb w).2, (qc w).2, (qd w).2, then_nx, List.set_cons_zero, List.set_cons_succ, mRet_, mAndV_, sEq_int, sTru_bl, cB]
  by_cases x1 : (stepAt rs one (stepAt rs other s).1).1 = (stepAt rs other (stepAt rs one s).1).1 <;> by_cases x2 : (stepAt rs one (stepAt rs other s).1).2 = (stepAt rs one s).2 <;> simp [x1, x2]
theorem bls_map : ∀ bs : List Bool, blsT (bs.map .bl) = some bs
  | [] => rfl
  | b :: bs => by simp [blsT, bls_map bs]
theorem all_map {bs : List Bool} : sAll [.lst (bs.map .bl)] w = .ok (.bl (bs.all id)) w := by simp [sAll, bls_map]
theorem rgT_map {f : T → T} {q : Int → Bool} (h : ∀ i : Int, f (.int i) = .bl (q i)) (k : Nat) : (rgT 0 k).map f = ((List.range k).map fun i => q (i : Nat)).map .bl := by
  unfold rgT
  rw [List.map_map, List.map_map]
  congr 1
  funext i
  simp [h]
theorem do_commute_ok (R : Rows m n rs) (hn : n ≤ 1000) (h1 : 0 ≤ one) (h2 : one < m) (h3 : 0 ≤ other) (h4 : other < m) : s_do_commute [.tup rs, .int one, .int other] w = .ok (.bl (cA rs n one other)) w := by
  obtain ⟨s0, ix0, l0⟩ := len_first R (by omega)
  have e := compL_map (w := w) (all := rgT 0 n.toNat) (g := mgName 3) (c := mYes) (e := mDef 4 s__commute_at (mCons (mVar 0) (mCons (mVar 3) (mCons (mVar 1) (mCons (mVar 2) mNil))))) (ρ0 := [some (.tup rs), some (.int one), some (.int other), none]) (fun t => match t with | .int i => .bl (cB rs one other i) | t => t) (by rw [rgT_length]; omega) (fun t ht => by
    obtain ⟨i, rfl, i0, i1⟩ := rgT_mem ht
    refine ⟨[some (.tup rs), some (.int one), some (.int other), some (.int i)], by simp, rfl, ?_⟩
    have := commute_at_ok (w := w) R h1 h2 h3 h4 i0 (by omega : i < n)
    simp [this])
  rw [rgT_map (q := cB rs one other) (fun i => rfl)] at e
  unfold s_do_commute m_do_commute runB
  simp [ix0, l0, sRange1_ (n := n) (by omega) (by omega), wipeE]
  rw [e]
  simp only [bind_ok', all_map, cA]
  simp
theorem eq_pair {a b c d : Int} : sEq (.tup [.int a, .int b]) (.tup [.int c, .int d]) w = .ok (.bl (decide (a = c) && decide (b = d))) w := by
  have sh : ∀ i j : Int, SeqAt.shaped (.tuple [.int i, .int j]) = true := fun i j => by simp [SeqAt.shaped, PyData.canLay0, PyData.canLayAll0, PyData.depth, PyData.depthAll]
  have e : eqT w (.tup [.int a, .int b]) (.tup [.int c, .int d]) = some (decide (a = c) && decide (b = d)) := by
    rw [eqT_of (d := .tuple [.int a, .int b]) (e := .tuple [.int c, .int d]) (by simp [pd, pds]) (by simp [pd, pds]) (sh _ _) (sh _ _)]
    simp [PyData.eqv, PyData.eqvAll]
    by_cases h1 : a = c <;> by_cases h2 : b = d <;> simp [h1, h2]
  simp [sEq, e]
theorem does_overwrite_ok (R : Rows m n rs) (hn : n ≤ 1000) (h1 : 0 ≤ one) (h2 : one < m) (h3 : 0 ≤ other) (h4 : other < m) : s_does_overwrite [.tup rs, .int one, .int other] w = .ok (.bl (oA rs n one other)) w := by
  have hd : other.toNat < rs.length := by have := R.1; omega
  obtain ⟨so, eo, lo, po⟩ := R.2 _ (List.getElem_mem hd)
  have ixo := sIx_tup (w := w) (i := other) (ts := rs) (by rw [List.getElem?_eq_getElem hd, eo]) h3
  have e := compL_run (w := w) (all := enT 0 so) (g := mgTup 2 (mgCons (mgName 3) (mgCons (mgTup 2 (mgCons (mgName 4) (mgCons (mgName 5) mgNil))) mgNil))) (c := mYes) (e := mOp2 sEq (mOp2 sIx (mOp2 sIx (mVar 0) (mVar 1)) (mVar 4)) (mOp2 sIx (mOp2 sIx (mVar 0) (mVar 1)) (mVar 3))) (ρ0 := [some (.tup rs), some (.int one), some (.int other), none, none, none]) (P := fun i out w' => w' = w ∧ out = ((List.range i).map fun (j : Nat) => oB rs one other (j : Nat)).map T.bl) ⟨rfl, rfl⟩ (fun i t out w' ht p => by
    obtain ⟨rfl, rfl⟩ := p
    obtain ⟨u, hu, rfl⟩ := enT_at ht
    have hi : i < so.length := (List.getElem?_eq_some_iff.mp hu).1
    obtain ⟨k, hk⟩ : ∃ k : Int, k = ((0 + i : Nat) : Int) := ⟨_, rfl⟩
    rw [← hk]
    obtain ⟨sb, qb, b0, b1, _⟩ := stepAt_ok R h3 h4 (s := k) (by omega) (by omega)
    have eb := (qb w').1
    rw [ixo] at eb
    cases eb
    have eu : u = .tup [.int (stepAt rs other k).1, .int (stepAt rs other k).2] := by
      have h5 := (qb w').2
      rw [sIx_tup (i := k) (by rw [show k.toNat = i by omega]; exact hu) (by omega)] at h5
      cases h5
      rfl
    subst eu
    obtain ⟨sa, qa, _⟩ := stepAt_ok R h1 h2 (s := k) (by omega) (by omega)
    obtain ⟨sc, qc, _⟩ := stepAt_ok R h1 h2 b0 b1
    have ec := (qc w').1
    rw [(qa w').1] at ec
    cases ec
    refine ⟨[some (.tup rs), some (.int one), some (.int other), some (.int k), some (.int (stepAt rs other k).1), some (.int (stepAt rs other k).2)], w', by simp, .inl ⟨w', .bl (oB rs one other k), w', rfl, ?_, by simp; omega, rfl, ?_⟩⟩
    · simp only [mOp2_, mVar0, mVarS, bind_ok', (qa w').1, (qa w').2, (qc w').2, eq_pair, oB]
    · rw [List.range_succ, List.map_append, List.map_append]
      simp [hk])
  obtain ⟨out, w', e1, rfl, rfl⟩ := e
  unfold s_does_overwrite m_does_overwrite runB
  simp [ixo, sEnum, wipeE]
  rw [e1, enT_len]
  simp only [bind_ok', all_map, oA]
  have : so.length = n.toNat := by omega
  rw [this]
  simp
end
end VS

set_option Elab.async false
set_option linter.all false
set_option maxRecDepth 100000
set_option maxHeartbeats 4000000
namespace VS
open PySem PySem.Spec PyProof.Rows L2
section
variable {w : World} {ρ : Env} {all rs : List T} {n m one other s : Int} {x y : T} {ns ms : List Int}
structure Tab (rs : List T) (m n : Int) : Prop where
  R : Rows m n rs
  m0 : 1 ≤ m
  m1 : m ≤ 12
  n0 : 1 ≤ n
  n1 : n ≤ 30
theorem clash_ok (B : Tab rs m n) (h1 : 0 ≤ one) (h2 : one < m) (h3 : 0 ≤ other) (h4 : other < m) : s_clash [.tup rs, .int one, .int other] w = .ok (.bl (!fine rs n one other)) w := by
  unfold s_clash m_clash runB
  have hn : n ≤ 1000 := by have := B.n1; omega
  have e1 := do_commute_ok (w := w) B.R hn h1 h2 h3 h4
  have e2 := does_overwrite_ok (w := w) B.R hn h1 h2 h3 h4
  have e3 := does_overwrite_ok (w := w) B.R hn h3 h4 h1 h2
  unfold fine
  cases x1 : cA rs n one other <;> cases x2 : oA rs n one other <;> cases x3 : oA rs n other one <;> simp [e1, e2, e3, x1, x2, x3]
theorem eqT_ints (hx : pd w x = some (.list (ns.map .int))) (hy : pd w y = some (.list (ms.map .int))) : eqT w x y = some (decide (ns = ms)) := by
  rw [eqT_of hx hy (shaped_ints _) (shaped_ints _)]
  show some (PyData.eqvAll _ _) = _
  rw [eqv_ints]
theorem ne_ints (hx : pd w x = some (.list (ns.map .int))) (hy : pd w y = some (.list (ms.map .int))) : sNe x y w = .ok (.bl (!decide (ns = ms))) w := by
  simp [sNe, eqT_ints hx hy]
theorem ne_res2 {i j : Int} (hx : pd w x = some (.list (ns.map .int))) (hy : pd w y = some (.list (ms.map .int))) : sNe (.tup [.int i, x]) (.tup [.int j, y]) w = .ok (.bl (!(decide (i = j) && decide (ns = ms)))) w := by
  have e : eqT w (.tup [.int i, x]) (.tup [.int j, y]) = some (decide (i = j) && decide (ns = ms)) := by
    rw [eqT_of (d := .tuple [.int i, .list (ns.map .int)]) (e := .tuple [.int j, .list (ms.map .int)]) (by simp [pd, pds, hx]) (by simp [pd, pds, hy]) (shaped_res i ns) (shaped_res j ms)]
    simp [PyData.eqv, PyData.eqvAll, eqv_ints]
    by_cases h1 : i = j <;> by_cases h2 : ns = ms <;> simp [h1, h2]
  simp [sNe, e]
theorem plain_bl {b : Bool} : Plain 1 (.bl b) := ⟨.bool b, by simp [pd0], fun w => by simp [pd], rfl, by simp [PyData.depth]⟩
theorem rg_all (q : Int → Bool) : (∀ j < (rgT 0 n.toNat).length, q (j : Nat) = true) → (List.range n.toNat).all (fun i => q (i : Nat)) = true := fun h => by
  rw [List.all_eq_true]
  intro i hi
  exact h i (by rw [rgT_length]; exact List.mem_range.mp hi)
theorem rg_not (q : Int → Bool) : (∃ j, j < (rgT 0 n.toNat).length ∧ q (j : Nat) = false) → (List.range n.toNat).all (fun i => q (i : Nat)) = false := fun ⟨j, hj, h⟩ => by
  rw [List.all_eq_false]
  exact ⟨j, List.mem_range.mpr (by rw [rgT_length] at hj; exact hj), by rw [h]; decide⟩
theorem pd_lst' {ns : List Int} {ts : List T} (h : ts = ns.map .int) : pd w (.lst ts) = some (.list (ns.map .int)) := by rw [h]; exact pd_lst
theorem tt_commute_ok (B : Tab rs m n) (h1 : 0 ≤ one) (h2 : one < m) (h3 : 0 ≤ other) (h4 : other < m) : s__law_tt_commute [.tup rs, .int one, .int other] w = .ok (.bl (cA rs n one other)) w := by
  obtain ⟨f0, ix0, l0⟩ := len_first B.R B.m0
  have hn := B.n1
  have hn0 := B.n0
  suffices hz : ∃ ex, runB 8 m__law_tt_commute [.tup rs, .int one, .int other] w = .ok (.bl (cA rs n one other)) (w ++ ex) by
    obtain ⟨ex, e⟩ := hz
    exact gc_flat0 e plain_bl
  unfold m__law_tt_commute runB
  simp [ix0, l0, sRange1_ (n := n) (by omega) (by omega)]
  generalize hL : forL (mgName 3) _ _ _ _ _ _ = L
  obtain ⟨ρ', w', hh⟩ : ∃ ρ' w', ((∀ j < (rgT 0 n.toNat).length, cB rs one other (j : Nat) = true) ∧ L = .ok (ρ', .nx) w' ∧ (∃ ex, w' = w ++ ex) ∧ ∃ x3 x4 x5 x6 x7, ρ' = [some (.tup rs), some (.int one), some (.int other), x3, x4, x5, x6, x7]) ∨ ((∃ j, j < (rgT 0 n.toNat).length ∧ cB rs one other (j : Nat) = false) ∧ (∃ x, L = .ok (ρ', .ret x) w' ∧ x = .bl false) ∧ ∃ ex, w' = w ++ ex) := by
    rw [← hL]
    refine forL_until (fun i => cB rs one other (i : Nat)) (fun x => x = .bl false) (fun i ρ w' => (∃ ex, w' = w ++ ex) ∧ ∃ x3 x4 x5 x6 x7, ρ = [some (.tup rs), some (.int one), some (.int other), x3, x4, x5, x6, x7]) (fun w' => ∃ ex, w' = w ++ ex) ⟨⟨[], by simp⟩, _, _, _, _, _, rfl⟩ (fun i t ρ w' ht p => ?_)
    obtain ⟨⟨ex, rfl⟩, x3, x4, x5, x6, x7, rfl⟩ := p
    obtain ⟨rfl, hi⟩ := rgT_at ht
    obtain ⟨k, hk⟩ : ∃ k : Int, k = ((i : Nat) : Int) := ⟨_, rfl⟩
    rw [← hk, Int.zero_add]
    have r1 := run_ok (w := w ++ ex) B.R (ds := [one, other]) (s := k) ⟨by simp, fun d hd => by simp at hd; rcases hd with rfl | rfl <;> exact ⟨by assumption, by assumption⟩⟩ (by omega) (by omega)
    generalize hW1 : w ++ ex = W1 at r1
    simp only [List.map_cons, List.map_nil, runAll, answers] at r1
    generalize hW2 : W1 ++ [Cell.lst [T.int (stepAt rs one k).2, T.int (stepAt rs other (stepAt rs one k).1).2]] = W2 at r1
    have r2 := run_ok (w := W2) B.R (ds := [other, one]) (s := k) ⟨by simp, fun d hd => by simp at hd; rcases hd with rfl | rfl <;> exact ⟨by assumption, by assumption⟩⟩ (by omega) (by omega)
    simp only [List.map_cons, List.map_nil, runAll, answers] at r2
    generalize hW3 : W2 ++ [Cell.lst [T.int (stepAt rs other k).2, T.int (stepAt rs one (stepAt rs other k).1).2]] = W3 at r2
    have c1 : W3[W1.length]? = some (.lst [T.int (stepAt rs one k).2, T.int (stepAt rs other (stepAt rs one k).1).2]) := by rw [← hW3]; exact keepc (by rw [← hW2]; exact last_at)
    have c2 : W3[W2.length]? = some (.lst [T.int (stepAt rs other k).2, T.int (stepAt rs one (stepAt rs other k).1).2]) := by rw [← hW3]; exact last_at
    have t1 := ne_ints (w := W3) (ns := [(stepAt rs one k).2, (stepAt rs other (stepAt rs one k).1).2]) (ms := [(stepAt rs one (stepAt rs other k).1).2, (stepAt rs other k).2]) (pd_cell c1) (pd_lst' (ts := [T.int (stepAt rs one (stepAt rs other k).1).2, T.int (stepAt rs other k).2]) rfl)
    have hW : ∃ ex', W3 = w ++ ex' := ⟨ex ++ [_, _], by rw [← hW3, ← hW2, ← hW1]; simp; exact ⟨rfl, rfl⟩⟩
    have hrev : [T.int (stepAt rs other k).2, T.int (stepAt rs one (stepAt rs other k).1).2].reverse = [T.int (stepAt rs one (stepAt rs other k).1).2, T.int (stepAt rs other k).2] := rfl
    simp only [mSeq_, mAsg_, mDef_, mCons_, mNil_, mVar0, mVarS, bind_ok', mVal_, mLst_, List.length_cons, List.length_nil, Nat.reduceAdd, if_pos, if_pos two_le, r1, r2, mgTup_, mgCons_, mgNil_, mgName_, List.set_cons_zero, List.set_cons_succ, then_nx, mIfS_, mOr_, mTest_, mOp2_, sNe_int, asB_bl, mRevL_, lst_cell c2, hrev, t1, mRet_, mC_, mSkip_]
    by_cases y1 : (stepAt rs one (stepAt rs other k).1).1 = (stepAt rs other (stepAt rs one k).1).1
    · by_cases y2 : (stepAt rs one k).2 = (stepAt rs one (stepAt rs other k).1).2 ∧ (stepAt rs other (stepAt rs one k).1).2 = (stepAt rs other k).2
      · refine ⟨_, W3, .non, .inl ⟨by simp [cB, y1, y2.1.symm, y2.2], by simp [y1.symm, y2.1, y2.2]; exact ⟨rfl, rfl, rfl, rfl, rfl⟩, hW, _, _, _, _, _, rfl⟩⟩
      · refine ⟨_, W3, .bl false, .inr ⟨?_, by simp [y1.symm, y2]; exact rfl, rfl, hW⟩⟩
        simp [cB, y1]
        intro h h'
        exact y2 ⟨h.symm, h'⟩
    · refine ⟨_, W3, .bl false, .inr ⟨by simp [cB, y1], by simp [Ne.symm y1]; exact rfl, rfl, hW⟩⟩
  rcases hh with ⟨h5, e, ⟨ex, rfl⟩, x3, x4, x5, x6, x7, rfl⟩ | ⟨h5, ⟨x, e, rfl⟩, ⟨ex, rfl⟩⟩
  · rw [e]
    have : cA rs n one other = true := rg_all (cB rs one other) h5
    simp [this]
  · rw [e]
    have : cA rs n one other = false := rg_not (cB rs one other) h5
    simp [this]
theorem tt_over_ok (B : Tab rs m n) (h1 : 0 ≤ one) (h2 : one < m) (h3 : 0 ≤ other) (h4 : other < m) : s__law_tt_over [.tup rs, .int one, .int other] w = .ok (.bl (oA rs n one other)) w := by
  obtain ⟨f0, ix0, l0⟩ := len_first B.R B.m0
  have hn := B.n1
  have hn0 := B.n0
  suffices hz : ∃ ex, runB 6 m__law_tt_over [.tup rs, .int one, .int other] w = .ok (.bl (oA rs n one other)) (w ++ ex) by
    obtain ⟨ex, e⟩ := hz
    exact gc_flat0 e plain_bl
  unfold m__law_tt_over runB
  simp [ix0, l0, sRange1_ (n := n) (by omega) (by omega)]
  generalize hL : forL (mgName 3) _ _ _ _ _ _ = L
  obtain ⟨ρ', w', hh⟩ : ∃ ρ' w', ((∀ j < (rgT 0 n.toNat).length, oB rs one other (j : Nat) = true) ∧ L = .ok (ρ', .nx) w' ∧ (∃ ex, w' = w ++ ex) ∧ ∃ x3 x4 x5, ρ' = [some (.tup rs), some (.int one), some (.int other), x3, x4, x5]) ∨ ((∃ j, j < (rgT 0 n.toNat).length ∧ oB rs one other (j : Nat) = false) ∧ (∃ x, L = .ok (ρ', .ret x) w' ∧ x = .bl false) ∧ ∃ ex, w' = w ++ ex) := by
    rw [← hL]
    refine forL_until (fun i => oB rs one other (i : Nat)) (fun x => x = .bl false) (fun i ρ w' => (∃ ex, w' = w ++ ex) ∧ ∃ x3 x4 x5, ρ = [some (.tup rs), some (.int one), some (.int other), x3, x4, x5]) (fun w' => ∃ ex, w' = w ++ ex) ⟨⟨[], by simp⟩, _, _, _, rfl⟩ (fun i t ρ w' ht p => ?_)
    obtain ⟨⟨ex, rfl⟩, x3, x4, x5, rfl⟩ := p
    obtain ⟨rfl, hi⟩ := rgT_at ht
    obtain ⟨k, hk⟩ : ∃ k : Int, k = ((i : Nat) : Int) := ⟨_, rfl⟩
    rw [← hk, Int.zero_add]
    have r1 := run_ok (w := w ++ ex) B.R (ds := [other, one]) (s := k) ⟨by simp, fun d hd => by simp at hd; rcases hd with rfl | rfl <;> exact ⟨by assumption, by assumption⟩⟩ (by omega) (by omega)
    generalize hW1 : w ++ ex = W1 at r1
    simp only [List.map_cons, List.map_nil, runAll, answers] at r1
    generalize hW2 : W1 ++ [Cell.lst [T.int (stepAt rs other k).2, T.int (stepAt rs one (stepAt rs other k).1).2]] = W2 at r1
    have r2 := run_ok (w := W2) B.R (ds := [one]) (s := k) ⟨by simp, fun d hd => by simp at hd; cases hd; exact ⟨by assumption, by assumption⟩⟩ (by omega) (by omega)
    simp only [List.map_cons, List.map_nil, runAll, answers] at r2
    generalize hW3 : W2 ++ [Cell.lst [T.int (stepAt rs one k).2]] = W3 at r2
    have c1 : W2[W1.length]? = some (.lst [T.int (stepAt rs other k).2, T.int (stepAt rs one (stepAt rs other k).1).2]) := by rw [← hW2]; exact last_at
    have c2 : W3[W2.length]? = some (.lst [T.int (stepAt rs one k).2]) := by rw [← hW3]; exact last_at
    have hcut := cut_hi (us := [T.int (stepAt rs other k).2, T.int (stepAt rs one (stepAt rs other k).1).2]) (n := 1) (by decide) (by simp)
    have hd1 : [T.int (stepAt rs other k).2, T.int (stepAt rs one (stepAt rs other k).1).2].drop (1 : Int).toNat = [T.int (stepAt rs one (stepAt rs other k).1).2] := rfl
    rw [hd1] at hcut
    have t1 := ne_res2 (w := W3) (i := (stepAt rs one (stepAt rs other k).1).1) (j := (stepAt rs one k).1) (ns := [(stepAt rs one (stepAt rs other k).1).2]) (ms := [(stepAt rs one k).2]) (pd_lst' (ts := [T.int (stepAt rs one (stepAt rs other k).1).2]) rfl) (pd_cell c2)
    have hW : ∃ ex', W3 = w ++ ex' := ⟨ex ++ [_, _], by rw [← hW3, ← hW2, ← hW1]; simp; exact ⟨rfl, rfl⟩⟩
    simp only [mSeq_, mAsg_, mDef_, mCons_, mNil_, mVar0, mVarS, bind_ok', mVal_, mLst_, List.length_cons, List.length_nil, Nat.reduceAdd, if_pos, if_pos two_le, if_pos one_le, r1, r2, mgTup_, mgCons_, mgNil_, mgName_, List.set_cons_zero, List.set_cons_succ, then_nx, mIfS_, mTest_, mOp2_, mTup_, mSlL_, mPart_, mNoPart_, lst_cell c1, hcut, t1, asB_bl, mRet_, mC_, mSkip_]
    by_cases y1 : oB rs one other k = true
    · have y2 := y1
      simp only [oB, Bool.and_eq_true, decide_eq_true_eq] at y2
      have y4 : ¬ (!(decide ((stepAt rs one (stepAt rs other k).1).1 = (stepAt rs one k).1) && decide ([(stepAt rs one (stepAt rs other k).1).2] = [(stepAt rs one k).2]))) = true := by
        rw [y2.1, y2.2]; simp
      exact ⟨_, W3, .non, .inl ⟨y1, if_neg y4, hW, _, _, _, rfl⟩⟩
    · have y2 := y1
      simp only [oB, Bool.and_eq_true, decide_eq_true_eq] at y2
      have y3 : ¬ ((stepAt rs one (stepAt rs other k).1).1 = (stepAt rs one k).1 ∧ [(stepAt rs one (stepAt rs other k).1).2] = [(stepAt rs one k).2]) := fun h => y2 ⟨h.1, by simpa using h.2⟩
      have y4 : (!(decide ((stepAt rs one (stepAt rs other k).1).1 = (stepAt rs one k).1) && decide ([(stepAt rs one (stepAt rs other k).1).2] = [(stepAt rs one k).2]))) = true := by
        rw [← Bool.decide_and, decide_eq_false y3]; rfl
      exact ⟨_, W3, .bl false, .inr ⟨by simpa using y1, if_pos y4, rfl, hW⟩⟩
  rcases hh with ⟨h5, e, ⟨ex, rfl⟩, x3, x4, x5, rfl⟩ | ⟨h5, ⟨x, e, rfl⟩, ⟨ex, rfl⟩⟩
  · rw [e]
    have : oA rs n one other = true := rg_all (oB rs one other) h5
    simp [this]
  · rw [e]
    have : oA rs n one other = false := rg_not (oB rs one other) h5
    simp [this]
theorem is_fine_ok (B : Tab rs m n) (h1 : 0 ≤ one) (h2 : one < m) (h3 : 0 ≤ other) (h4 : other < m) : s__law_tt_is_fine [.tup rs, .int one, .int other] w = .ok (.bl (fine rs n one other)) w := by
  unfold s__law_tt_is_fine m__law_tt_is_fine runB
  have e1 := tt_commute_ok (w := w) B h1 h2 h3 h4
  have e2 := tt_over_ok (w := w) B h1 h2 h3 h4
  have e3 := tt_over_ok (w := w) B h3 h4 h1 h2
  unfold fine
  cases x1 : cA rs n one other <;> cases x2 : oA rs n one other <;> cases x3 : oA rs n other one <;> simp [e1, e2, e3, x1, x2, x3]
end
end VS

set_option Elab.async false
set_option linter.all false
set_option maxRecDepth 100000
set_option maxHeartbeats 4000000
namespace VS
open PySem PySem.Spec PyProof.Rows L2
section
variable {w : World} {ρ : Env} {all rs : List T} {n m one other s : Int} {x y : T} {ns ms : List Int} {r : Rng} {rest : World}
@[simp] theorem sIs_ {v : T} : sIs v .non w = .ok (.bl (isNon v)) w := rfl
theorem sRange2_ {i j : Int} (h0 : 0 ≤ i) (h1 : i < 1000000000) (h2 : 0 ≤ j) (h3 : j < 1000000000) : sRange2 [.int i, .int j] w = .ok (rgT i (j - i).toNat, none) w := by
  have : RgOk i j := ⟨by omega, by omega, by omega, by omega⟩
  simp [sRange2, this]
def pI (rs : List T) (m n i : Int) : Bool := (List.range (m - i).toNat).all fun j => fine rs n i (i + (j : Nat))
def pA (rs : List T) (m n : Int) : Bool := (List.range m.toNat).all fun i => pI rs m n (i : Nat)
theorem first_inner (B : Tab rs m n) {i : Int} (i0 : 0 ≤ i) (i1 : i < m) {x2 : Option T} : ∃ ρ', (pI rs m n i = true ∧ forL (mgName 2) (mIfS (mTru (mDef 3 s_clash (mCons (mVar 0) (mCons (mVar 1) (mCons (mVar 2) mNil))))) (mRet (mTup (mCons (mVar 1) (mCons (mVar 2) mNil)))) mSkip) none (rgT i (m - i).toNat) (rgT i (m - i).toNat) [some (.tup rs), some (.int i), x2] w = .ok (ρ', .nx) w ∧ ∃ x2, ρ' = [some (.tup rs), some (.int i), x2]) ∨ (pI rs m n i = false ∧ ∃ v, forL (mgName 2) (mIfS (mTru (mDef 3 s_clash (mCons (mVar 0) (mCons (mVar 1) (mCons (mVar 2) mNil))))) (mRet (mTup (mCons (mVar 1) (mCons (mVar 2) mNil)))) mSkip) none (rgT i (m - i).toNat) (rgT i (m - i).toNat) [some (.tup rs), some (.int i), x2] w = .ok (ρ', .ret v) w ∧ isNon v = false) := by
  obtain ⟨ρ', w', hh⟩ := forL_until (all := rgT i (m - i).toNat) (g := mgName 2) (b := mIfS (mTru (mDef 3 s_clash (mCons (mVar 0) (mCons (mVar 1) (mCons (mVar 2) mNil))))) (mRet (mTup (mCons (mVar 1) (mCons (mVar 2) mNil)))) mSkip) (ρ := [some (.tup rs), some (.int i), x2]) (w := w) (fun j => fine rs n i (i + (j : Nat))) (fun v => isNon v = false) (fun j ρ w' => w' = w ∧ ∃ x2, ρ = [some (.tup rs), some (.int i), x2]) (fun w' => w' = w) ⟨rfl, _, rfl⟩ (fun j t ρ w' ht p => by
    obtain ⟨rfl, x2, rfl⟩ := p
    obtain ⟨rfl, hj⟩ := rgT_at ht
    obtain ⟨k, hk⟩ : ∃ k : Int, k = i + ((j : Nat) : Int) := ⟨_, rfl⟩
    rw [← hk]
    have e := clash_ok (w := w') B i0 i1 (other := k) (by omega) (by omega)
    cases hf : fine rs n i k with
    | true =>
      refine ⟨[some (.tup rs), some (.int i), some (.int k)], w', .non, .inl ⟨rfl, ?_, rfl, _, rfl⟩⟩
      simp [e, hf]
    | false =>
      refine ⟨[some (.tup rs), some (.int i), some (.int k)], w', .tup [.int i, .int k], .inr ⟨rfl, ?_, rfl, rfl⟩⟩
      simp [e, hf, two_le])
  refine ⟨ρ', ?_⟩
  rcases hh with ⟨h5, e, rfl, x2, rfl⟩ | ⟨⟨j, h5, h6⟩, ⟨v, e, hv⟩, rfl⟩
  · refine .inl ⟨?_, e, x2, rfl⟩
    unfold pI
    rw [List.all_eq_true]
    intro j hj
    exact h5 j (by rw [rgT_length]; exact List.mem_range.mp hj)
  · refine .inr ⟨?_, v, e, hv⟩
    unfold pI
    rw [List.all_eq_false]
    exact ⟨j, List.mem_range.mpr (by rw [rgT_length] at h5; exact h5), by rw [h6]; decide⟩
theorem fail_inner (B : Tab rs m n) {i : Int} (i0 : 0 ≤ i) (i1 : i < m) {x3 : Option T} {out : List T} (ho : out.length ≤ 1000) (hp : ∀ t ∈ out, Plain 2 t) : ∃ out' x3', forL (mgName 3) (mIfS (mNot (mTru (mDef 3 s__law_tt_is_fine (mCons (mVar 0) (mCons (mVar 2) (mCons (mVar 3) mNil)))))) (mDrop (mMeth sAppend (mVar 1) (mCons (mTup (mCons (mVar 2) (mCons (mVar 3) mNil))) mNil))) mSkip) none (rgT i (m - i).toNat) (rgT i (m - i).toNat) [some (.tup rs), some (.cell w.length), some (.int i), x3] (w ++ [.lst out]) = .ok ([some (.tup rs), some (.cell w.length), some (.int i), x3'], .nx) (w ++ [.lst out']) ∧ (∀ t ∈ out', Plain 2 t) ∧ out'.length ≤ out.length + 12 ∧ (out' = [] ↔ out = [] ∧ pI rs m n i = true) := by
  have hm := B.m1
  obtain ⟨ρ', w', e, out', rfl, hp', hl', hn', x3', rfl⟩ := forL_run (P := fun j ρ w' => ∃ out' : List T, w' = w ++ [.lst out'] ∧ (∀ t ∈ out', Plain 2 t) ∧ out'.length ≤ out.length + j ∧ (out' = [] ↔ out = [] ∧ ∀ j' < j, fine rs n i (i + (j' : Nat)) = true) ∧ ∃ x3, ρ = [some (.tup rs), some (.cell w.length), some (.int i), x3]) (all := rgT i (m - i).toNat) (g := mgName 3) (b := mIfS (mNot (mTru (mDef 3 s__law_tt_is_fine (mCons (mVar 0) (mCons (mVar 2) (mCons (mVar 3) mNil)))))) (mDrop (mMeth sAppend (mVar 1) (mCons (mTup (mCons (mVar 2) (mCons (mVar 3) mNil))) mNil))) mSkip) (ρ := [some (.tup rs), some (.cell w.length), some (.int i), x3]) (w := w ++ [.lst out]) ⟨out, rfl, hp, by omega, by simp, _, rfl⟩ (fun j t ρ w' ht p => by
    obtain ⟨out', rfl, hp', hl', hn', x3', rfl⟩ := p
    obtain ⟨rfl, hj⟩ := rgT_at ht
    obtain ⟨k, hk⟩ : ∃ k : Int, k = i + ((j : Nat) : Int) := ⟨_, rfl⟩
    rw [← hk]
    have e := is_fine_ok (w := w ++ [Cell.lst out']) B i0 i1 (other := k) (by omega) (by omega)
    have hc := last_at (w := w) (c := .lst out')
    cases hf : fine rs n i k with
    | true =>
      refine ⟨[some (.tup rs), some (.cell w.length), some (.int i), some (.int k)], _, ?_, out', rfl, hp', by omega, ?_, _, rfl⟩
      · simp [e, hf]
      · rw [hn']
        refine ⟨fun ⟨a, b⟩ => ⟨a, fun j' hj' => ?_⟩, fun ⟨a, b⟩ => ⟨a, fun j' hj' => b j' (by omega)⟩⟩
        by_cases hjj : j' = j
        · rw [hjj, ← hk]; exact hf
        · exact b j' (by omega)
    | false =>
      have hap := append_cell (t := .tup [.int i, .int k]) hc (by omega)
      refine ⟨[some (.tup rs), some (.cell w.length), some (.int i), some (.int k)], w ++ [.lst (out' ++ [.tup [.int i, .int k]])], ?_, out' ++ [.tup [.int i, .int k]], rfl, snoc_all hp' (plain_tup (mem2 plain_int plain_int)), by simp; omega, ?_, _, rfl⟩
      · simp [e, hf, lst_cell hc, two_le, hap]
      · refine ⟨fun h => by simp at h, fun ⟨a, b⟩ => ?_⟩
        have := b j (by omega)
        rw [← hk, hf] at this
        cases this)
  rw [rgT_length] at hl' hn'
  refine ⟨out', x3', e, hp', by omega, ?_⟩
  rw [hn']
  unfold pI
  rw [List.all_eq_true]
  exact ⟨fun ⟨a, b⟩ => ⟨a, fun j hj => b j (List.mem_range.mp hj)⟩, fun ⟨a, b⟩ => ⟨a, fun j hj => b j (List.mem_range.mpr hj)⟩⟩
theorem eq_nil {out : List T} (h : ∀ t ∈ out, Plain 50 t) : sEq (.lst out) (.lst []) w = .ok (.bl (decide (out = []))) w := by
  obtain ⟨ds, g1, g2, g3, g4⟩ := plains_of h
  have e : eqT w (.lst out) (.lst []) = some (decide (out = [])) := by
    rw [eqT_of (d := .list ds) (e := .list []) (by simp [pd, g2]) (by simp [pd, pds]) (by simp [SeqAt.shaped, PyData.canLay0, g3, PyData.depth]; omega) rfl]
    show some (PyData.eqvAll ds []) = _
    rw [eqvAll_nil]
    congr 1
    exact decide_eq_decide.mpr (pds0_nil g1)
  simp [sEq, e]
end
end VS

set_option Elab.async false
set_option linter.all false
set_option maxRecDepth 100000
set_option maxHeartbeats 4000000
namespace VS
open PySem PySem.Spec PyProof.Rows L2
section
variable {w : World} {ρ : Env} {all rs : List T} {n m : Int} {g : MG} {b : MS}
/-! who was first: the views -/
def blurB (rs : List T) (mine others s : Int) : Bool :=
  (decide ((stepAt rs mine (stepAt rs others s).1).2 = (stepAt rs mine s).2) && decide ((stepAt rs mine (stepAt rs others s).1).1 = (stepAt rs mine s).1)) ||
  (decide ((stepAt rs mine (stepAt rs others s).1).2 = (stepAt rs mine s).2) && decide ((stepAt rs mine (stepAt rs others s).1).1 = (stepAt rs others (stepAt rs mine s).1).1))
def setB (rs : List T) (s i j : Int) : Bool := !blurB rs i j s && !blurB rs j i s
def clashR (rs : List T) (m n i : Int) : List T := (List.range (m - i).toNat).flatMap fun (j : Nat) => if fine rs n i (i + (j : Nat)) = true then [] else [T.tup [.int i, .int (i + (j : Nat))]]
def clashL (rs : List T) (m n : Int) : List T := (List.range m.toNat).flatMap fun (i : Nat) => clashR rs m n (i : Nat)
def settI (rs : List T) (m s i : Int) : List T := (List.range m.toNat).flatMap fun (j : Nat) => if setB rs s i (j : Nat) = true then [T.tup [.int s, .int i, .int (j : Nat)]] else []
def settS (rs : List T) (m s : Int) : List T := (List.range m.toNat).flatMap fun (i : Nat) => settI rs m s (i : Nat)
def settL (rs : List T) (m n : Int) : List T := (List.range n.toNat).flatMap fun (s : Nat) => settS rs m (s : Nat)
theorem all_at {q : Int → Bool} (h : ((List.range n.toNat).all fun i => q (i : Nat)) = true) {s : Int} (h0 : 0 ≤ s) (h1 : s < n) : q s = true := by
  rw [List.all_eq_true] at h
  have := h s.toNat (List.mem_range.mpr (by omega))
  rwa [Int.toNat_of_nonneg h0] at this
theorem fine_blur {i j s : Int} (h : fine rs n i j = true) (h0 : 0 ≤ s) (h1 : s < n) : blurB rs i j s = true ∨ blurB rs j i s = true := by
  unfold fine at h
  simp only [Bool.or_eq_true] at h
  rcases h with (h | h) | h
  · have := all_at (q := cB rs i j) h h0 h1
    simp only [cB, Bool.and_eq_true, decide_eq_true_eq] at this
    left
    unfold blurB
    simp [this.1, this.2.1]
  · have := all_at (q := oB rs i j) h h0 h1
    simp only [oB, Bool.and_eq_true, decide_eq_true_eq] at this
    left
    unfold blurB
    simp [this.1, this.2]
  · have := all_at (q := oB rs j i) h h0 h1
    simp only [oB, Bool.and_eq_true, decide_eq_true_eq] at this
    right
    unfold blurB
    simp [this.1, this.2]
theorem flat_nil {f : Nat → List T} {k : Nat} : (List.range k).flatMap f = [] ↔ ∀ i < k, f i = [] := by
  rw [List.flatMap_eq_nil_iff]
  exact ⟨fun h i hi => h i (List.mem_range.mpr hi), fun h i hi => h i (List.mem_range.mp hi)⟩
theorem clash_none (h : clashL rs m n = []) {i j : Int} (i0 : 0 ≤ i) (ij : i ≤ j) (jm : j < m) : fine rs n i j = true := by
  have h1 := flat_nil.mp h i.toNat (by omega)
  rw [Int.toNat_of_nonneg i0] at h1
  have h2 := flat_nil.mp h1 (j - i).toNat (by omega)
  split at h2
  · rename_i h3
    rwa [Int.toNat_of_nonneg (by omega), show i + (j - i) = j by omega] at h3
  · cases h2
/-- what is served settles nowhere -/
theorem served_no (h : clashL rs m n = []) : settL rs m n = [] := by
  refine flat_nil.mpr fun s hs => flat_nil.mpr fun i hi => flat_nil.mpr fun j hj => ?_
  have hs' : ((s : Nat) : Int) < n := by omega
  have : setB rs (s : Nat) (i : Nat) (j : Nat) = false := by
    have key : blurB rs (i : Nat) (j : Nat) (s : Nat) = true ∨ blurB rs (j : Nat) (i : Nat) (s : Nat) = true := by
      rcases Int.le_total (i : Nat) (j : Nat) with hij | hij
      · exact fine_blur (clash_none h (by omega) hij (by omega)) (by omega) hs'
      · exact (fine_blur (clash_none h (by omega) hij (by omega)) (by omega) hs').symm
    unfold setB
    rcases key with k | k <;> simp [k]
  simp [this]
/-! loops that gather, loops that end with the first -/
theorem flat_snoc {L : Nat → List T} {k : Nat} : (List.range (k + 1)).flatMap L = (List.range k).flatMap L ++ L k := by
  rw [List.range_succ, List.flatMap_append]
  simp
theorem flat_len {L : Nat → List T} {K : Nat} (hK : ∀ i, (L i).length ≤ K) : ∀ k, ((List.range k).flatMap L).length ≤ K * k
  | 0 => by simp
  | k + 1 => by
    rw [flat_snoc, List.length_append, Nat.mul_add, Nat.mul_one]
    have := flat_len hK k
    have h2 := hK k
    omega
theorem forL_collect (L : Nat → List T) (E : Env → Prop) (W : List T → World) (K B : Nat) (hK : ∀ i, (L i).length ≤ K)
    (h : ∀ i t ρ out, all[i]? = some t → E ρ → out.length + K ≤ B → ∃ ρ1, ((g t ρ (W out)).bind fun ρ1 w1 => b ρ1 w1) = .ok (ρ1, .nx) (W (out ++ L i)) ∧ E ρ1)
    (hE : E ρ) {out : List T} (ho : out.length + K * all.length ≤ B) :
    ∃ ρ', forL g b none all all ρ (W out) = .ok (ρ', .nx) (W (out ++ (List.range all.length).flatMap L)) ∧ E ρ' := by
  obtain ⟨ρ', w', e, e1, rfl⟩ := forL_run (all := all) (g := g) (b := b) (ρ := ρ) (w := W out) (P := fun i ρ w => E ρ ∧ w = W (out ++ (List.range i).flatMap L)) ⟨hE, by simp⟩ (fun i t ρ w ht p => by
    obtain ⟨e, rfl⟩ := p
    have hi : i < all.length := (List.getElem?_eq_some_iff.mp ht).1
    obtain ⟨ρ1, a, c⟩ := h i t ρ (out ++ (List.range i).flatMap L) ht e (by
      have h1 := flat_len hK i
      have h2 : K * (i + 1) ≤ K * all.length := Nat.mul_le_mul_left _ hi
      rw [Nat.mul_add, Nat.mul_one] at h2
      rw [List.length_append]
      omega)
    exact ⟨ρ1, _, a, c, by rw [flat_snoc, List.append_assoc]⟩)
  exact ⟨ρ', e, e1⟩
theorem forL_first_go (L : Nat → List T) (E : Env → Prop)
    (h : ∀ i t ρ, all[i]? = some t → E ρ → (L i = [] ∧ ∃ ρ1, ((g t ρ w).bind fun ρ1 w1 => b ρ1 w1) = .ok (ρ1, .nx) w ∧ E ρ1) ∨ (∃ x r ρ1, L i = x :: r ∧ ((g t ρ w).bind fun ρ1 w1 => b ρ1 w1) = .ok (ρ1, .ret x) w)) :
    ∀ (k i : Nat) (ρ : Env), k + i = all.length → (List.range i).flatMap L = [] → E ρ → ((List.range all.length).flatMap L = [] ∧ ∃ ρ', forL g b none all (all.drop i) ρ w = .ok (ρ', .nx) w ∧ E ρ') ∨ (∃ x r ρ', (List.range all.length).flatMap L = x :: r ∧ forL g b none all (all.drop i) ρ w = .ok (ρ', .ret x) w)
  | 0, i, ρ, hk, hn, e => by
    have ei : i = all.length := by omega
    subst ei
    refine .inl ⟨hn, ρ, ?_, e⟩
    rw [List.drop_length]
    unfold forL
    rw [if_pos kept_none]
  | k + 1, i, ρ, hk, hn, e => by
    have hi : i < all.length := by omega
    have st : ∀ ρ1 f, ((g all[i] ρ w).bind fun ρ1 w1 => b ρ1 w1) = .ok (ρ1, f) w → forL g b none all (all.drop i) ρ w = (match f with | .nx => forL g b none all (all.drop (i + 1)) ρ1 w | .ret t => .ok (ρ1, .ret t) w | .bk => .ok (ρ1, .nx) w | .ct => forL g b none all (all.drop (i + 1)) ρ1 w) := fun ρ1 f e1 => by
      rw [List.drop_eq_getElem_cons hi]
      show forL g b none all (all[i] :: all.drop (i + 1)) ρ w = _
      rw [forL.eq_2, if_pos kept_none]
      cases q0 : g all[i] ρ w with
      | no => rw [q0] at e1; cases e1
      | ok ρ0 w0 =>
        rw [q0, bind_ok'] at e1
        rw [bind_ok', e1, bind_ok']
        cases f <;> rfl
    rcases h i all[i] ρ (by simp [hi]) e with ⟨l0, ρ1, e1, E1⟩ | ⟨x, r, ρ1, l1, e1⟩
    · rw [st _ _ e1]
      exact forL_first_go L E h k (i + 1) ρ1 (by omega) (by rw [flat_snoc, hn, l0]; rfl) E1
    · rw [st _ _ e1]
      have hs : all.length = i + 1 + (all.length - (i + 1)) := by omega
      refine .inr ⟨x, r ++ ((List.range (all.length - (i + 1))).map fun j => (i + 1 + j)).flatMap L, ρ1, ?_, rfl⟩
      rw [hs, List.range_add, List.flatMap_append, flat_snoc, hn, l1]
      simp
theorem forL_first (L : Nat → List T) (E : Env → Prop)
    (h : ∀ i t ρ, all[i]? = some t → E ρ → (L i = [] ∧ ∃ ρ1, ((g t ρ w).bind fun ρ1 w1 => b ρ1 w1) = .ok (ρ1, .nx) w ∧ E ρ1) ∨ (∃ x r ρ1, L i = x :: r ∧ ((g t ρ w).bind fun ρ1 w1 => b ρ1 w1) = .ok (ρ1, .ret x) w)) (hE : E ρ) :
    ((List.range all.length).flatMap L = [] ∧ ∃ ρ', forL g b none all all ρ w = .ok (ρ', .nx) w ∧ E ρ') ∨ (∃ x r ρ', (List.range all.length).flatMap L = x :: r ∧ forL g b none all all ρ w = .ok (ρ', .ret x) w) := by
  have := forL_first_go (g := g) (b := b) L E h all.length 0 ρ (by omega) (by simp) hE
  rwa [List.drop_zero] at this
end
end VS

set_option Elab.async false
set_option linter.all false
set_option maxRecDepth 100000
set_option maxHeartbeats 4000000
namespace VS
open PySem PySem.Spec PyProof.Rows L2
section
variable {w : World} {ρ : Env} {all rs : List T} {n m i j s : Int} {g : MG} {b : MS}
def pr (a c : Int) : T := .tup [.int a, .int c]
theorem pd_pr {a c : Int} : pd w (pr a c) = some (.tuple [.int a, .int c]) := by simp [pr, pd, pds]
theorem eqv_pr {a c d e : Int} : PyData.eqv (.tuple [.int a, .int c]) (.tuple [.int d, .int e]) = (decide (a = d) && decide (c = e)) := by
  by_cases h1 : a = d <;> by_cases h2 : c = e <;> simp [PyData.eqv, PyData.eqvAll, h1, h2]
theorem in_pairs {a c a1 c1 a2 c2 : Int} : sInQ (pr a c) (.tup [pr a1 c1, pr a2 c2]) w = .ok (.bl ((decide (a = a1) && decide (c = c1)) || (decide (a = a2) && decide (c = c2)))) w := by
  have e : pd w (.tup [pr a1 c1, pr a2 c2]) = some (.tuple [.tuple [.int a1, .int c1], .tuple [.int a2, .int c2]]) := by simp [pd, pds, pd_pr]
  have h1 : SeqAt.shaped (.tuple [.int a, .int c]) = true := rfl
  have h2 : SeqAt.shaped (.list [.tuple [.int a1, .int c1], .tuple [.int a2, .int c2]]) = true := rfl
  unfold sInQ inT
  rw [pd_pr, e]
  simp only [h1, h2, and_self, if_true, List.any_cons, List.any_nil, Bool.or_false, eqv_pr]
  simp only [eq_comm (a := a1), eq_comm (a := a2), eq_comm (a := c1), eq_comm (a := c2)]
theorem views_ok (R : Rows m n rs) (i0 : 0 ≤ i) (i1 : i < m) (j0 : 0 ≤ j) (j1 : j < m) (s0 : 0 ≤ s) (s1 : s < n) : s__views [.tup rs, .int s, .int i, .int j] w = .ok (.tup [.tup [pr (stepAt rs i s).2 (stepAt rs i s).1, pr (stepAt rs i s).2 (stepAt rs j (stepAt rs i s).1).1], pr (stepAt rs i (stepAt rs j s).1).2 (stepAt rs i (stepAt rs j s).1).1]) w := by
  obtain ⟨sa, qa, a0, a1, _⟩ := stepAt_ok R i0 i1 s0 s1
  obtain ⟨sb, qb, b0, b1, _⟩ := stepAt_ok R j0 j1 s0 s1
  obtain ⟨sc, qc, _⟩ := stepAt_ok R i0 i1 b0 b1
  obtain ⟨sd, qd, _⟩ := stepAt_ok R j0 j1 a0 a1
  have ea := (qa w).1
  have eb := (qb w).1
  have ec := (qc w).1
  have ed := (qd w).1
  rw [ea] at ec
  rw [eb] at ed
  cases ec
  cases ed
  unfold s__views m__views runB
  simp only [List.map_cons, List.map_nil, List.length_cons, List.length_nil, Nat.reduceAdd, Nat.reduceSub, List.replicate_succ, List.replicate_zero, List.cons_append, List.nil_append, mSeq_, mAsg_, mOp2_, mVar0, mVarS, bind_ok', mgTup_, mgCons_, mgNil_, mgName_, if_pos, ea, eb, (qa w).2, (qb w).2, (qc w).2, (qd w).2, then_nx, List.set_cons_zero, List.set_cons_succ, mRet_, mTup_, mCons_, mNil_, if_pos two_le, pr]
theorem forL_cons {t : T} {ts : List T} : forL g b none all (t :: ts) ρ w = (g t ρ w).bind fun ρ1 w1 => (b ρ1 w1).bind fun r w2 => match r.2 with
      | .nx => forL g b none all ts r.1 w2
      | .ct => forL g b none all ts r.1 w2
      | .bk => .ok (r.1, .nx) w2
      | .ret t => .ok (r.1, .ret t) w2 := by
  (rw [forL.eq_2, if_pos kept_none]) <;> (refine congrArg _ (funext fun ρ1 => funext fun w1 => congrArg _ (funext fun r => funext fun w2 => ?_)); obtain ⟨r1, r2⟩ := r; cases r2 <;> rfl)
theorem forL_nil0 : forL g b none all [] ρ w = .ok (ρ, .nx) w := by
  rw [forL.eq_1, if_pos kept_none]
theorem first_blurred_ok (R : Rows m n rs) (i0 : 0 ≤ i) (i1 : i < m) (j0 : 0 ≤ j) (j1 : j < m) (s0 : 0 ≤ s) (s1 : s < n) : ∃ v, s__first_blurred [.tup rs, .int s, .int i, .int j] w = .ok v w ∧ isNon v = setB rs s i j := by
  have v1 := views_ok (w := w) R i0 i1 j0 j1 s0 s1
  have v2 := views_ok (w := w) R j0 j1 i0 i1 s0 s1
  have q1 := in_pairs (w := w) (a := (stepAt rs i (stepAt rs j s).1).2) (c := (stepAt rs i (stepAt rs j s).1).1) (a1 := (stepAt rs i s).2) (c1 := (stepAt rs i s).1) (a2 := (stepAt rs i s).2) (c2 := (stepAt rs j (stepAt rs i s).1).1)
  have q2 := in_pairs (w := w) (a := (stepAt rs j (stepAt rs i s).1).2) (c := (stepAt rs j (stepAt rs i s).1).1) (a1 := (stepAt rs j s).2) (c1 := (stepAt rs j s).1) (a2 := (stepAt rs j s).2) (c2 := (stepAt rs i (stepAt rs j s).1).1)
  change sInQ _ _ w = .ok (.bl (blurB rs i j s)) w at q1
  change sInQ _ _ w = .ok (.bl (blurB rs j i s)) w at q2
  have h3 : (3 : Nat) ≤ sizeLine := le_size (by decide)
  unfold s__first_blurred m__first_blurred runB setB
  generalize stepAt rs i (stepAt rs j s).1 = A at *
  generalize stepAt rs j (stepAt rs i s).1 = B at *
  generalize stepAt rs i s = C at *
  generalize stepAt rs j s = D at *
  cases h1 : blurB rs i j s with
  | true =>
    rw [h1] at q1
    refine ⟨_, by simp [forL_cons, v1, q1, two_le, h3]; simp [pr]; rfl, rfl⟩
  | false =>
    rw [h1] at q1
    cases h2 : blurB rs j i s with
    | true =>
      rw [h2] at q2
      refine ⟨_, by simp [forL_cons, v1, v2, q1, q2, two_le, h3]; simp [pr]; rfl, rfl⟩
    | false =>
      rw [h2] at q2
      refine ⟨.non, by simp [forL_cons, forL_nil0, v1, v2, q1, q2, two_le, h3], rfl⟩
end
end VS

set_option Elab.async false
set_option linter.all false
set_option maxRecDepth 100000
set_option maxHeartbeats 4000000
namespace VS
open PySem PySem.Spec PyProof.Rows L2
section
variable {w : World} {ρ : Env} {all rs : List T} {n m one other s : Int} {x y : T} {ns ms : List Int} {r : Rng} {rest : World}
theorem arg1 {ρ : Env} (hl : (rs.length : Int) = m) : (mCons (mCall sLen (mCons (mVar 0) mNil)) mNil) (some (.tup rs) :: ρ) w = .ok [.int m] w := by
  rw [mCons_, mCall_, mCons_, mVar0 (o := none), bind_ok', mNil_, bind_ok', bind_ok', sLen_tup, hl, bind_ok', mNil_, bind_ok']
theorem arg2 {k : Int} {ρ : Env} (hl : (rs.length : Int) = m) : (mCons (mVar 1) (mCons (mCall sLen (mCons (mVar 0) mNil)) mNil)) (some (.tup rs) :: some (.int k) :: ρ) w = .ok [.int k, .int m] w := by
  rw [mCons_, mVarS, mVar0 (o := none), bind_ok', arg1 hl, bind_ok']
theorem arg2' {k : Int} {x : Option T} {ρ : Env} (hl : (rs.length : Int) = m) : (mCons (mVar 2) (mCons (mCall sLen (mCons (mVar 0) mNil)) mNil)) (some (.tup rs) :: x :: some (.int k) :: ρ) w = .ok [.int k, .int m] w := by
  rw [mCons_, mVarS, mVarS, mVar0 (o := none), bind_ok', arg1 hl, bind_ok']
theorem for1 {g : MG} {b : MS} {ρ : Env} (hl : (rs.length : Int) = m) (h0 : 0 ≤ m) (h1 : m ≤ 1000) : mFor (mRange1 (mCons (mCall sLen (mCons (mVar 0) mNil)) mNil)) g b (some (.tup rs) :: ρ) w = forL g b none (rgT 0 m.toNat) (rgT 0 m.toNat) (some (.tup rs) :: ρ) w := by
  rw [mFor_, mRange1_, arg1 hl, bind_ok', sRange1_ h0 (by omega), bind_ok']
theorem for2 {g : MG} {b : MS} {k : Int} {ρ : Env} (hl : (rs.length : Int) = m) (h0 : 0 ≤ m) (h1 : m ≤ 1000) (k0 : 0 ≤ k) (k1 : k ≤ 1000) : mFor (mRange2 (mCons (mVar 1) (mCons (mCall sLen (mCons (mVar 0) mNil)) mNil))) g b (some (.tup rs) :: some (.int k) :: ρ) w = forL g b none (rgT k (m - k).toNat) (rgT k (m - k).toNat) (some (.tup rs) :: some (.int k) :: ρ) w := by
  rw [mFor_, mRange2_, arg2 hl, bind_ok', sRange2_ k0 (by omega) h0 (by omega), bind_ok']
theorem for2' {g : MG} {b : MS} {k : Int} {x : Option T} {ρ : Env} (hl : (rs.length : Int) = m) (h0 : 0 ≤ m) (h1 : m ≤ 1000) (k0 : 0 ≤ k) (k1 : k ≤ 1000) : mFor (mRange2 (mCons (mVar 2) (mCons (mCall sLen (mCons (mVar 0) mNil)) mNil))) g b (some (.tup rs) :: x :: some (.int k) :: ρ) w = forL g b none (rgT k (m - k).toNat) (rgT k (m - k).toNat) (some (.tup rs) :: x :: some (.int k) :: ρ) w := by
  rw [mFor_, mRange2_, arg2' hl, bind_ok', sRange2_ k0 (by omega) h0 (by omega), bind_ok']
theorem fc_nx {Fo : MS} {ρ' : Env} {w' : World} (h : Fo [some (.tup rs), none, none] w = .ok (ρ', .nx) w') : runB 3 (mSeq Fo (mRet (mC .non))) [.tup rs] w = .ok .non w' := by
  unfold runB
  simp [h]
theorem fc_ret {Fo : MS} {ρ' : Env} {w' : World} {v : T} (h : Fo [some (.tup rs), none, none] w = .ok (ρ', .ret v) w') : runB 3 (mSeq Fo (mRet (mC .non))) [.tup rs] w = .ok v w' := by
  unfold runB
  simp [h]
theorem ss2 {F G : Sem} {v : T} (e : F [.tup rs] w = .ok v w) (e1 : G [.tup rs] w = .ok .non w) {b : Bool} (hv : isNon v = b) : runB 1 (mSeq (mDrop (mDef 1 G (mCons (mVar 0) mNil))) (mRet (mOp2 sIs (mDef 1 F (mCons (mVar 0) mNil)) (mC .non)))) [.tup rs] w = .ok (.bl b) w := by
  unfold runB
  simp [e1, e, hv]
theorem fl_run {Fo : MS} {out : List T} {x2 x3 : Option T} (h : Fo [some (.tup rs), some (.cell w.length), none, none] (w ++ [.lst []]) = .ok ([some (.tup rs), some (.cell w.length), x2, x3], .nx) (w ++ [.lst out])) : runB 4 (mSeq (mAsg (mCell (mLst mNil)) (mgName 1)) (mSeq Fo (mRet (mVar 1)))) [.tup rs] w = .ok (.cell w.length) (w ++ [.lst out]) := by
  unfold runB
  simp [h]
theorem first_clash_ok (B : Tab rs m n) : ∃ v, s_first_clash [.tup rs] w = .ok v w ∧ isNon v = pA rs m n := by
  have hm := B.m1
  have hm0 := B.m0
  have hl := B.R.1
  obtain ⟨ρ', w', hh⟩ : ∃ ρ' w', ((∀ j < (rgT 0 m.toNat).length, pI rs m n (j : Nat) = true) ∧ forL (mgName 1) (mFor (mRange2 (mCons (mVar 1) (mCons (mCall sLen (mCons (mVar 0) mNil)) mNil))) (mgName 2) (mIfS (mTru (mDef 3 s_clash (mCons (mVar 0) (mCons (mVar 1) (mCons (mVar 2) mNil))))) (mRet (mTup (mCons (mVar 1) (mCons (mVar 2) mNil)))) mSkip)) none (rgT 0 m.toNat) (rgT 0 m.toNat) [some (.tup rs), none, none] w = .ok (ρ', .nx) w' ∧ w' = w ∧ ∃ x1 x2, ρ' = [some (.tup rs), x1, x2]) ∨ ((∃ j, j < (rgT 0 m.toNat).length ∧ pI rs m n (j : Nat) = false) ∧ (∃ x, forL (mgName 1) (mFor (mRange2 (mCons (mVar 1) (mCons (mCall sLen (mCons (mVar 0) mNil)) mNil))) (mgName 2) (mIfS (mTru (mDef 3 s_clash (mCons (mVar 0) (mCons (mVar 1) (mCons (mVar 2) mNil))))) (mRet (mTup (mCons (mVar 1) (mCons (mVar 2) mNil)))) mSkip)) none (rgT 0 m.toNat) (rgT 0 m.toNat) [some (.tup rs), none, none] w = .ok (ρ', .ret x) w' ∧ isNon x = false) ∧ w' = w) := by
    refine forL_until (fun j => pI rs m n (j : Nat)) (fun v => isNon v = false) (fun j ρ w' => w' = w ∧ ∃ x1 x2, ρ = [some (.tup rs), x1, x2]) (fun w' => w' = w) ⟨rfl, _, _, rfl⟩ (fun i t ρ w' ht p => ?_)
    obtain ⟨rfl, x1, x2, rfl⟩ := p
    obtain ⟨rfl, hi⟩ := rgT_at ht
    obtain ⟨k, hk⟩ : ∃ k : Int, k = ((i : Nat) : Int) := ⟨_, rfl⟩
    rw [← hk, Int.zero_add]
    obtain ⟨ρ', hq⟩ := first_inner (w := w') B (i := k) (by omega) (by omega) (x2 := x2)
    have hgo : ((mgName 1 (.int k) [some (.tup rs), x1, x2] w').bind fun ρ1 w1 => mFor (mRange2 (mCons (mVar 1) (mCons (mCall sLen (mCons (mVar 0) mNil)) mNil))) (mgName 2) (mIfS (mTru (mDef 3 s_clash (mCons (mVar 0) (mCons (mVar 1) (mCons (mVar 2) mNil))))) (mRet (mTup (mCons (mVar 1) (mCons (mVar 2) mNil)))) mSkip) ρ1 w1) = forL (mgName 2) (mIfS (mTru (mDef 3 s_clash (mCons (mVar 0) (mCons (mVar 1) (mCons (mVar 2) mNil))))) (mRet (mTup (mCons (mVar 1) (mCons (mVar 2) mNil)))) mSkip) none (rgT k (m - k).toNat) (rgT k (m - k).toNat) [some (.tup rs), some (.int k), x2] w' := by
      rw [mgName_, bind_ok']
      exact for2 hl (by omega) (by omega) (by omega) (by omega)
    rcases hq with ⟨h5, e, x2', rfl⟩ | ⟨h5, v, e, hv⟩
    · exact ⟨_, w', .non, .inl ⟨h5, hgo.trans e, rfl, _, _, rfl⟩⟩
    · exact ⟨_, w', v, .inr ⟨h5, hgo.trans e, hv, rfl⟩⟩
  have hF := for1 (w := w) (g := mgName 1) (b := (mFor (mRange2 (mCons (mVar 1) (mCons (mCall sLen (mCons (mVar 0) mNil)) mNil))) (mgName 2) (mIfS (mTru (mDef 3 s_clash (mCons (mVar 0) (mCons (mVar 1) (mCons (mVar 2) mNil))))) (mRet (mTup (mCons (mVar 1) (mCons (mVar 2) mNil)))) mSkip))) (ρ := [none, none]) hl (by omega) (by omega)
  unfold s_first_clash m_first_clash
  rcases hh with ⟨h5, e, rfl, x1, x2, rfl⟩ | ⟨h5, ⟨x, e, hx⟩, rfl⟩
  · have : pA rs m n = true := rg_all (n := m) (pI rs m n) h5
    exact ⟨.non, fc_nx (hF.trans e), by rw [this]; rfl⟩
  · have : pA rs m n = false := rg_not (n := m) (pI rs m n) h5
    exact ⟨x, fc_ret (hF.trans e), by rw [this]; exact hx⟩
end
end VS

set_option Elab.async false
set_option linter.all false
set_option maxRecDepth 100000
set_option maxHeartbeats 4000000
namespace VS
open PySem PySem.Spec PyProof.Rows L2
section
variable {w : World} {ρ : Env} {all rs : List T} {n m i j s : Int} {g : MG} {b : MS}
/-- the first of a list, None if there is none -/
def Head (L : List T) (v : T) : Prop := (L = [] ∧ v = .non) ∨ ∃ r, L = v :: r
theorem rgLen {k : Nat} {lo : Int} : (rgT lo k).length = k := rgT_length
/-! the first that clashes -/
noncomputable def fcB : MS := mIfS (mTru (mDef 3 s_clash (mCons (mVar 0) (mCons (mVar 1) (mCons (mVar 2) mNil))))) (mRet (mTup (mCons (mVar 1) (mCons (mVar 2) mNil)))) mSkip
noncomputable def fcO : MS := mFor (mRange2 (mCons (mVar 1) (mCons (mCall sLen (mCons (mVar 0) mNil)) mNil))) (mgName 2) fcB
theorem fc_parts : m_first_clash = mSeq (mFor (mRange1 (mCons (mCall sLen (mCons (mVar 0) mNil)) mNil)) (mgName 1) fcO) (mRet (mC .non)) := rfl
theorem fc_in (B : Tab rs m n) {x2 : Option T} (i0 : 0 ≤ i) (i1 : i < m) : (clashR rs m n i = [] ∧ ∃ ρ', forL (mgName 2) fcB none (rgT i (m - i).toNat) (rgT i (m - i).toNat) [some (.tup rs), some (.int i), x2] w = .ok (ρ', .nx) w ∧ ∃ x2, ρ' = [some (.tup rs), some (.int i), x2]) ∨ (∃ x r ρ', clashR rs m n i = x :: r ∧ forL (mgName 2) fcB none (rgT i (m - i).toNat) (rgT i (m - i).toNat) [some (.tup rs), some (.int i), x2] w = .ok (ρ', .ret x) w) := by
  have h := forL_first (w := w) (all := rgT i (m - i).toNat) (g := mgName 2) (b := fcB) (ρ := [some (.tup rs), some (.int i), x2]) (fun (j : Nat) => if fine rs n i (i + (j : Nat)) = true then [] else [T.tup [.int i, .int (i + (j : Nat))]]) (fun ρ => ∃ x2, ρ = [some (.tup rs), some (.int i), x2]) (fun j t ρ ht p => by
    obtain ⟨x2, rfl⟩ := p
    obtain ⟨rfl, hj⟩ := rgT_at ht
    obtain ⟨k, hk⟩ : ∃ k : Int, k = i + ((j : Nat) : Int) := ⟨_, rfl⟩
    simp only [← hk]
    have e := clash_ok (w := w) B i0 i1 (other := k) (by omega) (by omega)
    cases hf : fine rs n i k with
    | true => exact .inl ⟨by simp, [some (.tup rs), some (.int i), some (.int k)], by simp [fcB, e, hf], _, rfl⟩
    | false => exact .inr ⟨.tup [.int i, .int k], [], [some (.tup rs), some (.int i), some (.int k)], by simp, by simp [fcB, e, hf, two_le]⟩) ⟨_, rfl⟩
  rw [rgLen] at h
  exact h
theorem first_clash_at (B : Tab rs m n) : ∃ v, s_first_clash [.tup rs] w = .ok v w ∧ Head (clashL rs m n) v := by
  have hm := B.m1
  have hm0 := B.m0
  have hl := B.R.1
  have h := forL_first (w := w) (all := rgT 0 m.toNat) (g := mgName 1) (b := fcO) (ρ := [some (.tup rs), none, none]) (fun (i : Nat) => clashR rs m n (i : Nat)) (fun ρ => ∃ x1 x2, ρ = [some (.tup rs), x1, x2]) (fun i t ρ ht p => by
    obtain ⟨x1, x2, rfl⟩ := p
    obtain ⟨rfl, hi⟩ := rgT_at ht
    obtain ⟨k, hk⟩ : ∃ k : Int, k = ((i : Nat) : Int) := ⟨_, rfl⟩
    rw [← hk, Int.zero_add]
    have hgo : ((mgName 1 (.int k) [some (.tup rs), x1, x2] w).bind fun ρ1 w1 => fcO ρ1 w1) = forL (mgName 2) fcB none (rgT k (m - k).toNat) (rgT k (m - k).toNat) [some (.tup rs), some (.int k), x2] w := by
      rw [mgName_, bind_ok']
      exact for2 hl (by omega) (by omega) (by omega) (by omega)
    rw [hgo]
    rcases fc_in (w := w) B (x2 := x2) (i := k) (by omega) (by omega) with ⟨h1, ρ', e, x2', rfl⟩ | ⟨x, r, ρ', h1, e⟩
    · exact .inl ⟨h1, _, e, _, _, rfl⟩
    · exact .inr ⟨x, r, ρ', h1, e⟩) ⟨_, _, rfl⟩
  rw [rgLen] at h
  have hF := for1 (w := w) (g := mgName 1) (b := fcO) (ρ := [none, none]) hl (by omega) (by omega)
  unfold s_first_clash
  rw [fc_parts]
  rcases h with ⟨h1, ρ', e, _⟩ | ⟨x, r, ρ', h1, e⟩
  · exact ⟨.non, fc_nx (hF.trans e), .inl ⟨h1, rfl⟩⟩
  · exact ⟨x, fc_ret (hF.trans e), .inr ⟨r, h1⟩⟩
/-! the first that settles -/
noncomputable def fsB (F : Sem) : MS := mIfS (mTest (mOp2 sIs (mDef 4 F (mCons (mVar 0) (mCons (mVar 2) (mCons (mVar 3) (mCons (mVar 4) mNil))))) (mC .non))) (mRet (mTup (mCons (mVar 2) (mCons (mVar 3) (mCons (mVar 4) mNil))))) mSkip
noncomputable def fsO (F : Sem) : MS := mFor (mItemsR (mVar 1)) (mgName 4) (fsB F)
noncomputable def fsP (F : Sem) : MS := mFor (mItemsR (mVar 1)) (mgName 3) (fsO F)
noncomputable def fsQ (F : Sem) : MS := mFor (mRange1 (mCons (mCall sLen (mCons (mOp2 sIx (mVar 0) (mC (.int 0))) mNil)) mNil)) (mgName 2) (fsP F)
theorem fs_parts : m__first_settling = mSeq (mAsg (mCall sRng (mCons (mCall sLen (mCons (mVar 0) mNil)) mNil)) (mgName 1)) (mSeq (fsQ s__first_blurred) (mRet (mC .non))) := rfl
theorem fsB_run {F : Sem} {x1 : Option T} {t v : T} {a : Bool} (e : F [t, .int s, .int i, .int j] w = .ok v w) (hv : isNon v = a) : fsB F [some t, x1, some (.int s), some (.int i), some (.int j)] w = if a = true then .ok ([some t, x1, some (.int s), some (.int i), some (.int j)], .ret (.tup [.int s, .int i, .int j])) w else .ok ([some t, x1, some (.int s), some (.int i), some (.int j)], .nx) w := by
  have h3 : (3 : Nat) ≤ sizeLine := le_size (by decide)
  unfold fsB
  cases a <;> simp [e, hv, h3]
theorem rngs {g : MG} {b : MS} {x0 : Option T} {k : Nat} (hk : (k : Int) < 2 ^ 62) : mFor (mItemsR (mVar 1)) g b (x0 :: some (.rng k) :: ρ) w = forL g b none (rgT 0 k) (rgT 0 k) (x0 :: some (.rng k) :: ρ) w := by
  have e : mItemsR (mVar 1) (x0 :: some (.rng k) :: ρ) w = .ok (rgT 0 k, none) w := by
    unfold mItemsR
    rw [mVarS, mVar0 (o := none), bind_ok']
    exact if_pos hk
  rw [mFor_, e, bind_ok']
abbrev FsE (rs : List T) (m s i : Int) (ρ : Env) : Prop := ∃ x4, ρ = [some (.tup rs), some (.rng m.toNat), some (.int s), some (.int i), x4]
theorem fs_in (B : Tab rs m n) {x4 : Option T} (s0 : 0 ≤ s) (s1 : s < n) (i0 : 0 ≤ i) (i1 : i < m) : (settI rs m s i = [] ∧ ∃ ρ', forL (mgName 4) (fsB s__first_blurred) none (rgT 0 m.toNat) (rgT 0 m.toNat) [some (.tup rs), some (.rng m.toNat), some (.int s), some (.int i), x4] w = .ok (ρ', .nx) w ∧ FsE rs m s i ρ') ∨ (∃ x r ρ', settI rs m s i = x :: r ∧ forL (mgName 4) (fsB s__first_blurred) none (rgT 0 m.toNat) (rgT 0 m.toNat) [some (.tup rs), some (.rng m.toNat), some (.int s), some (.int i), x4] w = .ok (ρ', .ret x) w) := by
  have h := forL_first (w := w) (all := rgT 0 m.toNat) (g := mgName 4) (b := fsB s__first_blurred) (ρ := [some (.tup rs), some (.rng m.toNat), some (.int s), some (.int i), x4]) (fun (j : Nat) => if setB rs s i (j : Nat) = true then [T.tup [.int s, .int i, .int (j : Nat)]] else []) (FsE rs m s i) (fun j t ρ ht p => by
    obtain ⟨x4, rfl⟩ := p
    obtain ⟨rfl, hj⟩ := rgT_at ht
    obtain ⟨k, hk⟩ : ∃ k : Int, k = ((j : Nat) : Int) := ⟨_, rfl⟩
    simp only [← hk, Int.zero_add]
    obtain ⟨v, e, hv⟩ := first_blurred_ok (w := w) B.R i0 i1 (j := k) (by omega) (by omega) s0 s1
    have e2 := fsB_run (x1 := some (.rng m.toNat)) e hv
    rw [mgName_, bind_ok']
    show _ ∨ ∃ x r ρ1, _ ∧ fsB s__first_blurred [some (.tup rs), some (.rng m.toNat), some (.int s), some (.int i), some (.int k)] w = _
    cases hf : setB rs s i k with
    | true => rw [hf] at e2; exact .inr ⟨.tup [.int s, .int i, .int k], [], _, by simp, e2⟩
    | false => rw [hf] at e2; exact .inl ⟨by simp, _, e2, _, rfl⟩) ⟨_, rfl⟩
  rw [rgLen] at h
  exact h
abbrev FsE2 (rs : List T) (m s : Int) (ρ : Env) : Prop := ∃ x3 x4, ρ = [some (.tup rs), some (.rng m.toNat), some (.int s), x3, x4]
theorem fs_mid (B : Tab rs m n) {x3 x4 : Option T} (s0 : 0 ≤ s) (s1 : s < n) : (settS rs m s = [] ∧ ∃ ρ', forL (mgName 3) (fsO s__first_blurred) none (rgT 0 m.toNat) (rgT 0 m.toNat) [some (.tup rs), some (.rng m.toNat), some (.int s), x3, x4] w = .ok (ρ', .nx) w ∧ FsE2 rs m s ρ') ∨ (∃ x r ρ', settS rs m s = x :: r ∧ forL (mgName 3) (fsO s__first_blurred) none (rgT 0 m.toNat) (rgT 0 m.toNat) [some (.tup rs), some (.rng m.toNat), some (.int s), x3, x4] w = .ok (ρ', .ret x) w) := by
  have hm1 := B.m1
  have hm62 : ((m.toNat : Nat) : Int) < 2 ^ 62 := by omega
  have h := forL_first (w := w) (all := rgT 0 m.toNat) (g := mgName 3) (b := fsO s__first_blurred) (ρ := [some (.tup rs), some (.rng m.toNat), some (.int s), x3, x4]) (fun (i : Nat) => settI rs m s (i : Nat)) (FsE2 rs m s) (fun i t ρ ht p => by
    obtain ⟨x3, x4, rfl⟩ := p
    obtain ⟨rfl, hi⟩ := rgT_at ht
    obtain ⟨k, hk⟩ : ∃ k : Int, k = ((i : Nat) : Int) := ⟨_, rfl⟩
    rw [← hk, Int.zero_add]
    have hgo : ((mgName 3 (.int k) [some (.tup rs), some (.rng m.toNat), some (.int s), x3, x4] w).bind fun ρ1 w1 => fsO s__first_blurred ρ1 w1) = forL (mgName 4) (fsB s__first_blurred) none (rgT 0 m.toNat) (rgT 0 m.toNat) [some (.tup rs), some (.rng m.toNat), some (.int s), some (.int k), x4] w := by
      rw [mgName_, bind_ok']
      exact rngs hm62
    rw [hgo]
    rcases fs_in (w := w) B (x4 := x4) s0 s1 (i := k) (by omega) (by omega) with ⟨h1, ρ', e, x4', rfl⟩ | ⟨x, r, ρ', h1, e⟩
    · exact .inl ⟨h1, _, e, _, _, rfl⟩
    · exact .inr ⟨x, r, ρ', h1, e⟩) ⟨_, _, rfl⟩
  rw [rgLen] at h
  exact h
theorem fs_nx {Fo : MS} {k : Nat} {ρ' : Env} (hr : sRng [.int m] w = .ok (.rng k) w) (hl : (rs.length : Int) = m) (h : Fo [some (.tup rs), some (.rng k), none, none, none] w = .ok (ρ', .nx) w) : runB 5 (mSeq (mAsg (mCall sRng (mCons (mCall sLen (mCons (mVar 0) mNil)) mNil)) (mgName 1)) (mSeq Fo (mRet (mC .non)))) [.tup rs] w = .ok .non w := by
  unfold runB
  simp [hl, hr, h]
theorem fs_ret {Fo : MS} {k : Nat} {ρ' : Env} {v : T} (hr : sRng [.int m] w = .ok (.rng k) w) (hl : (rs.length : Int) = m) (h : Fo [some (.tup rs), some (.rng k), none, none, none] w = .ok (ρ', .ret v) w) : runB 5 (mSeq (mAsg (mCall sRng (mCons (mCall sLen (mCons (mVar 0) mNil)) mNil)) (mgName 1)) (mSeq Fo (mRet (mC .non)))) [.tup rs] w = .ok v w := by
  unfold runB
  simp [hl, hr, h]
theorem arg0 (B : Tab rs m n) : (mCons (mCall sLen (mCons (mOp2 sIx (mVar 0) (mC (.int 0))) mNil)) mNil) (some (.tup rs) :: ρ) w = .ok [.int n] w := by
  obtain ⟨f0, ix0, l0⟩ := len_first B.R B.m0
  rw [mCons_, mCall_, mCons_, mOp2_, mVar0 (o := none), bind_ok', mC_, bind_ok', ix0, bind_ok', mNil_, bind_ok', bind_ok', sLen_tup, l0, bind_ok', mNil_, bind_ok']
theorem for0 {g : MG} {b : MS} (B : Tab rs m n) : mFor (mRange1 (mCons (mCall sLen (mCons (mOp2 sIx (mVar 0) (mC (.int 0))) mNil)) mNil)) g b (some (.tup rs) :: ρ) w = forL g b none (rgT 0 n.toNat) (rgT 0 n.toNat) (some (.tup rs) :: ρ) w := by
  have h0 := B.n0
  have h1 := B.n1
  rw [mFor_, mRange1_, arg0 B, bind_ok', sRange1_ (by omega) (by omega), bind_ok']
theorem first_settling_at (B : Tab rs m n) : ∃ v, s__first_settling [.tup rs] w = .ok v w ∧ Head (settL rs m n) v := by
  have hm := B.m1
  have hm0 := B.m0
  have hl := B.R.1
  have hm62 : ((m.toNat : Nat) : Int) < 2 ^ 62 := by omega
  have hr : sRng [.int m] w = .ok (.rng m.toNat) w := by
    unfold sRng
    exact if_pos (by omega)
  have h := forL_first (w := w) (all := rgT 0 n.toNat) (g := mgName 2) (b := fsP s__first_blurred) (ρ := [some (.tup rs), some (.rng m.toNat), none, none, none]) (fun (s : Nat) => settS rs m (s : Nat)) (fun ρ => ∃ x2 x3 x4, ρ = [some (.tup rs), some (.rng m.toNat), x2, x3, x4]) (fun i t ρ ht p => by
    obtain ⟨x2, x3, x4, rfl⟩ := p
    obtain ⟨rfl, hi⟩ := rgT_at ht
    obtain ⟨k, hk⟩ : ∃ k : Int, k = ((i : Nat) : Int) := ⟨_, rfl⟩
    rw [← hk, Int.zero_add]
    have hgo : ((mgName 2 (.int k) [some (.tup rs), some (.rng m.toNat), x2, x3, x4] w).bind fun ρ1 w1 => fsP s__first_blurred ρ1 w1) = forL (mgName 3) (fsO s__first_blurred) none (rgT 0 m.toNat) (rgT 0 m.toNat) [some (.tup rs), some (.rng m.toNat), some (.int k), x3, x4] w := by
      rw [mgName_, bind_ok']
      exact rngs hm62
    rw [hgo]
    rcases fs_mid (w := w) B (x3 := x3) (x4 := x4) (s := k) (by omega) (by omega) with ⟨h1, ρ', e, x3', x4', rfl⟩ | ⟨x, r, ρ', h1, e⟩
    · exact .inl ⟨h1, _, e, _, _, _, rfl⟩
    · exact .inr ⟨x, r, ρ', h1, e⟩) ⟨_, _, _, rfl⟩
  rw [rgLen] at h
  have hF := for0 (w := w) (g := mgName 2) (b := fsP s__first_blurred) (ρ := [some (.rng m.toNat), none, none, none]) B
  unfold s__first_settling
  rw [fs_parts]
  rcases h with ⟨h1, ρ', e, _⟩ | ⟨x, r, ρ', h1, e⟩
  · exact ⟨.non, fs_nx hr hl (hF.trans e), .inl ⟨h1, rfl⟩⟩
  · exact ⟨x, fs_ret hr hl (hF.trans e), .inr ⟨r, h1⟩⟩
end
end VS

set_option Elab.async false
set_option linter.all false
set_option maxRecDepth 100000
set_option maxHeartbeats 4000000
namespace VS
open PySem PySem.Spec PyProof.Rows L2
section
variable {w ex : World} {ρ : Env} {all rs ts : List T} {n m i j s : Int} {g : MG} {b : MS} {f : Sem} {ds : List T}
theorem gc_list0 {k j : Nat} (e : f ds w = .ok (.cell (w.length + j)) (w ++ ex)) (hj : ex[j]? = some (.lst ts)) (h : ∀ t ∈ ts, Plain k t) : gc f ds w = .ok (.lst ts) w := by
  have hw : (w ++ ex)[w.length + j]? = some (.lst ts) := by
    rw [List.getElem?_append_right (by omega)]
    simpa using hj
  refine gc_of e gcok_app ?_ (t' := .lst ts) (by unfold NoRef; exact plains_flat h _) (by simp)
  unfold fz
  unfold mapC
  rw [if_neg (by omega), hw]
  simp only
  congr 1
  have : ∀ us : List T, (∀ t ∈ us, Plain k t) → us.map (fz w.length (w ++ ex) 2) = us := fun us => by
    induction us with
    | nil => intro _; rfl
    | cons u us ih =>
      intro h
      rw [List.map_cons, fz_id 2 (plain_flat (h u (.head _)) 0), ih (fun s hs => h s (.tail _ hs))]
  exact this ts h
theorem plain_lst {k : Nat} {ts : List T} (h : ∀ t ∈ ts, Plain k t) : Plain (k + 1) (.lst ts) := by
  obtain ⟨ds, h1, h2, h3, h4⟩ := plains_of h
  exact ⟨.list ds, by simp [pd0, h1], fun w => by simp [pd, h2], by simpa [PyData.canLay0] using h3, by simp [PyData.depth]; omega⟩
theorem mem3 {P : T → Prop} {a b c : T} (ha : P a) (hb : P b) (hc : P c) : ∀ t ∈ [a, b, c], P t := fun t ht => by simp at ht; rcases ht with rfl | rfl | rfl <;> assumption
theorem clashR_plain : ∀ t ∈ clashR rs m n i, Plain 2 t := fun t ht => by
  unfold clashR at ht
  obtain ⟨j, _, hj⟩ := List.mem_flatMap.mp ht
  split at hj
  · cases hj
  · simp at hj
    subst hj
    exact plain_tup (mem2 plain_int plain_int)
theorem clashL_plain : ∀ t ∈ clashL rs m n, Plain 2 t := fun t ht => by
  unfold clashL at ht
  obtain ⟨j, _, hj⟩ := List.mem_flatMap.mp ht
  exact clashR_plain t hj
theorem settI_plain : ∀ t ∈ settI rs m s i, Plain 2 t := fun t ht => by
  unfold settI at ht
  obtain ⟨j, _, hj⟩ := List.mem_flatMap.mp ht
  split at hj
  · simp at hj
    subst hj
    exact plain_tup (mem3 plain_int plain_int plain_int)
  · cases hj
theorem settL_plain : ∀ t ∈ settL rs m n, Plain 2 t := fun t ht => by
  unfold settL at ht
  obtain ⟨s, _, ht⟩ := List.mem_flatMap.mp ht
  unfold settS at ht
  obtain ⟨i, _, ht⟩ := List.mem_flatMap.mp ht
  exact settI_plain t ht
theorem if1_len {c : Prop} [Decidable c] {t : T} : (if c then [t] else []).length ≤ 1 := by split <;> simp
theorem if1_len' {c : Prop} [Decidable c] {t : T} : (if c then [] else [t]).length ≤ 1 := by split <;> simp
theorem clashR_len : (clashR rs m n i).length ≤ (m - i).toNat := by
  have := flat_len (L := fun (j : Nat) => if fine rs n i (i + (j : Nat)) = true then [] else [T.tup [.int i, .int (i + (j : Nat))]]) (K := 1) (fun j => if1_len') (m - i).toNat
  rw [Nat.one_mul] at this
  exact this
theorem settI_len : (settI rs m s i).length ≤ m.toNat := by
  have := flat_len (L := fun (j : Nat) => if setB rs s i (j : Nat) = true then [T.tup [.int s, .int i, .int (j : Nat)]] else []) (K := 1) (fun j => if1_len) m.toNat
  rw [Nat.one_mul] at this
  exact this
theorem settS_len : (settS rs m s).length ≤ m.toNat * m.toNat := flat_len (L := fun (i : Nat) => settI rs m s (i : Nat)) (fun i => settI_len) m.toNat
/-! all that clash -/
noncomputable def fiB (F : Sem) : MS := mIfS (mNot (mTru (mDef 3 F (mCons (mVar 0) (mCons (mVar 2) (mCons (mVar 3) mNil)))))) (mDrop (mMeth sAppend (mVar 1) (mCons (mTup (mCons (mVar 2) (mCons (mVar 3) mNil))) mNil))) mSkip
noncomputable def fiO (F : Sem) : MS := mFor (mRange2 (mCons (mVar 2) (mCons (mCall sLen (mCons (mVar 0) mNil)) mNil))) (mgName 3) (fiB F)
theorem fi_parts : m__law_tt_failing = mSeq (mAsg (mCell (mLst mNil)) (mgName 1)) (mSeq (mFor (mRange1 (mCons (mCall sLen (mCons (mVar 0) mNil)) mNil)) (mgName 2) (fiO s__law_tt_is_fine)) (mRet (mVar 1))) := rfl
theorem fi_in (B : Tab rs m n) {x3 : Option T} {out : List T} (i0 : 0 ≤ i) (i1 : i < m) (ho : out.length + 12 ≤ 1000000) : ∃ ρ', forL (mgName 3) (fiB s__law_tt_is_fine) none (rgT i (m - i).toNat) (rgT i (m - i).toNat) [some (.tup rs), some (.cell w.length), some (.int i), x3] (w ++ [.lst out]) = .ok (ρ', .nx) (w ++ [.lst (out ++ clashR rs m n i)]) ∧ ∃ x3, ρ' = [some (.tup rs), some (.cell w.length), some (.int i), x3] := by
  have hm1 := B.m1
  have h := forL_collect (all := rgT i (m - i).toNat) (g := mgName 3) (b := fiB s__law_tt_is_fine) (ρ := [some (.tup rs), some (.cell w.length), some (.int i), x3]) (fun (j : Nat) => if fine rs n i (i + (j : Nat)) = true then [] else [T.tup [.int i, .int (i + (j : Nat))]]) (fun ρ => ∃ x3, ρ = [some (.tup rs), some (.cell w.length), some (.int i), x3]) (fun out => w ++ [.lst out]) 1 1000000 (fun j => if1_len') (fun j t ρ out ht p ho => by
    obtain ⟨x3, rfl⟩ := p
    obtain ⟨rfl, hj⟩ := rgT_at ht
    obtain ⟨k, hk⟩ : ∃ k : Int, k = i + ((j : Nat) : Int) := ⟨_, rfl⟩
    simp only [← hk]
    have e := is_fine_ok (w := w ++ [Cell.lst out]) B i0 i1 (other := k) (by omega) (by omega)
    have hc := last_at (w := w) (c := .lst out)
    cases hf : fine rs n i k with
    | true => exact ⟨[some (.tup rs), some (.cell w.length), some (.int i), some (.int k)], by simp [fiB, e, hf], _, rfl⟩
    | false =>
      have hap := append_cell (t := .tup [.int i, .int k]) hc (by omega)
      exact ⟨[some (.tup rs), some (.cell w.length), some (.int i), some (.int k)], by simp [fiB, e, hf, lst_cell hc, two_le, hap], _, rfl⟩) ⟨_, rfl⟩ (out := out) (by rw [rgLen]; omega)
  rw [rgLen] at h
  exact h
theorem failing_at (B : Tab rs m n) : s__law_tt_failing [.tup rs] w = .ok (.lst (clashL rs m n)) w := by
  have hm := B.m1
  have hm0 := B.m0
  have hl := B.R.1
  have h := forL_collect (all := rgT 0 m.toNat) (g := mgName 2) (b := fiO s__law_tt_is_fine) (ρ := [some (.tup rs), some (.cell w.length), none, none]) (fun (i : Nat) => clashR rs m n (i : Nat)) (fun ρ => ∃ x2 x3, ρ = [some (.tup rs), some (.cell w.length), x2, x3]) (fun out => w ++ [.lst out]) 12 1000000 (fun i => Nat.le_trans clashR_len (by omega)) (fun i t ρ out ht p ho => by
    obtain ⟨x2, x3, rfl⟩ := p
    obtain ⟨rfl, hi⟩ := rgT_at ht
    obtain ⟨k, hk⟩ : ∃ k : Int, k = ((i : Nat) : Int) := ⟨_, rfl⟩
    rw [← hk, Int.zero_add]
    have hgo : ((mgName 2 (.int k) [some (.tup rs), some (.cell w.length), x2, x3] (w ++ [.lst out])).bind fun ρ1 w1 => fiO s__law_tt_is_fine ρ1 w1) = forL (mgName 3) (fiB s__law_tt_is_fine) none (rgT k (m - k).toNat) (rgT k (m - k).toNat) [some (.tup rs), some (.cell w.length), some (.int k), x3] (w ++ [.lst out]) := by
      rw [mgName_, bind_ok']
      exact for2' hl (by omega) (by omega) (by omega) (by omega)
    rw [hgo]
    obtain ⟨ρ', e, x3', rfl⟩ := fi_in (w := w) B (x3 := x3) (out := out) (i := k) (by omega) (by omega) (by omega)
    exact ⟨_, e, _, _, rfl⟩) ⟨_, _, rfl⟩ (out := []) (by rw [rgLen]; simp; omega)
  rw [rgLen] at h
  obtain ⟨ρ', e, x2, x3, rfl⟩ := h
  have hF := for1 (w := w ++ [.lst []]) (g := mgName 2) (b := fiO s__law_tt_is_fine) (ρ := [some (.cell w.length), none, none]) hl (by omega) (by omega)
  have h9 := fl_run (hF.trans e)
  unfold s__law_tt_failing
  rw [fi_parts]
  exact gc_list0 (j := 0) h9 (by simp; rfl) clashL_plain
/-! all that settle -/
noncomputable def seB (F : Sem) : MS := mIfS (mTest (mOp2 sEq (mDef 4 F (mCons (mVar 0) (mCons (mVar 2) (mCons (mVar 3) (mCons (mVar 4) mNil))))) (mVal (mLst mNil)))) (mDrop (mMeth sAppend (mVar 1) (mCons (mTup (mCons (mVar 2) (mCons (mVar 3) (mCons (mVar 4) mNil)))) mNil))) mSkip
noncomputable def seO (F : Sem) : MS := mFor (mRange1 (mCons (mCall sLen (mCons (mVar 0) mNil)) mNil)) (mgName 4) (seB F)
noncomputable def seP (F : Sem) : MS := mFor (mRange1 (mCons (mCall sLen (mCons (mVar 0) mNil)) mNil)) (mgName 3) (seO F)
noncomputable def seQ (F : Sem) : MS := mFor (mRange1 (mCons (mCall sLen (mCons (mOp2 sIx (mVar 0) (mC (.int 0))) mNil)) mNil)) (mgName 2) (seP F)
theorem se_parts : m__law_tt_settling = mSeq (mAsg (mCell (mLst mNil)) (mgName 1)) (mSeq (seQ s__law_tt_blurred) (mRet (mVar 1))) := rfl
/-- what the law's search for blurred views tells -/
def BlOk (F : Sem) (rs : List T) (m n : Int) : Prop := ∀ (w : World) (i j s : Int), 0 ≤ i → i < m → 0 ≤ j → j < m → 0 ≤ s → s < n → ∃ out, F [.tup rs, .int s, .int i, .int j] w = .ok (.lst out) w ∧ (∀ t ∈ out, Plain 50 t) ∧ (out = [] ↔ setB rs s i j = true)
abbrev SeE (rs : List T) (k : Nat) (s i : Int) (ρ : Env) : Prop := ∃ x4, ρ = [some (.tup rs), some (.cell k), some (.int s), some (.int i), x4]
theorem se_in {F : Sem} (hF : BlOk F rs m n) (B : Tab rs m n) {x4 : Option T} {out : List T} (s0 : 0 ≤ s) (s1 : s < n) (i0 : 0 ≤ i) (i1 : i < m) (ho : out.length + 12 ≤ 1000000) : ∃ ρ', forL (mgName 4) (seB F) none (rgT 0 m.toNat) (rgT 0 m.toNat) [some (.tup rs), some (.cell w.length), some (.int s), some (.int i), x4] (w ++ [.lst out]) = .ok (ρ', .nx) (w ++ [.lst (out ++ settI rs m s i)]) ∧ SeE rs w.length s i ρ' := by
  have hm1 := B.m1
  have h3 : (3 : Nat) ≤ sizeLine := le_size (by decide)
  have h := forL_collect (all := rgT 0 m.toNat) (g := mgName 4) (b := seB F) (ρ := [some (.tup rs), some (.cell w.length), some (.int s), some (.int i), x4]) (fun (j : Nat) => if setB rs s i (j : Nat) = true then [T.tup [.int s, .int i, .int (j : Nat)]] else []) (SeE rs w.length s i) (fun out => w ++ [.lst out]) 1 1000000 (fun j => if1_len) (fun j t ρ out ht p ho => by
    obtain ⟨x4, rfl⟩ := p
    obtain ⟨rfl, hj⟩ := rgT_at ht
    obtain ⟨k, hk⟩ : ∃ k : Int, k = ((j : Nat) : Int) := ⟨_, rfl⟩
    simp only [← hk, Int.zero_add]
    obtain ⟨us, e, hp, hn⟩ := hF (w ++ [Cell.lst out]) i k s i0 i1 (by omega) (by omega) s0 s1
    have e2 := eq_nil (w := w ++ [Cell.lst out]) hp
    have hc := last_at (w := w) (c := .lst out)
    cases hf : setB rs s i k with
    | true =>
      have hap := append_cell (t := .tup [.int s, .int i, .int k]) hc (by omega)
      rw [decide_eq_true (hn.mpr hf)] at e2
      exact ⟨[some (.tup rs), some (.cell w.length), some (.int s), some (.int i), some (.int k)], by simp [seB, e, e2, lst_cell hc, h3, hap], _, rfl⟩
    | false =>
      rw [decide_eq_false (fun z => by rw [hn.mp z] at hf; cases hf)] at e2
      exact ⟨[some (.tup rs), some (.cell w.length), some (.int s), some (.int i), some (.int k)], by simp [seB, e, e2], _, rfl⟩) ⟨_, rfl⟩ (out := out) (by rw [rgLen]; omega)
  rw [rgLen] at h
  exact h
theorem se_mid {F : Sem} (hF : BlOk F rs m n) (B : Tab rs m n) {x3 x4 : Option T} {out : List T} (s0 : 0 ≤ s) (s1 : s < n) (ho : out.length + 144 ≤ 1000000) : ∃ ρ', forL (mgName 3) (seO F) none (rgT 0 m.toNat) (rgT 0 m.toNat) [some (.tup rs), some (.cell w.length), some (.int s), x3, x4] (w ++ [.lst out]) = .ok (ρ', .nx) (w ++ [.lst (out ++ settS rs m s)]) ∧ ∃ x3 x4, ρ' = [some (.tup rs), some (.cell w.length), some (.int s), x3, x4] := by
  have hm1 := B.m1
  have hm0 := B.m0
  have hl := B.R.1
  have h := forL_collect (all := rgT 0 m.toNat) (g := mgName 3) (b := seO F) (ρ := [some (.tup rs), some (.cell w.length), some (.int s), x3, x4]) (fun (i : Nat) => settI rs m s (i : Nat)) (fun ρ => ∃ x3 x4, ρ = [some (.tup rs), some (.cell w.length), some (.int s), x3, x4]) (fun out => w ++ [.lst out]) 12 1000000 (fun i => Nat.le_trans settI_len (by omega)) (fun i t ρ out ht p ho => by
    obtain ⟨x3, x4, rfl⟩ := p
    obtain ⟨rfl, hi⟩ := rgT_at ht
    obtain ⟨k, hk⟩ : ∃ k : Int, k = ((i : Nat) : Int) := ⟨_, rfl⟩
    rw [← hk, Int.zero_add]
    have hgo : ((mgName 3 (.int k) [some (.tup rs), some (.cell w.length), some (.int s), x3, x4] (w ++ [.lst out])).bind fun ρ1 w1 => seO F ρ1 w1) = forL (mgName 4) (seB F) none (rgT 0 m.toNat) (rgT 0 m.toNat) [some (.tup rs), some (.cell w.length), some (.int s), some (.int k), x4] (w ++ [.lst out]) := by
      rw [mgName_, bind_ok']
      exact for1 hl (by omega) (by omega)
    rw [hgo]
    obtain ⟨ρ', e, x4', rfl⟩ := se_in (w := w) hF B (x4 := x4) (out := out) s0 s1 (i := k) (by omega) (by omega) (by omega)
    exact ⟨_, e, _, _, rfl⟩) ⟨_, _, rfl⟩ (out := out) (by rw [rgLen]; omega)
  rw [rgLen] at h
  exact h
theorem se_run {Fo : MS} {out : List T} {x2 x3 x4 : Option T} (h : Fo [some (.tup rs), some (.cell w.length), none, none, none] (w ++ [.lst []]) = .ok ([some (.tup rs), some (.cell w.length), x2, x3, x4], .nx) (w ++ [.lst out])) : runB 5 (mSeq (mAsg (mCell (mLst mNil)) (mgName 1)) (mSeq Fo (mRet (mVar 1)))) [.tup rs] w = .ok (.cell w.length) (w ++ [.lst out]) := by
  unfold runB
  simp [h]
theorem settling_at (hF : BlOk s__law_tt_blurred rs m n) (B : Tab rs m n) : s__law_tt_settling [.tup rs] w = .ok (.lst (settL rs m n)) w := by
  have hm := B.m1
  have hm0 := B.m0
  have hl := B.R.1
  have hn1 := B.n1
  have h := forL_collect (all := rgT 0 n.toNat) (g := mgName 2) (b := seP s__law_tt_blurred) (ρ := [some (.tup rs), some (.cell w.length), none, none, none]) (fun (s : Nat) => settS rs m (s : Nat)) (fun ρ => ∃ x2 x3 x4, ρ = [some (.tup rs), some (.cell w.length), x2, x3, x4]) (fun out => w ++ [.lst out]) 144 1000000 (fun i => Nat.le_trans settS_len (Nat.mul_le_mul (by omega : m.toNat ≤ 12) (by omega : m.toNat ≤ 12))) (fun i t ρ out ht p ho => by
    obtain ⟨x2, x3, x4, rfl⟩ := p
    obtain ⟨rfl, hi⟩ := rgT_at ht
    obtain ⟨k, hk⟩ : ∃ k : Int, k = ((i : Nat) : Int) := ⟨_, rfl⟩
    rw [← hk, Int.zero_add]
    have hgo : ((mgName 2 (.int k) [some (.tup rs), some (.cell w.length), x2, x3, x4] (w ++ [.lst out])).bind fun ρ1 w1 => seP s__law_tt_blurred ρ1 w1) = forL (mgName 3) (seO s__law_tt_blurred) none (rgT 0 m.toNat) (rgT 0 m.toNat) [some (.tup rs), some (.cell w.length), some (.int k), x3, x4] (w ++ [.lst out]) := by
      rw [mgName_, bind_ok']
      exact for1 hl (by omega) (by omega)
    rw [hgo]
    obtain ⟨ρ', e, x3', x4', rfl⟩ := se_mid (w := w) hF B (x3 := x3) (x4 := x4) (out := out) (s := k) (by omega) (by omega) (by omega)
    exact ⟨_, e, _, _, _, rfl⟩) ⟨_, _, _, rfl⟩ (out := []) (by rw [rgLen]; simp; omega)
  rw [rgLen] at h
  obtain ⟨ρ', e, x2, x3, x4, rfl⟩ := h
  have hF' := for0 (w := w ++ [.lst []]) (g := mgName 2) (b := seP s__law_tt_blurred) (ρ := [some (.cell w.length), none, none, none]) B
  have h9 := se_run (hF'.trans e)
  unfold s__law_tt_settling
  rw [se_parts]
  exact gc_list0 (j := 0) h9 (by simp; rfl) settL_plain
end
end VS

set_option Elab.async false
set_option linter.all false
set_option maxRecDepth 100000
set_option maxHeartbeats 4000000
namespace VS
open PySem PySem.Spec PyProof.Rows L2
noncomputable def vwA : MS := mSeq (mAsg (mOp2 sIx (mOp2 sIx (mVar 0) (mOp2 sIx (mVal (mLst (mCons (mVar 2) (mCons (mVar 3) mNil)))) (mVar 6))) (mVar 7)) (mgTup 2 (mgCons (mgName 7) (mgCons (mgSub sSet (mVar 9) (mVar 6)) mgNil)))) (mDrop (mMeth sAppend (mVar 11) (mCons (mVar 6) mNil)))
noncomputable def vwL : MS := mSeq (mAsg (mTup (mCons (mOp2 sIx (mVar 9) (mVar 6)) (mCons (mVar 7) mNil))) (mgSub sSet (mVar 8) (mVar 6))) (mAsg (mOp2 sEq (mVar 11) (mVal (mLst (mCons (mVar 6) mNil)))) (mgSub sSet (mVar 10) (mVar 6)))
noncomputable def vwB : MS := mIfS (mTest (mOp2 sIs (mOp2 sIx (mVar 9) (mVar 6)) (mC .non))) vwA vwL
noncomputable def vwI : MS := mAsg (mTup (mCons (mVar 1) (mCons (mCell (mLst (mCons (mC .non) (mCons (mC .non) mNil)))) (mCons (mCell (mLst (mCons (mC .non) (mCons (mC .non) mNil)))) (mCons (mCell (mLst (mCons (mC (.bl false)) (mCons (mC (.bl false)) mNil)))) (mCons (mCell (mLst mNil)) mNil)))))) (mgTup 5 (mgCons (mgName 7) (mgCons (mgName 8) (mgCons (mgName 9) (mgCons (mgName 10) (mgCons (mgName 11) mgNil))))))
noncomputable def vwE : MS := mDrop (mMeth sAppend (mVar 4) (mCons (mTup (mCons (mOp2 sIx (mVar 5) (mC (.int 0))) (mCons (mVar 8) (mCons (mVar 10) mNil)))) mNil))
noncomputable def vwM : MS := mSeq vwI (mSeq (mFor (mItems (mVar 5)) (mgName 6) vwB) vwE)
theorem vw_parts : m__law_tt_views = mSeq (mAsg (mCell (mLst mNil)) (mgName 4)) (mSeq (mFor (mItems (mDef0 s__law_tt_mixes)) (mgName 5) vwM) (mRet (mVar 4))) := rfl
structure Mx where
  here : Int
  v0 : Option (Int × Int)
  v1 : Option (Int × Int)
  a0 : Option Int
  a1 : Option Int
  l0 : Bool
  l1 : Bool
  ac : List Int
def oT : Option Int → T
  | none => .non
  | some i => .int i
def vT : Option (Int × Int) → T
  | none => .non
  | some p => pr p.1 p.2
def Mx.cells (x : Mx) : World := [.lst [vT x.v0, vT x.v1], .lst [oT x.a0, oT x.a1], .lst [.bl x.l0, .bl x.l1], .lst (x.ac.map .int)]
def Mx.step (rs : List T) (i j : Int) (x : Mx) (h : Int) : Mx :=
  if h = 0 then match x.a0 with
    | none => { x with here := (stepAt rs i x.here).1, a0 := some (stepAt rs i x.here).2, ac := x.ac ++ [0] }
    | some a => { x with v0 := some (a, x.here), l0 := decide (x.ac = [0]) }
  else match x.a1 with
    | none => { x with here := (stepAt rs j x.here).1, a1 := some (stepAt rs j x.here).2, ac := x.ac ++ [1] }
    | some a => { x with v1 := some (a, x.here), l1 := decide (x.ac = [1]) }
section
variable {w ex : World} {ρ : Env} {all rs ts : List T} {n m i j s h : Int} {x : Mx}
abbrev VEn (rs : List T) (s i j : Int) (x4 x5 x6 : Option T) (a : Int) (k : Nat) : Env := [some (.tup rs), some (.int s), some (.int i), some (.int j), x4, x5, x6, some (.int a), some (.cell k), some (.cell (k + 1)), some (.cell (k + 2)), some (.cell (k + 3))]
theorem sIx_two0 {a c : T} : sIx (.lst [a, c]) (.int 0) w = .ok a w := sIx_lst rfl (by decide)
theorem sIx_two1 {a c : T} : sIx (.lst [a, c]) (.int 1) w = .ok c w := sIx_lst rfl (by decide)
theorem cx0 {k : Nat} {a c : T} (hk : w[k]? = some (.lst [a, c])) : sIx (.cell k) (.int 0) w = .ok a w := sIx_cell hk rfl (by decide)
theorem cx1 {k : Nat} {a c : T} (hk : w[k]? = some (.lst [a, c])) : sIx (.cell k) (.int 1) w = .ok c w := sIx_cell hk rfl (by decide)
theorem cs0 {k : Nat} {a c t : T} (hk : w[k]? = some (.lst [a, c])) : sSet (.cell k) (.int 0) t w = .ok () (w.set k (.lst [t, c])) := set_cell hk (by decide) (by simp)
theorem cs1 {k : Nat} {a c t : T} (hk : w[k]? = some (.lst [a, c])) : sSet (.cell k) (.int 1) t w = .ok () (w.set k (.lst [a, t])) := set_cell hk (by decide) (by simp)
section
variable {c0 c1 c2 c3 c : Cell}
theorem g0 : (w ++ [c0, c1, c2, c3])[w.length]? = some c0 := by simp
theorem g1 : (w ++ [c0, c1, c2, c3])[w.length + 1]? = some c1 := by simp
theorem g2 : (w ++ [c0, c1, c2, c3])[w.length + 2]? = some c2 := by simp
theorem g3 : (w ++ [c0, c1, c2, c3])[w.length + 3]? = some c3 := by simp
theorem p0 : (w ++ [c0, c1, c2, c3]).set w.length c = w ++ [c, c1, c2, c3] := by simp
theorem p1 : (w ++ [c0, c1, c2, c3]).set (w.length + 1) c = w ++ [c0, c, c2, c3] := by simp
theorem p2 : (w ++ [c0, c1, c2, c3]).set (w.length + 2) c = w ++ [c0, c1, c, c3] := by simp
theorem p3 : (w ++ [c0, c1, c2, c3]).set (w.length + 3) c = w ++ [c0, c1, c2, c] := by simp
end
theorem isNon_oT {o : Option Int} : isNon (oT o) = o.isNone := by cases o <;> rfl
theorem vw_act0 (R : Rows m n rs) (i0 : 0 ≤ i) (i1 : i < m) (h0 : 0 ≤ x.here) (h1 : x.here < n) (ha : x.a0 = none) (hl : x.ac.length ≤ 100) {x4 x5 : Option T} : vwB (VEn rs s i j x4 x5 (some (.int 0)) x.here w.length) (w ++ x.cells) = .ok (VEn rs s i j x4 x5 (some (.int 0)) (x.step rs i j 0).here w.length, .nx) (w ++ (x.step rs i j 0).cells) := by
  obtain ⟨here, v0, v1, a0, a1, l0, l1, ac⟩ := x
  simp only at ha h0 h1 hl
  subst ha
  obtain ⟨sa, qa, b0, b1, _⟩ := stepAt_ok R i0 i1 h0 h1
  have e1 := fun w => (qa w).1
  have e2 := fun w => (qa w).2
  unfold Mx.step Mx.cells
  simp only [if_true, oT]
  have hap : ∀ c0 c1 c2 : Cell, sAppend (.cell (w.length + 3)) [.int 0] (w ++ [c0, c1, c2, .lst (ac.map .int)]) = .ok .non (w ++ [c0, c1, c2, .lst ((ac ++ [0]).map .int)]) := fun c0 c1 c2 => by
    rw [append_cell g3 (by simp; omega), p3]
    simp
  unfold vwB vwA VEn
  simp only [mIfS_, mTest_, mOp2_, mVar0, mVarS, bind_ok', cx0 g1, mC_, sIs_, isNon, asB_bl, if_pos, mSeq_, mAsg_, mVal_, mLst_, mCons_, mNil_, List.length_cons, List.length_nil, Nat.reduceAdd, if_pos two_le, sIx_two0, e1, e2, mgTup_, mgCons_, mgNil_, mgName_, mgSub_, List.set_cons_zero, List.set_cons_succ, cs0 g1, p1, then_nx, mDrop_, mMeth_, lst_cell g3, hap]
theorem vw_act1 (R : Rows m n rs) (i0 : 0 ≤ j) (i1 : j < m) (h0 : 0 ≤ x.here) (h1 : x.here < n) (ha : x.a1 = none) (hl : x.ac.length ≤ 100) {x4 x5 : Option T} : vwB (VEn rs s i j x4 x5 (some (.int 1)) x.here w.length) (w ++ x.cells) = .ok (VEn rs s i j x4 x5 (some (.int 1)) (x.step rs i j 1).here w.length, .nx) (w ++ (x.step rs i j 1).cells) := by
  obtain ⟨here, v0, v1, a0, a1, l0, l1, ac⟩ := x
  simp only at ha h0 h1 hl
  subst ha
  obtain ⟨sa, qa, b0, b1, _⟩ := stepAt_ok R i0 i1 h0 h1
  have e1 := fun w => (qa w).1
  have e2 := fun w => (qa w).2
  unfold Mx.step Mx.cells
  simp only [show ¬ ((1 : Int) = 0) by decide, if_false, oT]
  have hap : ∀ c0 c1 c2 : Cell, sAppend (.cell (w.length + 3)) [.int 1] (w ++ [c0, c1, c2, .lst (ac.map .int)]) = .ok .non (w ++ [c0, c1, c2, .lst ((ac ++ [1]).map .int)]) := fun c0 c1 c2 => by
    rw [append_cell g3 (by simp; omega), p3]
    simp
  unfold vwB vwA VEn
  simp only [mIfS_, mTest_, mOp2_, mVar0, mVarS, bind_ok', cx1 g1, mC_, sIs_, isNon, asB_bl, if_pos, mSeq_, mAsg_, mVal_, mLst_, mCons_, mNil_, List.length_cons, List.length_nil, Nat.reduceAdd, if_pos two_le, sIx_two1, e1, e2, mgTup_, mgCons_, mgNil_, mgName_, mgSub_, List.set_cons_zero, List.set_cons_succ, cs1 g1, p1, then_nx, mDrop_, mMeth_, lst_cell g3, hap]
theorem eq_acted {k : Nat} {ac : List Int} (hk : w[k]? = some (.lst (ac.map .int))) : sEq (.cell k) (.lst [.int h]) w = .ok (.bl (decide (ac = [h]))) w := by
  have := eqT_ints (w := w) (ns := ac) (ms := [h]) (pd_cell hk) (pd_lst' (ts := [T.int h]) rfl)
  simp [sEq, this]
theorem vw_look0 {a : Int} (ha : x.a0 = some a) {x4 x5 : Option T} : vwB (VEn rs s i j x4 x5 (some (.int 0)) x.here w.length) (w ++ x.cells) = .ok (VEn rs s i j x4 x5 (some (.int 0)) (x.step rs i j 0).here w.length, .nx) (w ++ (x.step rs i j 0).cells) := by
  obtain ⟨here, v0, v1, a0, a1, l0, l1, ac⟩ := x
  simp only at ha
  subst ha
  unfold Mx.step Mx.cells
  simp only [if_true, oT, vT]
  unfold vwB vwL VEn
  simp only [mIfS_, mTest_, mOp2_, mVar0, mVarS, bind_ok', cx0 g1, mC_, sIs_, isNon, asB_bl, Bool.false_eq_true, if_false, mSeq_, mAsg_, mVal_, mLst_, mTup_, mCons_, mNil_, List.length_cons, List.length_nil, Nat.reduceAdd, if_pos two_le, if_pos one_le, mgName_, mgSub_, cs0 g0, p0, then_nx, eq_acted g3, cs0 g2, p2, pr]
theorem vw_look1 {a : Int} (ha : x.a1 = some a) {x4 x5 : Option T} : vwB (VEn rs s i j x4 x5 (some (.int 1)) x.here w.length) (w ++ x.cells) = .ok (VEn rs s i j x4 x5 (some (.int 1)) (x.step rs i j 1).here w.length, .nx) (w ++ (x.step rs i j 1).cells) := by
  obtain ⟨here, v0, v1, a0, a1, l0, l1, ac⟩ := x
  simp only at ha
  subst ha
  unfold Mx.step Mx.cells
  simp only [show ¬ ((1 : Int) = 0) by decide, if_false, oT, vT]
  unfold vwB vwL VEn
  simp only [mIfS_, mTest_, mOp2_, mVar0, mVarS, bind_ok', cx1 g1, mC_, sIs_, isNon, asB_bl, Bool.false_eq_true, if_false, mSeq_, mAsg_, mVal_, mLst_, mTup_, mCons_, mNil_, List.length_cons, List.length_nil, Nat.reduceAdd, if_pos two_le, if_pos one_le, mgName_, mgSub_, cs1 g0, p0, then_nx, eq_acted g3, cs1 g2, p2, pr]
theorem vw_step (B : Tab rs m n) (i0 : 0 ≤ i) (i1 : i < m) (j0 : 0 ≤ j) (j1 : j < m) (hh : h = 0 ∨ h = 1) (h0 : 0 ≤ x.here) (h1 : x.here < n) (hl : x.ac.length ≤ 100) {x4 x5 : Option T} :
    vwB (VEn rs s i j x4 x5 (some (.int h)) x.here w.length) (w ++ x.cells) = .ok (VEn rs s i j x4 x5 (some (.int h)) (x.step rs i j h).here w.length, .nx) (w ++ (x.step rs i j h).cells) ∧ 0 ≤ (x.step rs i j h).here ∧ (x.step rs i j h).here < n ∧ (x.step rs i j h).ac.length ≤ x.ac.length + 1 := by
  rcases hh with rfl | rfl
  · cases ha : x.a0 with
    | none =>
      refine ⟨vw_act0 B.R i0 i1 h0 h1 ha hl, ?_⟩
      obtain ⟨_, _, b0, b1, _⟩ := stepAt_ok B.R i0 i1 h0 h1
      simp [Mx.step, ha, b0, b1]
    | some a =>
      refine ⟨vw_look0 ha, ?_⟩
      simp [Mx.step, ha, h0, h1]
  · cases ha : x.a1 with
    | none =>
      refine ⟨vw_act1 B.R j0 j1 h0 h1 ha hl, ?_⟩
      obtain ⟨_, _, b0, b1, _⟩ := stepAt_ok B.R j0 j1 h0 h1
      simp [Mx.step, ha, b0, b1]
    | some a =>
      refine ⟨vw_look1 ha, ?_⟩
      simp [Mx.step, ha, h0, h1]
theorem vw_loop (B : Tab rs m n) (i0 : 0 ≤ i) (i1 : i < m) (j0 : 0 ≤ j) (j1 : j < m) {x4 x5 : Option T} : ∀ (hs : List Int) (x : Mx) (x6 : Option T), (∀ h ∈ hs, h = 0 ∨ h = 1) → 0 ≤ x.here → x.here < n → x.ac.length + hs.length ≤ 100 →
    ∃ x6', forL (mgName 6) vwB none all (hs.map .int) (VEn rs s i j x4 x5 x6 x.here w.length) (w ++ x.cells) = .ok (VEn rs s i j x4 x5 x6' (hs.foldl (Mx.step rs i j) x).here w.length, .nx) (w ++ (hs.foldl (Mx.step rs i j) x).cells)
  | [], x, x6, _, _, _, _ => ⟨x6, forL_nil0⟩
  | h :: hs, x, x6, hh, h0, h1, hl => by
    obtain ⟨e, q0, q1, q2⟩ := vw_step (s := s) (w := w) B i0 i1 j0 j1 (hh h (.head _)) h0 h1 (by simp at hl; omega) (x4 := x4) (x5 := x5)
    obtain ⟨x6', e2⟩ := vw_loop B i0 i1 j0 j1 (x4 := x4) (x5 := x5) hs (x.step rs i j h) (some (.int h)) (fun h' hm => hh h' (.tail _ hm)) q0 q1 (by simp at hl; omega)
    refine ⟨x6', ?_⟩
    rw [List.map_cons, forL_cons, mgName_, bind_ok']
    show (vwB (VEn rs s i j x4 x5 (some (.int h)) x.here w.length) (w ++ x.cells)).bind _ = _
    rw [e, bind_ok']
    exact e2
end
end VS

set_option Elab.async false
set_option linter.all false
set_option maxRecDepth 100000
set_option maxHeartbeats 4000000
namespace VS
open PySem PySem.Spec PyProof.Rows L2
def MX : List (List Int) := [[0, 0, 1, 1], [0, 1, 0, 1], [0, 1, 1, 0], [1, 0, 0, 1], [1, 0, 1, 0], [1, 1, 0, 0]]
def x0 (s : Int) : Mx := ⟨s, none, none, none, none, false, false, []⟩
def fin (rs : List T) (s i j : Int) (hs : List Int) : Mx := hs.foldl (Mx.step rs i j) (x0 s)
section
variable {w w1 ex : World} {ρ : Env} {all rs ts out : List T} {n m i j s h : Int} {x : Mx}
theorem mixes_ok : s__law_tt_mixes [] w = .ok (.lst (MX.map fun hs => T.lst (hs.map .int))) w := by
  have h4 : (4 : Nat) ≤ sizeLine := le_size (by decide)
  have h6 : (6 : Nat) ≤ sizeLine := le_size (by decide)
  unfold s__law_tt_mixes m__law_tt_mixes runB
  simp [h4, h6, MX]
theorem vwI_run {x4 x5 x6 x7 x8 x9 x10 x11 : Option T} : vwI [some (.tup rs), some (.int s), some (.int i), some (.int j), x4, x5, x6, x7, x8, x9, x10, x11] w1 = .ok (VEn rs s i j x4 x5 x6 s w1.length, .nx) (w1 ++ (x0 s).cells) := by
  have h5 : (5 : Nat) ≤ sizeLine := le_size (by decide)
  unfold vwI VEn
  simp [h5, two_le, x0, Mx.cells, oT, vT]
theorem vwM_run (B : Tab rs m n) (i0 : 0 ≤ i) (i1 : i < m) (j0 : 0 ≤ j) (j1 : j < m) (s0 : 0 ≤ s) (s1 : s < n) {f : Nat} {h0 : Int} {hs : List Int} (hf : w1[f]? = some (.lst out)) (ho : out.length < 100) (hh : ∀ h ∈ h0 :: hs, h = 0 ∨ h = 1) (hl : hs.length ≤ 10) {x6 x7 x8 x9 x10 x11 : Option T} :
    ∃ ρ', vwM [some (.tup rs), some (.int s), some (.int i), some (.int j), some (.cell f), some (.lst ((h0 :: hs).map .int)), x6, x7, x8, x9, x10, x11] w1 = .ok (ρ', .nx) (w1.set f (.lst (out ++ [.tup [.int h0, .cell w1.length, .cell (w1.length + 2)]])) ++ (fin rs s i j (h0 :: hs)).cells) ∧ ∃ x5 x6 x7 x8 x9 x10 x11, ρ' = [some (.tup rs), some (.int s), some (.int i), some (.int j), some (.cell f), x5, x6, x7, x8, x9, x10, x11] := by
  have h3 : (3 : Nat) ≤ sizeLine := le_size (by decide)
  obtain ⟨x6', e⟩ := vw_loop (w := w1) (s := s) (all := (h0 :: hs).map .int) B i0 i1 j0 j1 (x4 := some (.cell f)) (x5 := some (.lst ((h0 :: hs).map .int))) (h0 :: hs) (x0 s) x6 hh s0 s1 (by simp [x0]; omega)
  change _ = R.ok (VEn rs s i j (some (.cell f)) (some (.lst ((h0 :: hs).map .int))) x6' (fin rs s i j (h0 :: hs)).here w1.length, Fl.nx) (w1 ++ (fin rs s i j (h0 :: hs)).cells) at e
  have hf1 : f < w1.length := (List.getElem?_eq_some_iff.mp hf).1
  have hf2 : ∀ cs : World, (w1 ++ cs)[f]? = some (.lst out) := fun cs => by rw [List.getElem?_append_left hf1]; exact hf
  have hap := append_cell (t := .tup [.int h0, .cell w1.length, .cell (w1.length + 2)]) (hf2 (fin rs s i j (h0 :: hs)).cells) (by omega)
  rw [List.set_append_left _ _ hf1] at hap
  have ix : ∀ w : World, sIx (.lst ((h0 :: hs).map .int)) (.int 0) w = .ok (.int h0) w := fun w => sIx_lst rfl (by decide)
  generalize hX : fin rs s i j (h0 :: hs) = X at *
  refine ⟨VEn rs s i j (some (.cell f)) (some (.lst ((h0 :: hs).map .int))) x6' X.here w1.length, ?_, _, _, _, _, _, _, _, rfl⟩
  have hI : mFor (mItems (mVar 5)) (mgName 6) vwB (VEn rs s i j (some (.cell f)) (some (.lst ((h0 :: hs).map .int))) x6 s w1.length) (w1 ++ (x0 s).cells) = .ok (VEn rs s i j (some (.cell f)) (some (.lst ((h0 :: hs).map .int))) x6' X.here w1.length, .nx) (w1 ++ X.cells) := by
    rw [mFor_, mItems_]
    simp only [mVarS, mVar0, bind_ok', sItems_lst]
    exact e
  unfold vwM
  rw [mSeq_, vwI_run, then_nx, mSeq_, hI, then_nx]
  unfold vwE VEn
  simp only [mDrop_, mMeth_, mVar0, mVarS, bind_ok', mCons_, mTup_, mOp2_, mC_, ix, mNil_, List.length_cons, List.length_nil, Nat.reduceAdd, if_pos h3, lst_cell (hf2 X.cells), hap]
/-- the cells behind some mixes -/
def csOf (rs : List T) (s i j : Int) (k : Nat) : World := (List.range k).flatMap fun t => (fin rs s i j (MX.getD t [])).cells
def outOf (f k : Nat) : List T := (List.range k).map fun t => .tup [.int ((MX.getD t []).headD 0), .cell (f + 1 + 4 * t), .cell (f + 1 + 4 * t + 2)]
theorem csOf_len (k : Nat) : (csOf rs s i j k).length = 4 * k := by
  induction k with
  | zero => rfl
  | succ k ih =>
    unfold csOf at ih ⊢
    rw [List.range_succ, List.flatMap_append, List.length_append, ih]
    simp [Mx.cells]
    omega
theorem mx_at {t : Nat} (ht : t < 6) : ∃ h0 hs, MX.getD t [] = h0 :: hs ∧ (MX.map fun hs => T.lst (hs.map .int))[t]? = some (.lst ((h0 :: hs).map .int)) ∧ (∀ h ∈ h0 :: hs, h = 0 ∨ h = 1) ∧ hs.length ≤ 10 := by
  match t, ht with
  | 0, _ => exact ⟨0, [0, 1, 1], rfl, rfl, by simp, by simp⟩
  | 1, _ => exact ⟨0, [1, 0, 1], rfl, rfl, by simp, by simp⟩
  | 2, _ => exact ⟨0, [1, 1, 0], rfl, rfl, by simp, by simp⟩
  | 3, _ => exact ⟨1, [0, 0, 1], rfl, rfl, by simp, by simp⟩
  | 4, _ => exact ⟨1, [0, 1, 0], rfl, rfl, by simp, by simp⟩
  | 5, _ => exact ⟨1, [1, 0, 0], rfl, rfl, by simp, by simp⟩
theorem vw_all (B : Tab rs m n) (i0 : 0 ≤ i) (i1 : i < m) (j0 : 0 ≤ j) (j1 : j < m) (s0 : 0 ≤ s) (s1 : s < n) :
    runB 12 m__law_tt_views [.tup rs, .int s, .int i, .int j] w = .ok (.cell w.length) (w ++ (.lst (outOf w.length 6) :: csOf rs s i j 6)) := by
  obtain ⟨ρ', w', e, rfl, y5, y6, y7, y8, y9, y10, y11, rfl⟩ := forL_run (w := w ++ [.lst []]) (all := MX.map fun hs => T.lst (hs.map .int)) (g := mgName 5) (b := vwM) (ρ := [some (.tup rs), some (.int s), some (.int i), some (.int j), some (.cell w.length), none, none, none, none, none, none, none]) (P := fun k ρ w' => w' = w ++ (.lst (outOf w.length k) :: csOf rs s i j k) ∧ ∃ x5 x6 x7 x8 x9 x10 x11, ρ = [some (.tup rs), some (.int s), some (.int i), some (.int j), some (.cell w.length), x5, x6, x7, x8, x9, x10, x11]) ⟨rfl, _, _, _, _, _, _, _, rfl⟩ (fun k t ρ w' ht p => by
    obtain ⟨rfl, x5, x6, x7, x8, x9, x10, x11, rfl⟩ := p
    have hk : k < 6 := (List.getElem?_eq_some_iff.mp ht).1
    obtain ⟨h0, hs, e1, e2, e3, e4⟩ := mx_at hk
    rw [e2] at ht
    cases ht
    have hf : (w ++ (.lst (outOf w.length k) :: csOf rs s i j k))[w.length]? = some (.lst (outOf w.length k)) := by simp
    have hol : (outOf w.length k).length < 100 := by simp [outOf]; omega
    obtain ⟨ρ', e, hρ⟩ := vwM_run (w1 := w ++ (.lst (outOf w.length k) :: csOf rs s i j k)) B i0 i1 j0 j1 s0 s1 hf hol e3 e4 (x6 := x6) (x7 := x7) (x8 := x8) (x9 := x9) (x10 := x10) (x11 := x11)
    refine ⟨ρ', _, e, ?_, hρ⟩
    have hlen : (w ++ (.lst (outOf w.length k) :: csOf rs s i j k)).length = w.length + 1 + 4 * k := by
      rw [List.length_append, List.length_cons, csOf_len]; omega
    rw [hlen]
    have a1 : outOf w.length (k + 1) = outOf w.length k ++ [.tup [.int h0, .cell (w.length + 1 + 4 * k), .cell (w.length + 1 + 4 * k + 2)]] := by
      unfold outOf
      rw [List.range_succ, List.map_append, List.map_singleton, e1]
      rfl
    have a2 : csOf rs s i j (k + 1) = csOf rs s i j k ++ (fin rs s i j (h0 :: hs)).cells := by
      unfold csOf
      rw [List.range_succ, List.flatMap_append, List.flatMap_singleton, e1]
    rw [a1, a2]
    simp)
  rw [vw_parts]
  unfold runB
  simp [mixes_ok, mDef0]
  rw [e]
  simp [MX]
def wayT (f : Int) (x : Mx) : T := .tup [.int f, .lst [vT x.v0, vT x.v1], .lst [.bl x.l0, .bl x.l1]]
def waysT (rs : List T) (s i j : Int) : List T := (List.range 6).map fun t => wayT ((MX.getD t []).headD 0) (fin rs s i j (MX.getD t []))
theorem vT_flat {o : Option (Int × Int)} (k : Nat) : NoRef k (vT o) := by
  cases o with
  | none => unfold vT NoRef; trivial
  | some p => unfold vT pr; exact plain_flat (plain_tup (mem2 plain_int plain_int)) k
theorem cs_at {k t : Nat} (h : t < k) {u : Nat} (hu : u < 4) : (csOf rs s i j k)[4 * t + u]? = (fin rs s i j (MX.getD t [])).cells[u]? := by
  induction k with
  | zero => omega
  | succ k ih =>
    have a2 : csOf rs s i j (k + 1) = csOf rs s i j k ++ (fin rs s i j (MX.getD k [])).cells := by
      unfold csOf
      rw [List.range_succ, List.flatMap_append, List.flatMap_singleton]
    rw [a2]
    by_cases e : t = k
    · subst e
      rw [List.getElem?_append_right (by rw [csOf_len]; omega), csOf_len]
      congr 1
      omega
    · rw [List.getElem?_append_left (by rw [csOf_len]; omega)]
      exact ih (by omega)
theorem tt_views_ok (B : Tab rs m n) (i0 : 0 ≤ i) (i1 : i < m) (j0 : 0 ≤ j) (j1 : j < m) (s0 : 0 ≤ s) (s1 : s < n) :
    s__law_tt_views [.tup rs, .int s, .int i, .int j] w = .ok (.lst (waysT rs s i j)) w := by
  have e := vw_all (w := w) B i0 i1 j0 j1 s0 s1
  unfold s__law_tt_views
  have fl : NoRef w.length (.lst (waysT rs s i j)) := by
    unfold NoRef
    have : ∀ (l : List Nat), NoRefs w.length (l.map fun t => wayT ((MX.getD t []).headD 0) (fin rs s i j (MX.getD t []))) := fun l => by
      induction l with
      | nil => unfold List.map NoRefs; trivial
      | cons t l ih =>
        rw [List.map_cons]
        unfold NoRefs
        refine ⟨?_, ih⟩
        unfold wayT
        simp only [NoRef, NoRefs, and_true, true_and]
        exact ⟨vT_flat _, vT_flat _⟩
    exact this _
  refine gc_of e gcok_app ?_ fl (by simp)
  have hc : (w ++ (.lst (outOf w.length 6) :: csOf rs s i j 6))[w.length]? = some (.lst (outOf w.length 6)) := by simp
  have hc2 : ∀ t < 6, ∀ u < 4, (w ++ (.lst (outOf w.length 6) :: csOf rs s i j 6))[w.length + 1 + 4 * t + u]? = (fin rs s i j (MX.getD t [])).cells[u]? := fun t ht u hu => by
    rw [List.getElem?_append_right (by omega), show w.length + 1 + 4 * t + u - w.length = (4 * t + u) + 1 by omega, List.getElem?_cons_succ]
    exact cs_at ht hu
  generalize w ++ (.lst (outOf w.length 6) :: csOf rs s i j 6) = W at *
  unfold fz
  unfold mapC
  rw [if_neg (by omega), hc]
  simp only
  congr 1
  unfold outOf waysT
  rw [List.map_map]
  refine List.map_congr_left fun t ht => ?_
  have ht6 : t < 6 := List.mem_range.mp ht
  have b0 := hc2 t ht6 0 (by decide)
  have b2 := hc2 t ht6 2 (by decide)
  rw [Nat.add_zero] at b0
  show fz w.length W 2 _ = _
  unfold fz mapC
  simp only [mapCs, mapC]
  rw [if_neg (by omega), if_neg (by omega), b0, b2]
  unfold Mx.cells wayT
  simp only [List.getElem?_cons_zero, List.getElem?_cons_succ, List.map_cons, List.map_nil]
  have z : ∀ t : T, NoRef 0 t → fz w.length W 1 t = t := fun t h => fz_id 1 h
  rw [z _ (vT_flat 0), z _ (vT_flat 0), z (.bl _) (by unfold NoRef; trivial), z (.bl _) (by unfold NoRef; trivial)]
end
end VS

set_option Elab.async false
set_option linter.all false
set_option maxRecDepth 100000
set_option maxHeartbeats 4000000
namespace VS
open PySem PySem.Spec PyProof.Rows L2
structure Wy where
  f : Int
  v0 : Int × Int
  v1 : Int × Int
  l0 : Bool
  l1 : Bool
def Wy.T (y : Wy) : T := .tup [.int y.f, .lst [pr y.v0.1 y.v0.2, pr y.v1.1 y.v1.2], .lst [.bl y.l0, .bl y.l1]]
def Wy.sel (y : Wy) (h : Int) : Int × Int := if h = 0 then y.v0 else y.v1
def waysOf (rs : List T) (s i j : Int) : List Wy :=
  [⟨0, ((stepAt rs i s).2, (stepAt rs i s).1), ((stepAt rs j (stepAt rs i s).1).2, (stepAt rs j (stepAt rs i s).1).1), (fin rs s i j [0, 0, 1, 1]).l0, (fin rs s i j [0, 0, 1, 1]).l1⟩,
   ⟨0, ((stepAt rs i s).2, (stepAt rs j (stepAt rs i s).1).1), ((stepAt rs j (stepAt rs i s).1).2, (stepAt rs j (stepAt rs i s).1).1), (fin rs s i j [0, 1, 0, 1]).l0, (fin rs s i j [0, 1, 0, 1]).l1⟩,
   ⟨0, ((stepAt rs i s).2, (stepAt rs j (stepAt rs i s).1).1), ((stepAt rs j (stepAt rs i s).1).2, (stepAt rs j (stepAt rs i s).1).1), (fin rs s i j [0, 1, 1, 0]).l0, (fin rs s i j [0, 1, 1, 0]).l1⟩,
   ⟨1, ((stepAt rs i (stepAt rs j s).1).2, (stepAt rs i (stepAt rs j s).1).1), ((stepAt rs j s).2, (stepAt rs i (stepAt rs j s).1).1), (fin rs s i j [1, 0, 0, 1]).l0, (fin rs s i j [1, 0, 0, 1]).l1⟩,
   ⟨1, ((stepAt rs i (stepAt rs j s).1).2, (stepAt rs i (stepAt rs j s).1).1), ((stepAt rs j s).2, (stepAt rs i (stepAt rs j s).1).1), (fin rs s i j [1, 0, 1, 0]).l0, (fin rs s i j [1, 0, 1, 0]).l1⟩,
   ⟨1, ((stepAt rs i (stepAt rs j s).1).2, (stepAt rs i (stepAt rs j s).1).1), ((stepAt rs j s).2, (stepAt rs j s).1), (fin rs s i j [1, 1, 0, 0]).l0, (fin rs s i j [1, 1, 0, 0]).l1⟩]
def qB (h : Int) (y z : Wy) : Bool := !decide (z.f = y.f) && (decide ((z.sel h).1 = (y.sel h).1) && decide ((z.sel h).2 = (y.sel h).2))
def nearL (ys : List Wy) (h : Int) (y : Wy) : List T := (ys.filter (qB h y)).map fun _ => .int 1
def hitR (ys : List Wy) (h : Int) (y : Wy) : List (List Int) := if nearL ys h y = [] then [] else [[h, (y.sel h).1, (y.sel h).2]]
def hitH (ys : List Wy) (h : Int) : List (List Int) := (List.range ys.length).flatMap fun k => hitR ys h (ys.getD k ⟨0, (0, 0), (0, 0), false, false⟩)
def hitL (ys : List Wy) : List (List Int) := (List.range 2).flatMap fun (h : Nat) => hitH ys (h : Nat)
section
variable {w w1 ex : World} {ρ ρ0 : Env} {all rs ts out : List T} {n m i j s h : Int} {x : Mx} {g : MG} {c : MT} {e : ME}
theorem ways_eq : waysT rs s i j = (waysOf rs s i j).map Wy.T := by
  have f0 : (fin rs s i j [0, 0, 1, 1]).v0 = some ((stepAt rs i s).2, (stepAt rs i s).1) := by simp [fin, Mx.step, x0]
  have f1 : (fin rs s i j [0, 0, 1, 1]).v1 = some ((stepAt rs j (stepAt rs i s).1).2, (stepAt rs j (stepAt rs i s).1).1) := by simp [fin, Mx.step, x0]
  have g0 : (fin rs s i j [0, 1, 0, 1]).v0 = some ((stepAt rs i s).2, (stepAt rs j (stepAt rs i s).1).1) := by simp [fin, Mx.step, x0]
  have g1 : (fin rs s i j [0, 1, 0, 1]).v1 = some ((stepAt rs j (stepAt rs i s).1).2, (stepAt rs j (stepAt rs i s).1).1) := by simp [fin, Mx.step, x0]
  have h0 : (fin rs s i j [0, 1, 1, 0]).v0 = some ((stepAt rs i s).2, (stepAt rs j (stepAt rs i s).1).1) := by simp [fin, Mx.step, x0]
  have h1 : (fin rs s i j [0, 1, 1, 0]).v1 = some ((stepAt rs j (stepAt rs i s).1).2, (stepAt rs j (stepAt rs i s).1).1) := by simp [fin, Mx.step, x0]
  have k0 : (fin rs s i j [1, 0, 0, 1]).v0 = some ((stepAt rs i (stepAt rs j s).1).2, (stepAt rs i (stepAt rs j s).1).1) := by simp [fin, Mx.step, x0]
  have k1 : (fin rs s i j [1, 0, 0, 1]).v1 = some ((stepAt rs j s).2, (stepAt rs i (stepAt rs j s).1).1) := by simp [fin, Mx.step, x0]
  have l0 : (fin rs s i j [1, 0, 1, 0]).v0 = some ((stepAt rs i (stepAt rs j s).1).2, (stepAt rs i (stepAt rs j s).1).1) := by simp [fin, Mx.step, x0]
  have l1 : (fin rs s i j [1, 0, 1, 0]).v1 = some ((stepAt rs j s).2, (stepAt rs i (stepAt rs j s).1).1) := by simp [fin, Mx.step, x0]
  have m0 : (fin rs s i j [1, 1, 0, 0]).v0 = some ((stepAt rs i (stepAt rs j s).1).2, (stepAt rs i (stepAt rs j s).1).1) := by simp [fin, Mx.step, x0]
  have m1 : (fin rs s i j [1, 1, 0, 0]).v1 = some ((stepAt rs j s).2, (stepAt rs j s).1) := by simp [fin, Mx.step, x0]
  unfold waysT waysOf
  have r6 : List.range 6 = [0, 1, 2, 3, 4, 5] := rfl
  rw [r6]
  simp only [List.map_cons, List.map_nil, wayT, Wy.T, MX, List.getD_cons_zero, List.getD_cons_succ, List.headD_cons, f0, f1, g0, g1, h0, h1, k0, k1, l0, l1, m0, m1, vT]
theorem compL_sel {α : Type} (ys : List α) (enc : α → T) (q : α → Bool) (f : α → T) (hl : ys.length < 16777216) (h : ∀ y ∈ ys, ∃ ρ1, g (enc y) ρ0 w = .ok ρ1 w ∧ c ρ1 w = .ok (q y) w ∧ e ρ1 w = .ok (f y) w) : compL g c e none (ys.map enc) ρ0 (ys.map enc) [] w = .ok ((ys.filter q).map f) w := by
  obtain ⟨out, w', e1, rfl, e3⟩ := compL_run (w := w) (P := fun i out w' => w' = w ∧ out = ((ys.take i).filter q).map f) (g := g) (c := c) (e := e) (ρ0 := ρ0) (all := ys.map enc) ⟨rfl, by simp⟩ (fun i t out w' ht p => by
    obtain ⟨rfl, rfl⟩ := p
    rw [List.getElem?_map] at ht
    cases hy : ys[i]? with
    | none => rw [hy] at ht; cases ht
    | some y =>
      rw [hy] at ht
      cases ht
      obtain ⟨ρ1, a, b, d⟩ := h y (List.mem_of_getElem? hy)
      refine ⟨ρ1, w', a, ?_⟩
      have hi : i < ys.length := (List.getElem?_eq_some_iff.mp hy).1
      cases hq : q y with
      | true =>
        rw [hq] at b
        refine .inl ⟨w', f y, w', b, d, ?_, rfl, ?_⟩
        · have h1 := List.length_filter_le q (ys.take i)
          have h2 := List.length_take_le i ys
          simp
          omega
        · rw [List.take_add_one, hy, List.filter_append, List.map_append]
          simp [hq]
      | false =>
        rw [hq] at b
        refine .inr ⟨w', b, rfl, ?_⟩
        rw [List.take_add_one, hy, List.filter_append, List.map_append]
        simp [hq])
  rw [e1, e3]
  simp
theorem ne_nil' {out : List T} (h : ∀ t ∈ out, Plain 50 t) : sNe (.lst out) (.lst []) w = .ok (.bl (!decide (out = []))) w := by
  obtain ⟨ds, g1, g2, g3, g4⟩ := plains_of h
  have e : eqT w (.lst out) (.lst []) = some (decide (out = [])) := by
    rw [eqT_of (d := .list ds) (e := .list []) (by simp [pd, g2]) (by simp [pd, pds]) (by simp [SeqAt.shaped, PyData.canLay0, g3, PyData.depth]; omega) rfl]
    show some (PyData.eqvAll ds []) = _
    rw [eqvAll_nil]
    congr 1
    exact decide_eq_decide.mpr (pds0_nil g1)
  simp [sNe, e]
noncomputable def blC : MF := mComp [11, 12, 13] (mItems (mVar 5)) (mgTup 3 (mgCons (mgName 11) (mgCons (mgName 12) (mgCons (mgName 13) mgNil)))) (mAnd (mTest (mOp2 sNe (mVar 11) (mVar 7))) (mTest (mOp2 sEq (mOp2 sIx (mVar 12) (mVar 6)) (mOp2 sIx (mVar 8) (mVar 6))))) (mC (.int 1))
noncomputable def blB : MS := mSeq (mAsg (if false = true then mCell blC else mVal blC) (mgName 10)) (mIfS (mTest (mOp2 sNe (mVar 10) (mVal (mLst mNil)))) (mDrop (mMeth sAppend (mVar 4) (mCons (mOp2 sAdd (mTup (mCons (mVar 6) mNil)) (mOp2 sIx (mVar 8) (mVar 6))) mNil))) mSkip)
noncomputable def blO : MS := mFor (mItems (mVar 5)) (mgTup 3 (mgCons (mgName 7) (mgCons (mgName 8) (mgCons (mgName 9) mgNil)))) blB
theorem bl_parts : m__law_tt_blurred = mSeq (mAsg (mCell (mLst mNil)) (mgName 4)) (mSeq (mAsg (mDef 4 s__law_tt_views (mCons (mVar 0) (mCons (mVar 1) (mCons (mVar 2) (mCons (mVar 3) mNil))))) (mgName 5)) (mSeq (mFor (mRange1 (mCons (mC (.int 2)) mNil)) (mgName 6) blO) (mRet (mVal (mCallF (sSortT 3) (mCons (mVar 4) mNil)))))) := rfl
theorem sel_ix (y : Wy) (hh : h = 0 ∨ h = 1) : sIx (.lst [pr y.v0.1 y.v0.2, pr y.v1.1 y.v1.2]) (.int h) w = .ok (pr (y.sel h).1 (y.sel h).2) w := by
  rcases hh with rfl | rfl
  · exact sIx_two0
  · exact sIx_two1
theorem near_plain {ys : List Wy} {y : Wy} : ∀ t ∈ nearL ys h y, Plain 50 t := fun t ht => by
  unfold nearL at ht
  obtain ⟨_, _, rfl⟩ := List.mem_map.mp ht
  exact plain_mono plain_int (by decide)
abbrev BlE (rs : List T) (s i j : Int) (k : Nat) (ys : List Wy) (h : Int) (ρ : Env) : Prop := ∃ x7 x8 x9 x10 x11 x12 x13, ρ = [some (.tup rs), some (.int s), some (.int i), some (.int j), some (.cell k), some (.lst (ys.map Wy.T)), some (.int h), x7, x8, x9, x10, x11, x12, x13]
theorem blC_run {ys : List Wy} {y : Wy} (hh : h = 0 ∨ h = 1) (hl : ys.length < 100) {x0 x1 x2 x3 x4 x9 x10 x11 x12 x13 : Option T} : blC [x0, x1, x2, x3, x4, some (.lst (ys.map Wy.T)), some (.int h), some (.int y.f), some (.lst [pr y.v0.1 y.v0.2, pr y.v1.1 y.v1.2]), x9, x10, x11, x12, x13] w = .ok (nearL ys h y) w := by
  unfold blC
  rw [mComp_, mItems_]
  simp only [mVarS, mVar0, bind_ok', sItems_lst]
  refine compL_sel ys Wy.T (qB h y) (fun _ => .int 1) (by omega) (fun z hz => ⟨[x0, x1, x2, x3, x4, some (.lst (ys.map Wy.T)), some (.int h), some (.int y.f), some (.lst [pr y.v0.1 y.v0.2, pr y.v1.1 y.v1.2]), x9, x10, some (.int z.f), some (.lst [pr z.v0.1 z.v0.2, pr z.v1.1 z.v1.2]), some (.lst [.bl z.l0, .bl z.l1])], ?_, ?_, rfl⟩)
  · unfold Wy.T
    simp [wipeE]
  · have s1 := sel_ix (w := w) z hh
    have s2 := sel_ix (w := w) y hh
    have s3 := eq_pair (w := w) (a := (z.sel h).1) (b := (z.sel h).2) (c := (y.sel h).1) (d := (y.sel h).2)
    unfold qB
    simp only [mAnd_, mTest_, mOp2_, mVarS, mVar0, bind_ok', sNe_int, asB_bl, s1, s2]
    by_cases hf : z.f = y.f
    · simp [hf]
    · simp only [hf, decide_false, Bool.not_false, if_true, Bool.true_and]
      change asB (sEq (pr _ _) (pr _ _) w) = _
      unfold pr
      rw [s3]
      rfl
theorem blB_run {ys : List Wy} {y : Wy} (hh : h = 0 ∨ h = 1) (hl : ys.length < 100) (ho : out.length < 1000000) {x0 x1 x2 x3 x9 x10 x11 x12 x13 : Option T} : blB [x0, x1, x2, x3, some (.cell w.length), some (.lst (ys.map Wy.T)), some (.int h), some (.int y.f), some (.lst [pr y.v0.1 y.v0.2, pr y.v1.1 y.v1.2]), x9, x10, x11, x12, x13] (w ++ [.lst out]) = .ok ([x0, x1, x2, x3, some (.cell w.length), some (.lst (ys.map Wy.T)), some (.int h), some (.int y.f), some (.lst [pr y.v0.1 y.v0.2, pr y.v1.1 y.v1.2]), x9, some (.lst (nearL ys h y)), x11, x12, x13], .nx) (w ++ [.lst (out ++ (hitR ys h y).map rowT)]) := by
  have e := blC_run (w := w ++ [.lst out]) (ys := ys) (y := y) hh hl (x0 := x0) (x1 := x1) (x2 := x2) (x3 := x3) (x4 := some (.cell w.length)) (x9 := x9) (x10 := x10) (x11 := x11) (x12 := x12) (x13 := x13)
  have e2 := ne_nil' (w := w ++ [.lst out]) (near_plain (h := h) (ys := ys) (y := y))
  have hc := last_at (w := w) (c := .lst out)
  have hcat := catT (w := w ++ [.lst out]) (us := [T.int h]) (vs := [.int (y.sel h).1, .int (y.sel h).2]) (by simp)
  have s2 := sel_ix (w := w ++ [.lst out]) y hh
  unfold blB
  have ef : (if false = true then mCell blC else mVal blC) = mVal blC := rfl
  rw [ef]
  unfold hitR
  by_cases hn : nearL ys h y = []
  · rw [hn] at e e2
    simp [e, e2, hn]
  · have hap := append_cell (t := rowT [h, (y.sel h).1, (y.sel h).2]) hc (by omega)
    have hcat' : sAdd (.tup [T.int h]) (pr (y.sel h).1 (y.sel h).2) (w ++ [.lst out]) = .ok (rowT [h, (y.sel h).1, (y.sel h).2]) (w ++ [.lst out]) := hcat
    simp [e, e2, hn, one_le, s2, hcat', lst_cell hc, hap]
end
end VS

set_option Elab.async false
set_option linter.all false
set_option maxRecDepth 100000
set_option maxHeartbeats 4000000
namespace VS
open PySem PySem.Spec PyProof.Rows L2
section
variable {w w1 ex : World} {ρ ρ0 : Env} {all rs ts out : List T} {n m i j s h : Int} {ys : List Wy}
theorem hitR_len {y : Wy} : (hitR ys h y).length ≤ 1 := by unfold hitR; split <;> simp
theorem rflat_len {L : Nat → List (List Int)} {K : Nat} (hK : ∀ i, (L i).length ≤ K) : ∀ k, ((List.range k).flatMap L).length ≤ K * k
  | 0 => by simp
  | k + 1 => by
    rw [List.range_succ, List.flatMap_append, List.flatMap_singleton, List.length_append, Nat.mul_add, Nat.mul_one]
    have := rflat_len hK k
    have h2 := hK k
    omega
theorem hitH_len : (hitH ys h).length ≤ ys.length := by
  have := rflat_len (L := fun k => hitR ys h (ys.getD k ⟨0, (0, 0), (0, 0), false, false⟩)) (K := 1) (fun k => hitR_len) ys.length
  rw [Nat.one_mul] at this
  exact this
theorem hitL_len : (hitL ys).length ≤ ys.length * 2 := rflat_len (L := fun (h : Nat) => hitH ys (h : Nat)) (fun _ => hitH_len) 2
theorem bl_in (hh : h = 0 ∨ h = 1) (hl : ys.length < 100) {k : Nat} (hk : k = w.length) (hE : BlE rs s i j k ys h ρ) (ho : out.length + 100 ≤ 1000000) : ∃ ρ', forL (mgTup 3 (mgCons (mgName 7) (mgCons (mgName 8) (mgCons (mgName 9) mgNil)))) blB none (ys.map Wy.T) (ys.map Wy.T) ρ (w ++ [.lst out]) = .ok (ρ', .nx) (w ++ [.lst (out ++ (hitH ys h).map rowT)]) ∧ BlE rs s i j k ys h ρ' := by
  subst hk
  have hq := forL_collect (all := ys.map Wy.T) (g := mgTup 3 (mgCons (mgName 7) (mgCons (mgName 8) (mgCons (mgName 9) mgNil)))) (b := blB) (ρ := ρ) (fun k => (hitR ys h (ys.getD k ⟨0, (0, 0), (0, 0), false, false⟩)).map rowT) (BlE rs s i j w.length ys h) (fun out => w ++ [.lst out]) 1 1000000 (fun k => by rw [List.length_map]; exact hitR_len) (fun k t ρ out ht p ho => by
    obtain ⟨x7, x8, x9, x10, x11, x12, x13, rfl⟩ := p
    rw [List.getElem?_map] at ht
    cases hy : ys[k]? with
    | none => rw [hy] at ht; cases ht
    | some y =>
      rw [hy] at ht
      cases ht
      have eg : ys.getD k ⟨0, (0, 0), (0, 0), false, false⟩ = y := by rw [List.getD_eq_getElem?_getD, hy]; rfl
      rw [eg]
      have e := blB_run (w := w) (out := out) (ys := ys) (y := y) hh hl (by omega) (x0 := some (.tup rs)) (x1 := some (.int s)) (x2 := some (.int i)) (x3 := some (.int j)) (x9 := some (.lst [.bl y.l0, .bl y.l1])) (x10 := x10) (x11 := x11) (x12 := x12) (x13 := x13)
      refine ⟨[some (.tup rs), some (.int s), some (.int i), some (.int j), some (.cell w.length), some (.lst (ys.map Wy.T)), some (.int h), some (.int y.f), some (.lst [pr y.v0.1 y.v0.2, pr y.v1.1 y.v1.2]), some (.lst [.bl y.l0, .bl y.l1]), some (.lst (nearL ys h y)), x11, x12, x13], ?_, _, _, _, _, _, _, _, rfl⟩
      · rw [← e]
        unfold Wy.T
        simp only [mgTup_, mgCons_, mgNil_, mgName_, List.length_cons, List.length_nil, Nat.reduceAdd, if_true, bind_ok', List.set_cons_zero, List.set_cons_succ]) hE (out := out) (by rw [List.length_map]; omega)
  rw [List.length_map] at hq
  obtain ⟨ρ', e, p⟩ := hq
  refine ⟨ρ', ?_, p⟩
  rw [e]
  unfold hitH
  rw [List.map_flatMap]
theorem bl_run {F : Sem} {B1 : MS} {hs : List (List Int)} {x6 x7 x8 x9 x10 x11 x12 x13 : Option T} (hF : F [.tup rs, .int s, .int i, .int j] (w ++ [.lst []]) = .ok (.lst (ys.map Wy.T)) (w ++ [.lst []]))
    (hO : B1 [some (.tup rs), some (.int s), some (.int i), some (.int j), some (.cell w.length), some (.lst (ys.map Wy.T)), none, none, none, none, none, none, none, none] (w ++ [.lst []]) = .ok ([some (.tup rs), some (.int s), some (.int i), some (.int j), some (.cell w.length), some (.lst (ys.map Wy.T)), x6, x7, x8, x9, x10, x11, x12, x13], .nx) (w ++ [.lst (hs.map rowT)]))
    (hS : sSortT 3 [.cell w.length] (w ++ [.lst (hs.map rowT)]) = .ok ((sortR hs).map rowT) (w ++ [.lst (hs.map rowT)])) :
    runB 14 (mSeq (mAsg (mCell (mLst mNil)) (mgName 4)) (mSeq (mAsg (mDef 4 F (mCons (mVar 0) (mCons (mVar 1) (mCons (mVar 2) (mCons (mVar 3) mNil))))) (mgName 5)) (mSeq B1 (mRet (mVal (mCallF (sSortT 3) (mCons (mVar 4) mNil))))))) [.tup rs, .int s, .int i, .int j] w = .ok (.lst ((sortR hs).map rowT)) (w ++ [.lst (hs.map rowT)]) := by
  unfold runB
  simp [hF, hO, hS]
theorem sort_ok {hs : List (List Int)} {k : Nat} (hk : w[k]? = some (.lst (hs.map rowT))) (h1 : hs.length < 64) (h2 : ∀ r ∈ hs, bdRow 3 r) : sSortT 3 [.cell k] w = .ok ((sortR hs).map rowT) w := by
  unfold sSortT
  simp only [lst_cell hk, rowsT_of]
  exact if_pos ⟨h1, h2⟩
theorem row_plain' {r : List Int} : Plain 2 (rowT r) := plain_tup (fun t ht => by obtain ⟨z, _, rfl⟩ := List.mem_map.mp ht; exact plain_int)
theorem hit_bd (hb : ∀ y ∈ ys, ∀ h : Int, 0 ≤ (y.sel h).1 ∧ (y.sel h).1 < 2 ^ 64 ∧ 0 ≤ (y.sel h).2 ∧ (y.sel h).2 < 2 ^ 64) : ∀ r ∈ hitL ys, bdRow 3 r := fun r hr => by
  unfold hitL at hr
  obtain ⟨h, hh, hr⟩ := List.mem_flatMap.mp hr
  have h2 : h < 2 := List.mem_range.mp hh
  unfold hitH at hr
  obtain ⟨k, hk, hr⟩ := List.mem_flatMap.mp hr
  have k2 := List.mem_range.mp hk
  unfold hitR at hr
  split at hr
  · cases hr
  · simp only [List.mem_singleton] at hr
    subst hr
    have hy : ys.getD k ⟨0, (0, 0), (0, 0), false, false⟩ ∈ ys := by
      rw [List.getD_eq_getElem?_getD, List.getElem?_eq_getElem k2]
      exact List.getElem_mem k2
    have := hb _ hy (h : Int)
    refine ⟨rfl, fun z hz => ?_⟩
    unfold bdT
    simp only [List.mem_cons, List.not_mem_nil, or_false] at hz
    rcases hz with rfl | rfl | rfl
    · omega
    · exact ⟨this.1, this.2.1⟩
    · exact this.2.2
theorem blurred_run (B : Tab rs m n) (i0 : 0 ≤ i) (i1 : i < m) (j0 : 0 ≤ j) (j1 : j < m) (s0 : 0 ≤ s) (s1 : s < n) (hys : waysT rs s i j = ys.map Wy.T) (hl : ys.length < 30) (hb : ∀ y ∈ ys, ∀ h : Int, 0 ≤ (y.sel h).1 ∧ (y.sel h).1 < 2 ^ 64 ∧ 0 ≤ (y.sel h).2 ∧ (y.sel h).2 < 2 ^ 64) :
    s__law_tt_blurred [.tup rs, .int s, .int i, .int j] w = .ok (.lst ((sortR (hitL ys)).map rowT)) w := by
  have hF := tt_views_ok (w := w ++ [.lst []]) B i0 i1 j0 j1 s0 s1
  rw [hys] at hF
  have hq := forL_collect (all := rgT 0 2) (g := mgName 6) (b := blO) (ρ := [some (.tup rs), some (.int s), some (.int i), some (.int j), some (.cell w.length), some (.lst (ys.map Wy.T)), none, none, none, none, none, none, none, none]) (fun (h : Nat) => (hitH ys (h : Nat)).map rowT) (fun ρ => ∃ x6 x7 x8 x9 x10 x11 x12 x13, ρ = [some (.tup rs), some (.int s), some (.int i), some (.int j), some (.cell w.length), some (.lst (ys.map Wy.T)), x6, x7, x8, x9, x10, x11, x12, x13]) (fun out => w ++ [.lst out]) 30 1000 (fun k => by rw [List.length_map]; have := hitH_len (ys := ys) (h := (k : Nat)); omega) (fun a t ρ out ht p ho => by
    obtain ⟨x6, x7, x8, x9, x10, x11, x12, x13, rfl⟩ := p
    obtain ⟨rfl, ha⟩ := rgT_at ht
    obtain ⟨k, hk⟩ : ∃ k : Int, k = ((a : Nat) : Int) := ⟨_, rfl⟩
    rw [← hk, Int.zero_add]
    obtain ⟨ρ', e, x7', x8', x9', x10', x11', x12', x13', rfl⟩ := bl_in (w := w) (rs := rs) (s := s) (i := i) (j := j) (h := k) (ys := ys) (out := out) (by omega) (by omega) rfl ⟨x7, x8, x9, x10, x11, x12, x13, rfl⟩ (by omega)
    refine ⟨[some (.tup rs), some (.int s), some (.int i), some (.int j), some (.cell w.length), some (.lst (ys.map Wy.T)), some (.int k), x7', x8', x9', x10', x11', x12', x13'], ?_, _, _, _, _, _, _, _, _, rfl⟩
    · rw [mgName_, bind_ok']
      unfold blO
      rw [mFor_, mItems_]
      simp only [List.set_cons_zero, List.set_cons_succ, mVarS, mVar0, bind_ok', sItems_lst]
      exact e) ⟨_, _, _, _, _, _, _, _, rfl⟩ (out := []) (by rw [rgLen]; simp)
  rw [rgLen] at hq
  obtain ⟨ρ', e, x6, x7, x8, x9, x10, x11, x12, x13, rfl⟩ := hq
  have eh : [] ++ (List.range 2).flatMap (fun (h : Nat) => (hitH ys (h : Nat)).map rowT) = (hitL ys).map rowT := by
    unfold hitL
    rw [List.map_flatMap]
    rfl
  rw [eh] at e
  have hS := sort_ok (w := w ++ [.lst ((hitL ys).map rowT)]) (hs := hitL ys) (k := w.length) last_at (by have := hitL_len (ys := ys); omega) (hit_bd hb)
  unfold s__law_tt_blurred
  rw [bl_parts]
  refine gc_flat0 (ex := [.lst ((hitL ys).map rowT)]) (bl_run (ys := ys) (x6 := x6) (x7 := x7) (x8 := x8) (x9 := x9) (x10 := x10) (x11 := x11) (x12 := x12) (x13 := x13) hF ?_ hS) (plain_lst (k := 2) (fun t ht => by obtain ⟨r, _, rfl⟩ := List.mem_map.mp ht; exact row_plain'))
  rw [mFor_, mRange1_]
  simp only [mCons_, mC_, mNil_, bind_ok']
  rw [sRange1_ (by decide) (by decide), bind_ok']
  exact e
/-! nothing blurred: settled -/
theorem hit_none : hitL ys = [] ↔ (∀ y ∈ ys, ∀ z ∈ ys, qB 0 y z = false) ∧ (∀ y ∈ ys, ∀ z ∈ ys, qB 1 y z = false) := by
  have one : ∀ h : Int, hitH ys h = [] ↔ ∀ y ∈ ys, ∀ z ∈ ys, qB h y z = false := fun h => by
    unfold hitH
    rw [List.flatMap_eq_nil_iff]
    have r : ∀ y, hitR ys h y = [] ↔ ∀ z ∈ ys, qB h y z = false := fun y => by
      unfold hitR
      have : nearL ys h y = [] ↔ ∀ z ∈ ys, qB h y z = false := by
        unfold nearL
        rw [List.map_eq_nil_iff, List.filter_eq_nil_iff]
        exact ⟨fun a z hz => by simpa using a z hz, fun a z hz => by simpa using a z hz⟩
      rw [← this]
      by_cases c : nearL ys h y = [] <;> simp [c]
    constructor
    · intro a y hy
      obtain ⟨k, hk, e⟩ := List.getElem_of_mem hy
      have := a k (List.mem_range.mpr hk)
      rw [List.getD_eq_getElem?_getD, List.getElem?_eq_getElem hk, e] at this
      exact (r y).mp this
    · intro a k hk
      have hk := List.mem_range.mp hk
      refine (r _).mpr (a _ ?_)
      rw [List.getD_eq_getElem?_getD, List.getElem?_eq_getElem hk]
      exact List.getElem_mem hk
  rw [← one 0, ← one 1]
  unfold hitL
  have r2 : List.range 2 = [0, 1] := rfl
  rw [r2, List.flatMap_cons, List.flatMap_singleton, List.append_eq_nil_iff]
  rfl
theorem ways_set : hitL (waysOf rs s i j) = [] ↔ setB rs s i j = true := by
  rw [hit_none]
  unfold waysOf setB blurB
  generalize stepAt rs i s = A
  generalize stepAt rs j s = C
  generalize stepAt rs j A.1 = D
  generalize stepAt rs i C.1 = E
  obtain ⟨A1, A2⟩ := A
  obtain ⟨C1, C2⟩ := C
  obtain ⟨D1, D2⟩ := D
  obtain ⟨E1, E2⟩ := E
  simp only [List.forall_mem_cons, List.forall_mem_nil, qB, Wy.sel, if_true, show ¬ ((1 : Int) = 0) by decide, show ¬ ((0 : Int) = 1) by decide, if_false, decide_true, decide_false, Bool.not_true, Bool.not_false, Bool.false_and, Bool.true_and, and_true, true_and, Bool.and_eq_false_iff, decide_eq_false_iff_not, Bool.and_eq_true, Bool.not_eq_true', Bool.or_eq_false_iff]
  simp only [List.not_mem_nil, false_implies, implies_true, Bool.true_eq_false, false_or, true_or, true_and, and_true, not_true_eq_false, or_false, or_true]
  have c1 : (A2 = E2) = (E2 = A2) := propext eq_comm
  have c2 : (A1 = E1) = (E1 = A1) := propext eq_comm
  have c3 : (D1 = E1) = (E1 = D1) := propext eq_comm
  have c4 : (C2 = D2) = (D2 = C2) := propext eq_comm
  have c5 : (C1 = D1) = (D1 = C1) := propext eq_comm
  simp only [c1, c2, c3, c4, c5]
  generalize (E2 = A2) = P1
  generalize (E1 = A1) = P2
  generalize (E1 = D1) = P3
  generalize (D2 = C2) = P4
  generalize (D1 = C1) = P5
  by_cases h1 : P1 <;> by_cases h2 : P2 <;> by_cases h3 : P3 <;> by_cases h4 : P4 <;> by_cases h5 : P5 <;> simp only [h1, h2, h3, h4, h5, not_true_eq_false, not_false_eq_true, or_true, true_or, or_false, false_or, and_true, true_and, and_false, false_and]
end
end VS

set_option Elab.async false
set_option linter.all false
set_option maxRecDepth 100000
set_option maxHeartbeats 4000000
namespace VS
open PySem PySem.Spec PyProof.Rows L2
section
variable {w w1 ex : World} {ρ ρ0 : Env} {all rs ts out ss : List T} {n m i j s h d : Int} {x y : T} {ns : List Int}
theorem bl_ok (B : Tab rs m n) : BlOk s__law_tt_blurred rs m n := fun w i j s i0 i1 j0 j1 s0 s1 => by
  have hn := B.n1
  obtain ⟨_, _, a0, a1, a2, a3⟩ := stepAt_ok B.R i0 i1 s0 s1
  obtain ⟨_, _, b0, b1, b2, b3⟩ := stepAt_ok B.R j0 j1 s0 s1
  obtain ⟨_, _, c0, c1, c2, c3⟩ := stepAt_ok B.R i0 i1 b0 b1
  obtain ⟨_, _, d0, d1, d2, d3⟩ := stepAt_ok B.R j0 j1 a0 a1
  have hb : ∀ y ∈ waysOf rs s i j, ∀ h : Int, 0 ≤ (y.sel h).1 ∧ (y.sel h).1 < 2 ^ 64 ∧ 0 ≤ (y.sel h).2 ∧ (y.sel h).2 < 2 ^ 64 := fun y hy h => by
    unfold waysOf at hy
    generalize stepAt rs i (stepAt rs j s).1 = E at *
    generalize stepAt rs j (stepAt rs i s).1 = D at *
    generalize stepAt rs i s = A at *
    generalize stepAt rs j s = C at *
    simp only [List.mem_cons, List.not_mem_nil, or_false] at hy
    rcases hy with rfl | rfl | rfl | rfl | rfl | rfl <;> unfold Wy.sel <;> by_cases hh : h = 0 <;> simp only [hh, if_true, if_false] <;> refine ⟨?_, ?_, ?_, ?_⟩ <;> omega
  refine ⟨_, blurred_run B i0 i1 j0 j1 s0 s1 ways_eq (by simp [waysOf]) hb, fun t ht => ?_, ?_⟩
  · obtain ⟨r, _, rfl⟩ := List.mem_map.mp ht
    exact plain_mono row_plain' (by decide)
  · rw [← ways_set, List.map_eq_nil_iff, ← List.length_eq_zero_iff, (sortR_perm _).length_eq, List.length_eq_zero_iff]
def fstI : T → Int
  | .tup [.int a, .int _] => a
  | _ => 0
def sndI : T → Int
  | .tup [.int _, .int b] => b
  | _ => 0
def ups (k : Nat) : List Int := (List.range k).map fun (i : Nat) => (i : Int)
def tellB (ss : List T) : Bool := decide (ss.map fstI = ups ss.length) && decide (((unlike (ss.map sndI) : Nat) : Int) = (ss.length : Nat))
theorem rgT_ups (k : Nat) : rgT 0 k = (ups k).map .int := by
  unfold rgT ups
  rw [List.map_map]
  exact List.map_congr_left fun i _ => by simp
theorem eq_ints' {ns ms : List Int} : sEq (.lst (ns.map .int)) (.lst (ms.map .int)) w = .ok (.bl (decide (ns = ms))) w := by
  have := eqT_ints (w := w) (ns := ns) (ms := ms) (pd_lst' rfl) (pd_lst' rfl)
  simp [sEq, this]
theorem lrg1 {k : Nat} (hk : k < 1000000) {ρ : Env} {e : ME} (he : e ρ w = .ok (.int (k : Nat)) w) : mVal (mLRg1 e) ρ w = .ok (.lst ((ups k).map .int)) w := by
  obtain ⟨q, hq⟩ : ∃ q : Int, q = ((k : Nat) : Int) := ⟨_, rfl⟩
  rw [← hq] at he
  have e2 : mLRg1 e ρ w = .ok (rgT 0 q.toNat) w := by
    rw [mLRg1_, he, bind_ok']
    simp only
    exact if_pos (by unfold L2.RgOk; refine ⟨?_, ?_, ?_, ?_⟩ <;> omega)
  rw [mVal_, e2, bind_ok', rgT_ups]
  congr 3
  subst hq
  simp
@[simp] theorem mLenSet_ {a : ME} : mLenSet a ρ w = (a ρ w).bind fun t w1 => match lst? w1 t with
  | some ts => match intsT ts with
    | some ns => if ns.length ≤ 4000 then .ok (.int (unlike ns : Nat)) w1 else .no
    | none => .no
  | none => .no := rfl
theorem lenset {a : ME} (h : a ρ w = .ok (.lst (ns.map .int)) w) (hl : ns.length ≤ 4000) : mLenSet a ρ w = .ok (.int (unlike ns : Nat)) w := by
  rw [mLenSet_, h, bind_ok']
  simp only [lst_lst, intsT_of]
  exact if_pos hl
theorem fst_comp {hs : ∀ t ∈ ss, Step n t} {vs : List Nat} {it : MI} {g : MG} {e : ME} (hit : it ρ w = .ok (ss, none) w) (hl : ss.length < 1000) (f : T → Int) (h : ∀ a b : Int, f (.tup [.int a, .int b]) = f (.tup [.int a, .int b]) → ∃ ρ1, g (.tup [.int a, .int b]) (wipeE ρ vs) w = .ok ρ1 w ∧ e ρ1 w = .ok (.int (f (.tup [.int a, .int b]))) w) : mComp vs it g mYes e ρ w = .ok ((ss.map f).map .int) w := by
  rw [mComp_, hit, bind_ok']
  have := compL_map (w := w) (all := ss) (g := g) (c := mYes) (e := e) (ρ0 := wipeE ρ vs) (fun t => .int (f t)) (by omega) (fun t ht => by
    obtain ⟨a, b, rfl, _⟩ := hs t ht
    obtain ⟨ρ1, q1, q2⟩ := h a b rfl
    exact ⟨ρ1, q1, rfl, q2⟩)
  rw [this, List.map_map]
  rfl
theorem tells_ok (hs : ∀ t ∈ ss, Step n t) (hl : ss.length ≤ 100) : s__tells [.tup ss] w = .ok (.bl (tellB ss)) w := by
  have e1 := fst_comp (w := w) (hs := hs) (ρ := [some (.tup ss), none, none, none, none]) (vs := [2, 3]) (it := mItems (mVar 0)) (g := mgTup 2 (mgCons (mgName 2) (mgCons (mgName 3) mgNil))) (e := mVar 3) (by rw [mItems_, mVar0 (o := none), bind_ok', sItems_tup]) (by omega) sndI (fun a b _ => ⟨[some (.tup ss), none, some (.int a), some (.int b), none], by simp [wipeE], by simp [sndI]⟩)
  have e2 := fst_comp (w := w) (hs := hs) (ρ := [some (.tup ss), some (.lst ((ss.map sndI).map .int)), none, none, none]) (vs := [4, 2]) (it := mItems (mVar 0)) (g := mgTup 2 (mgCons (mgName 4) (mgCons (mgName 2) mgNil))) (e := mVar 4) (by rw [mItems_, mVar0 (o := none), bind_ok', sItems_tup]) (by omega) fstI (fun a b _ => ⟨[some (.tup ss), some (.lst ((ss.map sndI).map .int)), some (.int b), none, some (.int a)], by simp [wipeE], by simp [fstI]⟩)
  have e3 := lrg1 (w := w) (k := ss.length) (by omega) (ρ := [some (.tup ss), some (.lst ((ss.map sndI).map .int)), none, none, none]) (e := mCall sLen (mCons (mVar 0) mNil)) (by simp)
  have e4 := lenset (w := w) (ns := ss.map sndI) (a := mVar 1) (ρ := [some (.tup ss), some (.lst ((ss.map sndI).map .int)), none, none, none]) (by simp) (by simp; omega)
  have e5 := eq_ints' (w := w) (ns := ss.map fstI) (ms := ups ss.length)
  have hv1 : (mAsg (if false = true then mCell (mComp [2, 3] (mItems (mVar 0)) (mgTup 2 (mgCons (mgName 2) (mgCons (mgName 3) mgNil))) mYes (mVar 3)) else mVal (mComp [2, 3] (mItems (mVar 0)) (mgTup 2 (mgCons (mgName 2) (mgCons (mgName 3) mgNil))) mYes (mVar 3))) (mgName 1)) [some (.tup ss), none, none, none, none] w = .ok ([some (.tup ss), some (.lst ((ss.map sndI).map .int)), none, none, none], .nx) w := by
    rw [if_neg Bool.false_ne_true, mAsg_, mVal_, e1, bind_ok', bind_ok', mgName_, bind_ok']
    rfl
  unfold s__tells m__tells runB
  simp only [List.map_cons, List.map_nil, List.length_cons, List.length_nil, Nat.reduceAdd, Nat.reduceSub, List.replicate_succ, List.replicate_zero, List.cons_append, List.nil_append, mSeq_, hv1, then_nx, mRet_, mAndV_, mOp2_]
  rw [mVal_, e2, bind_ok', bind_ok', e3, bind_ok', e5, bind_ok', sTru_bl, bind_ok']
  unfold tellB
  cases hd : decide (ss.map fstI = ups ss.length) with
  | false => simp
  | true =>
    simp only [if_true, Bool.true_and]
    rw [e4, bind_ok', mCall_, mCons_]
    simp
end
end VS

set_option Elab.async false
set_option linter.all false
set_option maxRecDepth 100000
set_option maxHeartbeats 4000000
namespace VS
open PySem PySem.Spec PyProof.Rows L2
def rowOf (rs : List T) (d : Int) : List T := match rs[d.toNat]? with
  | some (.tup ss) => ss
  | _ => []
def tellL (rs : List T) (m : Int) : List T := (List.range m.toNat).flatMap fun (d : Nat) => if tellB (rowOf rs (d : Nat)) = true then [T.int (d : Nat)] else []
section
variable {w w1 ex : World} {ρ ρ0 : Env} {all rs ts out ss : List T} {n m i j s h d : Int} {x y : T} {ns : List Int}
theorem row_at (B : Tab rs m n) (d0 : 0 ≤ d) (d1 : d < m) : (∀ w : World, sIx (.tup rs) (.int d) w = .ok (.tup (rowOf rs d)) w) ∧ (∀ t ∈ rowOf rs d, Step n t) ∧ (rowOf rs d).length ≤ 100 := by
  have hl := B.R.1
  have hn := B.n1
  have hd : d.toNat < rs.length := by omega
  obtain ⟨ss, e1, e2, e3⟩ := B.R.2 rs[d.toNat] (List.getElem_mem hd)
  have e4 : rs[d.toNat]? = some (.tup ss) := by rw [List.getElem?_eq_getElem hd, e1]
  have e5 : rowOf rs d = ss := by unfold rowOf; rw [e4]
  rw [e5]
  exact ⟨fun w => sIx_tup e4 d0, e3, by omega⟩
theorem tellL_plain : ∀ t ∈ tellL rs m, Plain 1 t := fun t ht => by
  unfold tellL at ht
  obtain ⟨d, _, hd⟩ := List.mem_flatMap.mp ht
  split at hd
  · simp at hd
    subst hd
    exact plain_int
  · cases hd
theorem tellL_ints : ∃ ns : List Int, tellL rs m = ns.map .int := by
  refine ⟨(List.range m.toNat).flatMap fun (d : Nat) => if tellB (rowOf rs (d : Nat)) = true then [(d : Int)] else [], ?_⟩
  unfold tellL
  rw [List.map_flatMap]
  congr 1
  funext d
  split <;> rfl
theorem tellL_len : (tellL rs m).length ≤ m.toNat := by
  have := flat_len (L := fun (d : Nat) => if tellB (rowOf rs (d : Nat)) = true then [T.int (d : Nat)] else []) (K := 1) (fun j => if1_len) m.toNat
  rw [Nat.one_mul] at this
  exact this
/-! telling_deeds -/
theorem td_comp (B : Tab rs m n) {x1 : Option T} : compL (mgName 1) (mTru (mDef 1 s__tells (mCons (mOp2 sIx (mVar 0) (mVar 1)) mNil))) (mVar 1) none (rgT 0 m.toNat) [some (.tup rs), x1] (rgT 0 m.toNat) [] w = .ok (tellL rs m) w := by
  have hm := B.m1
  obtain ⟨out, w', e1, rfl, e3⟩ := compL_run (w := w) (P := fun i out w' => w' = w ∧ out = (List.range i).flatMap fun (d : Nat) => if tellB (rowOf rs (d : Nat)) = true then [T.int (d : Nat)] else []) (g := mgName 1) (c := mTru (mDef 1 s__tells (mCons (mOp2 sIx (mVar 0) (mVar 1)) mNil))) (e := mVar 1) (ρ0 := [some (.tup rs), x1]) (all := rgT 0 m.toNat) ⟨rfl, by simp⟩ (fun i t out w' ht p => by
    obtain ⟨rfl, rfl⟩ := p
    obtain ⟨rfl, hi⟩ := rgT_at ht
    have hlen := flat_len (L := fun (d : Nat) => if tellB (rowOf rs (d : Nat)) = true then [T.int (d : Nat)] else []) (K := 1) (fun j => if1_len) i
    rw [flat_snoc]
    obtain ⟨k, hk⟩ : ∃ k : Int, k = ((i : Nat) : Int) := ⟨_, rfl⟩
    simp only [← hk, Int.zero_add]
    obtain ⟨q1, q2, q3⟩ := row_at (d := k) B (by omega) (by omega)
    have e := tells_ok (w := w') q2 q3
    refine ⟨[some (.tup rs), some (.int k)], w', by simp, ?_⟩
    cases hf : tellB (rowOf rs k) with
    | true => exact .inl ⟨w', .int k, w', by simp [q1, e, hf], by simp, by omega, rfl, by simp⟩
    | false => exact .inr ⟨w', by simp [q1, e, hf], rfl, by simp⟩)
  rw [e1, e3, rgLen]
  rfl
theorem td_run {C : Sem} {F : MF} (h1 : C [.tup rs] w = .ok .non w) (h2 : F [some (.tup rs), none] w = .ok out w) : runB 2 (mSeq (mDrop (mDef 1 C (mCons (mVar 0) mNil))) (mRet (mCell F))) [.tup rs] w = .ok (.cell w.length) (w ++ [.lst out]) := by
  unfold runB
  simp [h1, h2]
theorem telling_ok (B : Tab rs m n) : s_telling_deeds [.tup rs] w = .ok (.cell w.length) (w ++ [.lst (tellL rs m)]) := by
  have hm := B.m1
  have hm0 := B.m0
  have e1 := check_table_ok (w := w) B.R B.m0 B.m1 B.n0 B.n1
  have e2 := td_comp (w := w) B (x1 := none)
  have e3 : (mComp [1] (mRange1 (mCons (mCall sLen (mCons (mVar 0) mNil)) mNil)) (mgName 1) (mTru (mDef 1 s__tells (mCons (mOp2 sIx (mVar 0) (mVar 1)) mNil))) (mVar 1)) [some (.tup rs), none] w = .ok (tellL rs m) w := by
    rw [mComp_, mRange1_, arg1 B.R.1, bind_ok', sRange1_ (by omega) (by omega), bind_ok']
    exact e2
  unfold s_telling_deeds m_telling_deeds
  exact td_run e1 e3
/-! the law's tellers -/
noncomputable def teB : MS := mSeq (mAsg (if false = true then mCell (mComp [4] (mItems (mOp2 sIx (mVar 0) (mVar 2))) (mgName 4) mYes (mOp2 sIx (mVar 4) (mC (.int 0)))) else mVal (mComp [4] (mItems (mOp2 sIx (mVar 0) (mVar 2))) (mgName 4) mYes (mOp2 sIx (mVar 4) (mC (.int 0))))) (mgName 3))
 (mIfS (mTest (mOp2 sEq (mVar 3) (mVal (mLRg1 (mCall sLen (mCons (mVar 3) mNil))))))
 (mIfS (mTest (mOp2 sEq (mLenSet (mVal (mComp [4] (mItems (mOp2 sIx (mVar 0) (mVar 2))) (mgName 4) mYes (mOp2 sIx (mVar 4) (mC (.int 1)))))) (mCall sLen (mCons (mVar 3) mNil))))
 (mDrop (mMeth sAppend (mVar 1) (mCons (mVar 2) mNil)))
 mSkip)
 mSkip)
theorem te_parts : m__law_tt_tellers = mSeq (mAsg (mCell (mLst mNil)) (mgName 1)) (mSeq (mFor (mRange1 (mCons (mCall sLen (mCons (mVar 0) mNil)) mNil)) (mgName 2) teB) (mRet (mVar 1))) := rfl
theorem teB_run (B : Tab rs m n) (d0 : 0 ≤ d) (d1 : d < m) (ho : out.length < 1000000) {x3 x4 : Option T} : teB [some (.tup rs), some (.cell w.length), some (.int d), x3, x4] (w ++ [.lst out]) = .ok ([some (.tup rs), some (.cell w.length), some (.int d), some (.lst (((rowOf rs d).map fstI).map .int)), x4], .nx) (w ++ [.lst (out ++ if tellB (rowOf rs d) = true then [T.int d] else [])]) := by
  obtain ⟨q1, q2, q3⟩ := row_at (d := d) B d0 d1
  generalize hW : w ++ [.lst out] = W
  have hc : W[w.length]? = some (.lst out) := by rw [← hW]; exact last_at
  have e1 := fst_comp (w := W) (hs := q2) (ρ := [some (.tup rs), some (.cell w.length), some (.int d), x3, x4]) (vs := [4]) (it := mItems (mOp2 sIx (mVar 0) (mVar 2))) (g := mgName 4) (e := mOp2 sIx (mVar 4) (mC (.int 0))) (by simp [q1]) (by omega) fstI (fun a b _ => ⟨[some (.tup rs), some (.cell w.length), some (.int d), x3, some (.tup [.int a, .int b])], by simp [wipeE], by simp [fstI]⟩)
  have e2 := fst_comp (w := W) (hs := q2) (ρ := [some (.tup rs), some (.cell w.length), some (.int d), some (.lst (((rowOf rs d).map fstI).map .int)), x4]) (vs := [4]) (it := mItems (mOp2 sIx (mVar 0) (mVar 2))) (g := mgName 4) (e := mOp2 sIx (mVar 4) (mC (.int 1))) (by simp [q1]) (by omega) sndI (fun a b _ => ⟨[some (.tup rs), some (.cell w.length), some (.int d), some (.lst (((rowOf rs d).map fstI).map .int)), some (.tup [.int a, .int b])], by simp [wipeE], by simp [sndI]⟩)
  have e3 := lrg1 (w := W) (k := (rowOf rs d).length) (by omega) (ρ := [some (.tup rs), some (.cell w.length), some (.int d), some (.lst (((rowOf rs d).map fstI).map .int)), x4]) (e := mCall sLen (mCons (mVar 3) mNil)) (by simp)
  have e4 := lenset (w := W) (ns := (rowOf rs d).map sndI) (a := mVal (mComp [4] (mItems (mOp2 sIx (mVar 0) (mVar 2))) (mgName 4) mYes (mOp2 sIx (mVar 4) (mC (.int 1))))) (ρ := [some (.tup rs), some (.cell w.length), some (.int d), some (.lst (((rowOf rs d).map fstI).map .int)), x4]) (by rw [mVal_, e2, bind_ok']) (by simp; omega)
  have e5 := eq_ints' (w := W) (ns := (rowOf rs d).map fstI) (ms := ups (rowOf rs d).length)
  have hv1 : (mAsg (if false = true then mCell (mComp [4] (mItems (mOp2 sIx (mVar 0) (mVar 2))) (mgName 4) mYes (mOp2 sIx (mVar 4) (mC (.int 0)))) else mVal (mComp [4] (mItems (mOp2 sIx (mVar 0) (mVar 2))) (mgName 4) mYes (mOp2 sIx (mVar 4) (mC (.int 0))))) (mgName 3)) [some (.tup rs), some (.cell w.length), some (.int d), x3, x4] W = .ok ([some (.tup rs), some (.cell w.length), some (.int d), some (.lst (((rowOf rs d).map fstI).map .int)), x4], .nx) W := by
    rw [if_neg Bool.false_ne_true, mAsg_, mVal_, e1, bind_ok', bind_ok', mgName_, bind_ok']
    rfl
  have hap := append_cell (t := .int d) hc (by omega)
  have hset : W.set w.length (.lst (out ++ [.int d])) = w ++ [.lst (out ++ [.int d])] := by rw [← hW]; simp
  unfold teB
  rw [mSeq_, hv1, then_nx, mIfS_, mTest_, mOp2_, mVarS, mVarS, mVarS, mVar0 (o := none), bind_ok', e3, bind_ok', e5, asB_bl, bind_ok']
  unfold tellB
  cases hd : decide ((rowOf rs d).map fstI = ups (rowOf rs d).length) with
  | false => simp [hW]
  | true =>
    rw [if_pos rfl, mIfS_, mTest_, mOp2_, e4, bind_ok']
    have e6 : mCall sLen (mCons (mVar 3) mNil) [some (.tup rs), some (.cell w.length), some (.int d), some (.lst (((rowOf rs d).map fstI).map .int)), x4] W = .ok (.int ((rowOf rs d).length : Nat)) W := by simp
    rw [e6, bind_ok', sEq_int, asB_bl, bind_ok']
    generalize hu : ((unlike ((rowOf rs d).map sndI) : Nat) : Int) = U
    generalize hv : (((rowOf rs d).length : Nat) : Int) = V
    by_cases hq : U = V
    · simp [hq, lst_cell hc, hap, hset]
    · simp [hq, hW]
theorem te_run {Fo : MS} {out : List T} {x2 x3 x4 : Option T} (h : Fo [some (.tup rs), some (.cell w.length), none, none, none] (w ++ [.lst []]) = .ok ([some (.tup rs), some (.cell w.length), x2, x3, x4], .nx) (w ++ [.lst out])) : runB 5 (mSeq (mAsg (mCell (mLst mNil)) (mgName 1)) (mSeq Fo (mRet (mVar 1)))) [.tup rs] w = .ok (.cell w.length) (w ++ [.lst out]) := by
  unfold runB
  simp [h]
theorem tellers_ok (B : Tab rs m n) : s__law_tt_tellers [.tup rs] w = .ok (.lst (tellL rs m)) w := by
  have hm := B.m1
  have hm0 := B.m0
  have hl := B.R.1
  have h := forL_collect (all := rgT 0 m.toNat) (g := mgName 2) (b := teB) (ρ := [some (.tup rs), some (.cell w.length), none, none, none]) (fun (d : Nat) => if tellB (rowOf rs (d : Nat)) = true then [T.int (d : Nat)] else []) (fun ρ => ∃ x2 x3 x4, ρ = [some (.tup rs), some (.cell w.length), x2, x3, x4]) (fun out => w ++ [.lst out]) 1 1000 (fun i => if1_len) (fun i t ρ out ht p ho => by
    obtain ⟨x2, x3, x4, rfl⟩ := p
    obtain ⟨rfl, hi⟩ := rgT_at ht
    obtain ⟨k, hk⟩ : ∃ k : Int, k = ((i : Nat) : Int) := ⟨_, rfl⟩
    simp only [← hk, Int.zero_add]
    have e := teB_run (w := w) (out := out) B (d := k) (by omega) (by omega) (by omega) (x3 := x3) (x4 := x4)
    exact ⟨_, e, _, _, _, rfl⟩) ⟨_, _, _, rfl⟩ (out := []) (by rw [rgLen]; simp; omega)
  rw [rgLen] at h
  obtain ⟨ρ', e, x2, x3, x4, rfl⟩ := h
  have hF := for1 (w := w ++ [.lst []]) (g := mgName 2) (b := teB) (ρ := [some (.cell w.length), none, none, none]) hl (by omega) (by omega)
  have h9 := te_run (hF.trans e)
  unfold s__law_tt_tellers
  rw [te_parts]
  exact gc_list0 (j := 0) h9 (by simp; rfl) tellL_plain
end
end VS

set_option Elab.async false
set_option linter.all false
set_option maxRecDepth 100000
set_option maxHeartbeats 4000000
namespace VS
open PySem PySem.Spec PyProof.Rows L2
def itemsT : T → List T
  | .tup us => us
  | _ => []
def kdT (CL TL SL : List T) : T := match CL with
  | [] => .tup [.str "served"]
  | c :: _ => match TL, SL with
    | t0 :: _, p :: _ => .tup (.str "settles" :: (itemsT p ++ [t0]))
    | _, _ => .tup (.str "open" :: itemsT c)
section
variable {w w1 ex : World} {ρ ρ0 : Env} {all rs ts us ps out ss CL TL SL : List T} {n m i j s h d : Int} {x y t t0 : T} {ns : List Int}
theorem mStar_ {a : ME} {m : MF} : mStar a m ρ w = (a ρ w).bind fun t w1 => match seq? w1 t with
  | some ts => (m ρ w1).bind fun us w2 => .ok (ts ++ us) w2
  | none => .no := rfl
theorem seq_tup : seq? w (.tup ts) = some ts := rfl
theorem sIsNot_ : sIsNot t .non w = .ok (.bl (!isNon t)) w := rfl
theorem sTru_cell {k : Nat} (hk : w[k]? = some (.lst ts)) : sTru (.cell k) w = .ok (!ts.isEmpty) w := by
  unfold sTru isEmp
  simp [hk]
theorem sIx_c0 {k : Nat} (hk : w[k]? = some (.lst (t :: ts))) : sIx (.cell k) (.int 0) w = .ok t w := sIx_cell hk rfl (by decide)
theorem sIx_l0 : sIx (.lst (t :: ts)) (.int 0) w = .ok t w := sIx_lst rfl (by decide)
/-! kind_of -/
noncomputable def koM (C FC TD FS : Sem) : MS := mSeq (mDrop (mDef 1 C (mCons (mVar 0) mNil)))
 (mSeq (mAsg (mDef 1 FC (mCons (mVar 0) mNil)) (mgName 1))
 (mSeq (mIfS (mTest (mOp2 sIs (mVar 1) (mC .non)))
 (mRet (mTup (mCons (mC (.str "served")) mNil)))
 mSkip)
 (mSeq (mAsg (mDef 1 TD (mCons (mVar 0) mNil)) (mgName 2))
 (mSeq (mAsg (mDef 1 FS (mCons (mVar 0) mNil)) (mgName 3))
 (mSeq (mIfS (mAnd (mTru (mVar 2)) (mTest (mOp2 sIsNot (mVar 3) (mC .non))))
 (mRet (mTup (mCons (mC (.str "settles")) (mStar (mVar 3) (mCons (mOp2 sIx (mVar 2) (mC (.int 0))) mNil)))))
 mSkip)
 (mRet (mTup (mCons (mC (.str "open")) (mStar (mVar 1) mNil)))))))))
theorem ko_parts : m_kind_of = koM s_check_table s_first_clash s_telling_deeds s__first_settling := rfl
theorem nT : isNon (.tup ts) = false := rfl
theorem nN : isNon .non = true := rfl
theorem ko_served {C FC TD FS : Sem} (h1 : C [t] w = .ok .non w) (h2 : FC [t] w = .ok .non w) : runB 4 (koM C FC TD FS) [t] w = .ok (.tup [.str "served"]) w := by
  unfold runB koM
  simp [h1, h2, nN, one_le]
theorem ko_open {C FC TD FS : Sem} {v : T} (h1 : C [t] w = .ok .non w) (h2 : FC [t] w = .ok (.tup us) w) (h3 : TD [t] w = .ok (.cell w.length) (w ++ [.lst TL])) (h4 : FS [t] (w ++ [.lst TL]) = .ok v (w ++ [.lst TL])) (hl : us.length ≤ 10) (h5 : TL = [] ∨ isNon v = true) : runB 4 (koM C FC TD FS) [t] w = .ok (.tup (.str "open" :: us)) (w ++ [.lst TL]) := by
  have hc := sTru_cell (w := w ++ [.lst TL]) (k := w.length) (ts := TL) last_at
  have hz : us.length + 1 ≤ sizeLine := le_size (by omega)
  unfold runB koM
  rcases h5 with rfl | h5
  · simp [h1, h2, h3, h4, nT, hc, mStar_, seq_tup, hz]
  · cases hT : TL.isEmpty <;> rw [hT] at hc <;> simp [h1, h2, h3, h4, nT, hc, sIsNot_, h5, mStar_, seq_tup, hz]
theorem ko_settles {C FC TD FS : Sem} (h1 : C [t] w = .ok .non w) (h2 : FC [t] w = .ok (.tup us) w) (h3 : TD [t] w = .ok (.cell w.length) (w ++ [.lst (t0 :: TL)])) (h4 : FS [t] (w ++ [.lst (t0 :: TL)]) = .ok (.tup ps) (w ++ [.lst (t0 :: TL)])) (hl : ps.length ≤ 10) : runB 4 (koM C FC TD FS) [t] w = .ok (.tup (.str "settles" :: (ps ++ [t0]))) (w ++ [.lst (t0 :: TL)]) := by
  have hc := sTru_cell (w := w ++ [.lst (t0 :: TL)]) (k := w.length) (ts := t0 :: TL) last_at
  have hx := sIx_c0 (w := w ++ [.lst (t0 :: TL)]) (k := w.length) (t := t0) (ts := TL) last_at
  have hz : ps.length + 1 + 1 ≤ sizeLine := le_size (by omega)
  unfold runB koM
  simp [h1, h2, h3, h4, nT, hc, hx, sIsNot_, mStar_, seq_tup, hz]
theorem clash_shape (h : t ∈ clashL rs m n) : ∃ a b : Int, t = .tup [.int a, .int b] := by
  unfold clashL at h
  obtain ⟨i, _, h⟩ := List.mem_flatMap.mp h
  unfold clashR at h
  obtain ⟨j, _, h⟩ := List.mem_flatMap.mp h
  split at h
  · cases h
  · simp only [List.mem_singleton] at h
    exact ⟨_, _, h⟩
theorem sett_shape (h : t ∈ settL rs m n) : ∃ a b c : Int, t = .tup [.int a, .int b, .int c] := by
  unfold settL at h
  obtain ⟨s, _, h⟩ := List.mem_flatMap.mp h
  unfold settS at h
  obtain ⟨i, _, h⟩ := List.mem_flatMap.mp h
  unfold settI at h
  obtain ⟨j, _, h⟩ := List.mem_flatMap.mp h
  split at h
  · simp only [List.mem_singleton] at h
    exact ⟨_, _, _, h⟩
  · cases h
theorem tell_shape (h : t ∈ tellL rs m) : ∃ a : Int, t = .int a := by
  unfold tellL at h
  obtain ⟨d, _, h⟩ := List.mem_flatMap.mp h
  split at h
  · simp only [List.mem_singleton] at h
    exact ⟨_, h⟩
  · cases h
theorem str_ok1 : PyData.strOk "served" = true := by decide +kernel
theorem str_ok2 : PyData.strOk "open" = true := by decide +kernel
theorem str_ok3 : PyData.strOk "settles" = true := by decide +kernel
theorem kind_shape : ∃ (z : Str) (ns : List Int), PyData.strOk z = true ∧ kdT (clashL rs m n) (tellL rs m) (settL rs m n) = .tup (.str z :: ns.map .int) := by
  cases hC : clashL rs m n with
  | nil => exact ⟨_, [], str_ok1, rfl⟩
  | cons c r =>
    obtain ⟨a, b, rfl⟩ := clash_shape (rs := rs) (m := m) (n := n) (t := c) (by rw [hC]; exact .head _)
    cases hT : tellL rs m with
    | nil => exact ⟨_, [a, b], str_ok2, rfl⟩
    | cons t0 tl =>
      obtain ⟨e, rfl⟩ := tell_shape (rs := rs) (m := m) (t := t0) (by rw [hT]; exact .head _)
      cases hS : settL rs m n with
      | nil => exact ⟨_, [a, b], str_ok2, rfl⟩
      | cons p sl =>
        obtain ⟨a1, b1, c1, rfl⟩ := sett_shape (rs := rs) (m := m) (n := n) (t := p) (by rw [hS]; exact .head _)
        exact ⟨_, [a1, b1, c1, e], str_ok3, rfl⟩
theorem plain_str {z : Str} (hz : PyData.strOk z = true) : Plain 1 (.str z) := ⟨.str z, by simp [pd0], fun w => by simp [pd], hz, by simp [PyData.depth]⟩
theorem kind_plain {z : Str} {ns : List Int} (hz : PyData.strOk z = true) : Plain 2 (.tup (.str z :: ns.map .int)) := plain_tup (fun t ht => by
  rcases List.mem_cons.mp ht with rfl | ht
  · exact plain_str hz
  · obtain ⟨i, _, rfl⟩ := List.mem_map.mp ht
    exact plain_int)
theorem eq_kind {z : Str} {ns : List Int} (hz : PyData.strOk z = true) : sEq (.tup (.str z :: ns.map .int)) (.tup (.str z :: ns.map .int)) w = .ok (.bl true) w := by
  have hp : pd w (.tup (.str z :: ns.map .int)) = some (.tuple (.str z :: ns.map .int)) := by
    have : ∀ ns : List Int, pds w (ns.map .int) = some (ns.map .int) := fun ns => by
      induction ns with
      | nil => rfl
      | cons n ns ih => simp [pds, pd, ih]
    simp [pd, pds, this]
  have hd := depth_ints ns
  have sh : SeqAt.shaped (.tuple (.str z :: ns.map .int)) = true := by
    simp [SeqAt.shaped, PyData.canLay0, PyData.canLayAll0, lay_ints, PyData.depth, PyData.depthAll, hz]
    omega
  have e : eqT w (.tup (.str z :: ns.map .int)) (.tup (.str z :: ns.map .int)) = some true := by
    rw [eqT_of hp hp sh sh]
    simp [PyData.eqv, PyData.eqvAll, eqv_self]
  simp [sEq, e]
theorem kind_ok (B : Tab rs m n) : s_kind_of [.tup rs] w = .ok (kdT (clashL rs m n) (tellL rs m) (settL rs m n)) w := by
  have e1 := check_table_ok (w := w) B.R B.m0 B.m1 B.n0 B.n1
  obtain ⟨v1, e2, h2⟩ := first_clash_at (w := w) B
  have e3 := telling_ok (w := w) B
  obtain ⟨v2, e4, h4⟩ := first_settling_at (w := w ++ [.lst (tellL rs m)]) B
  obtain ⟨z, ns, ho, hz⟩ := kind_shape (rs := rs) (m := m) (n := n)
  unfold s_kind_of
  rw [ko_parts]
  suffices hh : ∃ ex, runB 4 (koM s_check_table s_first_clash s_telling_deeds s__first_settling) [.tup rs] w = .ok (kdT (clashL rs m n) (tellL rs m) (settL rs m n)) (w ++ ex) by
    obtain ⟨ex, e⟩ := hh
    rw [hz] at e ⊢
    exact gc_flat0 e (kind_plain ho)
  rcases h2 with ⟨h2, rfl⟩ | ⟨r, h2⟩
  · exact ⟨[], by rw [h2, List.append_nil]; exact ko_served e1 e2⟩
  · obtain ⟨a, b, rfl⟩ := clash_shape (rs := rs) (m := m) (n := n) (t := v1) (by rw [h2]; exact .head _)
    cases hT : tellL rs m with
    | nil =>
      rw [hT] at e3 e4
      exact ⟨[.lst []], by rw [h2]; exact ko_open (us := [.int a, .int b]) e1 e2 e3 e4 (by simp) (.inl rfl)⟩
    | cons t0 tl =>
      rw [hT] at e3 e4
      rcases h4 with ⟨h4, rfl⟩ | ⟨r2, h4⟩
      · exact ⟨[.lst (t0 :: tl)], by rw [h2, h4]; exact ko_open (us := [.int a, .int b]) e1 e2 e3 e4 (by simp) (.inr rfl)⟩
      · obtain ⟨a1, b1, c1, rfl⟩ := sett_shape (rs := rs) (m := m) (n := n) (t := v2) (by rw [h4]; exact .head _)
        exact ⟨[.lst (t0 :: tl)], by rw [h2, h4]; exact ko_settles (ps := [.int a1, .int b1, .int c1]) e1 e2 e3 e4 (by simp)⟩
end
end VS

set_option Elab.async false
set_option linter.all false
set_option maxRecDepth 100000
set_option maxHeartbeats 4000000
namespace VS
open PySem PySem.Spec PyProof.Rows L2
noncomputable def krM (TE FI SE TD KO : Sem) : MS := (mSeq (mPar3 3 4 5 (mCons (mDef 1 TE (mCons (mVar 0) mNil)) (mCons (mDef 1 FI (mCons (mVar 0) mNil)) (mCons (mDef 1 SE (mCons (mVar 0) mNil)) mNil))))
 (mSeq (mAsg (mDefP 1 0 1 [0] TD mNil (mCons (mVar 0) mNil)) (mgName 1))
 (mSeq (mIfS (mTest (mOp2 sNe (mVar 1) (mVar 3)))
 (mRet (mC (.bl false)))
 mSkip)
 (mSeq (mDrop (mMeth sAppend (mVar 1) (mCons (mC (.int 0)) mNil)))
 (mSeq (mIfS (mTest (mOp2 sNe (mDef 1 TD (mCons (mVar 0) mNil)) (mVar 3)))
 (mRet (mC (.bl false)))
 mSkip)
 (mSeq (mAsg (mTup (mCons (mC (.str "served")) mNil)) (mgName 2))
 (mSeq (mIfS (mTest (mOp2 sNe (mVar 4) (mVal (mLst mNil))))
 (mSeq (mAsg (mOp2 sAdd (mTup (mCons (mC (.str "open")) mNil)) (mOp2 sIx (mVar 4) (mC (.int 0)))) (mgName 2))
 (mIfS (mAnd (mTest (mOp2 sNe (mVar 3) (mVal (mLst mNil)))) (mTest (mOp2 sNe (mVar 5) (mVal (mLst mNil)))))
 (mAsg (mOp2 sAdd (mOp2 sAdd (mTup (mCons (mC (.str "settles")) mNil)) (mOp2 sIx (mVar 5) (mC (.int 0)))) (mTup (mCons (mOp2 sIx (mVar 3) (mC (.int 0))) mNil))) (mgName 2))
 mSkip))
 mSkip)
 (mSeq (mIfS (mAnd (mTest (mOp2 sEq (mVar 4) (mVal (mLst mNil)))) (mTest (mOp2 sNe (mVar 5) (mVal (mLst mNil)))))
 (mRet (mC (.bl false)))
 mSkip)
 (mRet (mAndV (mOp2 sEq (mDef 1 KO (mCons (mVar 0) mNil)) (mVar 2)) (mOp2 sEq (mDefP 1 0 1 [0] KO mNil (mCons (mVar 0) mNil)) (mVar 2))))))))))))
theorem kr_parts : m__law_kind_right = krM s__law_tt_tellers s__law_tt_failing s__law_tt_settling s_telling_deeds s_kind_of := rfl
section
variable {w w1 ex : World} {ρ ρ0 : Env} {all rs ts us ps out ss CL TL SL : List T} {n m i j s h d : Int} {x y t t0 : T} {ns : List Int} {r : Rng} {rest : World}
theorem kr_run {TE FI SE TD KO : Sem} (hTE : TE [t] w = .ok (.lst TL) w) (hFI : FI [t] w = .ok (.lst CL) w) (hSE : SE [t] w = .ok (.lst SL) w)
    (hTD : ∀ w, TD [t] w = .ok (.cell w.length) (w ++ [.lst TL])) (hKO : ∀ w, KO [t] w = .ok (kdT CL TL SL) w)
    (hNe : ∀ (W : World) (k : Nat), W[k]? = some (.lst TL) → sNe (.cell k) (.lst TL) W = .ok (.bl false) W)
    (nT : ∀ W : World, sNe (.lst TL) (.lst []) W = .ok (.bl (!decide (TL = []))) W) (nC : ∀ W : World, sNe (.lst CL) (.lst []) W = .ok (.bl (!decide (CL = []))) W) (nS : ∀ W : World, sNe (.lst SL) (.lst []) W = .ok (.bl (!decide (SL = []))) W)
    (qC : ∀ W : World, sEq (.lst CL) (.lst []) W = .ok (.bl (decide (CL = []))) W)
    (hno : CL = [] → SL = []) (hK : ∀ W : World, sEq (kdT CL TL SL) (kdT CL TL SL) W = .ok (.bl true) W) (hl : TL.length ≤ 100)
    (shC : ∀ c ∈ CL, ∃ a b : Int, c = .tup [.int a, .int b]) (shS : ∀ c ∈ SL, ∃ a b e : Int, c = .tup [.int a, .int b, .int e]) :
    ∃ ex, runB 6 (krM TE FI SE TD KO) [t] w = .ok (.bl true) (w ++ ex) := by
  obtain ⟨k, W1, W2, k2, W, hTD0, h1, ha, hlc, hTD2, h2, hex⟩ : ∃ (k : Nat) (W1 W2 : World) (k2 : Nat) (W : World), TD [t] w = .ok (.cell k) W1 ∧ sNe (.cell k) (.lst TL) W1 = .ok (.bl false) W1 ∧ sAppend (.cell k) [.int 0] W1 = .ok .non W2 ∧ lst? W1 (.cell k) = some TL ∧ TD [t] W2 = .ok (.cell k2) W ∧ sNe (.cell k2) (.lst TL) W = .ok (.bl false) W ∧ ∃ ex, W = w ++ ex := by
    refine ⟨w.length, w ++ [Cell.lst TL], w ++ [Cell.lst (TL ++ [.int 0])], (w ++ [Cell.lst (TL ++ [.int 0])]).length, w ++ [Cell.lst (TL ++ [.int 0])] ++ [Cell.lst TL], hTD w, hNe _ _ last_at, ?_, lst_cell last_at, hTD _, hNe _ _ last_at, [Cell.lst (TL ++ [.int 0])] ++ [Cell.lst TL], by rw [List.append_assoc]⟩
    rw [append_cell last_at (by omega)]
    simp
  obtain ⟨ex, hex⟩ := hex
  refine ⟨ex, ?_⟩
  rw [← hex]
  clear hTD hNe hex
  have z1 := one_le
  have k1 := hKO W
  have k3 := hK W
  have nT := nT W
  have nC := nC W
  have nS := nS W
  have qC := qC W
  clear hKO hK
  unfold runB krM
  cases CL with
  | nil =>
    obtain rfl := hno rfl
    simp only [kdT] at k1 k3
    simp [hTE, hFI, hSE, hTD0, hTD2, h1, h2, ha, hlc, nC, nS, qC, prm, z1, k1, k3]
  | cons c r =>
    obtain ⟨a, b, rfl⟩ := shC _ (.head _)
    have c1 := catT (w := W) (us := [T.str "open"]) (vs := [.int a, .int b]) (by simp)
    have x1 := sIx_l0 (w := W) (t := .tup [.int a, .int b]) (ts := r)
    simp only [List.cons_append, List.nil_append] at c1
    cases TL with
    | nil =>
      simp only [kdT, itemsT] at k1 k3
      simp [hTE, hFI, hSE, hTD0, hTD2, h1, h2, ha, hlc, nC, nS, nT, qC, prm, z1, c1, x1, k1, k3]
    | cons t0 tl =>
      cases SL with
      | nil =>
        simp only [kdT, itemsT] at k1 k3
        simp [hTE, hFI, hSE, hTD0, hTD2, h1, h2, ha, hlc, nC, nS, nT, qC, prm, z1, c1, x1, k1, k3]
      | cons p sl =>
        obtain ⟨a1, b1, e1, rfl⟩ := shS _ (.head _)
        have c2 := catT (w := W) (us := [T.str "settles"]) (vs := [.int a1, .int b1, .int e1]) (by simp)
        have c3 := catT (w := W) (us := [T.str "settles", .int a1, .int b1, .int e1]) (vs := [t0]) (by simp)
        have x2 := sIx_l0 (w := W) (t := .tup [.int a1, .int b1, .int e1]) (ts := sl)
        have x3 := sIx_l0 (w := W) (t := t0) (ts := tl)
        simp only [kdT, itemsT, List.cons_append, List.nil_append] at k1 k3 c2 c3
        simp [hTE, hFI, hSE, hTD0, hTD2, h1, h2, ha, hlc, nC, nS, nT, qC, prm, z1, c1, c2, c3, x1, x2, x3, k1, k3]
theorem kind_right_ok (B : Tab rs m n) : s__law_kind_right [.tup rs] w = .ok (.bl true) w := by
  have hm := B.m1
  obtain ⟨ns, hns⟩ := tellL_ints (rs := rs) (m := m)
  obtain ⟨z, ks, ho, hz⟩ := kind_shape (rs := rs) (m := m) (n := n)
  have p2 : ∀ t ∈ clashL rs m n, Plain 50 t := fun t ht => plain_mono (clashL_plain t ht) (by decide)
  obtain ⟨ex, e⟩ := kr_run (w := w) (t := .tup rs) (tellers_ok B) (failing_at B) (settling_at (bl_ok B) B) (fun w => telling_ok B) (fun w => kind_ok B)
    (fun W k hk => by
      have := eqT_ints (w := W) (ns := ns) (ms := ns) (pd_cell (by rw [hk, hns])) (pd_lst' rfl)
      rw [hns]
      simp [sNe, this])
    (fun W => ne_nil' (fun t ht => plain_mono (tellL_plain t ht) (by decide))) (fun W => ne_nil' p2) (fun W => ne_nil' (fun t ht => plain_mono (settL_plain t ht) (by decide))) (fun W => eq_nil p2)
    served_no (fun W => by rw [hz]; exact eq_kind ho) (by have := tellL_len (rs := rs) (m := m); omega) (fun c hc => clash_shape hc) (fun c hc => sett_shape hc)
  unfold s__law_kind_right
  rw [kr_parts]
  exact gc_flat0 e plain_bl
end
end VS

set_option Elab.async false
set_option linter.all false
set_option maxRecDepth 100000
set_option maxHeartbeats 4000000
namespace VS
open PySem PySem.Spec PyProof.Rows L2
section
variable {w w1 ex : World} {ρ ρ0 : Env} {all rs ts us ps out ss CL TL SL : List T} {n m i j s h d z q : Int} {x y t t0 : T} {ns : List Int} {r : Rng} {rest : World}
theorem wcomp (z0 : 0 ≤ z) (z1 : z ≤ 100) {e : ME} {x0 x1 x3 x4 : Option T} (h : ∀ k : Int, 0 ≤ k → k < z → ∃ y, e [x0, x1, some (.int z), x3, some (.int k)] w = .ok y w ∧ Step z y) :
    ∃ out, mVal (mComp [4] (mRange1 (mCons (mVar 2) mNil)) (mgName 4) mYes e) [x0, x1, some (.int z), x3, x4] w = .ok (.lst out) w ∧ (out.length : Int) = z ∧ ∀ u ∈ out, Step z u := by
  obtain ⟨out, e1, l1, p1⟩ := comp_ex (w := w) (g := mgName 4) (c := mYes) (e := e) (ρ0 := [x0, x1, some (.int z), x3, none]) (all := rgT 0 z.toNat) (Step z) (by rw [rgLen]; omega) (fun t ht => by
    obtain ⟨k, rfl, k0, k1⟩ := rgT_mem ht
    obtain ⟨y, e1, e2⟩ := h k k0 (by omega)
    exact ⟨_, y, rfl, rfl, e1, e2⟩)
  rw [rgLen] at l1
  refine ⟨out, ?_, by omega, p1⟩
  rw [mVal_, mComp_, mRange1_, mCons_]
  simp only [mVarS, mVar0, mNil_, bind_ok']
  rw [sRange1_ z0 (by omega), bind_ok']
  show (compL _ _ _ _ _ [x0, x1, some (.int z), x3, none] _ _ _).bind _ = _
  rw [e1, bind_ok']
noncomputable def wiM (P D R : Sem) (M1 M3 : ME) : MS := (mSeq (mAsg (mTup (mCons (mDef 2 P (mCons (mVar 0) (mCons (mVal (mLst (mCons (mC (.int 29)) (mCons (mC (.int 30)) mNil)))) mNil))) (mCons (mDef 2 D (mCons (mVar 0) (mCons (mC (.int 2)) mNil))) mNil))) (mgTup 2 (mgCons (mgName 2) (mgCons (mgName 3) mgNil))))
 (mSeq (mAsg (mVal (mLst (mCons (mCall sTup (mCons M1 mNil)) (mCons (mCall sTup (mCons (mVal (mOp2F sRep (mVal (mLst (mCons (mTup (mCons (mC (.int 0)) (mCons (mC (.int 0)) mNil))) mNil))) (mVar 2))) mNil)) mNil)))) (mgName 1))
 (mRet (mDef 2 R (mCons (mVar 0) (mCons (mCall sTup (mCons (mVal (mOp2F sCat (mVar 1) (mVal (mLst (mCons (mCall sTup (mCons M3 mNil)) mNil))))) mNil)) mNil))))))
noncomputable def wiM1 : ME := (mVal (mComp [4] (mRange1 (mCons (mVar 2) mNil)) (mgName 4) mYes (mTup (mCons (mOp2 sMod (mOp2 sAdd (mVar 4) (mC (.int 1))) (mVar 2)) (mCons (mOp2 sMul (mVar 4) (mVar 3)) mNil)))))
noncomputable def wiM3 : ME := (mVal (mComp [4] (mRange1 (mCons (mVar 2) mNil)) (mgName 4) mYes (mTup (mCons (mVar 4) (mCons (mOp2 sAdd (mVar 4) (mC (.int 3))) mNil)))))
theorem wi_parts : m__law_wide_table = wiM s__law_pick s__law_draw s__law_tt_renamed wiM1 wiM3 := rfl
theorem lcat1 {a b c : T} : sCat (.lst [a, b]) (.lst [c]) w = .ok [a, b, c] w := by
  have h3 : (3 : Nat) ≤ sizeLine := le_size (by decide)
  unfold sCat
  simp [lst_lst, h3]
theorem wi_run {P D R : Sem} {M1 M3 : ME} {w2 w3 : World} {o1 o2 o3 : List T} {v : T} (hP : P [.cell 1, .lst [.int 29, .int 30]] w = .ok (.int z) w1) (hD : D [.cell 1, .int 2] w1 = .ok (.int q) w2)
    (h1 : M1 [some (.cell 1), none, some (.int z), some (.int q), none] w2 = .ok (.lst o1) w2) (h2 : sRep (.lst [.tup [.int 0, .int 0]]) (.int z) w2 = .ok o2 w2)
    (h3 : M3 [some (.cell 1), some (.lst [.tup o1, .tup o2]), some (.int z), some (.int q), none] w2 = .ok (.lst o3) w2) (hR : R [.cell 1, .tup [.tup o1, .tup o2, .tup o3]] w2 = .ok v w3) :
    runB 5 (wiM P D R M1 M3) [.cell 1] w = .ok v w3 := by
  have z1 := one_le
  have z2 := two_le
  have c := lcat1 (w := w2) (a := .tup o1) (b := .tup o2) (c := .tup o3)
  unfold runB wiM
  simp [hP, hD, h1, h2, h3, hR, z1, z2, c]
theorem wide_ok (o : Ok 100 r) : ∃ rs m n r', s__law_wide_table [.cell 1] (WD r rest) = .ok (.tup rs) (WD r' rest) ∧ Tab rs m n ∧ Adv 100 r r' := by
  obtain ⟨t, r1, e1, ht, a1⟩ := pick_lst (r := r) (rest := rest) (ts := [.int 29, .int 30]) (by decide) (by decide) ⟨o.1, by have := o.2; omega⟩
  obtain ⟨z, rfl, z0, z1⟩ : ∃ z : Int, t = .int z ∧ 29 ≤ z ∧ z ≤ 30 := by
    simp only [List.mem_cons, List.not_mem_nil, or_false] at ht
    rcases ht with rfl | rfl
    · exact ⟨29, rfl, by decide, by decide⟩
    · exact ⟨30, rfl, by decide, by decide⟩
  obtain ⟨q, r2, e2, q0, q1, a2⟩ := draw_ok (rest := rest) (r := r1) (n := 2) (by decide) (by decide) (o.on a1 1 (by omega))
  have A2 := a1.trans a2
  obtain ⟨o1, h1, l1, p1⟩ := wcomp (w := WD r2 rest) (z := z) (by omega) (by omega) (x0 := some (.cell 1)) (x1 := none) (x3 := some (.int q)) (x4 := none) (e := mTup (mCons (mOp2 sMod (mOp2 sAdd (mVar 4) (mC (.int 1))) (mVar 2)) (mCons (mOp2 sMul (mVar 4) (mVar 3)) mNil))) (fun k k0 k1 => by
    have m1 := sMod_ (w := WD r2 rest) (i := k + 1) (j := z) (by omega)
    have m2 := sMul_l (w := WD r2 rest) (i := k) (j := q) ⟨by omega, by omega⟩
    have hk : 0 ≤ k * q ∧ k * q ≤ 999999999999999999 := by
      have : q = 0 ∨ q = 1 := by omega
      rcases this with rfl | rfl <;> omega
    refine ⟨.tup [.int ((k + 1) % z), .int (k * q)], by simp [m1, m2, two_le], _, _, rfl, Int.emod_nonneg _ (by omega), Int.emod_lt_of_pos _ (by omega), hk.1, hk.2⟩)
  have h2 := rep1 (w := WD r2 rest) (t := .tup [.int 0, .int 0]) (k := z) (by omega) (by omega)
  obtain ⟨o3, h3, l3, p3⟩ := wcomp (w := WD r2 rest) (z := z) (by omega) (by omega) (x0 := some (.cell 1)) (x1 := some (.lst [.tup o1, .tup (List.replicate z.toNat (.tup [.int 0, .int 0]))])) (x3 := some (.int q)) (x4 := none) (e := mTup (mCons (mVar 4) (mCons (mOp2 sAdd (mVar 4) (mC (.int 3))) mNil))) (fun k k0 k1 => ⟨.tup [.int k, .int (k + 3)], by simp [two_le], _, _, rfl, k0, k1, by omega, by omega⟩)
  have R : Rows 3 z [.tup o1, .tup (List.replicate z.toNat (.tup [.int 0, .int 0])), .tup o3] := by
    refine ⟨rfl, fun u hu => ?_⟩
    simp only [List.mem_cons, List.not_mem_nil, or_false] at hu
    rcases hu with rfl | rfl | rfl
    · exact ⟨o1, rfl, l1, p1⟩
    · exact ⟨_, rfl, by rw [List.length_replicate]; omega, fun v hv => by
        obtain ⟨_, rfl⟩ := List.mem_replicate.mp hv
        exact ⟨0, 0, rfl, by omega, by omega, by omega, by omega⟩⟩
    · exact ⟨o3, rfl, l3, p3⟩
  obtain ⟨out, r3, e3, R3, a3⟩ := renamed_ok (r := r2) (rest := rest) R (by decide) (by decide) (by omega) (by omega) (o.on A2 _ (by omega))
  refine ⟨out, 3, z, r3, ?_, ⟨R3, by decide, by decide, by omega, z1⟩, (A2.trans a3).mono (by omega)⟩
  unfold s__law_wide_table
  rw [wi_parts]
  exact wi_run e1 e2 h1 h2 h3 e3
noncomputable def lwB (KR A : Sem) : MS := mIfS (mNot (mTru (mDef 1 KR (mCons (mDef 2 A (mCons (mVar 1) (mCons (mC (.int 8)) mNil))) mNil)))) (mRet (mC (.bl false))) mSkip
noncomputable def lwM (G KR A W : Sem) : MS := mSeq (mAsg (mDef 1 G (mCons (mVar 0) mNil)) (mgName 1)) (mSeq (mFor (mRange1 (mCons (mC (.int 2)) mNil)) (mgName 2) (lwB KR A)) (mRet (mDef 1 KR (mCons (mDef 1 W (mCons (mVar 1) mNil)) mNil))))
theorem lw_parts : m_law = lwM s__law_begun s__law_kind_right s__law_tt_any s__law_wide_table := rfl
theorem lwB_run {KR A : Sem} {x0 x2 : Option T} (hA : A [.cell 1, .int 8] w = .ok t w1) (hK : KR [t] w1 = .ok (.bl true) w1) : lwB KR A [x0, some (.cell 1), x2] w = .ok ([x0, some (.cell 1), x2], .nx) w1 := by
  unfold lwB
  simp [hA, hK]
theorem lwM_run {G KR A W : Sem} {w2 w3 : World} {x0 : T} {x2 : Option T} (hG : G [x0] w = .ok (.cell 1) w1) (hF : forL (mgName 2) (lwB KR A) none (rgT 0 2) (rgT 0 2) [some x0, some (.cell 1), none] w1 = .ok ([some x0, some (.cell 1), x2], .nx) w2) (hW : W [.cell 1] w2 = .ok t w3) (hK : KR [t] w3 = .ok (.bl true) w3) : runB 3 (lwM G KR A W) [x0] w = .ok (.bl true) w3 := by
  have r2 : sRange1 [.int 2] w1 = .ok (rgT 0 2, none) w1 := sRange1_ (by decide) (by decide)
  unfold runB lwM
  simp [hG, r2, hF, hW, hK]
theorem law_true : ∀ ns : List Int, ns.length ≤ 63 → ∃ w', runB N_law.length m_law [.frz (ns.map T.int)] [] = .ok (.bl true) w' := fun ns hl => by
  obtain ⟨r0, e0, t0⟩ := begun_ok hl
  have o : Ok 5000 r0 := ⟨by omega, by omega⟩
  obtain ⟨ρ', w', e, r1, rfl, o1, x2, rfl⟩ := forL_run (w := WD r0 []) (all := rgT 0 2) (g := mgName 2) (b := lwB s__law_kind_right s__law_tt_any) (ρ := [some (.frz (ns.map T.int)), some (.cell 1), none]) (P := fun i ρ w' => ∃ r', w' = WD r' [] ∧ Ok (5000 - 1100 * i) r' ∧ ∃ x2, ρ = [some (.frz (ns.map T.int)), some (.cell 1), x2]) ⟨r0, rfl, by simpa using o, _, rfl⟩ (fun i t ρ w' ht p => by
    obtain ⟨r', rfl, o', x2, rfl⟩ := p
    obtain ⟨rfl, hi⟩ := rgT_at ht
    obtain ⟨k, hk⟩ : ∃ k : Int, k = ((i : Nat) : Int) := ⟨_, rfl⟩
    rw [← hk, Int.zero_add]
    rw [← hk] at o'
    obtain ⟨rs, m, n, r2, e2, R, b1, b2, b3, b4, a2⟩ := any_ok (M := 8) (by decide) (r := r') (rest := []) ⟨o'.1, by have := o'.2; omega⟩
    have B : Tab rs m n := ⟨R, b1, b2, b3, b4⟩
    refine ⟨[some (.frz (ns.map T.int)), some (.cell 1), some (.int k)], WD r2 [], ?_, r2, rfl, ?_, _, rfl⟩
    · rw [mgName_, bind_ok']
      exact lwB_run e2 (kind_right_ok B)
    · have := o'.on a2 (5000 - 1100 * (k + 1)) (by omega)
      have hz : (5000 : Int) - 1100 * ((i + 1 : Nat) : Int) = 5000 - 1100 * (k + 1) := by omega
      rw [hz]
      exact this)
  rw [rgLen] at o1
  obtain ⟨rs, m, n, r3, e3, B, a3⟩ := wide_ok (r := r1) (rest := []) ⟨o1.1, by have := o1.2; omega⟩
  rw [lw_parts]
  exact ⟨_, lwM_run e0 e e3 (kind_right_ok B)⟩
end
end VS

set_option Elab.async false
set_option linter.all false
set_option maxRecDepth 100000
set_option maxHeartbeats 4000000
namespace VS
open PySem PySem.Spec PyProof.Rows L2
theorem top_all {P : Program} {w : PySem.World} {K : PySem.W.Frag} {h : Heap} {mg : Str → Option Value} {fa : Addr} (X : K.In h) (G : h.Ns mainGlobals mg) (hfa : mg "law" = some (.ref fa)) (a_is_number : At K "is_number" t_is_number) (a_is_count : At K "is_count" t_is_count) (a_is_place : At K "is_place" t_is_place) (a_is_tuple_of : At K "is_tuple_of" t_is_tuple_of) (a__is_step : At K "_is_step" t__is_step) (a_is_table : At K "is_table" t_is_table) (a_check_table : At K "check_table" t_check_table) (a__commute_at : At K "_commute_at" t__commute_at) (a_do_commute : At K "do_commute" t_do_commute) (a_does_overwrite : At K "does_overwrite" t_does_overwrite) (a_clash : At K "clash" t_clash) (a_first_clash : At K "first_clash" t_first_clash) (a__views : At K "_views" t__views) (a__first_blurred : At K "_first_blurred" t__first_blurred) (a__tells : At K "_tells" t__tells) (a_telling_deeds : At K "telling_deeds" t_telling_deeds) (a__first_settling : At K "_first_settling" t__first_settling) (a_kind_of : At K "kind_of" t_kind_of) (a__law_begun : At K "_law_begun" t__law_begun) (a__law_blended : At K "_law_blended" t__law_blended) (a__law_draw : At K "_law_draw" t__law_draw) (a__law_pick : At K "_law_pick" t__law_pick) (a__law_mixed : At K "_law_mixed" t__law_mixed) (a__law_tt_looked : At K "_law_tt_looked" t__law_tt_looked) (a__law_tt_small : At K "_law_tt_small" t__law_tt_small) (a__law_tt_product : At K "_law_tt_product" t__law_tt_product) (a__law_tt_renamed : At K "_law_tt_renamed" t__law_tt_renamed) (a__law_tt_served : At K "_law_tt_served" t__law_tt_served) (a__law_tt_random : At K "_law_tt_random" t__law_tt_random) (a__law_tt_wild : At K "_law_tt_wild" t__law_tt_wild) (a__law_tt_any : At K "_law_tt_any" t__law_tt_any) (a__law_tt_run : At K "_law_tt_run" t__law_tt_run) (a__law_tt_commute : At K "_law_tt_commute" t__law_tt_commute) (a__law_tt_over : At K "_law_tt_over" t__law_tt_over) (a__law_tt_is_fine : At K "_law_tt_is_fine" t__law_tt_is_fine) (a__law_tt_failing : At K "_law_tt_failing" t__law_tt_failing) (a__law_tt_mixes : At K "_law_tt_mixes" t__law_tt_mixes) (a__law_tt_views : At K "_law_tt_views" t__law_tt_views) (a__law_tt_blurred : At K "_law_tt_blurred" t__law_tt_blurred) (a__law_tt_settling : At K "_law_tt_settling" t__law_tt_settling) (a__law_tt_tellers : At K "_law_tt_tellers" t__law_tt_tellers) (a__law_wide_table : At K "_law_wide_table" t__law_wide_table) (a__law_kind_right : At K "_law_kind_right" t__law_kind_right) (a_law : At K "law" t_law) (n_bool : PySem.W.nsIn K mainGlobals "bool" = some none) (n_isinstance : PySem.W.nsIn K mainGlobals "isinstance" = some none) (n_int : PySem.W.nsIn K mainGlobals "int" = some none) (n_len : PySem.W.nsIn K mainGlobals "len" = some none) (n_tuple : PySem.W.nsIn K mainGlobals "tuple" = some none) (n_all : PySem.W.nsIn K mainGlobals "all" = some none) (n_range : PySem.W.nsIn K mainGlobals "range" = some none) (n_enumerate : PySem.W.nsIn K mainGlobals "enumerate" = some none) (n_set : PySem.W.nsIn K mainGlobals "set" = some none) (n_list : PySem.W.nsIn K mainGlobals "list" = some none) (n_abs : PySem.W.nsIn K mainGlobals "abs" = some none) (n_max : PySem.W.nsIn K mainGlobals "max" = some none) (n_min : PySem.W.nsIn K mainGlobals "min" = some none) (n_sorted : PySem.W.nsIn K mainGlobals "sorted" = some none) {k_GREATEST : Tok} (g_GREATEST : PySem.W.nsIn K mainGlobals "GREATEST" = some (some (.int 999999999999999999 k_GREATEST))) {k_MOST_DEEDS : Tok} (g_MOST_DEEDS : PySem.W.nsIn K mainGlobals "MOST_DEEDS" = some (some (.int 12 k_MOST_DEEDS))) {k_MOST_STATES : Tok} (g_MOST_STATES : PySem.W.nsIn K mainGlobals "MOST_STATES" = some (some (.int 30 k_MOST_STATES))) :
    ∃ fd : FuncData, (∀ (s : Shared) (u : Value), BindsTo s fd ⟨[u], []⟩ [("script", u)]) ∧ ∀ base : Heap, K.In base → base.Ns mainGlobals mg → FnOk P w K mg base (L2.CX P w) 10 fa fd ["script"] (spL K) := by
  have z : Zs mg := ⟨PySem.W.mg_none_of X G n_bool, PySem.W.mg_none_of X G n_isinstance, PySem.W.mg_none_of X G n_int, PySem.W.mg_none_of X G n_len, PySem.W.mg_none_of X G n_tuple, PySem.W.mg_none_of X G n_all, PySem.W.mg_none_of X G n_range, PySem.W.mg_none_of X G n_enumerate, PySem.W.mg_none_of X G n_set, PySem.W.mg_none_of X G n_list, PySem.W.mg_none_of X G n_abs, PySem.W.mg_none_of X G n_max, PySem.W.mg_none_of X G n_min, PySem.W.mg_none_of X G n_sorted, ⟨_, PySem.W.mg_of X G g_GREATEST⟩, ⟨_, PySem.W.mg_of X G g_MOST_DEEDS⟩, ⟨_, PySem.W.mg_of X G g_MOST_STATES⟩⟩
  refine At.law a_law X G hfa sc_law (fun _ _ _ _ _ _ _ => rfl) (fun base _ _ => ?_) law_true
  have D_is_number : Df P w K mg base 1 "is_number" ["value"] s_is_number := (At.df a_is_number X G sc_is_number (fun _ _ _ _ _ _ us hl => match us, hl with | [_], _ => rfl) (b_is_number z))
  have D_is_count : Df P w K mg base 2 "is_count" ["value"] s_is_count := (At.df a_is_count X G sc_is_count (fun _ _ _ _ _ _ us hl => match us, hl with | [_], _ => rfl) (b_is_count z D_is_number))
  have D_is_place : Df P w K mg base 3 "is_place" ["value", "many"] s_is_place := (At.df a_is_place X G sc_is_place (fun _ _ _ _ _ _ us hl => match us, hl with | [_, _], _ => rfl) (b_is_place z D_is_count))
  have D_is_tuple_of : Df P w K mg base 1 "is_tuple_of" ["value", "many"] s_is_tuple_of := (At.df a_is_tuple_of X G sc_is_tuple_of (fun _ _ _ _ _ _ us hl => match us, hl with | [_, _], _ => rfl) (b_is_tuple_of z))
  have D__is_step : Df P w K mg base 4 "_is_step" ["value", "states"] s__is_step := (At.df a__is_step X G sc__is_step (fun _ _ _ _ _ _ us hl => match us, hl with | [_, _], _ => rfl) (b__is_step z D_is_count D_is_place D_is_tuple_of))
  have D_is_table : Df P w K mg base 5 "is_table" ["value"] s_is_table := (At.df a_is_table X G sc_is_table (fun _ _ _ _ _ _ us hl => match us, hl with | [_], _ => rfl) (b_is_table z D_is_tuple_of D__is_step))
  have D_check_table : Df P w K mg base 6 "check_table" ["table"] s_check_table := (At.df a_check_table X G sc_check_table (fun _ _ _ _ _ _ us hl => match us, hl with | [_], _ => rfl) (b_check_table z D_is_table))
  have D__commute_at : Df P w K mg base 1 "_commute_at" ["table", "state", "one", "other"] s__commute_at := (At.df a__commute_at X G sc__commute_at (fun _ _ _ _ _ _ us hl => match us, hl with | [_, _, _, _], _ => rfl) (b__commute_at z))
  have D_do_commute : Df P w K mg base 2 "do_commute" ["table", "one", "other"] s_do_commute := (At.df a_do_commute X G sc_do_commute (fun _ _ _ _ _ _ us hl => match us, hl with | [_, _, _], _ => rfl) (b_do_commute z D__commute_at))
  have D_does_overwrite : Df P w K mg base 1 "does_overwrite" ["table", "one", "other"] s_does_overwrite := (At.df a_does_overwrite X G sc_does_overwrite (fun _ _ _ _ _ _ us hl => match us, hl with | [_, _, _], _ => rfl) (b_does_overwrite z))
  have D_clash : Df P w K mg base 3 "clash" ["table", "one", "other"] s_clash := (At.df a_clash X G sc_clash (fun _ _ _ _ _ _ us hl => match us, hl with | [_, _, _], _ => rfl) (b_clash z D_do_commute D_does_overwrite))
  have D_first_clash : Df P w K mg base 4 "first_clash" ["table"] s_first_clash := (At.df a_first_clash X G sc_first_clash (fun _ _ _ _ _ _ us hl => match us, hl with | [_], _ => rfl) (b_first_clash z D_clash))
  have D__views : Df P w K mg base 1 "_views" ["table", "state", "mine", "others"] s__views := (At.df a__views X G sc__views (fun _ _ _ _ _ _ us hl => match us, hl with | [_, _, _, _], _ => rfl) (b__views z))
  have D__first_blurred : Df P w K mg base 2 "_first_blurred" ["table", "state", "one", "other"] s__first_blurred := (At.df a__first_blurred X G sc__first_blurred (fun _ _ _ _ _ _ us hl => match us, hl with | [_, _, _, _], _ => rfl) (b__first_blurred z D__views))
  have D__tells : Df P w K mg base 1 "_tells" ["deed"] s__tells := (At.df a__tells X G sc__tells (fun _ _ _ _ _ _ us hl => match us, hl with | [_], _ => rfl) (b__tells z))
  have D_telling_deeds : Df P w K mg base 7 "telling_deeds" ["table"] s_telling_deeds := (At.df a_telling_deeds X G sc_telling_deeds (fun _ _ _ _ _ _ us hl => match us, hl with | [_], _ => rfl) (b_telling_deeds z D_check_table D__tells))
  have PD_telling_deeds_0 : DfP P w K mg base 7 "telling_deeds" 1 0 ["table"] [0] s_telling_deeds := (At.dfP (ps := ["table"]) (ks := ["table"]) a_telling_deeds X G sc_telling_deeds (by exact fun h => nomatch h) (fun _ _ _ _ _ _ us ws h1 h2 => match us, ws, h1, h2 with | [], [_], _, _ => rfl) (b_telling_deeds z D_check_table D__tells))
  have D__first_settling : Df P w K mg base 3 "_first_settling" ["table"] s__first_settling := (At.df a__first_settling X G sc__first_settling (fun _ _ _ _ _ _ us hl => match us, hl with | [_], _ => rfl) (b__first_settling z D__first_blurred))
  have D_kind_of : Df P w K mg base 8 "kind_of" ["table"] s_kind_of := df_gc (At.df a_kind_of X G sc_kind_of (fun _ _ _ _ _ _ us hl => match us, hl with | [_], _ => rfl) (b_kind_of z D_check_table D_first_clash D_telling_deeds D__first_settling))
  have PD_kind_of_0 : DfP P w K mg base 8 "kind_of" 1 0 ["table"] [0] s_kind_of := dfP_gc (At.dfP (ps := ["table"]) (ks := ["table"]) a_kind_of X G sc_kind_of (by exact fun h => nomatch h) (fun _ _ _ _ _ _ us ws h1 h2 => match us, ws, h1, h2 with | [], [_], _, _ => rfl) (b_kind_of z D_check_table D_first_clash D_telling_deeds D__first_settling))
  have D__law_begun : Df P w K mg base 1 "_law_begun" ["script"] s__law_begun := (At.df a__law_begun X G sc__law_begun (fun _ _ _ _ _ _ us hl => match us, hl with | [_], _ => rfl) (b__law_begun z))
  have D__law_blended : Df P w K mg base 1 "_law_blended" ["state"] s__law_blended := (At.df a__law_blended X G sc__law_blended (fun _ _ _ _ _ _ us hl => match us, hl with | [_], _ => rfl) (b__law_blended z))
  have D__law_draw : Df P w K mg base 2 "_law_draw" ["state", "size_here"] s__law_draw := (At.df a__law_draw X G sc__law_draw (fun _ _ _ _ _ _ us hl => match us, hl with | [_, _], _ => rfl) (b__law_draw z D__law_blended))
  have D__law_pick : Df P w K mg base 3 "_law_pick" ["state", "several"] s__law_pick := (At.df a__law_pick X G sc__law_pick (fun _ _ _ _ _ _ us hl => match us, hl with | [_, _], _ => rfl) (b__law_pick z D__law_draw))
  have D__law_mixed : Df P w K mg base 3 "_law_mixed" ["state", "several"] s__law_mixed := df_gc (At.df a__law_mixed X G sc__law_mixed (fun _ _ _ _ _ _ us hl => match us, hl with | [_, _], _ => rfl) (b__law_mixed z D__law_draw))
  have D__law_tt_looked : Df P w K mg base 1 "_law_tt_looked" ["deeds", "states", "first"] s__law_tt_looked := (At.df a__law_tt_looked X G sc__law_tt_looked (fun _ _ _ _ _ _ us hl => match us, hl with | [_, _, _], _ => rfl) (b__law_tt_looked z))
  have D__law_tt_small : Df P w K mg base 3 "_law_tt_small" ["state"] s__law_tt_small := (At.df a__law_tt_small X G sc__law_tt_small (fun _ _ _ _ _ _ us hl => match us, hl with | [_], _ => rfl) (b__law_tt_small z D__law_draw D__law_tt_looked))
  have D__law_tt_product : Df P w K mg base 1 "_law_tt_product" ["left", "right"] s__law_tt_product := df_gc (At.df a__law_tt_product X G sc__law_tt_product (fun _ _ _ _ _ _ us hl => match us, hl with | [_, _], _ => rfl) (b__law_tt_product z))
  have D__law_tt_renamed : Df P w K mg base 4 "_law_tt_renamed" ["state", "table_here"] s__law_tt_renamed := df_gc (At.df a__law_tt_renamed X G sc__law_tt_renamed (fun _ _ _ _ _ _ us hl => match us, hl with | [_, _], _ => rfl) (b__law_tt_renamed z D__law_mixed))
  have D__law_tt_served : Df P w K mg base 5 "_law_tt_served" ["state", "most"] s__law_tt_served := (At.df a__law_tt_served X G sc__law_tt_served (fun _ _ _ _ _ _ us hl => match us, hl with | [_, _], _ => rfl) (b__law_tt_served z D__law_tt_small D__law_draw D__law_tt_product D__law_pick D__law_tt_renamed))
  have D__law_tt_random : Df P w K mg base 3 "_law_tt_random" ["state"] s__law_tt_random := df_gc (At.df a__law_tt_random X G sc__law_tt_random (fun _ _ _ _ _ _ us hl => match us, hl with | [_], _ => rfl) (b__law_tt_random z D__law_draw))
  have D__law_tt_wild : Df P w K mg base 5 "_law_tt_wild" ["state"] s__law_tt_wild := df_gc (At.df a__law_tt_wild X G sc__law_tt_wild (fun _ _ _ _ _ _ us hl => match us, hl with | [_], _ => rfl) (b__law_tt_wild z D__law_draw D__law_tt_small D__law_pick D__law_tt_random D__law_tt_renamed))
  have D__law_tt_any : Df P w K mg base 6 "_law_tt_any" ["state", "most"] s__law_tt_any := (At.df a__law_tt_any X G sc__law_tt_any (fun _ _ _ _ _ _ us hl => match us, hl with | [_, _], _ => rfl) (b__law_tt_any z D__law_draw D__law_tt_served D__law_tt_wild))
  have D__law_tt_run : Df P w K mg base 1 "_law_tt_run" ["table_here", "begin", "deeds"] s__law_tt_run := (At.df a__law_tt_run X G sc__law_tt_run (fun _ _ _ _ _ _ us hl => match us, hl with | [_, _, _], _ => rfl) (b__law_tt_run z))
  have D__law_tt_commute : Df P w K mg base 2 "_law_tt_commute" ["table_here", "one", "other"] s__law_tt_commute := df_gc (At.df a__law_tt_commute X G sc__law_tt_commute (fun _ _ _ _ _ _ us hl => match us, hl with | [_, _, _], _ => rfl) (b__law_tt_commute z D__law_tt_run))
  have D__law_tt_over : Df P w K mg base 2 "_law_tt_over" ["table_here", "one", "other"] s__law_tt_over := df_gc (At.df a__law_tt_over X G sc__law_tt_over (fun _ _ _ _ _ _ us hl => match us, hl with | [_, _, _], _ => rfl) (b__law_tt_over z D__law_tt_run))
  have D__law_tt_is_fine : Df P w K mg base 3 "_law_tt_is_fine" ["table_here", "one", "other"] s__law_tt_is_fine := (At.df a__law_tt_is_fine X G sc__law_tt_is_fine (fun _ _ _ _ _ _ us hl => match us, hl with | [_, _, _], _ => rfl) (b__law_tt_is_fine z D__law_tt_over D__law_tt_commute))
  have D__law_tt_failing : Df P w K mg base 4 "_law_tt_failing" ["table_here"] s__law_tt_failing := df_gc (At.df a__law_tt_failing X G sc__law_tt_failing (fun _ _ _ _ _ _ us hl => match us, hl with | [_], _ => rfl) (b__law_tt_failing z D__law_tt_is_fine))
  have D__law_tt_mixes : Df P w K mg base 1 "_law_tt_mixes" [] s__law_tt_mixes := (At.df a__law_tt_mixes X G sc__law_tt_mixes (fun _ _ _ _ _ _ us hl => match us, hl with | [], _ => rfl) (b__law_tt_mixes z))
  have D__law_tt_views : Df P w K mg base 2 "_law_tt_views" ["table_here", "begin", "one", "other"] s__law_tt_views := df_gc (At.df a__law_tt_views X G sc__law_tt_views (fun _ _ _ _ _ _ us hl => match us, hl with | [_, _, _, _], _ => rfl) (b__law_tt_views z D__law_tt_mixes))
  have D__law_tt_blurred : Df P w K mg base 3 "_law_tt_blurred" ["table_here", "begin", "one", "other"] s__law_tt_blurred := df_gc (At.df a__law_tt_blurred X G sc__law_tt_blurred (fun _ _ _ _ _ _ us hl => match us, hl with | [_, _, _, _], _ => rfl) (b__law_tt_blurred z D__law_tt_views))
  have D__law_tt_settling : Df P w K mg base 4 "_law_tt_settling" ["table_here"] s__law_tt_settling := df_gc (At.df a__law_tt_settling X G sc__law_tt_settling (fun _ _ _ _ _ _ us hl => match us, hl with | [_], _ => rfl) (b__law_tt_settling z D__law_tt_blurred))
  have D__law_tt_tellers : Df P w K mg base 1 "_law_tt_tellers" ["table_here"] s__law_tt_tellers := df_gc (At.df a__law_tt_tellers X G sc__law_tt_tellers (fun _ _ _ _ _ _ us hl => match us, hl with | [_], _ => rfl) (b__law_tt_tellers z))
  have D__law_wide_table : Df P w K mg base 5 "_law_wide_table" ["state"] s__law_wide_table := (At.df a__law_wide_table X G sc__law_wide_table (fun _ _ _ _ _ _ us hl => match us, hl with | [_], _ => rfl) (b__law_wide_table z D__law_draw D__law_pick D__law_tt_renamed))
  have D__law_kind_right : Df P w K mg base 9 "_law_kind_right" ["table_here"] s__law_kind_right := df_gc (At.df a__law_kind_right X G sc__law_kind_right (fun _ _ _ _ _ _ us hl => match us, hl with | [_], _ => rfl) (b__law_kind_right z D__law_tt_settling D__law_tt_failing D__law_tt_tellers D_telling_deeds D_kind_of PD_telling_deeds_0 PD_kind_of_0))
  exact b_law z D__law_begun D__law_tt_any D__law_kind_right D__law_wide_table
end VS
open PySem PySem.W PyProof.Rows
set_option maxHeartbeats 0 in
theorem PySem.Challenge.cw_seenatonce_k07_kinds_of_tables_holds : PySem.Challenge.rw_seenatonce_k07_kinds_of_tables.Holds := by
  w_on; o_law; k_head; (case hw => w_witness2)
  k_fill
  refine L2.walk_of (l := PySem.Challenge.rw_seenatonce_k07_kinds_of_tables) (n := 63) (k := 10) (x := "script") (CX := fun w => L2.CX PySem.Challenge.rw_seenatonce_k07_kinds_of_tables.prog w) (sp := fun w => VS.spL _) rfl (by decide) rfl ⟨rfl, by decide, by decide⟩ (fun w h Y => PySem.W.kIn_of Y) ?F (fun _ _ a ns hl _ hS => ⟨a, ns, rfl, hS, hl, fun _ => rfl⟩) (fun _ _ _ _ _ h => VS.law_cx h)
  case F =>
    intro w mg fa h KX G hmg
    refine' VS.top_all KX G hmg ?a_is_number ?a_is_count ?a_is_place ?a_is_tuple_of ?a__is_step ?a_is_table ?a_check_table ?a__commute_at ?a_do_commute ?a_does_overwrite ?a_clash ?a_first_clash ?a__views ?a__first_blurred ?a__tells ?a_telling_deeds ?a__first_settling ?a_kind_of ?a__law_begun ?a__law_blended ?a__law_draw ?a__law_pick ?a__law_mixed ?a__law_tt_looked ?a__law_tt_small ?a__law_tt_product ?a__law_tt_renamed ?a__law_tt_served ?a__law_tt_random ?a__law_tt_wild ?a__law_tt_any ?a__law_tt_run ?a__law_tt_commute ?a__law_tt_over ?a__law_tt_is_fine ?a__law_tt_failing ?a__law_tt_mixes ?a__law_tt_views ?a__law_tt_blurred ?a__law_tt_settling ?a__law_tt_tellers ?a__law_wide_table ?a__law_kind_right ?a_law ?n_bool ?n_isinstance ?n_int ?n_len ?n_tuple ?n_all ?n_range ?n_enumerate ?n_set ?n_list ?n_abs ?n_max ?n_min ?n_sorted ?g_GREATEST ?g_MOST_DEEDS ?g_MOST_STATES
    (case a_is_number => (refine' VS.at_mk ?h1 ?h2 ?h3 ?h4; (case h1 => k_is); (case h2 => k_is); (case h3 => k_is); (case h4 => k_is)))
    (case a_is_count => (refine' VS.at_mk ?h1 ?h2 ?h3 ?h4; (case h1 => k_is); (case h2 => k_is); (case h3 => k_is); (case h4 => k_is)))
    (case a_is_place => (refine' VS.at_mk ?h1 ?h2 ?h3 ?h4; (case h1 => k_is); (case h2 => k_is); (case h3 => k_is); (case h4 => k_is)))
    (case a_is_tuple_of => (refine' VS.at_mk ?h1 ?h2 ?h3 ?h4; (case h1 => k_is); (case h2 => k_is); (case h3 => k_is); (case h4 => k_is)))
    (case a__is_step => (refine' VS.at_mk ?h1 ?h2 ?h3 ?h4; (case h1 => k_is); (case h2 => k_is); (case h3 => k_is); (case h4 => k_is)))
    (case a_is_table => (refine' VS.at_mk ?h1 ?h2 ?h3 ?h4; (case h1 => k_is); (case h2 => k_is); (case h3 => k_is); (case h4 => k_is)))
    (case a_check_table => (refine' VS.at_mk ?h1 ?h2 ?h3 ?h4; (case h1 => k_is); (case h2 => k_is); (case h3 => k_is); (case h4 => k_is)))
    (case a__commute_at => (refine' VS.at_mk ?h1 ?h2 ?h3 ?h4; (case h1 => k_is); (case h2 => k_is); (case h3 => k_is); (case h4 => k_is)))
    (case a_do_commute => (refine' VS.at_mk ?h1 ?h2 ?h3 ?h4; (case h1 => k_is); (case h2 => k_is); (case h3 => k_is); (case h4 => k_is)))
    (case a_does_overwrite => (refine' VS.at_mk ?h1 ?h2 ?h3 ?h4; (case h1 => k_is); (case h2 => k_is); (case h3 => k_is); (case h4 => k_is)))
    (case a_clash => (refine' VS.at_mk ?h1 ?h2 ?h3 ?h4; (case h1 => k_is); (case h2 => k_is); (case h3 => k_is); (case h4 => k_is)))
    (case a_first_clash => (refine' VS.at_mk ?h1 ?h2 ?h3 ?h4; (case h1 => k_is); (case h2 => k_is); (case h3 => k_is); (case h4 => k_is)))
    (case a__views => (refine' VS.at_mk ?h1 ?h2 ?h3 ?h4; (case h1 => k_is); (case h2 => k_is); (case h3 => k_is); (case h4 => k_is)))
    (case a__first_blurred => (refine' VS.at_mk ?h1 ?h2 ?h3 ?h4; (case h1 => k_is); (case h2 => k_is); (case h3 => k_is); (case h4 => k_is)))
    (case a__tells => (refine' VS.at_mk ?h1 ?h2 ?h3 ?h4; (case h1 => k_is); (case h2 => k_is); (case h3 => k_is); (case h4 => k_is)))
    (case a_telling_deeds => (refine' VS.at_mk ?h1 ?h2 ?h3 ?h4; (case h1 => k_is); (case h2 => k_is); (case h3 => k_is); (case h4 => k_is)))
    (case a__first_settling => (refine' VS.at_mk ?h1 ?h2 ?h3 ?h4; (case h1 => k_is); (case h2 => k_is); (case h3 => k_is); (case h4 => k_is)))
    (case a_kind_of => (refine' VS.at_mk ?h1 ?h2 ?h3 ?h4; (case h1 => k_is); (case h2 => k_is); (case h3 => k_is); (case h4 => k_is)))
    (case a__law_begun => (refine' VS.at_mk ?h1 ?h2 ?h3 ?h4; (case h1 => k_is); (case h2 => k_is); (case h3 => k_is); (case h4 => k_is)))
    (case a__law_blended => (refine' VS.at_mk ?h1 ?h2 ?h3 ?h4; (case h1 => k_is); (case h2 => k_is); (case h3 => k_is); (case h4 => k_is)))
    (case a__law_draw => (refine' VS.at_mk ?h1 ?h2 ?h3 ?h4; (case h1 => k_is); (case h2 => k_is); (case h3 => k_is); (case h4 => k_is)))
    (case a__law_pick => (refine' VS.at_mk ?h1 ?h2 ?h3 ?h4; (case h1 => k_is); (case h2 => k_is); (case h3 => k_is); (case h4 => k_is)))
    (case a__law_mixed => (refine' VS.at_mk ?h1 ?h2 ?h3 ?h4; (case h1 => k_is); (case h2 => k_is); (case h3 => k_is); (case h4 => k_is)))
    (case a__law_tt_looked => (refine' VS.at_mk ?h1 ?h2 ?h3 ?h4; (case h1 => k_is); (case h2 => k_is); (case h3 => k_is); (case h4 => k_is)))
    (case a__law_tt_small => (refine' VS.at_mk ?h1 ?h2 ?h3 ?h4; (case h1 => k_is); (case h2 => k_is); (case h3 => k_is); (case h4 => k_is)))
    (case a__law_tt_product => (refine' VS.at_mk ?h1 ?h2 ?h3 ?h4; (case h1 => k_is); (case h2 => k_is); (case h3 => k_is); (case h4 => k_is)))
    (case a__law_tt_renamed => (refine' VS.at_mk ?h1 ?h2 ?h3 ?h4; (case h1 => k_is); (case h2 => k_is); (case h3 => k_is); (case h4 => k_is)))
    (case a__law_tt_served => (refine' VS.at_mk ?h1 ?h2 ?h3 ?h4; (case h1 => k_is); (case h2 => k_is); (case h3 => k_is); (case h4 => k_is)))
    (case a__law_tt_random => (refine' VS.at_mk ?h1 ?h2 ?h3 ?h4; (case h1 => k_is); (case h2 => k_is); (case h3 => k_is); (case h4 => k_is)))
    (case a__law_tt_wild => (refine' VS.at_mk ?h1 ?h2 ?h3 ?h4; (case h1 => k_is); (case h2 => k_is); (case h3 => k_is); (case h4 => k_is)))
    (case a__law_tt_any => (refine' VS.at_mk ?h1 ?h2 ?h3 ?h4; (case h1 => k_is); (case h2 => k_is); (case h3 => k_is); (case h4 => k_is)))
    (case a__law_tt_run => (refine' VS.at_mk ?h1 ?h2 ?h3 ?h4; (case h1 => k_is); (case h2 => k_is); (case h3 => k_is); (case h4 => k_is)))
    (case a__law_tt_commute => (refine' VS.at_mk ?h1 ?h2 ?h3 ?h4; (case h1 => k_is); (case h2 => k_is); (case h3 => k_is); (case h4 => k_is)))
    (case a__law_tt_over => (refine' VS.at_mk ?h1 ?h2 ?h3 ?h4; (case h1 => k_is); (case h2 => k_is); (case h3 => k_is); (case h4 => k_is)))
    (case a__law_tt_is_fine => (refine' VS.at_mk ?h1 ?h2 ?h3 ?h4; (case h1 => k_is); (case h2 => k_is); (case h3 => k_is); (case h4 => k_is)))
    (case a__law_tt_failing => (refine' VS.at_mk ?h1 ?h2 ?h3 ?h4; (case h1 => k_is); (case h2 => k_is); (case h3 => k_is); (case h4 => k_is)))
    (case a__law_tt_mixes => (refine' VS.at_mk ?h1 ?h2 ?h3 ?h4; (case h1 => k_is); (case h2 => k_is); (case h3 => k_is); (case h4 => k_is)))
    (case a__law_tt_views => (refine' VS.at_mk ?h1 ?h2 ?h3 ?h4; (case h1 => k_is); (case h2 => k_is); (case h3 => k_is); (case h4 => k_is)))
    (case a__law_tt_blurred => (refine' VS.at_mk ?h1 ?h2 ?h3 ?h4; (case h1 => k_is); (case h2 => k_is); (case h3 => k_is); (case h4 => k_is)))
    (case a__law_tt_settling => (refine' VS.at_mk ?h1 ?h2 ?h3 ?h4; (case h1 => k_is); (case h2 => k_is); (case h3 => k_is); (case h4 => k_is)))
    (case a__law_tt_tellers => (refine' VS.at_mk ?h1 ?h2 ?h3 ?h4; (case h1 => k_is); (case h2 => k_is); (case h3 => k_is); (case h4 => k_is)))
    (case a__law_wide_table => (refine' VS.at_mk ?h1 ?h2 ?h3 ?h4; (case h1 => k_is); (case h2 => k_is); (case h3 => k_is); (case h4 => k_is)))
    (case a__law_kind_right => (refine' VS.at_mk ?h1 ?h2 ?h3 ?h4; (case h1 => k_is); (case h2 => k_is); (case h3 => k_is); (case h4 => k_is)))
    (case a_law => (refine' VS.at_mk ?h1 ?h2 ?h3 ?h4; (case h1 => k_is); (case h2 => k_is); (case h3 => k_is); (case h4 => k_is)))
    (case n_bool => k_is)
    (case n_isinstance => k_is)
    (case n_int => k_is)
    (case n_len => k_is)
    (case n_tuple => k_is)
    (case n_all => k_is)
    (case n_range => k_is)
    (case n_enumerate => k_is)
    (case n_set => k_is)
    (case n_list => k_is)
    (case n_abs => k_is)
    (case n_max => k_is)
    (case n_min => k_is)
    (case n_sorted => k_is)
    (case g_GREATEST => k_is)
    (case g_MOST_DEEDS => k_is)
    (case g_MOST_STATES => k_is)
