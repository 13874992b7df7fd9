import PyProof.Rows.All
import Wide.All
import OpenK.AllK
import Wide.FinOn
import HandS.ForMost
import HandS.ForExc
import HandS.Flow
import HandS.Style
import HandS.Zip
import HandS.TupAny
import HandS.TupMul
import HandS.Conv
import HandS.IsInst
import HandS.Lambda
import HandS.ExcIs
import HandS.ExcValue
import HandS.Dict
import HandS.WordsDict
import KE.GoesMore
import HandS.Iter
import KE.KDictDisplayH
import HandS.Deep
import HandS.Star
import HandS.TupSets
import PyProof.P3In
import HandS.TryMany
import HandS.SetFor
import HandS.Strs
import KE.LtData
import KE.SortData
import PyProof.TupleOfSeq
import HandS.HeadWalk
import HandS.EndTab
import KE.DataCmp
import HandS.TupLe
import PyProof.NeKinds
import PyProof.FactsAll.dict
import PyProof.ReprRoads
import PySem.Challenge.RW_seenatonce_k55_moments_for_a_sequence
set_option Elab.async false
set_option linter.all false
set_option maxRecDepth 100000
set_option maxHeartbeats 2000000
/-! VS: a value semantics over the layer. -/
namespace VS
open PySem PySem.Spec PyProof.Rows L2

/-- a value with all that it holds; a cell: a list or a dict that may change -/
inductive T where
  | non | bl (b : Bool) | int (i : Int) | str (x : Str) | ty (n : String) | tup (ts : List T) | lst (ts : List T) | frz (ts : List T) | rng (n : Nat) | cell (k : Nat)
  /-- a def or a class of the module, by its name -/
  | glb (x : Str)
  /-- an error: its class, its attributes -/
  | exc (x : Str) (ks : List Str) (ts : List T)
  /-- a dict that stays as it is -/
  | dct (ks : List Key) (ts : List T)
inductive Cell where
  | lst (ts : List T) | dic (kvs : List (Key × T)) | dit (kvs : List (List Key × T))
  /-- an instance: its class, its attributes -/
  | obj (x : Str) (ks : List Str) (ts : List T)
abbrev World := List Cell
abbrev Env := List (Option T)
inductive R (α : Type) where
  | ok (a : α) (w : World)
  /-- an error t is raised, where the slots are ρ -/
  | ex (t : T) (ρ : Env) (w : World)
  | no
def R.bind {α β : Type} : R α → (α → World → R β) → R β
  | .ok a w, f => f a w
  | .ex t ρ w, _ => .ex t ρ w
  | .no, _ => .no
theorem bind_ok {α β : Type} {a : α} {w : World} {f : α → World → R β} : (R.ok a w).bind f = f a w := rfl
theorem bind_ex {α β : Type} {t : T} {ρ : Env} {w : World} {f : α → World → R β} : (R.ex t ρ w : R α).bind f = .ex t ρ w := rfl
theorem bind_no {α β : Type} {f : α → World → R β} : (R.no : R α).bind f = .no := rfl

/-- the written part; the tables of code objects, each with the name that its code objects bear -/
abbrev KT := PySem.W.Frag × List (Addr × Str)
/-! ### what a value of the heap stands for -/
/-- what stands at the module's name x -/
def GlbAt (K : PySem.W.Frag) (x : Str) (a : Addr) : Prop := PySem.W.nsIn K mainGlobals x = some (some (.ref a))
theorem GlbAt.inj {K : PySem.W.Frag} {x : Str} {a b : Addr} (h : GlbAt K x a) (h' : GlbAt K x b) : a = b := by
  unfold GlbAt at h h'
  rw [h] at h'
  exact (Value.ref.inj (Option.some.inj (Option.some.inj h')))
/-- an error's object, caught: its class, its dict -/
def ExC (cls : Value) (d : Option Addr) (a : Addr) : HO := .ext fun h => ∃ (oe : Obj) (vs : Array Value), h.get? a = some oe ∧ Zc cls d oe ∧ oe.data = .fields vs
theorem exC_ne {cls : Value} {d : Option Addr} {a : Addr} (ps : Array Value) : ExC cls d a ≠ .tbl ps := fun z => by unfold ExC at z; cases z
theorem exC_ok {P : Program} {w : PySem.World} {H : Hp} {h : Heap} {a : Addr} {cls : Value} {d : Option Addr} {oe : Obj} {vs : Array Value} (e : h.get? a = some oe) (z : Zc cls d oe) (dd : oe.data = .fields vs) : ObjOk P w H h a (ExC cls d a) :=
  ⟨⟨oe, vs, e, z, dd⟩, ⟨oe, e⟩, fun _ _ ⟨o, v, q, r⟩ k => ⟨o, v, k o q, r⟩⟩
/-- a node that stays: its content, apart -/
def NdX (hd φ : List Addr) (H : Hp) (a : Addr) (o : HO) : Prop := H a = some o ∧ a ∉ φ ∧ a ∉ hd
def NdT (hd φ : List Addr) (H : Hp) (a : Addr) (xs : List V) : Prop := H a = some (.tup xs) ∧ a ∉ φ ∧ a ∉ hd
def NdL (hd φ : List Addr) (H : Hp) (a : Addr) (xs : List V) : Prop := H a = some (.lst xs) ∧ a ∉ φ ∧ a ∉ hd
def NdF (K : KT) (hd φ : List Addr) (H : Hp) (a : Addr) (xs : List V) : Prop := (∃ u, H a = some u ∧ (u = .lst xs ∨ ∃ o, u = .frz o (.lst xs)) ∧ a ∉ φ ∧ a ∉ hd) ∨ SqL K.1 (fun _ => none) a xs
mutual
def Rep (K : KT) (hd φ : List Addr) (H : Hp) : T → V → Prop
  | .non, v => v = .non
  | .bl b, v => v = .bl b
  | .int i, v => v = .int i
  | .str x, v => v = .str x
  | .ty n, v => v = .ty n
  | .tup ts, v => ∃ a xs, v = .ref a ∧ NdT hd φ H a xs ∧ Reps K hd φ H ts xs
  | .lst ts, v => ∃ a xs, v = .ref a ∧ NdL hd φ H a xs ∧ Reps K hd φ H ts xs
  | .frz ts, v => ∃ a xs, v = .ref a ∧ NdF K hd φ H a xs ∧ Reps K hd φ H ts xs
  | .rng n, v => ∃ a, v = .ref a ∧ H a = some (.rng 0 n) ∧ a ∉ φ ∧ a ∉ hd
  | .cell k, v => ∃ a, v = .ref a ∧ φ[k]? = some a
  | .glb x, v => ∃ a, v = .ref a ∧ GlbAt K.1 x a
  | .exc x ks ts, v => ∃ a C d, v = .ref a ∧ GlbAt K.1 x C ∧ NdX hd φ H a (ExC (.ref C) d a) ∧
      ((ks = [] ∧ ts = [] ∧ d = none) ∨ ∃ dd vs, d = some dd ∧ (ks ≠ [] ∧ ks.length = ts.length) ∧ NdX hd φ H dd (.xd (ks.zip vs)) ∧ Reps K hd φ H ts vs)
  | .dct ks ts, v => ∃ a vs, v = .ref a ∧ ks.length = ts.length ∧ NdX hd φ H a (.dK (ks.zip vs)) ∧ Reps K hd φ H ts vs
def Reps (K : KT) (hd φ : List Addr) (H : Hp) : List T → List V → Prop
  | [], xs => xs = []
  | t :: ts, xs => ∃ x r, xs = x :: r ∧ Rep K hd φ H t x ∧ Reps K hd φ H ts r
end
section
variable {K : KT} {hd hd' φ φ' : List Addr} {H H' : Hp} {t : T} {v : V} {ts us : List T} {xs ys : List V}
theorem Reps.iff : ∀ {ts : List T} {xs : List V}, Reps K hd φ H ts xs ↔ ts.length = xs.length ∧ ∀ (i : Nat) t x, ts[i]? = some t → xs[i]? = some x → Rep K hd φ H t x
  | [], xs => by
    unfold Reps
    constructor
    · rintro rfl; exact ⟨rfl, fun i t x h => by simp at h⟩
    · rintro ⟨h, _⟩; exact List.eq_nil_of_length_eq_zero h.symm
  | t :: ts, xs => by
    unfold Reps
    constructor
    · rintro ⟨x, r, rfl, h1, h2⟩
      obtain ⟨l, h2⟩ := Reps.iff.mp h2
      refine ⟨by simp [l], fun i u y hu hy => ?_⟩
      cases i with
      | zero => simp at hu hy; subst hu hy; exact h1
      | succ i => exact h2 i u y (by simpa using hu) (by simpa using hy)
    · rintro ⟨l, h⟩
      cases xs with
      | nil => simp at l
      | cons x r =>
        refine ⟨x, r, rfl, h 0 t x rfl rfl, Reps.iff.mpr ⟨by simpa using l, fun i u y hu hy => h (i + 1) u y (by simpa using hu) (by simpa using hy)⟩⟩
theorem Reps.len (h : Reps K hd φ H ts xs) : ts.length = xs.length := (Reps.iff.mp h).1
theorem Reps.at (h : Reps K hd φ H ts xs) {i : Nat} (ht : ts[i]? = some t) : ∃ x, xs[i]? = some x ∧ Rep K hd φ H t x := by
  obtain ⟨l, g⟩ := Reps.iff.mp h
  have hi : i < xs.length := by rw [← l]; exact (List.getElem?_eq_some_iff.mp ht).1
  exact ⟨xs[i], by simp [hi], g i t _ ht (by simp [hi])⟩
theorem Reps.at' (h : Reps K hd φ H ts xs) {i : Nat} {x : V} (hx : xs[i]? = some x) : ∃ t, ts[i]? = some t ∧ Rep K hd φ H t x := by
  obtain ⟨l, g⟩ := Reps.iff.mp h
  have hi : i < ts.length := by rw [l]; exact (List.getElem?_eq_some_iff.mp hx).1
  exact ⟨ts[i], by simp [hi], g i _ x (by simp [hi]) hx⟩
theorem Reps.cons (h1 : Rep K hd φ H t v) (h2 : Reps K hd φ H ts xs) : Reps K hd φ H (t :: ts) (v :: xs) := by unfold Reps; exact ⟨v, xs, rfl, h1, h2⟩
theorem Reps.nil : Reps K hd φ H [] [] := by unfold Reps; rfl
theorem Reps.append (h1 : Reps K hd φ H ts xs) (h2 : Reps K hd φ H us ys) : Reps K hd φ H (ts ++ us) (xs ++ ys) := by
  induction ts generalizing xs with
  | nil => unfold Reps at h1; subst h1; exact h2
  | cons t ts ih =>
    unfold Reps at h1
    obtain ⟨x, r, rfl, a, b⟩ := h1
    exact Reps.cons a (ih b)
theorem Reps.take (h : Reps K hd φ H ts xs) (n : Nat) : Reps K hd φ H (ts.take n) (xs.take n) := by
  obtain ⟨l, g⟩ := Reps.iff.mp h
  refine Reps.iff.mpr ⟨by simp [l], fun i t x h1 h2 => ?_⟩
  rw [List.getElem?_take] at h1 h2
  split at h1
  · rename_i hi
    rw [if_pos hi] at h2
    exact g i t x h1 h2
  · cases h1
theorem Reps.drop (h : Reps K hd φ H ts xs) (n : Nat) : Reps K hd φ H (ts.drop n) (xs.drop n) := by
  obtain ⟨l, g⟩ := Reps.iff.mp h
  refine Reps.iff.mpr ⟨by simp [l], fun i t x h1 h2 => ?_⟩
  rw [List.getElem?_drop] at h1 h2
  exact g _ t x h1 h2
theorem Reps.set (h : Reps K hd φ H ts xs) (r : Rep K hd φ H t v) (n : Nat) : Reps K hd φ H (ts.set n t) (xs.set n v) := by
  obtain ⟨l, g⟩ := Reps.iff.mp h
  refine Reps.iff.mpr ⟨by simp [l], fun i u x h1 h2 => ?_⟩
  rw [List.getElem?_set] at h1 h2
  split at h1
  · rename_i hi
    rw [if_pos hi] at h2
    split at h1
    · rename_i hn
      rw [if_pos (by omega)] at h2
      cases h1; cases h2; exact r
    · cases h1
  · rename_i hi
    rw [if_neg hi] at h2
    exact g i u x h1 h2
theorem Reps.eraseIdx (h : Reps K hd φ H ts xs) (n : Nat) : Reps K hd φ H (ts.eraseIdx n) (xs.eraseIdx n) := by
  rw [List.eraseIdx_eq_take_drop_succ, List.eraseIdx_eq_take_drop_succ]
  exact (h.take n).append (h.drop (n + 1))
theorem Reps.rep (h : Rep K hd φ H t v) (n : Nat) : Reps K hd φ H (List.replicate n t) (List.replicate n v) :=
  Reps.iff.mpr ⟨by simp, fun i u x h1 h2 => by
    rw [List.getElem?_replicate] at h1 h2
    split at h1
    · rename_i hi
      rw [if_pos hi] at h2
      cases h1; cases h2; exact h
    · cases h1⟩
theorem Reps.flat (h : Reps K hd φ H ts xs) : ∀ n : Nat, Reps K hd φ H (List.replicate n ts).flatten (List.replicate n xs).flatten
  | 0 => Reps.nil
  | n + 1 => by
    rw [List.replicate_succ, List.replicate_succ, List.flatten_cons, List.flatten_cons]
    exact h.append (Reps.flat h n)

/-- from one heap to a later one: cells may have come, more may be held apart, tracked objects that are no cells are as they were -/
structure Ext (hd φ : List Addr) (H : Hp) (hd' φ' : List Addr) (H' : Hp) : Prop where
  pre : ∃ more, φ' = φ ++ more ∧ ∀ p ∈ more, Fr0 H p
  held : ∀ a ∈ hd', a ∈ hd ∨ Fr0 H a
  keep : ∀ b o, H b = some o → b ∉ φ → (∀ ps, o ≠ .tbl ps) → H' b = some o
  there : ∀ b o, H b = some o → (∀ ps, o ≠ .tbl ps) → ∃ o', H' b = some o' ∧ ∀ ps, o' ≠ .tbl ps
theorem Ext.refl : Ext hd φ H hd φ H := ⟨⟨[], by simp, fun _ h => by simp at h⟩, fun _ h => .inl h, fun _ _ h _ _ => h, fun _ o h n => ⟨o, h, n⟩⟩
theorem Ext.fresh (e : Ext hd φ H hd' φ' H') {p : Addr} (h : Fr0 H' p) : Fr0 H p := fun o q => by
  cases o with
  | tbl ps => exact ⟨ps, rfl⟩
  | _ =>
    obtain ⟨o', h', n⟩ := e.there p _ q (fun _ z => nomatch z)
    obtain ⟨ps, rfl⟩ := h o' h'
    exact absurd rfl (n ps)
theorem fr0_not {p : Addr} {o : HO} (h : Fr0 H p) (q : H p = some o) (n : ∀ ps, o ≠ .tbl ps) : False := by
  obtain ⟨ps, rfl⟩ := h o q
  exact n ps rfl
theorem Ext.nin (e : Ext hd φ H hd' φ' H') {b : Addr} {o : HO} (h : H b = some o) (hn : b ∉ φ) (ht : ∀ ps, o ≠ .tbl ps) : b ∉ φ' := by
  obtain ⟨m, rfl, n⟩ := e.pre
  rw [List.mem_append]
  rintro (z | z)
  · exact hn z
  · exact fr0_not (n b z) h ht
theorem Ext.nhd (e : Ext hd φ H hd' φ' H') {b : Addr} {o : HO} (h : H b = some o) (hn : b ∉ hd) (ht : ∀ ps, o ≠ .tbl ps) : b ∉ hd' := fun z => by
  rcases e.held b z with z | z
  · exact hn z
  · exact fr0_not z h ht
theorem Ext.trans {hd1 hd2 φ1 φ2 : List Addr} {H1 H2 : Hp} (a : Ext hd φ H hd1 φ1 H1) (b : Ext hd1 φ1 H1 hd2 φ2 H2) : Ext hd φ H hd2 φ2 H2 := by
  refine ⟨?_, fun c hc => ?_, fun c o hc hn ht => b.keep c o (a.keep c o hc hn ht) (a.nin hc hn ht) ht, fun c o hc hn => ?_⟩
  · obtain ⟨m1, e1, n1⟩ := a.pre
    obtain ⟨m2, e2, n2⟩ := b.pre
    refine ⟨m1 ++ m2, by rw [e2, e1, List.append_assoc], fun p hp => ?_⟩
    rcases List.mem_append.mp hp with z | z
    · exact n1 p z
    · exact a.fresh (n2 p z)
  · rcases b.held c hc with z | z
    · exact a.held c z
    · exact .inr (a.fresh z)
  · obtain ⟨o', h', n'⟩ := a.there c o hc hn
    exact b.there c o' h' n'
/-- a new object beside -/
theorem Ext.new {p : Addr} {o : HO} (h : H p = none) : Ext hd φ H hd φ (upd H p o) :=
  ⟨⟨[], by simp, fun _ h => by simp at h⟩, fun _ h => .inl h, fun b u hb _ _ => by rw [upd_ne (ne_of_none hb h)]; exact hb, fun b u hb n => ⟨u, by rw [upd_ne (ne_of_none hb h)]; exact hb, n⟩⟩
/-- a cell is written -/
theorem Ext.write {p : Addr} {o : HO} (h : p ∈ φ) (ho : ∀ ps, o ≠ .tbl ps := by exact fun _ z => nomatch z) : Ext hd φ H hd φ (upd H p o) :=
  ⟨⟨[], by simp, fun _ h => by simp at h⟩, fun _ h => .inl h, fun b u hb hn _ => by rw [upd_ne (fun (e : b = p) => hn (by rw [e]; exact h))]; exact hb, fun b u hb n => by
    by_cases e : b = p
    · subst e; exact ⟨o, upd_same, ho⟩
    · exact ⟨u, by rw [upd_ne e]; exact hb, n⟩⟩
/-- what was made becomes a cell -/
theorem Ext.cell {p : Addr} (e : Ext hd φ H (p :: hd') φ' H') (h : Fr0 H p) : Ext hd φ H hd' (φ' ++ [p]) H' := by
  obtain ⟨m, rfl, n⟩ := e.pre
  exact ⟨⟨m ++ [p], by rw [List.append_assoc], fun q hq => by
    rcases List.mem_append.mp hq with z | z
    · exact n q z
    · rw [List.mem_singleton.mp z]; exact h⟩, fun a ha => e.held a (List.mem_cons_of_mem _ ha), e.keep, e.there⟩
/-- a new object, held apart -/
theorem Ext.hold {p : Addr} {o : HO} (h : H p = none) : Ext hd φ H (p :: hd) φ (upd H p o) :=
  ⟨⟨[], by simp, fun _ h => by simp at h⟩, fun a ha => (List.mem_cons.mp ha).elim (fun e => .inr (by rw [e]; exact fr0_none h)) .inl, (Ext.new (hd := hd) (φ := φ) (o := o) h).keep, (Ext.new (hd := hd) (φ := φ) (o := o) h).there⟩
theorem Ext.free {p : Addr} (e : Ext hd φ H (p :: hd') φ' H') : Ext hd φ H hd' φ' H' := ⟨e.pre, fun a ha => e.held a (List.mem_cons_of_mem _ ha), e.keep, e.there⟩
/-- tables alone have changed -/
theorem Ext.tables (e : LamX.ExtN H H') : Ext hd φ H hd φ H' := ⟨⟨[], by simp, fun _ h => by simp at h⟩, fun _ h => .inl h, fun b o hb _ n => e b o hb n, fun b o hb n => ⟨o, e b o hb n, n⟩⟩

theorem NdX.mono {a : Addr} {o : HO} (e : Ext hd φ H hd' φ' H') (n : ∀ ps, o ≠ .tbl ps) (h : NdX hd φ H a o) : NdX hd' φ' H' a o := ⟨e.keep _ _ h.1 h.2.1 n, e.nin h.1 h.2.1 n, e.nhd h.1 h.2.2 n⟩
theorem NdT.mono {a : Addr} (e : Ext hd φ H hd' φ' H') (h : NdT hd φ H a xs) : NdT hd' φ' H' a xs := ⟨e.keep _ _ h.1 h.2.1 (fun _ z => nomatch z), e.nin h.1 h.2.1 (fun _ z => nomatch z), e.nhd h.1 h.2.2 (fun _ z => nomatch z)⟩
theorem NdL.mono {a : Addr} (e : Ext hd φ H hd' φ' H') (h : NdL hd φ H a xs) : NdL hd' φ' H' a xs := ⟨e.keep _ _ h.1 h.2.1 (fun _ z => nomatch z), e.nin h.1 h.2.1 (fun _ z => nomatch z), e.nhd h.1 h.2.2 (fun _ z => nomatch z)⟩
theorem NdF.mono {a : Addr} (e : Ext hd φ H hd' φ' H') (h : NdF K hd φ H a xs) : NdF K hd' φ' H' a xs := by
  rcases h with ⟨o, h, z, h2, h3⟩ | h
  · have nt : ∀ ps, o ≠ .tbl ps := by rcases z with rfl | ⟨u, rfl⟩ <;> exact fun _ z => nomatch z
    exact .inl ⟨o, e.keep _ _ h h2 nt, z, e.nin h h2 nt, e.nhd h h3 nt⟩
  · exact .inr h
mutual
theorem Rep.mono (e : Ext hd φ H hd' φ' H') : ∀ {t : T} {v : V}, Rep K hd φ H t v → Rep K hd' φ' H' t v
  | .non, _, h => h
  | .bl _, _, h => h
  | .int _, _, h => h
  | .str _, _, h => h
  | .ty _, _, h => h
  | .tup ts, v, h => by
    unfold Rep at h ⊢
    obtain ⟨a, xs, e1, n, r⟩ := h
    exact ⟨a, xs, e1, n.mono e, Reps.mono e r⟩
  | .lst ts, v, h => by
    unfold Rep at h ⊢
    obtain ⟨a, xs, e1, n, r⟩ := h
    exact ⟨a, xs, e1, n.mono e, Reps.mono e r⟩
  | .frz ts, v, h => by
    unfold Rep at h ⊢
    obtain ⟨a, xs, e1, n, r⟩ := h
    exact ⟨a, xs, e1, n.mono e, Reps.mono e r⟩
  | .rng n, v, h => by
    unfold Rep at h ⊢
    obtain ⟨a, e1, h1, h2, h3⟩ := h
    exact ⟨a, e1, e.keep _ _ h1 h2 (fun _ z => nomatch z), e.nin h1 h2 (fun _ z => nomatch z), e.nhd h1 h3 (fun _ z => nomatch z)⟩
  | .cell k, v, h => by
    unfold Rep at h ⊢
    obtain ⟨a, e1, hk⟩ := h
    obtain ⟨m, rfl, _⟩ := e.pre
    exact ⟨a, e1, by rw [List.getElem?_append_left (List.getElem?_eq_some_iff.mp hk).1]; exact hk⟩
  | .glb x, v, h => by unfold Rep at h ⊢; exact h
  | .exc x ks ts, v, h => by
    unfold Rep at h ⊢
    obtain ⟨a, C, d, e1, g, n, q⟩ := h
    refine ⟨a, C, d, e1, g, n.mono e exC_ne, ?_⟩
    rcases q with q | ⟨dd, vs, e2, l, n2, r⟩
    · exact .inl q
    · exact .inr ⟨dd, vs, e2, l, n2.mono e (fun _ z => nomatch z), Reps.mono e r⟩
  | .dct ks ts, v, h => by
    unfold Rep at h ⊢
    obtain ⟨a, vs, e1, l, n, r⟩ := h
    exact ⟨a, vs, e1, l, n.mono e (fun _ z => nomatch z), Reps.mono e r⟩
theorem Reps.mono (e : Ext hd φ H hd' φ' H') : ∀ {ts : List T} {xs : List V}, Reps K hd φ H ts xs → Reps K hd' φ' H' ts xs
  | [], _, h => by unfold Reps at h ⊢; exact h
  | t :: ts, _, h => by
    unfold Reps at h ⊢
    obtain ⟨x, r, e1, a, b⟩ := h
    exact ⟨x, r, e1, Rep.mono e a, Reps.mono e b⟩
end
/-! how what is held apart changes: a node is outside of what is held afterwards -/
mutual
theorem Rep.held (g : ∀ a o, H a = some o → a ∉ φ → a ∉ hd → a ∉ φ' ∧ a ∉ hd') (c : ∀ (k : Nat) (a : Addr), φ[k]? = some a → φ'[k]? = some a) : ∀ {t : T} {v : V}, Rep K hd φ H t v → Rep K hd' φ' H t v
  | .non, _, h => h
  | .bl _, _, h => h
  | .int _, _, h => h
  | .str _, _, h => h
  | .ty _, _, h => h
  | .tup ts, v, h => by
    unfold Rep at h ⊢
    obtain ⟨a, xs, e1, ⟨n1, n2, n3⟩, r⟩ := h
    exact ⟨a, xs, e1, ⟨n1, g a _ n1 n2 n3⟩, Reps.held g c r⟩
  | .lst ts, v, h => by
    unfold Rep at h ⊢
    obtain ⟨a, xs, e1, ⟨n1, n2, n3⟩, r⟩ := h
    exact ⟨a, xs, e1, ⟨n1, g a _ n1 n2 n3⟩, Reps.held g c r⟩
  | .frz ts, v, h => by
    unfold Rep at h ⊢
    obtain ⟨a, xs, e1, n, r⟩ := h
    refine ⟨a, xs, e1, ?_, Reps.held g c r⟩
    rcases n with ⟨o, n1, z, n2, n3⟩ | n
    · exact .inl ⟨o, n1, z, g a _ n1 n2 n3⟩
    · exact .inr n
  | .rng n, v, h => by
    unfold Rep at h ⊢
    obtain ⟨a, e1, h1, h2, h3⟩ := h
    exact ⟨a, e1, h1, g a _ h1 h2 h3⟩
  | .cell k, v, h => by
    unfold Rep at h ⊢
    obtain ⟨a, e1, hk⟩ := h
    exact ⟨a, e1, c k a hk⟩
  | .glb x, v, h => by unfold Rep at h ⊢; exact h
  | .exc x ks ts, v, h => by
    unfold Rep at h ⊢
    obtain ⟨a, C, d, e1, gl, ⟨n1, n2, n3⟩, q⟩ := h
    refine ⟨a, C, d, e1, gl, ⟨n1, g a _ n1 n2 n3⟩, ?_⟩
    rcases q with q | ⟨dd, vs, e2, l, ⟨m1, m2, m3⟩, r⟩
    · exact .inl q
    · exact .inr ⟨dd, vs, e2, l, ⟨m1, g dd _ m1 m2 m3⟩, Reps.held g c r⟩
  | .dct ks ts, v, h => by
    unfold Rep at h ⊢
    obtain ⟨a, vs, e1, l, ⟨n1, n2, n3⟩, r⟩ := h
    exact ⟨a, vs, e1, l, ⟨n1, g a _ n1 n2 n3⟩, Reps.held g c r⟩
theorem Reps.held (g : ∀ a o, H a = some o → a ∉ φ → a ∉ hd → a ∉ φ' ∧ a ∉ hd') (c : ∀ (k : Nat) (a : Addr), φ[k]? = some a → φ'[k]? = some a) : ∀ {ts : List T} {xs : List V}, Reps K hd φ H ts xs → Reps K hd' φ' H ts xs
  | [], _, h => by unfold Reps at h ⊢; exact h
  | t :: ts, _, h => by
    unfold Reps at h ⊢
    obtain ⟨x, r, e1, a, b⟩ := h
    exact ⟨x, r, e1, Rep.held g c a, Reps.held g c b⟩
end

/-! ### the world -/
def CellR (K : KT) (hd φ : List Addr) (H : Hp) : Cell → Addr → Prop
  | .lst ts, a => ∃ xs, H a = some (.lst xs) ∧ Reps K hd φ H ts xs
  | .dic kvs, a => ∃ ys, H a = some (.dK ys) ∧ ys.map (·.1) = kvs.map (·.1) ∧ Reps K hd φ H (kvs.map (·.2)) (ys.map (·.2))
  | .dit kvs, a => ∃ ys, H a = some (.dT ys) ∧ ys.map (·.1) = kvs.map (·.1) ∧ Reps K hd φ H (kvs.map (·.2)) (ys.map (·.2))
  | .obj x ks ts, a => ∃ C dx vs, H a = some (.ins C dx (ks.zip vs)) ∧ GlbAt K.1 x C ∧ ks.length = ts.length ∧ NdX hd φ H dx (.own a) ∧ Reps K hd φ H ts vs
structure WR (K : KT) (hd φ : List Addr) (H : Hp) (w : World) : Prop where
  len : φ.length = w.length
  nd : φ.Nodup
  apart : ∀ a ∈ φ, a ∉ hd
  there : ∀ a, a ∈ φ ∨ a ∈ hd → ∃ o, H a = some o ∧ ∀ ps, o ≠ .tbl ps
  cells : ∀ (k : Nat) c a, w[k]? = some c → φ[k]? = some a → CellR K hd φ H c a
  tabs : LamX.Tabs K.2 H
theorem CellR.mono {c : Cell} {a : Addr} (e : Ext hd φ H hd' φ' H') (ha : H' a = H a) (h : CellR K hd φ H c a) : CellR K hd' φ' H' c a := by
  cases c with
  | lst ts => obtain ⟨xs, h1, h2⟩ := h; exact ⟨xs, ha.trans h1, h2.mono e⟩
  | dic kvs => obtain ⟨ys, h1, h2, h3⟩ := h; exact ⟨ys, ha.trans h1, h2, h3.mono e⟩
  | dit kvs => obtain ⟨ys, h1, h2, h3⟩ := h; exact ⟨ys, ha.trans h1, h2, h3.mono e⟩
  | obj x ks ts => obtain ⟨C, dx, vs, h1, h2, h3, h4, h5⟩ := h; exact ⟨C, dx, vs, ha.trans h1, h2, h3, h4.mono e (fun _ z => nomatch z), h5.mono e⟩
theorem CellR.held {c : Cell} {a : Addr} (g : ∀ a o, H a = some o → a ∉ φ → a ∉ hd → a ∉ φ' ∧ a ∉ hd') (l : ∀ (k : Nat) (a : Addr), φ[k]? = some a → φ'[k]? = some a) (h : CellR K hd φ H c a) : CellR K hd' φ' H c a := by
  cases c with
  | lst ts => obtain ⟨xs, h1, h2⟩ := h; exact ⟨xs, h1, h2.held g l⟩
  | dic kvs => obtain ⟨ys, h1, h2, h3⟩ := h; exact ⟨ys, h1, h2, h3.held g l⟩
  | dit kvs => obtain ⟨ys, h1, h2, h3⟩ := h; exact ⟨ys, h1, h2, h3.held g l⟩
  | obj x ks ts => obtain ⟨C, dx, vs, h1, h2, h3, ⟨n1, n2, n3⟩, h5⟩ := h; exact ⟨C, dx, vs, h1, h2, h3, ⟨n1, g dx _ n1 n2 n3⟩, h5.held g l⟩
/-- what no table is -/
def Plain : HO → Prop
  | .tbl _ => False
  | .ext _ => False
  | _ => True
theorem CellR.plain {c : Cell} {a : Addr} (h : CellR K hd φ H c a) : ∃ o, H a = some o ∧ Plain o := by
  cases c with
  | lst ts => obtain ⟨xs, h1, _⟩ := h; exact ⟨_, h1, trivial⟩
  | dic kvs => obtain ⟨ys, h1, _⟩ := h; exact ⟨_, h1, trivial⟩
  | dit kvs => obtain ⟨ys, h1, _⟩ := h; exact ⟨_, h1, trivial⟩
  | obj x ks ts => obtain ⟨C, dx, vs, h1, _⟩ := h; exact ⟨_, h1, trivial⟩
/-- tables stay where a plain thing is written -/
theorem tabs_upd {Z : List (Addr × Str)} {p : Addr} {o : HO} (t : LamX.Tabs Z H) (h : ∀ u, H p = some u → Plain u) : LamX.Tabs Z (upd H p o) := fun q hq => by
  obtain ⟨ps, h1, h2, h3⟩ := t q hq
  have ne : ∀ b u, H b = some u → ¬ Plain u → b ≠ p := fun b u e n z => by subst z; exact n (h u e)
  refine ⟨ps, by rw [upd_ne (ne _ _ h1 (fun z => z))]; exact h1, h2, fun pos cv hc => ?_⟩
  obtain ⟨c, e1, e2⟩ := h3 pos cv hc
  exact ⟨c, e1, by rw [upd_ne (ne _ _ e2 (by unfold LamX.CodeO; exact fun z => z))]; exact e2⟩
theorem tabs_new {Z : List (Addr × Str)} {p : Addr} {o : HO} (t : LamX.Tabs Z H) (h : H p = none) : LamX.Tabs Z (upd H p o) := tabs_upd t fun u e => by rw [h] at e; cases e
theorem WR.plain {w : World} {k : Nat} {a : Addr} (h : WR K hd φ H w) (hk : φ[k]? = some a) : ∃ o, H a = some o ∧ Plain o := by
  have hl := (List.getElem?_eq_some_iff.mp hk).1
  rw [h.len] at hl
  exact (h.cells k w[k] a (by simp [hl]) hk).plain
variable {w w' : World} {p : Addr} {o : HO}
theorem WR.nin0 (h : WR K hd φ H w) (n : Fr0 H p) : p ∉ φ ∧ p ∉ hd := by
  constructor <;> intro z
  · obtain ⟨o, e, t⟩ := h.there p (.inl z); exact fr0_not n e t
  · obtain ⟨o, e, t⟩ := h.there p (.inr z); exact fr0_not n e t
theorem WR.nin (h : WR K hd φ H w) (n : H p = none) : p ∉ φ ∧ p ∉ hd := h.nin0 (fr0_none n)
theorem WR.new (h : WR K hd φ H w) (n : H p = none) : WR K hd φ (upd H p o) w := by
  refine ⟨h.len, h.nd, h.apart, fun a ha => ?_, fun k c a h1 h2 => (h.cells k c a h1 h2).mono (Ext.new n) ?_, tabs_new h.tabs n⟩
  · obtain ⟨u, e, t⟩ := h.there a ha
    exact (Ext.new (hd := hd) (φ := φ) n).there a u e t
  · rw [upd_ne]
    rintro rfl
    exact (h.nin n).1 (List.mem_of_getElem? h2)
/-- p is held apart from now on: nothing refers to it -/
theorem WR.hold (h : WR K hd φ H w) (n : H p = none) (ho : ∀ ps, o ≠ .tbl ps := by exact fun _ z => nomatch z) : WR K (p :: hd) φ (upd H p o) w := by
  refine ⟨h.len, h.nd, fun a ha => ?_, fun a ha => ?_, fun k c a h1 h2 => (h.cells k c a h1 h2).mono (Ext.hold n) ?_, tabs_new h.tabs n⟩
  · rw [List.mem_cons]
    rintro (rfl | z)
    · exact (h.nin n).1 ha
    · exact h.apart a ha z
  · rw [List.mem_cons] at ha
    by_cases e : a = p
    · subst e; exact ⟨o, upd_same, ho⟩
    · obtain ⟨u, q, t⟩ := h.there a (by rcases ha with z | z | z; exact .inl z; exact absurd z e; exact .inr z)
      exact ⟨u, by rw [upd_ne e]; exact q, t⟩
  · rw [upd_ne]
    rintro rfl
    exact (h.nin n).1 (List.mem_of_getElem? h2)
/-- p is not held any more -/
theorem Rep.free (h : Rep K (p :: hd) φ H t v) : Rep K hd φ H t v := h.held (fun _ _ _ h1 h2 => ⟨h1, fun z => h2 (List.mem_cons_of_mem _ z)⟩) fun _ _ z => z
theorem Reps.free (h : Reps K (p :: hd) φ H ts xs) : Reps K hd φ H ts xs := h.held (fun _ _ _ h1 h2 => ⟨h1, fun z => h2 (List.mem_cons_of_mem _ z)⟩) fun _ _ z => z
theorem WR.free (h : WR K (p :: hd) φ H w) : WR K hd φ H w :=
  ⟨h.len, h.nd, fun a ha z => h.apart a ha (List.mem_cons_of_mem _ z), fun a ha => h.there a (ha.imp id (List.mem_cons_of_mem _)), fun k c a h1 h2 => (h.cells k c a h1 h2).held (fun _ _ _ h1 h2 => ⟨h1, fun z => h2 (List.mem_cons_of_mem _ z)⟩) fun _ _ z => z, h.tabs⟩
/-- what is held becomes a cell -/
theorem cell_g : ∀ a o, H a = some o → a ∉ φ → a ∉ p :: hd → a ∉ φ ++ [p] ∧ a ∉ hd := fun a o _ h1 h2 => by
  rw [List.mem_append, List.mem_singleton, List.mem_cons] at *
  exact ⟨fun z => z.elim h1 fun e => h2 (.inl e), fun z => h2 (.inr z)⟩
theorem cell_l : ∀ (k : Nat) (a : Addr), φ[k]? = some a → (φ ++ [p])[k]? = some a := fun k a h => by
  rw [List.getElem?_append_left (List.getElem?_eq_some_iff.mp h).1]; exact h
theorem Rep.cell (h : Rep K (p :: hd) φ H t v) : Rep K hd (φ ++ [p]) H t v := h.held cell_g cell_l
theorem Reps.cell (h : Reps K (p :: hd) φ H ts xs) : Reps K hd (φ ++ [p]) H ts xs := h.held cell_g cell_l
theorem WR.cell {c : Cell} (h : WR K (p :: hd) φ H w) (hp : p ∉ hd) (hc : CellR K (p :: hd) φ H c p) : WR K hd (φ ++ [p]) H (w ++ [c]) := by
  have np : p ∉ φ := fun z => h.apart p z List.mem_cons_self
  refine ⟨by simp [h.len], ?_, fun a ha => ?_, fun a ha => ?_, fun k c' a h1 h2 => ?_, h.tabs⟩
  · rw [List.nodup_append]
    exact ⟨h.nd, by simp, fun a ha b hb => by rw [List.mem_singleton.mp hb]; rintro rfl; exact np ha⟩
  · rcases List.mem_append.mp ha with z | z
    · exact fun q => h.apart a z (List.mem_cons_of_mem _ q)
    · rw [List.mem_singleton.mp z]; exact hp
  · refine h.there a ?_
    rcases ha with z | z
    · rcases List.mem_append.mp z with z | z
      · exact .inl z
      · exact .inr (by rw [List.mem_singleton.mp z]; exact List.mem_cons_self)
    · exact .inr (List.mem_cons_of_mem _ z)
  · by_cases hk : k < w.length
    · rw [List.getElem?_append_left hk] at h1
      rw [List.getElem?_append_left (by rw [h.len]; exact hk)] at h2
      exact (h.cells k c' a h1 h2).held cell_g cell_l
    · have e : k = w.length := by
        have := (List.getElem?_eq_some_iff.mp h1).1
        simp at this; omega
      subst e
      rw [List.getElem?_append_right (Nat.le_refl _)] at h1
      rw [List.getElem?_append_right (by rw [h.len]; exact Nat.le_refl _)] at h2
      simp [h.len] at h1 h2
      subst h1 h2
      exact hc.held cell_g cell_l
/-- a cell is written -/
theorem WR.write {k : Nat} {a : Addr} {c : Cell} (h : WR K hd φ H w) (hk : φ[k]? = some a) (hc : CellR K hd φ (upd H a o) c a) (ho : ∀ ps, o ≠ .tbl ps := by exact fun _ z => nomatch z) : WR K hd φ (upd H a o) (w.set k c) := by
  have ha : a ∈ φ := List.mem_of_getElem? hk
  refine ⟨by simp [h.len], h.nd, h.apart, fun b hb => ?_, fun j c' b h1 h2 => ?_, tabs_upd h.tabs fun u e => ?_⟩
  · obtain ⟨u, e, t⟩ := h.there b hb
    exact (Ext.write (hd := hd) (φ := φ) ha ho).there b u e t
  · rw [List.getElem?_set] at h1
    split at h1
    · rename_i e
      subst e
      rw [hk] at h2; cases h2
      split at h1
      · cases h1; exact hc
      · cases h1
    · rename_i e
      refine (h.cells j c' b h1 h2).mono (Ext.write ha ho) ?_
      rw [upd_ne]
      rintro rfl
      have j1 := (List.getElem?_eq_some_iff.mp hk)
      have j2 := (List.getElem?_eq_some_iff.mp h2)
      obtain ⟨l1, e1⟩ := j1
      obtain ⟨l2, e2⟩ := j2
      exact e ((List.getElem_inj h.nd).mp (e1.trans e2.symm))
  · obtain ⟨v, e', hp⟩ := h.plain hk
    rw [e] at e'
    cases e'
    exact hp
/-- tables alone have changed -/
theorem WR.tables (h : WR K hd φ H w) (e : LamX.ExtN H H') (t : LamX.Tabs K.2 H') : WR K hd φ H' w := by
  refine ⟨h.len, h.nd, h.apart, fun a ha => ?_, fun k c a h1 h2 => ?_, t⟩
  · obtain ⟨o, q, n⟩ := h.there a ha
    exact ⟨o, e a o q n, n⟩
  · obtain ⟨o, q, n⟩ := h.there a (.inl (List.mem_of_getElem? h2))
    exact (h.cells k c a h1 h2).mono (Ext.tables e) ((e a o q n).trans q.symm)
end
end VS

set_option Elab.async false
set_option linter.all false
set_option maxRecDepth 100000
set_option maxHeartbeats 2000000
namespace VS
open PySem PySem.Spec PyProof.Rows L2

structure SR (K : KT) (hd φ : List Addr) (H : Hp) (σ : L2.St) (ρ : Env) : Prop where
  len : σ.length = ρ.length
  get : ∀ (i : Nat) t, ρ[i]? = some (some t) → ∃ v, σ[i]? = some (some v) ∧ Rep K hd φ H t v
section
variable {K : KT} {hd hd' φ φ' : List Addr} {H H' : Hp} {σ : L2.St} {ρ : Env} {t : T} {v : V}
theorem SR.mono (h : SR K hd φ H σ ρ) (e : Ext hd φ H hd' φ' H') : SR K hd' φ' H' σ ρ := ⟨h.len, fun i t ht => by
  obtain ⟨v, h1, h2⟩ := h.get i t ht
  exact ⟨v, h1, h2.mono e⟩⟩
theorem SR.set (h : SR K hd φ H σ ρ) (r : Rep K hd φ H t v) (i : Nat) : SR K hd φ H (σ.set i (some v)) (ρ.set i (some t)) := ⟨by simp [h.len], fun j u hu => by
  rw [List.getElem?_set] at hu
  split at hu
  · rename_i e
    subst e
    split at hu
    · rename_i hi
      cases hu
      exact ⟨v, by rw [List.getElem?_set_self (by rw [h.len]; exact hi)], r⟩
    · cases hu
  · rename_i e
    obtain ⟨x, h1, h2⟩ := h.get j u hu
    exact ⟨x, by rw [List.getElem?_set_ne e]; exact h1, h2⟩⟩
theorem SR.start (h : Reps K hd φ H ts xs) (n : Nat) : SR K hd φ H (xs.map some ++ List.replicate n none) (ts.map some ++ List.replicate n none) := ⟨by simp [h.len], fun i t ht => by
  have hl := h.len
  by_cases hi : i < ts.length
  · rw [List.getElem?_append_left (by simpa using hi)] at ht
    rw [List.getElem?_map, List.getElem?_eq_getElem hi] at ht
    have e : ts[i] = t := by simpa using ht
    obtain ⟨x, h1, h2⟩ := h.at (i := i) (t := t) (by rw [List.getElem?_eq_getElem hi, e])
    refine ⟨x, ?_, h2⟩
    rw [List.getElem?_append_left (by simp; omega), List.getElem?_map, h1]
    rfl
  · rw [List.getElem?_append_right (by simp; omega), List.getElem?_replicate] at ht
    split at ht <;> simp at ht⟩
end

/-! ### what an expression is worth: its reading by a function -/
abbrev ME := Env → World → R T
abbrev MF := Env → World → R (List T)
abbrev MT := Env → World → R Bool
/-- an error in flight, as its class and its dict are told -/
def RepX (K : KT) (hd φ : List Addr) (H : Hp) (t : T) (cls : Value) (d : Option Addr) : Prop :=
  ∃ x ks ts C, t = .exc x ks ts ∧ cls = .ref C ∧ GlbAt K.1 x C ∧ ((ks = [] ∧ ts = [] ∧ d = none) ∨ ∃ dd vs, d = some dd ∧ (ks ≠ [] ∧ ks.length = ts.length) ∧ NdX hd φ H dd (.xd (ks.zip vs)) ∧ Reps K hd φ H ts vs)
/-- behind a run that an error ends: what is wished of it, where it is wished -/
def PstX (K : KT) (W : Option WX) (hd φ : List Addr) (H : Hp) (t : T) (ρ : Env) (w' : World) : Prop := match W with
  | none => False
  | some W => ∀ H' φ' σ', Ext hd φ H hd φ' H' → WR K hd φ' H' w' → SR K hd φ' H' σ' ρ → ∀ cls d, RepX K hd φ' H' t cls d → W cls d σ' H'
theorem PstX.mono {K : KT} {W : Option WX} {hd φ φ1 : List Addr} {H H1 : Hp} {t : T} {ρ : Env} {w : World} (e : Ext hd φ H hd φ1 H1) (p : PstX K W hd φ H t ρ w) : PstX K W hd φ1 H1 t ρ w := by
  cases W with
  | none => exact p
  | some W => intro H' φ' σ' e' wr sr; exact p H' φ' σ' (e.trans e') wr sr
/-- behind a run that ends as r says -/
def Pst {α : Type} (K : KT) (W : Option WX) (hd : List Addr) (C : α → List Addr → Hp → Prop) (φ : List Addr) (H : Hp) : R α → Prop
  | .ok d w' => ∀ H' φ', Ext hd φ H hd φ' H' → WR K hd φ' H' w' → C d φ' H'
  | .ex t ρ w' => PstX K W hd φ H t ρ w'
  | .no => False
/-- a new list, that nothing refers to -/
def PstF (K : KT) (W : Option WX) (hd : List Addr) (Q : VK) (φ : List Addr) (H : Hp) : R (List T) → Prop
  | .ok ds w' => ∀ p xs H' φ', Ext hd φ H (p :: hd) φ' H' → WR K (p :: hd) φ' H' w' → Fr0 H p → p ∉ hd → H' p = some (.lst xs) → Reps K (p :: hd) φ' H' ds xs → Q (.ref p) H'
  | .ex t ρ w' => PstX K W hd φ H t ρ w'
  | .no => False
structure IsPst {α : Type} (K : KT) (W : Option WX) (hd : List Addr) (P : List Addr → Hp → R α → Prop) : Prop where
  mono : ∀ φ H φ1 H1 r, Ext hd φ H hd φ1 H1 → P φ H r → P φ1 H1 r
  no : ∀ φ H, ¬ P φ H .no
  ex : ∀ φ H t ρ w, P φ H (.ex t ρ w) → PstX K W hd φ H t ρ w
theorem isPst {α : Type} {K : KT} {W : Option WX} {hd : List Addr} {C : α → List Addr → Hp → Prop} : IsPst K W hd (Pst K W hd C) where
  mono := fun φ H φ1 H1 r e p => by
    cases r with
    | no => exact p
    | ex t ρ w => exact PstX.mono e p
    | ok d w => intro H' φ' e' wr; exact p H' φ' (e.trans e') wr
  no := fun _ _ h => h
  ex := fun _ _ _ _ _ h => h
theorem isPstF {K : KT} {W : Option WX} {hd : List Addr} {Q : VK} : IsPst K W hd (PstF K W hd Q) where
  mono := fun φ H φ1 H1 r e p => by
    cases r with
    | no => exact p
    | ex t ρ w => exact PstX.mono e p
    | ok d w => intro q xs H' φ' e' wr hn hq hx rs; exact p q xs H' φ' (e.trans e') wr (e.fresh hn) hq hx rs
  no := fun _ _ h => h
  ex := fun _ _ _ _ _ h => h
/-- r, then f -/
theorem Pst.then {α β : Type} {K : KT} {W : Option WX} {hd φ : List Addr} {H : Hp} {C : α → List Addr → Hp → Prop} {P : List Addr → Hp → R β → Prop} {r : R α} {f : α → World → R β} (ip : IsPst K W hd P) (p : P φ H (r.bind f))
    (h : ∀ d w1 φ1 H1, Ext hd φ H hd φ1 H1 → WR K hd φ1 H1 w1 → P φ1 H1 (f d w1) → C d φ1 H1) : Pst K W hd C φ H r := by
  cases r with
  | no => exact (ip.no _ _ p).elim
  | ex t ρ w => exact ip.ex _ _ _ _ _ p
  | ok d w => intro H1 φ1 e wr; exact h d w φ1 H1 e wr (ip.mono _ _ _ _ _ e p)
/-- r as it ends -/
theorem Pst.imp {α : Type} {K : KT} {W : Option WX} {hd φ : List Addr} {H : Hp} {C C' : α → List Addr → Hp → Prop} {r : R α} (p : Pst K W hd C φ H r) (h : ∀ d φ1 H1, Ext hd φ H hd φ1 H1 → C d φ1 H1 → C' d φ1 H1) : Pst K W hd C' φ H r := by
  cases r with
  | no => exact p
  | ex t ρ w => exact p
  | ok d w => intro H1 φ1 e wr; exact h d φ1 H1 e (p H1 φ1 e wr)
theorem Pst.ok {α : Type} {K : KT} {W : Option WX} {hd φ : List Addr} {H : Hp} {C : α → List Addr → Hp → Prop} {d : α} {w : World} (p : Pst K W hd C φ H (.ok d w)) (wr : WR K hd φ H w) : C d φ H := p H φ Ext.refl wr

abbrev CE (K : KT) (hd : List Addr) (Q : VK) : T → List Addr → Hp → Prop := fun d φ' H' => ∀ v, Rep K hd φ' H' d v → Q v H'
abbrev CA (K : KT) (hd : List Addr) (Q : List V → Hp → Prop) : List T → List Addr → Hp → Prop := fun d φ' H' => ∀ v, Reps K hd φ' H' d v → Q v H'
abbrev CT (Q : Bool → Hp → Prop) : Bool → List Addr → Hp → Prop := fun d _ H' => Q d H'
def rdE (K : KT) (W : Option WX) (m : ME) : TE := fun σ H Q => ∃ hd φ ρ w, SR K hd φ H σ ρ ∧ WR K hd φ H w ∧ Pst K W hd (CE K hd Q) φ H (m ρ w)
def rdA (K : KT) (W : Option WX) (m : MF) : TA := fun σ H Q => ∃ hd φ ρ w, SR K hd φ H σ ρ ∧ WR K hd φ H w ∧ Pst K W hd (CA K hd Q) φ H (m ρ w)
def rdT (K : KT) (W : Option WX) (m : MT) : TT := fun σ H Q => ∃ hd φ ρ w, SR K hd φ H σ ρ ∧ WR K hd φ H w ∧ Pst K W hd (CT Q) φ H (m ρ w)
def rdF (K : KT) (W : Option WX) (m : MF) : TE := fun σ H Q => ∃ hd φ ρ w, SR K hd φ H σ ρ ∧ WR K hd φ H w ∧ PstF K W hd Q φ H (m ρ w)
section
variable {X : Cx} {e a b c : Expr} {pos : Pos} {Z : List (Addr × Str)} {W : Option WX}
theorem PE_imp {t t' : TE} (h : PE X e t) (i : ∀ σ H Q, t' σ H Q → t σ H Q) : PE X e t' := ⟨fun pins s σ H Q I q => h.run pins s σ H Q I (i σ H Q q)⟩
theorem PT_imp {t t' : TT} (h : PT X e t) (i : ∀ σ H Q, t' σ H Q → t σ H Q) : PT X e t' := ⟨fun pins s σ H Q I q => h.run pins s σ H Q I (i σ H Q q)⟩
theorem PW_imp {t t' : TT} (h : PW X e t) (i : ∀ σ H Q, t' σ H Q → t σ H Q) : PW X e t' := ⟨fun wh pins s σ H Q I q => h.run wh pins s σ H Q I (i σ H Q q)⟩
theorem PA_imp {es : List Expr} {t t' : TA} (h : PA X es t) (i : ∀ σ H Q, t' σ H Q → t σ H Q) : PA X es t' := ⟨fun po pins s σ H Q I q => h.run po pins s σ H Q I (i σ H Q q)⟩
theorem PS_imp {st : Stmt} {t t' : TS} (h : PS X st t) (i : ∀ D σ H, t' D σ H → t D σ H) : PS X st t' := ⟨fun pins s σ H D I q => h.run pins s σ H D I (i D σ H q)⟩
theorem PSs_imp {st : List Stmt} {t t' : TS} (h : PSs X st t) (i : ∀ D σ H, t' D σ H → t D σ H) : PSs X st t' := ⟨fun pins s σ H D I q => h.run pins s σ H D I (i D σ H q)⟩

/-! ### names, constants -/
def mVar (i : Nat) : ME := fun ρ w => match ρ[i]? with
  | some (some t) => .ok t w
  | _ => .no
def mC (t : T) : ME := fun _ w => .ok t w
theorem de_var (i : Nat) {x : Str} (hN : X.N[i]? = some x := by rfl) (hv : Vis X.env.scope x := by first | exact Or.inl rfl | exact Or.inr (Or.inl rfl) | exact Or.inr (Or.inr rfl)) (hd : (x == ("__debug__" : Str)) = false := by decide)
    (hcd : (x == ("__classdict__" : Str)) = false := by decide) : PE X (.Name x pos) (rdE (X.K, Z) W (mVar i)) := PE_imp (pe_var hN hv hd hcd) fun σ H Q => by
  rintro ⟨hd, φ, ρ, w, sr, wr, p⟩
  unfold mVar at p
  split at p
  · rename_i t ht
    obtain ⟨v, h1, h2⟩ := sr.get i t ht
    exact ⟨v, h1, p.ok wr v h2⟩
  · exact p.elim
theorem de_int {i : Int} {j : Nat} : PE X (.Constant (.int i) j pos) (rdE (X.K, Z) W (mC (.int i))) := PE_imp pe_int fun σ H Q => by
  rintro ⟨hd, φ, ρ, w, sr, wr, p⟩; exact p.ok wr _ (by unfold Rep; rfl)
theorem de_bl {b : Bool} {j : Nat} : PE X (.Constant (.bool b) j pos) (rdE (X.K, Z) W (mC (.bl b))) := PE_imp pe_bl fun σ H Q => by
  rintro ⟨hd, φ, ρ, w, sr, wr, p⟩; exact p.ok wr _ (by unfold Rep; rfl)
theorem de_non {j : Nat} : PE X (.Constant .none j pos) (rdE (X.K, Z) W (mC .non)) := PE_imp pe_non fun σ H Q => by
  rintro ⟨hd, φ, ρ, w, sr, wr, p⟩; exact p.ok wr _ (by unfold Rep; rfl)
theorem de_str {x : Str} {j : Nat} : PE X (.Constant (.str x) j pos) (rdE (X.K, Z) W (mC (.str x))) := PE_imp pe_str fun σ H Q => by
  rintro ⟨hd, φ, ρ, w, sr, wr, p⟩; exact p.ok wr _ (by unfold Rep; rfl)
/-- a constant of the module that is an int -/
theorem de_gint {x : Str} {i : Int} {u : Value} (hm : X.mg x = some u) (r : RelV (.int i) u) (hg : Gl X x := by rfl) (hd : (x == ("__debug__" : Str)) = false := by decide) : PE X (.Name x pos) (rdE (X.K, Z) W (mC (.int i))) := PE_imp (pe_glob hg hm r hd) fun σ H Q => by
  rintro ⟨hd, φ, ρ, w, sr, wr, p⟩; exact p.ok wr _ (by unfold Rep; rfl)
/-- a built-in type by its name -/
theorem de_gty {x : Str} {n : String} (hm : X.mg x = none) (hv : bootBuiltins x = some (.type n)) (hg : Gl X x := by rfl) (hn : x ≠ "__name__" := by decide) (hd : (x == ("__debug__" : Str)) = false := by decide) : PE X (.Name x pos) (rdE (X.K, Z) W (mC (.ty n))) := PE_imp (pe_bltn hg hm hv (v := .ty n) rfl hn hd) fun σ H Q => by
  rintro ⟨hd, φ, ρ, w, sr, wr, p⟩; exact p.ok wr _ (by unfold Rep; rfl)

/-! ### operators: by what they do to values -/
abbrev S2 := T → T → World → R T
def mOp2 (s : S2) (a b : ME) : ME := fun ρ w => (a ρ w).bind fun x w1 => (b ρ w1).bind fun y w2 => s x y w2
/-- what r asks is what s gives -/
def Op2 (K : KT) (s : S2) (r : R2) : Prop := ∀ (W : Option WX) hd φ H w dx dy x y Q, WR K hd φ H w → Rep K hd φ H dx x → Rep K hd φ H dy y → Pst K W hd (CE K hd Q) φ H (s dx dy w) → r x y H Q
theorem Op2.read {K : KT} {W : Option WX} {s : S2} {r : R2} (hs : Op2 K s r) {a b : ME} : ∀ σ H Q, rdE K W (mOp2 s a b) σ H Q → tOp r (rdE K W a) (rdE K W b) σ H Q := fun σ H Q => by
  rintro ⟨hd, φ, ρ, w, sr, wr, p⟩
  refine ⟨hd, φ, ρ, w, sr, wr, Pst.then isPst p fun dx w1 φ1 H1 e1 wr1 p1 x rx => ?_⟩
  refine ⟨hd, φ1, ρ, w1, sr.mono e1, wr1, Pst.then isPst p1 fun dy w2 φ2 H2 e2 wr2 p2 y ry => ?_⟩
  exact hs W hd φ2 H2 w2 dx dy x y Q wr2 (rx.mono e2) ry p2
theorem de_op {op : Operator} {r : R2} {s : S2} {ma mb : ME} (ho : OpR X (binaryOp op) r) (hs : Op2 (X.K, Z) s r) (ha : PE X a (rdE (X.K, Z) W ma)) (hb : PE X b (rdE (X.K, Z) W mb)) : PE X (.BinOp a op b pos) (rdE (X.K, Z) W (mOp2 s ma mb)) := PE_imp (pe_op ho ha hb) hs.read
theorem de_cmp {op : CmpOp} {r : R2} {s : S2} {ma mb : ME} (ho : OpR X (compareOp op) r) (hs : Op2 (X.K, Z) s r) (ha : PE X a (rdE (X.K, Z) W ma)) (hb : PE X b (rdE (X.K, Z) W mb)) (hm : behindInMarks op b = false) : PE X (.Compare a [op] [b] pos) (rdE (X.K, Z) W (mOp2 s ma mb)) := PE_imp (pe_cmpR ho ha hb hm) hs.read
theorem de_ix {r : R2} {s : S2} {ma mb : ME} (ho : IxR X r) (hs : Op2 (X.K, Z) s r) (ha : PE X a (rdE (X.K, Z) W ma)) (hb : PE X b (rdE (X.K, Z) W mb)) (hp : PlainIx b := by exact fun _ _ => rfl) : PE X (.Subscript a b pos) (rdE (X.K, Z) W (mOp2 s ma mb)) := PE_imp (pe_ix ho ha hb hp) hs.read
abbrev S1 := T → World → R T
def mOp1 (s : S1) (a : ME) : ME := fun ρ w => (a ρ w).bind s
def Op1 (K : KT) (s : S1) (r : V → Hp → VK → Prop) : Prop := ∀ (W : Option WX) hd φ H w dx x Q, WR K hd φ H w → Rep K hd φ H dx x → Pst K W hd (CE K hd Q) φ H (s dx w) → r x H Q
theorem de_un {op : UnaryOp} {r : V → Hp → VK → Prop} {s : S1} {ma : ME} (ho : UnR X (unaryOp op) r) (hs : Op1 (X.K, Z) s r) (ha : PE X a (rdE (X.K, Z) W ma)) : PE X (.UnaryOp op a pos) (rdE (X.K, Z) W (mOp1 s ma)) := PE_imp (pe_un ho ha) fun σ H Q => by
  rintro ⟨hd, φ, ρ, w, sr, wr, p⟩
  exact ⟨hd, φ, ρ, w, sr, wr, Pst.then isPst p fun dx w1 φ1 H1 e1 wr1 p1 x rx => hs W hd φ1 H1 w1 dx x Q wr1 rx p1⟩

/-! ### tests -/
/-- a value that is a bool -/
def asB : R T → R Bool := fun r => r.bind fun d w => match d with
  | .bl b => .ok b w
  | _ => .no
def toB : T → World → R Bool := fun d w => match d with
  | .bl b => .ok b w
  | _ => .no
theorem asB_bind {β : Type} {r : R T} {f : Bool → World → R β} : (asB r).bind f = r.bind fun d w => (toB d w).bind f := by cases r <;> rfl
def mTest (m : ME) : MT := fun ρ w => asB (m ρ w)
theorem test_read {K : KT} {W : Option WX} {m : ME} : ∀ σ H Q, rdT K W (mTest m) σ H Q → tTest (rdE K W m) σ H Q := fun σ H Q => by
  rintro ⟨hd, φ, ρ, w, sr, wr, p⟩
  refine ⟨hd, φ, ρ, w, sr, wr, Pst.then isPst p fun d w1 φ1 H1 e1 wr1 p1 v rv => ?_⟩
  cases d with
  | bl b => unfold Rep at rv; exact ⟨b, rv, p1.ok wr1⟩
  | _ => exact p1.elim
theorem dt_cmp {op : CmpOp} {r : R2} {s : S2} {ma mb : ME} (ho : OpR X (compareOp op) r) (hs : Op2 (X.K, Z) s r) (ha : PE X a (rdE (X.K, Z) W ma)) (hb : PE X b (rdE (X.K, Z) W mb)) (hm : behindInMarks op b = false) : PT X (.Compare a [op] [b] pos) (rdT (X.K, Z) W (mTest (mOp2 s ma mb))) :=
  PT_imp (pt_cmpR ho ha hb hm) fun σ H Q h => by
    have h := test_read σ H Q h
    exact hs.read σ H _ h
/-- a op1 b op2 c -/
def mChain (s s' : S2) (a b c : ME) : ME := fun ρ w => (a ρ w).bind fun x w1 => (b ρ w1).bind fun y w2 => (asB (s x y w2)).bind fun k w3 => if k = true then (c ρ w3).bind fun z w4 => s' y z w4 else .ok (.bl false) w3
theorem chain_read {K : KT} {W : Option WX} {s s' : S2} {r r' : R2} (hs : Op2 K s r) (hs' : Op2 K s' r') {a b c : ME} : ∀ σ H Q, rdE K W (mChain s s' a b c) σ H Q → tChain r r' (rdE K W a) (rdE K W b) (rdE K W c) σ H Q := fun σ H Q => by
  rintro ⟨hd, φ, ρ, w, sr, wr, p⟩
  refine ⟨hd, φ, ρ, w, sr, wr, Pst.then isPst p fun dx w1 φ1 H1 e1 wr1 p1 x rx => ?_⟩
  refine ⟨hd, φ1, ρ, w1, sr.mono e1, wr1, Pst.then isPst p1 fun dy w2 φ2 H2 e2 wr2 p2 y ry => ?_⟩
  refine hs W hd φ2 H2 w2 dx dy x y _ wr2 (rx.mono e2) ry ?_
  rw [asB_bind] at p2
  refine Pst.then isPst p2 fun d w3 φ3 H3 e3 wr3 p3 z rz => ?_
  · cases d with
    | bl k =>
      unfold Rep at rz
      refine ⟨k, rz, ?_⟩
      cases k with
      | true =>
        simp only [toB, bind_ok, if_true] at p3; rw [if_pos rfl]
        refine ⟨hd, φ3, ρ, w3, (sr.mono e1).mono (e2.trans e3), wr3, Pst.then isPst p3 fun dz w4 φ4 H4 e4 wr4 p4 z' rz' => ?_⟩
        exact hs' W hd φ4 H4 w4 dy dz y z' Q wr4 (ry.mono (e3.trans e4)) rz' p4
      | false =>
        simp only [toB, bind_ok, Bool.false_eq_true, if_false] at p3; rw [if_neg Bool.false_ne_true]
        exact p3.ok wr3 _ (by unfold Rep; rfl)
    | _ => exact p3.elim
theorem de_chain {op op' : CmpOp} {r r' : R2} {s s' : S2} {ma mb mc : ME} (ho : OpR X (compareOp op) r) (hs : Op2 (X.K, Z) s r) (ho' : OpR X (compareOp op') r') (hs' : Op2 (X.K, Z) s' r') (ha : PE X a (rdE (X.K, Z) W ma)) (hb : PE X b (rdE (X.K, Z) W mb)) (hc : PE X c (rdE (X.K, Z) W mc))
    (hm : lastMarks [op, op'] [b, c] = false := by with_unfolding_all rfl) : PE X (.Compare a [op, op'] [b, c] pos) (rdE (X.K, Z) W (mChain s s' ma mb mc)) := PE_imp (pe_chain ho ho' ha hb hc hm) (chain_read hs hs')
theorem dt_chain {op op' : CmpOp} {r r' : R2} {s s' : S2} {ma mb mc : ME} (ho : OpR X (compareOp op) r) (hs : Op2 (X.K, Z) s r) (ho' : OpR X (compareOp op') r') (hs' : Op2 (X.K, Z) s' r') (ha : PE X a (rdE (X.K, Z) W ma)) (hb : PE X b (rdE (X.K, Z) W mb)) (hc : PE X c (rdE (X.K, Z) W mc))
    (hm : lastMarks [op, op'] [b, c] = false := by with_unfolding_all rfl) : PT X (.Compare a [op, op'] [b, c] pos) (rdT (X.K, Z) W (mTest (mChain s s' ma mb mc))) := PT_imp (pt_chain ho ho' ha hb hc hm) fun σ H Q h => by
    have h := test_read σ H Q h
    exact chain_read hs hs' σ H _ h
/-- a sequence that is read -/
def seq? (w : World) : T → Option (List T)
  | .tup ts => some ts
  | .lst ts => some ts
  | .frz ts => some ts
  | .cell k => match w[k]? with
    | some (.lst ts) => some ts
    | _ => none
  | _ => none
variable {K : KT} {hd φ : List Addr} {H : Hp} {w : World}
theorem cell_at (wr : WR K hd φ H w) {k : Nat} {v : V} {c : Cell} (r : Rep K hd φ H (.cell k) v) (hc : w[k]? = some c) : ∃ a, v = .ref a ∧ φ[k]? = some a ∧ a ∈ φ ∧ CellR K hd φ H c a := by
  unfold Rep at r
  obtain ⟨a, e, hk⟩ := r
  exact ⟨a, e, hk, List.mem_of_getElem? hk, wr.cells k c a hc hk⟩
theorem seq_at (wr : WR K hd φ H w) {t : T} {v : V} {ts : List T} (r : Rep K hd φ H t v) (hs : seq? w t = some ts) : ∃ a xs, v = .ref a ∧ (SqL K.1 H a xs ∨ SqT K.1 H a xs) ∧ Reps K hd φ H ts xs := by
  cases t with
  | tup us =>
    cases hs
    unfold Rep at r
    obtain ⟨a, xs, e, n, rs⟩ := r
    exact ⟨a, xs, e, .inr (SqT.of n.1), rs⟩
  | lst us =>
    cases hs
    unfold Rep at r
    obtain ⟨a, xs, e, n, rs⟩ := r
    exact ⟨a, xs, e, .inl (SqL.of n.1), rs⟩
  | frz us =>
    cases hs
    unfold Rep at r
    obtain ⟨a, xs, e, n, rs⟩ := r
    rcases n with ⟨o, n, rfl | ⟨u, rfl⟩, _⟩ | n
    · exact ⟨a, xs, e, .inl (SqL.of n), rs⟩
    · exact ⟨a, xs, e, .inl (.inl (.inr ⟨u, n⟩)), rs⟩
    · rcases n with (n | ⟨_, n⟩) | n
      · cases n
      · cases n
      · exact ⟨a, xs, e, .inl (.inr n), rs⟩
  | cell k =>
    unfold seq? at hs
    simp only at hs
    split at hs
    · rename_i us hk
      cases hs
      obtain ⟨a, e, hk, _, xs, h1, h2⟩ := cell_at wr r hk
      exact ⟨a, xs, e, .inl (SqL.of h1), h2⟩
    · cases hs
  | _ => cases hs
def isEmp (w : World) : T → Option Bool
  | .cell k => match w[k]? with
    | some (.lst ts) => some ts.isEmpty
    | some (.dic kvs) => some kvs.isEmpty
    | _ => none
  | .dct ks _ => some ks.isEmpty
  | t => (seq? w t).map (·.isEmpty)
/-- a value's truth -/
def sTru : T → World → R Bool := fun t w => match t with
  | .non => .ok false w
  | .bl b => .ok b w
  | .int i => .ok (i != 0) w
  | t => match isEmp w t with
    | some b => .ok (!b) w
    | none => .no
theorem tru_at (wr : WR K hd φ H w) {t : T} {v : V} {b : Bool} {w' : World} (r : Rep K hd φ H t v) (hs : sTru t w = .ok b w') : TruV K.1 v H b ∧ w' = w := by
  have sq : ∀ ts, seq? w t = some ts → TruV K.1 v H (!ts.isEmpty) := fun ts h => by
    obtain ⟨a, xs, rfl, h1, h2⟩ := seq_at wr r h
    have e : ts.isEmpty = xs.isEmpty := by
      have := h2.len
      cases ts <;> cases xs <;> simp_all
    rcases h1 with h1 | h1
    · exact .inl ⟨xs, h1, by rw [e]⟩
    · exact .inr (.inl ⟨xs, h1, by rw [e]⟩)
  cases t with
  | non => unfold Rep at r; subst r; cases hs; exact ⟨rfl, rfl⟩
  | bl b => unfold Rep at r; subst r; cases hs; exact ⟨rfl, rfl⟩
  | int i => unfold Rep at r; subst r; cases hs; exact ⟨rfl, rfl⟩
  | str x => cases hs
  | ty x => cases hs
  | tup ts => cases hs; exact ⟨sq ts rfl, rfl⟩
  | lst ts => cases hs; exact ⟨sq ts rfl, rfl⟩
  | frz ts => cases hs; exact ⟨sq ts rfl, rfl⟩
  | rng n => cases hs
  | glb x => cases hs
  | exc x ks ts => cases hs
  | dct ks ts =>
    cases hs
    unfold Rep at r
    obtain ⟨a, vs, rfl, l, n, rs⟩ := r
    refine ⟨.inr (.inr ⟨ks.zip vs, n.1, ?_⟩), rfl⟩
    have := rs.len
    cases ks <;> cases vs <;> simp_all
  | cell k =>
    unfold sTru isEmp at hs
    simp only at hs
    cases q : w[k]? with
    | none => rw [q] at hs; cases hs
    | some c =>
      rw [q] at hs
      cases c with
      | lst ts => cases hs; exact ⟨sq ts (by unfold seq?; simp only [q]), rfl⟩
      | dic kvs =>
        cases hs
        obtain ⟨a, rfl, _, _, ys, h1, h2, h3⟩ := cell_at wr r q
        refine ⟨.inr (.inr ⟨ys, h1, ?_⟩), rfl⟩
        have e : ys.length = kvs.length := by simpa using congrArg List.length h2
        cases ys <;> cases kvs <;> simp_all
      | dit kvs => cases hs
      | obj x ks ts => cases hs
theorem sTru_ne {t u : T} {w w' : World} {ρ : Env} : sTru t w ≠ .ex u ρ w' := fun h => by
  unfold sTru at h
  split at h <;> first | cases h | (split at h <;> cases h)
def mTru (m : ME) : MT := fun ρ w => (m ρ w).bind sTru
theorem dt_tru {ma : ME} (ha : PE X a (rdE (X.K, Z) W ma)) (he : ∀ whole, isTrue a X.env whole = (do let v ← whole; standAt a.pos; holding [v] (truthy v)) := by exact fun _ => rfl) : PT X a (rdT (X.K, Z) W (mTru ma)) := PT_imp (pt_truth ha he) fun σ H Q => by
  rintro ⟨hd, φ, ρ, w, sr, wr, p⟩
  refine ⟨hd, φ, ρ, w, sr, wr, Pst.then isPst p fun d w1 φ1 H1 e1 wr1 p1 v rv => ?_⟩
  cases q : sTru d w1 with
  | no => rw [q] at p1; exact p1.elim
  | ex _ _ _ => exact absurd q sTru_ne
  | ok b w2 =>
    rw [q] at p1
    obtain ⟨h1, rfl⟩ := tru_at wr1 rv q
    exact ⟨b, h1, p1.ok wr1⟩
def mAnd (a b : MT) : MT := fun ρ w => (a ρ w).bind fun x w1 => if x = true then b ρ w1 else .ok false w1
def mOr (a b : MT) : MT := fun ρ w => (a ρ w).bind fun x w1 => if x = true then .ok true w1 else b ρ w1
def mNot (a : MT) : MT := fun ρ w => (a ρ w).bind fun x w1 => .ok (!x) w1
variable {rest : List Expr}
theorem dw_and1 {ma : MT} (ha : PT X a (rdT (X.K, Z) W ma)) : PW X (.BoolOp .And [a] pos) (rdT (X.K, Z) W ma) := pw_and1 ha
theorem dw_or1 {ma : MT} (ha : PT X a (rdT (X.K, Z) W ma)) : PW X (.BoolOp .Or [a] pos) (rdT (X.K, Z) W ma) := pw_or1 ha
theorem dw_and {ma mb : MT} (ha : PT X a (rdT (X.K, Z) W ma)) (hb : PW X (.BoolOp .And (b :: rest) pos) (rdT (X.K, Z) W mb)) : PW X (.BoolOp .And (a :: b :: rest) pos) (rdT (X.K, Z) W (mAnd ma mb)) := PW_imp (pw_and ha hb) fun σ H Q => by
  rintro ⟨hd, φ, ρ, w, sr, wr, p⟩
  refine ⟨hd, φ, ρ, w, sr, wr, Pst.then isPst p fun d w1 φ1 H1 e1 wr1 p1 => ?_⟩
  cases d with
  | true => show (if true = true then _ else _); rw [if_pos rfl] at p1 ⊢; exact ⟨hd, φ1, ρ, w1, sr.mono e1, wr1, p1⟩
  | false => show (if false = true then _ else _); rw [if_neg Bool.false_ne_true] at p1 ⊢; exact p1.ok wr1
theorem dw_or {ma mb : MT} (ha : PT X a (rdT (X.K, Z) W ma)) (hb : PW X (.BoolOp .Or (b :: rest) pos) (rdT (X.K, Z) W mb)) : PW X (.BoolOp .Or (a :: b :: rest) pos) (rdT (X.K, Z) W (mOr ma mb)) := PW_imp (pw_or ha hb) fun σ H Q => by
  rintro ⟨hd, φ, ρ, w, sr, wr, p⟩
  refine ⟨hd, φ, ρ, w, sr, wr, Pst.then isPst p fun d w1 φ1 H1 e1 wr1 p1 => ?_⟩
  cases d with
  | true => show (if true = true then _ else _); rw [if_pos rfl] at p1 ⊢; exact p1.ok wr1
  | false => show (if false = true then _ else _); rw [if_neg Bool.false_ne_true] at p1 ⊢; exact ⟨hd, φ1, ρ, w1, sr.mono e1, wr1, p1⟩
theorem dt_w {ma : MT} (h : PW X a (rdT (X.K, Z) W ma)) : PT X a (rdT (X.K, Z) W ma) := h.pt
theorem dt_not {ma : MT} (ha : PT X a (rdT (X.K, Z) W ma)) : PT X (.UnaryOp .Not a pos) (rdT (X.K, Z) W (mNot ma)) := PT_imp (pt_not ha) fun σ H Q => by
  rintro ⟨hd, φ, ρ, w, sr, wr, p⟩
  exact ⟨hd, φ, ρ, w, sr, wr, Pst.then isPst p fun d w1 φ1 H1 e1 wr1 p1 => p1.ok wr1⟩
/-! .. as values -/
def mAndV (a b : ME) : ME := fun ρ w => (a ρ w).bind fun x w1 => (sTru x w1).bind fun k w2 => if k = true then b ρ w2 else .ok x w2
def mOrV (a b : ME) : ME := fun ρ w => (a ρ w).bind fun x w1 => (sTru x w1).bind fun k w2 => if k = true then .ok x w2 else b ρ w2
def mNotV (a : ME) : ME := fun ρ w => (a ρ w).bind fun x w1 => (sTru x w1).bind fun k w2 => .ok (.bl (!k)) w2
theorem de_one {op : BoolOp} {t : TE} (h : PE X a t) : PE X (.BoolOp op [a] pos) t := pe_one h
theorem de_and {ma mb : ME} (ha : PE X a (rdE (X.K, Z) W ma)) (hb : PE X (.BoolOp .And (b :: rest) pos) (rdE (X.K, Z) W mb)) : PE X (.BoolOp .And (a :: b :: rest) pos) (rdE (X.K, Z) W (mAndV ma mb)) := PE_imp (pe_andT ha hb) fun σ H Q => by
  rintro ⟨hd, φ, ρ, w, sr, wr, p⟩
  refine ⟨hd, φ, ρ, w, sr, wr, Pst.then isPst p fun d w1 φ1 H1 e1 wr1 p1 v rv => ?_⟩
  cases q : sTru d w1 with
  | no => rw [q] at p1; exact p1.elim
  | ex _ _ _ => exact absurd q sTru_ne
  | ok k w2 =>
    rw [q] at p1
    obtain ⟨h1, rfl⟩ := tru_at wr1 rv q
    refine ⟨k, h1, ?_⟩
    rw [bind_ok] at p1
    cases k with
    | true => rw [if_pos rfl] at p1 ⊢; exact ⟨hd, φ1, ρ, _, sr.mono e1, wr1, p1⟩
    | false => rw [if_neg Bool.false_ne_true] at p1 ⊢; exact p1.ok wr1 v rv
theorem de_or {ma mb : ME} (ha : PE X a (rdE (X.K, Z) W ma)) (hb : PE X (.BoolOp .Or (b :: rest) pos) (rdE (X.K, Z) W mb)) : PE X (.BoolOp .Or (a :: b :: rest) pos) (rdE (X.K, Z) W (mOrV ma mb)) := PE_imp (pe_orT ha hb) fun σ H Q => by
  rintro ⟨hd, φ, ρ, w, sr, wr, p⟩
  refine ⟨hd, φ, ρ, w, sr, wr, Pst.then isPst p fun d w1 φ1 H1 e1 wr1 p1 v rv => ?_⟩
  cases q : sTru d w1 with
  | no => rw [q] at p1; exact p1.elim
  | ex _ _ _ => exact absurd q sTru_ne
  | ok k w2 =>
    rw [q] at p1
    obtain ⟨h1, rfl⟩ := tru_at wr1 rv q
    refine ⟨k, h1, ?_⟩
    rw [bind_ok] at p1
    cases k with
    | true => rw [if_pos rfl] at p1 ⊢; exact p1.ok wr1 v rv
    | false => rw [if_neg Bool.false_ne_true] at p1 ⊢; exact ⟨hd, φ1, ρ, _, sr.mono e1, wr1, p1⟩
theorem de_not {ma : ME} (ha : PE X a (rdE (X.K, Z) W ma)) : PE X (.UnaryOp .Not a pos) (rdE (X.K, Z) W (mNotV ma)) := PE_imp (pe_notT ha) fun σ H Q => by
  rintro ⟨hd, φ, ρ, w, sr, wr, p⟩
  refine ⟨hd, φ, ρ, w, sr, wr, Pst.then isPst p fun d w1 φ1 H1 e1 wr1 p1 v rv => ?_⟩
  cases q : sTru d w1 with
  | no => rw [q] at p1; exact p1.elim
  | ex _ _ _ => exact absurd q sTru_ne
  | ok k w2 =>
    rw [q] at p1
    obtain ⟨h1, rfl⟩ := tru_at wr1 rv q
    exact ⟨k, h1, p1.ok wr1 _ (by unfold Rep; rfl)⟩
def mIf (c : MT) (a b : ME) : ME := fun ρ w => (c ρ w).bind fun k w1 => if k = true then a ρ w1 else b ρ w1
theorem de_if {mc : MT} {ma mb : ME} (hc : PT X c (rdT (X.K, Z) W mc)) (ha : PE X a (rdE (X.K, Z) W ma)) (hb : PE X b (rdE (X.K, Z) W mb)) : PE X (.IfExp c a b pos) (rdE (X.K, Z) W (mIf mc ma mb)) := PE_imp (pe_ifExp hc ha hb) fun σ H Q => by
  rintro ⟨hd, φ, ρ, w, sr, wr, p⟩
  refine ⟨hd, φ, ρ, w, sr, wr, Pst.then isPst p fun k w1 φ1 H1 e1 wr1 p1 => ?_⟩
  cases k with
  | true => show (if true = true then _ else _); rw [if_pos rfl] at p1 ⊢; exact ⟨hd, φ1, ρ, w1, sr.mono e1, wr1, p1⟩
  | false => show (if false = true then _ else _); rw [if_neg Bool.false_ne_true] at p1 ⊢; exact ⟨hd, φ1, ρ, w1, sr.mono e1, wr1, p1⟩

/-! ### arguments, displays, new lists -/
variable {es : List Expr}
def mNil : MF := fun _ w => .ok [] w
def mCons (a : ME) (r : MF) : MF := fun ρ w => (a ρ w).bind fun x w1 => (r ρ w1).bind fun xs w2 => .ok (x :: xs) w2
theorem da_nil : PA X [] (rdA (X.K, Z) W mNil) := PA_imp pa_nil fun σ H Q => by
  rintro ⟨hd, φ, ρ, w, sr, wr, p⟩
  exact p.ok wr _ Reps.nil
theorem da_cons {ma : ME} {mr : MF} (ha : PE X a (rdE (X.K, Z) W ma)) (hr : PA X es (rdA (X.K, Z) W mr)) (hs : starEach (a :: es) X.env = (false, eval a X.env) :: starEach es X.env := by rfl) : PA X (a :: es) (rdA (X.K, Z) W (mCons ma mr)) := PA_imp (pa_cons ha hr hs) fun σ H Q => by
  rintro ⟨hd, φ, ρ, w, sr, wr, p⟩
  refine ⟨hd, φ, ρ, w, sr, wr, Pst.then isPst p fun x w1 φ1 H1 e1 wr1 p1 v rv => ?_⟩
  refine ⟨hd, φ1, ρ, w1, sr.mono e1, wr1, Pst.then isPst p1 fun xs w2 φ2 H2 e2 wr2 p2 vs rvs => ?_⟩
  exact p2.ok wr2 _ (Reps.cons (rv.mono e2) rvs)
def mTup (m : MF) : ME := fun ρ w => (m ρ w).bind fun ts w1 => if ts.length ≤ sizeLine then .ok (.tup ts) w1 else .no
theorem de_tup {x1 : Nat} {m : MF} (h : PA X es (rdA (X.K, Z) W m)) : PE X (.Tuple es x1 pos) (rdE (X.K, Z) W (mTup m)) := PE_imp (pe_tup h) fun σ H Q => by
  rintro ⟨hd, φ, ρ, w, sr, wr, p⟩
  refine ⟨hd, φ, ρ, w, sr, wr, Pst.then isPst p fun xs w1 φ1 H1 e1 wr1 p1 vs rvs => ?_⟩
  split at p1
  · rename_i hl
    refine ⟨by rw [← rvs.len]; exact hl, fun q hq => ?_⟩
    refine p1 (upd H1 q (.tup vs)) φ1 (Ext.new hq) (wr1.new hq) _ ?_
    unfold Rep
    exact ⟨q, vs, rfl, ⟨upd_same, wr1.nin hq⟩, rvs.mono (Ext.new hq)⟩
  · exact p1.elim
def mLst (m : MF) : MF := fun ρ w => (m ρ w).bind fun ts w1 => if ts.length ≤ sizeLine then .ok ts w1 else .no
theorem df_lst {m : MF} (h : PA X es (rdA (X.K, Z) W m)) : PE X (.List es pos) (rdF (X.K, Z) W (mLst m)) := PE_imp (pe_lst h) fun σ H Q => by
  rintro ⟨hd, φ, ρ, w, sr, wr, p⟩
  refine ⟨hd, φ, ρ, w, sr, wr, Pst.then isPstF p fun xs w1 φ1 H1 e1 wr1 p1 vs rvs => ?_⟩
  split at p1
  · rename_i hl
    refine ⟨by rw [← rvs.len]; exact hl, fun q hq => ?_⟩
    exact p1 q vs (upd H1 q (.lst vs)) φ1 (Ext.hold hq) (wr1.hold hq) (fr0_none hq) (wr1.nin hq).2 upd_same (rvs.mono (Ext.hold hq))
  · exact p1.elim
/-- a new list as a value that stays as it is -/
def mVal (m : MF) : ME := fun ρ w => (m ρ w).bind fun ts w1 => .ok (.lst ts) w1
theorem de_val {m : MF} (h : PE X e (rdF (X.K, Z) W m)) : PE X e (rdE (X.K, Z) W (mVal m)) := PE_imp h fun σ H Q => by
  rintro ⟨hd, φ, ρ, w, sr, wr, p⟩
  refine ⟨hd, φ, ρ, w, sr, wr, ?_⟩
  unfold mVal at p
  cases q : m ρ w with
  | no => rw [q] at p; exact p
  | ex _ _ _ => rw [q] at p; exact p
  | ok ts w1 =>
    rw [q] at p
    intro a xs H' φ' e1 wr1 hn ha hx rs
    refine p H' φ' e1.free wr1.free _ ?_
    unfold Rep
    exact ⟨a, xs, rfl, ⟨hx, fun z => wr1.apart a z List.mem_cons_self, ha⟩, rs.free⟩
/-- a new list as a cell -/
def mCell (m : MF) : ME := fun ρ w => (m ρ w).bind fun ts w1 => .ok (.cell w1.length) (w1 ++ [.lst ts])
theorem de_cell {m : MF} (h : PE X e (rdF (X.K, Z) W m)) : PE X e (rdE (X.K, Z) W (mCell m)) := PE_imp h fun σ H Q => by
  rintro ⟨hd, φ, ρ, w, sr, wr, p⟩
  refine ⟨hd, φ, ρ, w, sr, wr, ?_⟩
  unfold mCell at p
  cases q : m ρ w with
  | no => rw [q] at p; exact p
  | ex _ _ _ => rw [q] at p; exact p
  | ok ts w1 =>
    rw [q] at p
    intro a xs H' φ' e1 wr1 hn ha hx rs
    refine p H' (φ' ++ [a]) (e1.cell hn) (wr1.cell ha ⟨xs, hx, rs⟩) _ ?_
    unfold Rep
    refine ⟨a, rfl, ?_⟩
    rw [← wr1.len, List.getElem?_append_right (Nat.le_refl _)]
    simp
end
theorem SR.free {K : KT} {hd φ : List Addr} {H : Hp} {σ : L2.St} {ρ : Env} {p : Addr} (h : SR K (p :: hd) φ H σ ρ) : SR K hd φ H σ ρ := ⟨h.len, fun i t ht => by
  obtain ⟨v, h1, h2⟩ := h.get i t ht
  exact ⟨v, h1, h2.free⟩⟩
theorem NdX.free {hd φ : List Addr} {H : Hp} {p a : Addr} {o : HO} (h : NdX (p :: hd) φ H a o) : NdX hd φ H a o := ⟨h.1, h.2.1, fun z => h.2.2 (List.mem_cons_of_mem _ z)⟩
theorem RepX.free {K : KT} {hd φ : List Addr} {H : Hp} {p : Addr} {t : T} {cls : Value} {d : Option Addr} (h : RepX K (p :: hd) φ H t cls d) : RepX K hd φ H t cls d := by
  obtain ⟨x, ks, ts, C, e1, e2, g, q⟩ := h
  refine ⟨x, ks, ts, C, e1, e2, g, ?_⟩
  rcases q with q | ⟨dd, vs, e3, l, n, r⟩
  · exact .inl q
  · exact .inr ⟨dd, vs, e3, l, n.free, r.free⟩
/-- a thing made beside, held apart -/
theorem PstX.hold {K : KT} {W : Option WX} {hd φ : List Addr} {H : Hp} {t : T} {ρ : Env} {w : World} {l : Addr} {o : HO} (hl : H l = none) (p : PstX K W hd φ H t ρ w) : PstX K W (l :: hd) φ (upd H l o) t ρ w := by
  cases W with
  | none => exact p
  | some W => intro H' φ' σ' e wr sr cls d rx; exact p H' φ' σ' ((Ext.hold hl).trans e).free wr.free sr.free cls d rx.free
end VS

set_option Elab.async false
set_option linter.all false
set_option maxRecDepth 100000
set_option maxHeartbeats 2000000
namespace VS
open PySem PySem.Spec PyProof.Rows L2
section
variable {X : Cx} {e a b c : Expr} {pos : Pos} {es : List Expr} {x : Str} {p : Pos} {Z : List (Addr × Str)} {W : Option WX}

/-! ### calls of built-ins -/
abbrev SC := List T → World → R T
abbrev SCF := List T → World → R (List T)
def mCall (s : SC) (m : MF) : ME := fun ρ w => (m ρ w).bind s
def mCallF (s : SCF) (m : MF) : MF := fun ρ w => (m ρ w).bind s
def OpC (K : KT) (s : SC) (r : List V → Hp → VK → Prop) : Prop := ∀ (W : Option WX) hd φ H w ds xs Q, WR K hd φ H w → Reps K hd φ H ds xs → Pst K W hd (CE K hd Q) φ H (s ds w) → r xs H Q
def OpCF (K : KT) (s : SCF) (r : List V → Hp → VK → Prop) : Prop := ∀ (W : Option WX) hd φ H w ds xs Q, WR K hd φ H w → Reps K hd φ H ds xs → PstF K W hd Q φ H (s ds w) → r xs H Q
theorem OpC.read {K : KT} {W : Option WX} {s : SC} {r : List V → Hp → VK → Prop} (hs : OpC K s r) {m : MF} : ∀ σ H Q, rdE K W (mCall s m) σ H Q → tCB r (rdA K W m) σ H Q := fun σ H Q => by
  rintro ⟨hd, φ, ρ, w, sr, wr, q⟩
  exact ⟨hd, φ, ρ, w, sr, wr, Pst.then isPst q fun ds w1 φ1 H1 e1 wr1 p1 xs rx => hs W hd φ1 H1 w1 ds xs Q wr1 rx p1⟩
theorem OpCF.read {K : KT} {W : Option WX} {s : SCF} {r : List V → Hp → VK → Prop} (hs : OpCF K s r) {m : MF} : ∀ σ H Q, rdF K W (mCallF s m) σ H Q → tCB r (rdA K W m) σ H Q := fun σ H Q => by
  rintro ⟨hd, φ, ρ, w, sr, wr, q⟩
  exact ⟨hd, φ, ρ, w, sr, wr, Pst.then isPstF q fun ds w1 φ1 H1 e1 wr1 p1 xs rx => hs W hd φ1 H1 w1 ds xs Q wr1 rx p1⟩
theorem de_callB {id : String} {s : SC} {r : List V → Hp → VK → Prop} {m : MF} (hc : CallR X (.builtin id) r) (hs : OpC (X.K, Z) s r) (hm : X.mg x = none) (hv : bootBuiltins x = some (.builtin id)) (ha : PA X (e :: es) (rdA (X.K, Z) W m)) (hg : Gl X x := by rfl) (hn : x ≠ "__name__" := by decide) (hdb : (x == ("__debug__" : Str)) = false := by decide)
    (he : starEach (e :: es) X.env = (false, eval e X.env) :: starEach es X.env := by rfl) (hpl : (backTo pos (starEach es X.env)).any (·.1) = false := by rfl) : PE X (.Call (.Name x p) (e :: es) [] pos) (rdE (X.K, Z) W (mCall s m)) := PE_imp (pe_callB hc hg hm hv ha hn hdb he hpl) hs.read
theorem df_callB {id : String} {s : SCF} {r : List V → Hp → VK → Prop} {m : MF} (hc : CallR X (.builtin id) r) (hs : OpCF (X.K, Z) s r) (hm : X.mg x = none) (hv : bootBuiltins x = some (.builtin id)) (ha : PA X (e :: es) (rdA (X.K, Z) W m)) (hg : Gl X x := by rfl) (hn : x ≠ "__name__" := by decide) (hdb : (x == ("__debug__" : Str)) = false := by decide)
    (he : starEach (e :: es) X.env = (false, eval e X.env) :: starEach es X.env := by rfl) (hpl : (backTo pos (starEach es X.env)).any (·.1) = false := by rfl) : PE X (.Call (.Name x p) (e :: es) [] pos) (rdF (X.K, Z) W (mCallF s m)) := PE_imp (pe_callB hc hg hm hv ha hn hdb he hpl) hs.read
theorem de_callTy {id : String} {s : SC} {r : List V → Hp → VK → Prop} {m : MF} (hc : CallR X (.type id) r) (hs : OpC (X.K, Z) s r) (hm : X.mg x = none) (hv : bootBuiltins x = some (.type id)) (ha : PA X (e :: es) (rdA (X.K, Z) W m)) (hg : Gl X x := by rfl) (hn : x ≠ "__name__" := by decide) (hdb : (x == ("__debug__" : Str)) = false := by decide)
    (he : starEach (e :: es) X.env = (false, eval e X.env) :: starEach es X.env := by rfl) (hpl : (backTo pos (starEach es X.env)).any (·.1) = false := by rfl) : PE X (.Call (.Name x p) (e :: es) [] pos) (rdE (X.K, Z) W (mCall s m)) := PE_imp (pe_callTy hc hg hm hv ha hn hdb he hpl) hs.read
theorem df_callTy {id : String} {s : SCF} {r : List V → Hp → VK → Prop} {m : MF} (hc : CallR X (.type id) r) (hs : OpCF (X.K, Z) s r) (hm : X.mg x = none) (hv : bootBuiltins x = some (.type id)) (ha : PA X (e :: es) (rdA (X.K, Z) W m)) (hg : Gl X x := by rfl) (hn : x ≠ "__name__" := by decide) (hdb : (x == ("__debug__" : Str)) = false := by decide)
    (he : starEach (e :: es) X.env = (false, eval e X.env) :: starEach es X.env := by rfl) (hpl : (backTo pos (starEach es X.env)).any (·.1) = false := by rfl) : PE X (.Call (.Name x p) (e :: es) [] pos) (rdF (X.K, Z) W (mCallF s m)) := PE_imp (pe_callTy hc hg hm hv ha hn hdb he hpl) hs.read
/-- operators whose end is a new list -/
abbrev S2F := T → T → World → R (List T)
def mOp2F (s : S2F) (a b : ME) : MF := fun ρ w => (a ρ w).bind fun x w1 => (b ρ w1).bind fun y w2 => s x y w2
def Op2F (K : KT) (s : S2F) (r : R2) : Prop := ∀ (W : Option WX) hd φ H w dx dy x y Q, WR K hd φ H w → Rep K hd φ H dx x → Rep K hd φ H dy y → PstF K W hd Q φ H (s dx dy w) → r x y H Q
theorem Op2F.read {K : KT} {W : Option WX} {s : S2F} {r : R2} (hs : Op2F K s r) {a b : ME} : ∀ σ H Q, rdF K W (mOp2F s a b) σ H Q → tOp r (rdE K W a) (rdE K W b) σ H Q := fun σ H Q => by
  rintro ⟨hd, φ, ρ, w, sr, wr, p⟩
  refine ⟨hd, φ, ρ, w, sr, wr, Pst.then isPstF p fun dx w1 φ1 H1 e1 wr1 p1 x rx => ?_⟩
  refine ⟨hd, φ1, ρ, w1, sr.mono e1, wr1, Pst.then isPstF p1 fun dy w2 φ2 H2 e2 wr2 p2 y ry => ?_⟩
  exact hs W hd φ2 H2 w2 dx dy x y Q wr2 (rx.mono e2) ry p2
theorem df_op {op : Operator} {r : R2} {s : S2F} {ma mb : ME} (ho : OpR X (binaryOp op) r) (hs : Op2F (X.K, Z) s r) (ha : PE X a (rdE (X.K, Z) W ma)) (hb : PE X b (rdE (X.K, Z) W mb)) : PE X (.BinOp a op b pos) (rdF (X.K, Z) W (mOp2F s ma mb)) := PE_imp (pe_op ho ha hb) hs.read

/-! ### calls of defs -/
abbrev Sem := List T → World → R T
def spOf (K : KT) (n : Nat) (f : Sem) : Sp := fun vs H Q E => ∃ hd φ w ds, ds.length = n ∧ WR K hd φ H w ∧ Reps K hd φ H ds vs ∧ Pst K (some fun cls d _ H' => E cls d H') hd (CE K hd Q) φ H (f ds w)
/-- an error of a callee is in the caller's slots -/
def R.at {α : Type} (ρ : Env) : R α → R α
  | .ex t _ w => .ex t ρ w
  | r => r
theorem at_ok {α : Type} {a : α} {w : World} {ρ : Env} : (R.ok a w).at ρ = .ok a w := rfl
theorem at_ex {α : Type} {t : T} {w : World} {ρ ρ' : Env} : (R.ex t ρ' w : R α).at ρ = .ex t ρ w := rfl
theorem at_no {α : Type} {ρ : Env} : (R.no : R α).at ρ = .no := rfl
def TakesO (X : Cx) : Option WX → Prop
  | none => True
  | some W => Takes X W
def wE : Option WX → L2.St → XK
  | none, _ => fun _ _ _ => False
  | some W, σ => fun cls d H => W cls d σ H
theorem passO {X : Cx} {W : Option WX} (tk : TakesO X W) (σ : L2.St) : PassesAt (L2.CX X.prog X.w) X σ (wE W σ) := by
  cases W with
  | some W => exact passAt tk σ
  | none =>
    intro pins H s e s' I c
    obtain ⟨_, _, _, _, _, _, _, _, _, _, _, _, z⟩ := c
    exact z.elim
/-- what a callee gives is what the caller wishes -/
theorem Pst.callee {α : Type} {K : KT} {W : Option WX} {hd φ : List Addr} {H : Hp} {σ : L2.St} {ρ : Env} {C : α → List Addr → Hp → Prop} {r : R α} (sr : SR K hd φ H σ ρ) (p : Pst K W hd C φ H (r.at ρ)) : Pst K (some fun cls d _ H' => wE W σ cls d H') hd C φ H r := by
  cases r with
  | ok d w => exact p
  | no => exact p
  | ex t ρ' w =>
    cases W with
    | none => exact p.elim
    | some W => intro H' φ' σ' e wr _ cls d rx; exact p H' φ' σ e wr (sr.mono e) cls d rx
theorem spOf_len {K : KT} {n : Nat} {f : Sem} : ∀ vs H Q E, spOf K n f vs H Q E → vs.length = n := by
  rintro vs H Q E ⟨hd, φ, w, ds, l, _, r, _⟩
  rw [← r.len, l]
def mDef (n : Nat) (f : Sem) (m : MF) : ME := fun ρ w => (m ρ w).bind fun ds w1 => if ds.length = n then (f ds w1).at ρ else .no
theorem def_read {K : KT} {W : Option WX} {n : Nat} {f : Sem} {m : MF} : ∀ σ H Q, rdE K W (mDef n f m) σ H Q → tCallS (spOf K n f) (wE W) (rdA K W m) σ H Q := fun σ H Q => by
  rintro ⟨hd, φ, ρ, w, sr, wr, q⟩
  refine ⟨hd, φ, ρ, w, sr, wr, Pst.then isPst q fun ds w1 φ1 H1 e1 wr1 p1 xs rx => ?_⟩
  split at p1
  · rename_i hl
    exact ⟨hd, φ1, w1, ds, hl, wr1, rx, p1.callee (sr.mono e1)⟩
  · exact p1.elim
/-- a def as it stands behind the top, and what it is worth -/
structure Df (P : Program) (w : PySem.World) (K : PySem.W.Frag) (Z : List (Addr × Str)) (mg : Str → Option Value) (base : Heap) (k : Nat) (x : Str) (ps : List Str) (f : Sem) : Prop where
  ex : ∃ (ad : Addr) (fd : FuncData), FnOk P w K mg base (L2.CX P w) k ad fd ps (spOf (K, Z) ps.length f) ∧ mg x = some (.ref ad) ∧ PySem.W.keepIn K (.ref ad) = true ∧ Binds K fd ps []
theorem de_def {k n : Nat} {ps : List Str} {f : Sem} {m : MF} (F : Df X.prog X.w X.K Z X.mg X.base k x ps f) (tk : TakesO X W) (hr : Room k X.A) (ha : PA X (e :: es) (rdA (X.K, Z) W m)) (hn : ps.length = n := by rfl) (hg : Gl X x := by rfl) (hdb : (x == ("__debug__" : Str)) = false := by decide)
    (he : starEach (e :: es) X.env = (false, eval e X.env) :: starEach es X.env := by rfl) (hpl : (backTo pos (starEach es X.env)).any (·.1) = false := by rfl) : PE X (.Call (.Name x p) (e :: es) [] pos) (rdE (X.K, Z) W (mDef n f m)) := by
  subst hn
  obtain ⟨ad, fd, ok, hm, hk, hb⟩ := F.ex
  exact PE_imp (pe_callS (E := wE W) ok hr hg hm hk hb (passO tk) ha hdb he hpl) def_read

/-! ### statements -/
inductive Fl where
  | nx | ret (t : T) | bk | ct
abbrev MS := Env → World → R (Env × Fl)
abbrev CS (K : KT) (hd : List Addr) (D : Ends) : Env × Fl → List Addr → Hp → Prop := fun r φ' H' => match r.2 with
  | .nx => ∀ σ', SR K hd φ' H' σ' r.1 → D.nx σ' H'
  | .ret t => ∀ v, Rep K hd φ' H' t v → D.rt v H'
  | .bk => ∀ σ', SR K hd φ' H' σ' r.1 → D.bk σ' H'
  | .ct => ∀ σ', SR K hd φ' H' σ' r.1 → D.ct σ' H'
def rdS (K : KT) (W : Option WX) (m : MS) : TS := fun D σ H => ∃ hd φ ρ w, SR K hd φ H σ ρ ∧ WR K hd φ H w ∧ Pst K W hd (CS K hd D) φ H (m ρ w)
def mSkip : MS := fun ρ w => .ok (ρ, .nx) w
def mSeq (a b : MS) : MS := fun ρ w => (a ρ w).bind fun r w1 => match r.2 with
  | .nx => b r.1 w1
  | _ => .ok r w1
variable {st : Stmt} {rest : List Stmt} {m1 m2 : MS}
theorem ds_nil : PSs X [] (rdS (X.K, Z) W mSkip) := PSs_imp pss_nil fun D σ H => by
  rintro ⟨hd, φ, ρ, w, sr, wr, p⟩
  exact p.ok wr σ sr
theorem ds_one (h : PS X st (rdS (X.K, Z) W m1)) : PSs X [st] (rdS (X.K, Z) W m1) := pss_one h
theorem ds_cons (h1 : PS X st (rdS (X.K, Z) W m1)) (h2 : PSs X rest (rdS (X.K, Z) W m2)) : PSs X (st :: rest) (rdS (X.K, Z) W (mSeq m1 m2)) := PSs_imp (pss_cons h1 h2) fun D σ H => by
  rintro ⟨hd, φ, ρ, w, sr, wr, p⟩
  refine ⟨hd, φ, ρ, w, sr, wr, Pst.then isPst p fun r w1 φ1 H1 e1 wr1 p1 => ?_⟩
  obtain ⟨ρ1, fl⟩ := r
  cases fl with
  | nx => exact fun σ1 sr1 => ⟨hd, φ1, ρ1, w1, sr1, wr1, p1⟩
  | ret t => exact p1.ok wr1
  | bk => exact p1.ok wr1
  | ct => exact p1.ok wr1
theorem ds_never : PS X st (rdS (X.K, Z) W fun _ _ => .no) := PS_imp ps_never fun D σ H => by
  rintro ⟨hd, φ, ρ, w, sr, wr, p⟩
  exact p.elim
def mRet (m : ME) : MS := fun ρ w => (m ρ w).bind fun t w1 => .ok (ρ, .ret t) w1
theorem ds_ret {m : ME} (h : PE X e (rdE (X.K, Z) W m)) : PS X (.Return (some e) pos) (rdS (X.K, Z) W (mRet m)) := PS_imp (ps_ret h) fun D σ H => by
  rintro ⟨hd, φ, ρ, w, sr, wr, p⟩
  exact ⟨hd, φ, ρ, w, sr, wr, Pst.then isPst p fun t w1 φ1 H1 e1 wr1 p1 => p1.ok wr1⟩
def mDrop (m : ME) : MS := fun ρ w => (m ρ w).bind fun _ w1 => .ok (ρ, .nx) w1
theorem ds_expr {m : ME} (h : PE X e (rdE (X.K, Z) W m)) (hs : swapsWith e none pos.line X.env = pure false := by rfl) : PS X (.Expr e pos) (rdS (X.K, Z) W (mDrop m)) := PS_imp (ps_expr h hs) fun D σ H => by
  rintro ⟨hd, φ, ρ, w, sr, wr, p⟩
  exact ⟨hd, φ, ρ, w, sr, wr, Pst.then isPst p fun t w1 φ1 H1 e1 wr1 p1 v _ => p1.ok wr1 σ (sr.mono e1)⟩
def mIfS (c : MT) (a b : MS) : MS := fun ρ w => (c ρ w).bind fun k w1 => if k = true then a ρ w1 else b ρ w1
theorem ds_if {mc : MT} {as bs : List Stmt} (hc : PT X c (rdT (X.K, Z) W mc)) (ha : PSs X as (rdS (X.K, Z) W m1)) (hb : PSs X bs (rdS (X.K, Z) W m2)) : PS X (.If c as bs pos) (rdS (X.K, Z) W (mIfS mc m1 m2)) := PS_imp (ps_if hc ha hb) fun D σ H => by
  rintro ⟨hd, φ, ρ, w, sr, wr, p⟩
  refine ⟨hd, φ, ρ, w, sr, wr, Pst.then isPst p fun k w1 φ1 H1 e1 wr1 p1 => ?_⟩
  cases k with
  | true => show (if true = true then _ else _); rw [if_pos rfl] at p1 ⊢; exact ⟨hd, φ1, ρ, w1, sr.mono e1, wr1, p1⟩
  | false => show (if false = true then _ else _); rw [if_neg Bool.false_ne_true] at p1 ⊢; exact ⟨hd, φ1, ρ, w1, sr.mono e1, wr1, p1⟩
theorem ds_break : PS X (.Break pos) (rdS (X.K, Z) W fun ρ w => .ok (ρ, .bk) w) := PS_imp ps_break fun D σ H => by
  rintro ⟨hd, φ, ρ, w, sr, wr, p⟩
  exact p.ok wr σ sr
theorem ds_continue : PS X (.Continue pos) (rdS (X.K, Z) W fun ρ w => .ok (ρ, .ct) w) := PS_imp ps_continue fun D σ H => by
  rintro ⟨hd, φ, ρ, w, sr, wr, p⟩
  exact p.ok wr σ sr

/-! ### targets -/
abbrev MG := T → Env → World → R Env
abbrev CG (K : KT) (hd : List Addr) (S : List Nat) (σ : L2.St) (Q : L2.St → Hp → Prop) : Env → List Addr → Hp → Prop := fun ρ' φ' H' => ∀ σ', SR K hd φ' H' σ' ρ' → (∀ vs : List Nat, (∀ i ∈ S, i ∈ vs) → wipe σ' vs = wipe σ vs) → Q σ' H'
def rdG (K : KT) (W : Option WX) (g : MG) (S : List Nat) : TG := fun v σ H Q => ∃ hd φ ρ w t, SR K hd φ H σ ρ ∧ WR K hd φ H w ∧ Rep K hd φ H t v ∧ Pst K W hd (CG K hd S σ Q) φ H (g t ρ w)
theorem PG_imp {tg : Expr} {t t' : TG} (h : PG X tg t) (i : ∀ v σ H Q, t' v σ H Q → t v σ H Q) : PG X tg t' := ⟨fun pins s σ H v u Q I r q => h.run pins s σ H v u Q I r (i v σ H Q q)⟩
theorem PGs_imp {tg : List Expr} {t t' : TGs} (h : PGs X tg t) (i : ∀ v σ H Q, t' v σ H Q → t v σ H Q) : PGs X tg t' := ⟨fun pins s σ H v u Q I r q => h.run pins s σ H v u Q I r (i v σ H Q q)⟩
theorem wipe_get {σ : L2.St} (vs : List Nat) (i : Nat) : (wipe σ vs)[i]? = if i ∈ vs ∧ i < σ.length then some none else σ[i]? := by
  induction vs with
  | nil => simp [wipe]
  | cons v vs ih =>
    unfold wipe
    rw [List.getElem?_set, wipe_length]
    by_cases h : v = i
    · subst h
      by_cases hl : v < σ.length
      · rw [if_pos rfl, if_pos hl, if_pos ⟨List.mem_cons_self, hl⟩]
      · rw [if_pos rfl, if_neg hl, if_neg (fun z => hl z.2), List.getElem?_eq_none (by omega)]
    · rw [if_neg h, ih]
      have e : (i ∈ v :: vs ∧ i < σ.length) ↔ (i ∈ vs ∧ i < σ.length) := by
        rw [List.mem_cons]
        constructor
        · rintro ⟨z | z, l⟩
          · exact absurd z.symm h
          · exact ⟨z, l⟩
        · rintro ⟨z, l⟩; exact ⟨.inr z, l⟩
      simp only [e]
theorem wipe_set {σ : L2.St} {vs : List Nat} {i : Nat} {o : Option V} (h : i ∈ vs) : wipe (σ.set i o) vs = wipe σ vs := by
  apply List.ext_getElem?
  intro j
  rw [wipe_get, wipe_get, List.length_set, List.getElem?_set]
  by_cases e : i = j
  · subst e
    by_cases hl : i < σ.length
    · rw [if_pos ⟨h, hl⟩, if_pos ⟨h, hl⟩]
    · have e2 : σ[i]? = none := List.getElem?_eq_none (by omega)
      simp [hl, e2]
  · rw [if_neg e]
def mgName (i : Nat) : MG := fun t ρ w => .ok (ρ.set i (some t)) w
theorem dg_name (i : Nat) {x : Str} (hN : X.N.Nodup) (hi : X.N[i]? = some x := by rfl) (hx : Loc X.env.scope x := by first | exact .inl rfl | exact .inr rfl) (hf : X.fn x = true ∨ X.env.scope.names.lookup x = some .local := by first | exact .inl rfl | exact .inr rfl | assumption) : PG X (.Name x pos) (rdG (X.K, Z) W (mgName i) [i]) := PG_imp (pg_name hN hi hx hf) fun v σ H Q => by
  rintro ⟨hd, φ, ρ, w, t, sr, wr, r, p⟩
  exact p.ok wr _ (sr.set r i) fun vs h => wipe_set (h i List.mem_cons_self)
abbrev MGs := List T → Env → World → R Env
def rdGs (K : KT) (W : Option WX) (g : MGs) (S : List Nat) : TGs := fun vs σ H Q => ∃ hd φ ρ w ts, SR K hd φ H σ ρ ∧ WR K hd φ H w ∧ Reps K hd φ H ts vs ∧ Pst K W hd (CG K hd S σ Q) φ H (g ts ρ w)
def mgNil : MGs := fun ts ρ w => match ts with
  | [] => .ok ρ w
  | _ => .no
def mgCons (g : MG) (r : MGs) : MGs := fun ts ρ w => match ts with
  | [] => .no
  | t :: ts => (g t ρ w).bind fun ρ1 w1 => r ts ρ1 w1
theorem dgs_nil : PGs X [] (rdGs (X.K, Z) W mgNil []) := PGs_imp pgs_nil fun v σ H Q => by
  rintro ⟨hd, φ, ρ, w, ts, sr, wr, r, p⟩
  cases ts with
  | nil => unfold Reps at r; exact ⟨r, p.ok wr σ sr fun _ _ => rfl⟩
  | cons _ _ => exact p.elim
theorem dgs_cons {tg : Expr} {tgs : List Expr} {g : MG} {r : MGs} {S S' : List Nat} (h1 : PG X tg (rdG (X.K, Z) W g S)) (h2 : PGs X tgs (rdGs (X.K, Z) W r S')) (hs : (assignEach (tg :: tgs) X.env).map (·.2) = assign tg X.env :: (assignEach tgs X.env).map (·.2) := by rfl) : PGs X (tg :: tgs) (rdGs (X.K, Z) W (mgCons g r) (S ++ S')) := PGs_imp (pgs_cons h1 h2 hs) fun v σ H Q => by
  rintro ⟨hd, φ, ρ, w, ts, sr, wr, rr, p⟩
  cases ts with
  | nil => exact p.elim
  | cons t ts =>
    unfold Reps at rr
    obtain ⟨x, xs, rfl, rx, rxs⟩ := rr
    refine ⟨x, xs, rfl, hd, φ, ρ, w, t, sr, wr, rx, Pst.then isPst p fun ρ1 w1 φ1 H1 e1 wr1 p1 σ1 sr1 hw1 => ?_⟩
    refine ⟨hd, φ1, ρ1, w1, ts, sr1, wr1, rxs.mono e1, p1.imp fun ρ2 φ2 H2 e2 h σ2 sr2 hw2 => h σ2 sr2 fun vs hv => ?_⟩
    rw [hw2 vs fun i hi => hv i (List.mem_append_right _ hi), hw1 vs fun i hi => hv i (List.mem_append_left _ hi)]
def mgTup (n : Nat) (g : MGs) : MG := fun t ρ w => match t with
  | .tup ts => if ts.length = n then g ts ρ w else .no
  | _ => .no
theorem dg_tup {k n : Nat} {tgs : List Expr} {g : MGs} {S : List Nat} (hc : X.calm = true) (h : PGs X tgs (rdGs (X.K, Z) W g S)) (hn : (assignEach tgs X.env).length = n := by rfl) (hst : (assignEach tgs X.env).findIdx? (·.1) = none := by rfl) : PG X (.Tuple tgs k pos) (rdG (X.K, Z) W (mgTup n g) S) := PG_imp (pg_tup hc h hn hst) fun v σ H Q => by
  rintro ⟨hd, φ, ρ, w, t, sr, wr, r, p⟩
  cases t with
  | tup ts =>
    unfold mgTup at p
    simp only at p
    unfold Rep at r
    obtain ⟨a, xs, e1, n1, rs⟩ := r
    split at p
    · rename_i hl
      exact ⟨a, xs, e1, SqT.of n1.1, by rw [← rs.len]; exact hl, hd, φ, ρ, w, ts, sr, wr, rs, p⟩
    · exact p.elim
  | _ => exact p.elim
/-- o[i] = v -/
abbrev S3 := T → T → T → World → R Unit
def OpSet (K : KT) (s : S3) (r : TSet) : Prop := ∀ (W : Option WX) hd φ H w d1 d2 d3 x y z Q, WR K hd φ H w → Rep K hd φ H d1 x → Rep K hd φ H d2 y → Rep K hd φ H d3 z → Pst K W hd (fun _ _ H' => Q H') φ H (s d1 d2 d3 w) → r x y z H Q
def mgSub (s : S3) (o i : ME) : MG := fun t ρ w => (o ρ w).bind fun d1 w1 => (i ρ w1).bind fun d2 w2 => (s d1 d2 t w2).bind fun _ w3 => .ok ρ w3
theorem dg_sub {o i : Expr} {mo mi : ME} {s : S3} {r : TSet} (ho : PE X o (rdE (X.K, Z) W mo)) (hi : PE X i (rdE (X.K, Z) W mi)) (hp : PSet X r) (hs : OpSet (X.K, Z) s r)
    (ha : ∀ v, assign (.Subscript o i pos) X.env v = (do
      let ov ← holding [v] (eval o X.env)
      let iv ← holding [v, ov] (eval i X.env)
      standAt pos
      holding [v, ov, iv] (setItem ov iv v)
      release [v, ov, iv] []) := by exact fun _ => rfl) : PG X (.Subscript o i pos) (rdG (X.K, Z) W (mgSub s mo mi) []) := PG_imp (pg_sub ho hi hp ha) fun v σ H Q => by
  rintro ⟨hd, φ, ρ, w, t, sr, wr, r, p⟩
  refine ⟨hd, φ, ρ, w, sr, wr, Pst.then isPst p fun d1 w1 φ1 H1 e1 wr1 p1 x rx => ?_⟩
  refine ⟨hd, φ1, ρ, w1, sr.mono e1, wr1, Pst.then isPst p1 fun d2 w2 φ2 H2 e2 wr2 p2 y ry => ?_⟩
  refine hs W hd φ2 H2 w2 d1 d2 t x y v _ wr2 (rx.mono e2) ry (r.mono (e1.trans e2)) ?_
  refine Pst.then isPst p2 fun _ w3 φ3 H3 e3 wr3 p3 => ?_
  exact p3.ok wr3 σ (sr.mono ((e1.trans e2).trans e3)) fun _ _ => rfl
def mAsg (m : ME) (g : MG) : MS := fun ρ w => (m ρ w).bind fun t w1 => (g t ρ w1).bind fun ρ1 w2 => .ok (ρ1, .nx) w2
theorem asg_read {K : KT} {W : Option WX} {m : ME} {g : MG} {S : List Nat} : ∀ D σ H, rdS K W (mAsg m g) D σ H → tAsg (rdE K W m) (rdG K W g S) D σ H := fun D σ H => by
  rintro ⟨hd, φ, ρ, w, sr, wr, p⟩
  refine ⟨hd, φ, ρ, w, sr, wr, Pst.then isPst p fun t w1 φ1 H1 e1 wr1 p1 v rv => ?_⟩
  refine ⟨hd, φ1, ρ, w1, t, sr.mono e1, wr1, rv, Pst.then isPst p1 fun ρ1 w2 φ2 H2 e2 wr2 p2 σ1 sr1 _ => ?_⟩
  exact p2.ok wr2 σ1 sr1
theorem ds_asg {tg : Expr} {m : ME} {g : MG} {S : List Nat} (he : PE X e (rdE (X.K, Z) W m)) (hg : PG X tg (rdG (X.K, Z) W g S)) (hs : swapsWithSole [tg] e pos.line X.env = pure false := by rfl) (hw : swappedStores [tg] e X.env = pure none := by rfl)
    (h1 : (assignEach [tg] X.env).map (·.2) = [assign tg X.env] := by rfl) : PS X (.Assign [tg] e pos) (rdS (X.K, Z) W (mAsg m g)) := PS_imp (ps_asg he hg hs hw h1) asg_read
theorem name_read {K : KT} {W : Option WX} {m : ME} {i : Nat} : ∀ D σ H, rdS K W (mAsg m (mgName i)) D σ H → tAsg (rdE K W m) (gName i) D σ H := fun D σ H => by
  rintro ⟨hd, φ, ρ, w, sr, wr, p⟩
  refine ⟨hd, φ, ρ, w, sr, wr, Pst.then isPst p fun t w1 φ1 H1 e1 wr1 p1 v rv => ?_⟩
  exact p1.ok wr1 _ ((sr.mono e1).set rv i)
theorem ds_set (i : Nat) {x : Str} {pos' : Pos} {m : ME} (hN : X.N.Nodup) (he : PE X e (rdE (X.K, Z) W m)) (hi : X.N[i]? = some x := by rfl) (hx : Loc X.env.scope x := by first | exact .inl rfl | exact .inr rfl) (hs : swapsWith e (some (.Name x pos')) pos.line X.env = pure false := by rfl) (hf : X.fn x = true ∨ X.env.scope.names.lookup x = some .local := by first | exact .inl rfl | exact .inr rfl | assumption) :
    PS X (.Assign [.Name x pos'] e pos) (rdS (X.K, Z) W (mAsg m (mgName i))) := PS_imp (ps_set hN hi hx he hs hf) name_read
/-- x, y = a, b: two local names -/
def mPar (i j : Nat) (m : MF) : MS := fun ρ w => (m ρ w).bind fun ts w1 => match ts with
  | [t, u] => .ok ((ρ.set i (some t)).set j (some u), .nx) w1
  | _ => .no
theorem ds_par (i j : Nat) {x y : Str} {m : MF} {px py pt : Pos} {kt k2 : Nat} {pt2 : Pos} (hc : X.calm = true) (hN : X.N.Nodup) (ha : PA X [a, b] (rdA (X.K, Z) W m)) (hi : X.N[i]? = some x := by rfl) (hj : X.N[j]? = some y := by rfl) (hij : i ≠ j := by decide)
    (hx : X.env.scope.names.lookup x = some .local := by rfl) (hy : X.env.scope.names.lookup y = some .local := by rfl)
    (hw : swappedStores [.Tuple [.Name x px, .Name y py] kt pt] (.Tuple [a, b] k2 pt2) X.env = pure (some [x, y]) := by rfl)
    (hs : swapsWithSole [.Tuple [.Name x px, .Name y py] kt pt] (.Tuple [a, b] k2 pt2) pos.line X.env = pure false := by rfl) :
    PS X (.Assign [.Tuple [.Name x px, .Name y py] kt pt] (.Tuple [a, b] k2 pt2) pos) (rdS (X.K, Z) W (mPar i j m)) := PS_imp (ps_par hc hN hi hj hij hx hy ha hw hs) fun D σ H => by
  rintro ⟨hd, φ, ρ, w, sr, wr, p⟩
  refine ⟨hd, φ, ρ, w, sr, wr, Pst.then isPst p fun ts w1 φ1 H1 e1 wr1 p1 vs rvs => ?_⟩
  match ts, p1 with
  | [t, u], p1 =>
    unfold Reps at rvs
    obtain ⟨v1, r1, rfl, q1, rvs⟩ := rvs
    unfold Reps at rvs
    obtain ⟨v2, r2, rfl, q2, rvs⟩ := rvs
    unfold Reps at rvs
    subst rvs
    exact ⟨v1, v2, rfl, p1.ok wr1 _ (((sr.mono e1).set q1 i).set q2 j)⟩
def mPar3 (i j l : Nat) (m : MF) : MS := fun ρ w => (m ρ w).bind fun ts w1 => match ts with
  | [t, u, v] => .ok (((ρ.set i (some t)).set j (some u)).set l (some v), .nx) w1
  | _ => .no
theorem ds_par3 (i j l : Nat) {x y z : Str} {m : MF} {px py pz pt : Pos} {kt k2 : Nat} {pt2 : Pos} (hc : X.calm = true) (hN : X.N.Nodup) (ha : PA X [a, b, c] (rdA (X.K, Z) W m)) (hi : X.N[i]? = some x := by rfl) (hj : X.N[j]? = some y := by rfl) (hl : X.N[l]? = some z := by rfl) (hij : i ≠ j := by decide) (hil : i ≠ l := by decide) (hjl : j ≠ l := by decide)
    (hx : X.env.scope.names.lookup x = some .local := by rfl) (hy : X.env.scope.names.lookup y = some .local := by rfl) (hz : X.env.scope.names.lookup z = some .local := by rfl)
    (hw : swappedStores [.Tuple [.Name x px, .Name y py, .Name z pz] kt pt] (.Tuple [a, b, c] k2 pt2) X.env = pure (some [x, y, z]) := by rfl)
    (hs : swapsWithSole [.Tuple [.Name x px, .Name y py, .Name z pz] kt pt] (.Tuple [a, b, c] k2 pt2) pos.line X.env = pure false := by rfl) :
    PS X (.Assign [.Tuple [.Name x px, .Name y py, .Name z pz] kt pt] (.Tuple [a, b, c] k2 pt2) pos) (rdS (X.K, Z) W (mPar3 i j l m)) := PS_imp (ps_par3 hc hN hi hj hl hij hil hjl hx hy hz ha hw hs) fun D σ H => by
  rintro ⟨hd, φ, ρ, w, sr, wr, p⟩
  refine ⟨hd, φ, ρ, w, sr, wr, Pst.then isPst p fun ts w1 φ1 H1 e1 wr1 p1 vs rvs => ?_⟩
  match ts, p1 with
  | [t, u, z], p1 =>
    unfold Reps at rvs
    obtain ⟨v1, r1, rfl, q1, rvs⟩ := rvs
    unfold Reps at rvs
    obtain ⟨v2, r2, rfl, q2, rvs⟩ := rvs
    unfold Reps at rvs
    obtain ⟨v3, r3, rfl, q3, rvs⟩ := rvs
    unfold Reps at rvs
    subst rvs
    exact ⟨v1, v2, v3, rfl, p1.ok wr1 _ ((((sr.mono e1).set q1 i).set q2 j).set q3 l)⟩

/-! ### while -/
def whl (c : MT) (b : MS) : Nat → Env → World → R (Env × Fl)
  | 0, _, _ => .no
  | n + 1, ρ, w => (c ρ w).bind fun k w1 => if k = true then (b ρ w1).bind fun r w2 => match r.2 with
      | .nx => whl c b n r.1 w2
      | .ct => whl c b n r.1 w2
      | .bk => .ok (r.1, .nx) w2
      | .ret t => .ok (r.1, .ret t) w2
    else .ok (ρ, .nx) w1
def mWhile (n : Nat) (c : MT) (b : MS) : MS := whl c b n
theorem ds_while (n : Nat) {mc : MT} {body : List Stmt} (hp : PassesOwn (model X.prog X.w) X.A X.env X.xe) (hc : PT X c (rdT (X.K, Z) W mc)) (hb : PSs X body (rdS (X.K, Z) W m1)) : PS X (.While c body [] pos) (rdS (X.K, Z) W (mWhile n mc m1)) := PS_imp (ps_while hp hc hb) fun D σ H => by
  rintro ⟨hd, φ, ρ, w, sr, wr, p⟩
  refine ⟨fun m σ H => ∃ φ ρ w, SR (X.K, Z) hd φ H σ ρ ∧ WR (X.K, Z) hd φ H w ∧ Pst (X.K, Z) W hd (CS (X.K, Z) hd D) φ H (whl mc m1 m ρ w), ⟨n, φ, ρ, w, sr, wr, p⟩, fun m σ H => ?_⟩
  rintro ⟨φ, ρ, w, sr, wr, p⟩
  cases m with
  | zero => exact p.elim
  | succ m =>
    refine ⟨hd, φ, ρ, w, sr, wr, Pst.then isPst p fun k w1 φ1 H1 e1 wr1 p1 => ?_⟩
    cases k with
    | false => show (if false = true then _ else _); rw [if_neg Bool.false_ne_true] at p1 ⊢; exact p1.ok wr1 σ (sr.mono e1)
    | true =>
      show (if true = true then _ else _)
      rw [if_pos rfl] at p1 ⊢
      refine ⟨fun σ' H' => ∃ φ ρ w, SR (X.K, Z) hd φ H' σ' ρ ∧ WR (X.K, Z) hd φ H' w ∧ Pst (X.K, Z) W hd (CS (X.K, Z) hd D) φ H' (whl mc m1 m ρ w), fun σ' H' h => ⟨m, Nat.lt_succ_self m, h⟩, hd, φ1, ρ, w1, sr.mono e1, wr1, Pst.then isPst p1 fun r w2 φ2 H2 e2 wr2 p2 => ?_⟩
      obtain ⟨ρ2, fl⟩ := r
      cases fl with
      | nx => exact fun σ2 sr2 => ⟨φ2, ρ2, w2, sr2, wr2, p2⟩
      | ct => exact fun σ2 sr2 => ⟨φ2, ρ2, w2, sr2, wr2, p2⟩
      | bk => exact p2.ok wr2
      | ret t => exact p2.ok wr2
end
end VS

set_option Elab.async false
set_option linter.all false
set_option maxRecDepth 100000
set_option maxHeartbeats 2000000
namespace VS
open PySem PySem.Spec PyProof.Rows L2

/-- as Ext, but the list at D (a comprehension's, held apart) may have grown -/
structure ExtD (D : Option Addr) (hd φ : List Addr) (H : Hp) (hd' φ' : List Addr) (H' : Hp) : Prop where
  pre : ∃ more, φ' = φ ++ more ∧ ∀ p ∈ more, Fr0 H p
  held : ∀ a ∈ hd', a ∈ hd ∨ Fr0 H a
  keep : ∀ b o, H b = some o → b ∉ φ → (∀ ps, o ≠ .tbl ps) → D ≠ some b → H' b = some o
  there : ∀ b o, H b = some o → (∀ ps, o ≠ .tbl ps) → ∃ o', H' b = some o' ∧ ∀ ps, o' ≠ .tbl ps
section
variable {K : KT} {D : Option Addr} {hd hd' φ φ' : List Addr} {H H' : Hp} {t : T} {v : V} {ts : List T} {xs : List V} {w : World} {d : Addr}
theorem Ext.toD (e : Ext hd φ H hd' φ' H') : ExtD D hd φ H hd' φ' H' := ⟨e.pre, e.held, fun b o h n nt _ => e.keep b o h n nt, e.there⟩
theorem ExtD.nin (e : ExtD D hd φ H hd' φ' H') {b : Addr} {o : HO} (h : H b = some o) (hn : b ∉ φ) (ht : ∀ ps, o ≠ .tbl ps) : b ∉ φ' := by
  obtain ⟨m, rfl, n⟩ := e.pre
  rw [List.mem_append]
  rintro (z | z)
  · exact hn z
  · exact fr0_not (n b z) h ht
theorem ExtD.fresh (e : ExtD D hd φ H hd' φ' H') {p : Addr} (h : Fr0 H' p) : Fr0 H p := fun o q => by
  cases o with
  | tbl ps => exact ⟨ps, rfl⟩
  | _ =>
    obtain ⟨o', h', n⟩ := e.there p _ q (fun _ z => nomatch z)
    exact (fr0_not h h' n).elim
theorem ExtD.trans {hd1 hd2 φ1 φ2 : List Addr} {H1 H2 : Hp} (a : ExtD D hd φ H hd1 φ1 H1) (b : ExtD D hd1 φ1 H1 hd2 φ2 H2) : ExtD D hd φ H hd2 φ2 H2 := by
  refine ⟨?_, fun c hc => ?_, fun c o hc hn nt hD => b.keep c o (a.keep c o hc hn nt hD) (a.nin hc hn nt) nt hD, fun c o hc nt => ?_⟩
  · obtain ⟨m1, e1, n1⟩ := a.pre
    obtain ⟨m2, e2, n2⟩ := b.pre
    refine ⟨m1 ++ m2, by rw [e2, e1, List.append_assoc], fun p hp => ?_⟩
    rcases List.mem_append.mp hp with z | z
    · exact n1 p z
    · exact a.fresh (n2 p z)
  · rcases b.held c hc with z | z
    · exact a.held c z
    · exact .inr (a.fresh z)
  · obtain ⟨o', h', n'⟩ := a.there c o hc nt
    exact b.there c o' h' n'
theorem ExtD.grow (hD : d ∈ hd) {o : HO} (ho : ∀ ps, o ≠ .tbl ps := by exact fun _ z => nomatch z) : ExtD (some d) hd φ H hd φ (upd H d o) :=
  ⟨⟨[], by simp, fun _ h => by simp at h⟩, fun _ h => .inl h, fun b u hb _ _ hn => by rw [upd_ne (fun (e : b = d) => hn (by rw [e]))]; exact hb, fun b u hb n => by
    by_cases e : b = d
    · subst e; exact ⟨o, upd_same, ho⟩
    · exact ⟨u, by rw [upd_ne e]; exact hb, n⟩⟩
/-- seen from ahead of D -/
theorem ExtD.plain (e : ExtD (some d) hd φ H hd' φ' H') (h : Fr0 H d) : Ext hd φ H hd' φ' H' :=
  ⟨e.pre, e.held, fun b o hb hn nt => e.keep b o hb hn nt (by rintro ⟨⟩; exact fr0_not h hb nt), e.there⟩
def Off (D : Option Addr) (hd : List Addr) (H : Hp) : Prop := ∀ d, D = some d → d ∈ hd ∨ Fr0 H d
theorem off_none : Off none hd H := fun _ h => nomatch h
theorem Off.ne (hD : Off D hd H) {a : Addr} {o : HO} (h : H a = some o) (n : a ∉ hd) (nt : ∀ ps, o ≠ .tbl ps) : D ≠ some a := fun e => by
  rcases hD a e with z | z
  · exact n z
  · exact fr0_not z h nt
theorem ExtD.nhd (e : ExtD D hd φ H hd' φ' H') {b : Addr} {o : HO} (h : H b = some o) (hn : b ∉ hd) (ht : ∀ ps, o ≠ .tbl ps) : b ∉ hd' := fun z => by
  rcases e.held b z with z | z
  · exact hn z
  · exact fr0_not z h ht
theorem NdX.monoD {a : Addr} {o : HO} (e : ExtD D hd φ H hd' φ' H') (hD : Off D hd H) (n : ∀ ps, o ≠ .tbl ps) (h : NdX hd φ H a o) : NdX hd' φ' H' a o := ⟨e.keep _ _ h.1 h.2.1 n (hD.ne h.1 h.2.2 n), e.nin h.1 h.2.1 n, e.nhd h.1 h.2.2 n⟩
theorem NdT.monoD {a : Addr} (e : ExtD D hd φ H hd' φ' H') (hD : Off D hd H) (h : NdT hd φ H a xs) : NdT hd' φ' H' a xs := ⟨e.keep _ _ h.1 h.2.1 (fun _ z => nomatch z) (hD.ne h.1 h.2.2 fun _ z => nomatch z), e.nin h.1 h.2.1 (fun _ z => nomatch z), e.nhd h.1 h.2.2 (fun _ z => nomatch z)⟩
theorem NdL.monoD {a : Addr} (e : ExtD D hd φ H hd' φ' H') (hD : Off D hd H) (h : NdL hd φ H a xs) : NdL hd' φ' H' a xs := ⟨e.keep _ _ h.1 h.2.1 (fun _ z => nomatch z) (hD.ne h.1 h.2.2 fun _ z => nomatch z), e.nin h.1 h.2.1 (fun _ z => nomatch z), e.nhd h.1 h.2.2 (fun _ z => nomatch z)⟩
theorem NdF.monoD {a : Addr} (e : ExtD D hd φ H hd' φ' H') (hD : Off D hd H) (h : NdF K hd φ H a xs) : NdF K hd' φ' H' a xs := by
  rcases h with ⟨o, h, z, h2, h3⟩ | h
  · have nt : ∀ ps, o ≠ .tbl ps := by rcases z with rfl | ⟨u, rfl⟩ <;> exact fun _ z => nomatch z
    exact .inl ⟨o, e.keep _ _ h h2 nt (hD.ne h h3 nt), z, e.nin h h2 nt, e.nhd h h3 nt⟩
  · exact .inr h
mutual
theorem Rep.monoD (e : ExtD D hd φ H hd' φ' H') (hD : Off D hd H) : ∀ {t : T} {v : V}, Rep K hd φ H t v → Rep K hd' φ' H' t v
  | .non, _, h => h
  | .bl _, _, h => h
  | .int _, _, h => h
  | .str _, _, h => h
  | .ty _, _, h => h
  | .tup ts, v, h => by
    unfold Rep at h ⊢
    obtain ⟨a, xs, e1, n, r⟩ := h
    exact ⟨a, xs, e1, n.monoD e hD, Reps.monoD e hD r⟩
  | .lst ts, v, h => by
    unfold Rep at h ⊢
    obtain ⟨a, xs, e1, n, r⟩ := h
    exact ⟨a, xs, e1, n.monoD e hD, Reps.monoD e hD r⟩
  | .frz ts, v, h => by
    unfold Rep at h ⊢
    obtain ⟨a, xs, e1, n, r⟩ := h
    exact ⟨a, xs, e1, n.monoD e hD, Reps.monoD e hD r⟩
  | .rng n, v, h => by
    unfold Rep at h ⊢
    obtain ⟨a, e1, h1, h2, h3⟩ := h
    exact ⟨a, e1, e.keep _ _ h1 h2 (fun _ z => nomatch z) (hD.ne h1 h3 fun _ z => nomatch z), e.nin h1 h2 (fun _ z => nomatch z), e.nhd h1 h3 (fun _ z => nomatch z)⟩
  | .cell k, v, h => by
    unfold Rep at h ⊢
    obtain ⟨a, e1, hk⟩ := h
    obtain ⟨m, rfl, _⟩ := e.pre
    exact ⟨a, e1, by rw [List.getElem?_append_left (List.getElem?_eq_some_iff.mp hk).1]; exact hk⟩
  | .glb x, v, h => by unfold Rep at h ⊢; exact h
  | .exc x ks ts, v, h => by
    unfold Rep at h ⊢
    obtain ⟨a, C, d, e1, g, n, q⟩ := h
    refine ⟨a, C, d, e1, g, n.monoD e hD exC_ne, ?_⟩
    rcases q with q | ⟨dd, vs, e2, l, n2, r⟩
    · exact .inl q
    · exact .inr ⟨dd, vs, e2, l, n2.monoD e hD (fun _ z => nomatch z), Reps.monoD e hD r⟩
  | .dct ks ts, v, h => by
    unfold Rep at h ⊢
    obtain ⟨a, vs, e1, l, n, r⟩ := h
    exact ⟨a, vs, e1, l, n.monoD e hD (fun _ z => nomatch z), Reps.monoD e hD r⟩
theorem Reps.monoD (e : ExtD D hd φ H hd' φ' H') (hD : Off D hd H) : ∀ {ts : List T} {xs : List V}, Reps K hd φ H ts xs → Reps K hd' φ' H' ts xs
  | [], _, h => by unfold Reps at h ⊢; exact h
  | t :: ts, _, h => by
    unfold Reps at h ⊢
    obtain ⟨x, r, e1, a, b⟩ := h
    exact ⟨x, r, e1, Rep.monoD e hD a, Reps.monoD e hD b⟩
end
theorem CellR.monoD {c : Cell} {a : Addr} (e : ExtD D hd φ H hd' φ' H') (hD : Off D hd H) (ha : H' a = H a) (h : CellR K hd φ H c a) : CellR K hd' φ' H' c a := by
  cases c with
  | lst ts => obtain ⟨xs, h1, h2⟩ := h; exact ⟨xs, ha.trans h1, h2.monoD e hD⟩
  | dic kvs => obtain ⟨ys, h1, h2, h3⟩ := h; exact ⟨ys, ha.trans h1, h2, h3.monoD e hD⟩
  | dit kvs => obtain ⟨ys, h1, h2, h3⟩ := h; exact ⟨ys, ha.trans h1, h2, h3.monoD e hD⟩
  | obj x ks ts => obtain ⟨C, dx, vs, h1, h2, h3, h4, h5⟩ := h; exact ⟨C, dx, vs, ha.trans h1, h2, h3, h4.monoD e hD (fun _ z => nomatch z), h5.monoD e hD⟩
theorem SR.monoD {σ : L2.St} {ρ : Env} (h : SR K hd φ H σ ρ) (e : ExtD D hd φ H hd' φ' H') (hD : Off D hd H) : SR K hd' φ' H' σ ρ := ⟨h.len, fun i t ht => by
  obtain ⟨v, h1, h2⟩ := h.get i t ht
  exact ⟨v, h1, h2.monoD e hD⟩⟩
theorem WR.grow (h : WR K hd φ H w) (hD : d ∈ hd) {o : HO} {v : HO} (hx : H d = some v) (hp : Plain v := by exact trivial) (ho : ∀ ps, o ≠ .tbl ps := by exact fun _ z => nomatch z) : WR K hd φ (upd H d o) w := by
  have e : ExtD (some d) hd φ H hd φ (upd H d o) := ExtD.grow hD ho
  have off : Off (some d) hd H := fun d' hd' => by cases hd'; exact .inl hD
  refine ⟨h.len, h.nd, h.apart, fun a ha => ?_, fun k c a h1 h2 => (h.cells k c a h1 h2).monoD e off ?_, tabs_upd h.tabs fun u q => by rw [hx] at q; cases q; exact hp⟩
  · obtain ⟨u, q, n⟩ := h.there a ha
    exact e.there a u q n
  · rw [upd_ne]
    rintro rfl
    exact h.apart _ (List.mem_of_getElem? h2) hD
end

/-! ### what is walked -/
/-- a cell that is walked stays as it is -/
abbrev OC := Option (Nat × List T)
def Kept (oc : OC) (ts : List T) (w : World) : Prop := ∀ k l, oc = some (k, l) → w[k]? = some (.lst l)
theorem kept_none {ts : List T} {w : World} : Kept none ts w := fun _ _ h => nomatch h
theorem kept_some {k : Nat} {ts l : List T} {w : World} (h : w[k]? = some (.lst l)) : Kept (some (k, l)) ts w := fun j m e => by cases e; exact h
def Src (K : KT) (hd₀ φ₀ : List Addr) (H₀ : Hp) (J : It) (ts : List T) (oc : OC) : Prop :=
  ∀ (D : Option Addr) i hd φ H w, Off D hd₀ H₀ → ExtD D hd₀ φ₀ H₀ hd φ H → WR K hd φ H w → Kept oc ts w →
    (∀ t, ts[i]? = some t → J.go i H ∧ ∀ x H', J.yld i H x H' → Ext hd φ H hd φ H' ∧ WR K hd φ H' w ∧ Rep K hd φ H' t x) ∧ (ts.length ≤ i → J.stop i H)
abbrev MI := Env → World → R (List T × OC)
abbrev CI (K : KT) (hd : List Addr) (Q : It → Hp → Prop) : List T × OC → List Addr → Hp → Prop := fun r φ' H' => ∀ J, Src K hd φ' H' J r.1 r.2 → Q J H'
def rdI (K : KT) (W : Option WX) (m : MI) : TI := fun σ H Q => ∃ hd φ ρ w, SR K hd φ H σ ρ ∧ WR K hd φ H w ∧ Pst K W hd (CI K hd Q) φ H (m ρ w)
section
variable {X : Cx} {e a b c : Expr} {pos : Pos} {tg : Expr} {K : KT} {Z : List (Addr × Str)} {W : Option WX}
theorem PI_imp {t t' : TI} (h : PI X tg e t) (i : ∀ σ H Q, t' σ H Q → t σ H Q) : PI X tg e t' := ⟨fun pins s σ H Q I q => h.run pins s σ H Q I (i σ H Q q)⟩
theorem PI_or {t t' : TI} (h : PI X tg e t) (h' : PI X tg e t') : PI X tg e (fun σ H Q => t σ H Q ∨ t' σ H Q) := ⟨fun pins s σ H Q I q => q.elim (h.run pins s σ H Q I) (h'.run pins s σ H Q I)⟩
/-- the items of a sequence, and its cell -/
def items (w : World) : T → Option (List T × OC)
  | .tup ts => some (ts, none)
  | .lst ts => some (ts, none)
  | .frz ts => some (ts, none)
  | .cell k => match w[k]? with
    | some (.lst ts) => some (ts, some (k, ts))
    | _ => none
  | _ => none
def sItems : T → World → R (List T × OC) := fun t w => match items w t with
  | some r => .ok r w
  | none => .no
def mItems (m : ME) : MI := fun ρ w => (m ρ w).bind sItems
theorem src_list {hd₀ φ₀ : List Addr} {H₀ : Hp} {a : Addr} {ts : List T} {oc : OC}
    (h : ∀ (D : Option Addr) hd φ H w, Off D hd₀ H₀ → ExtD D hd₀ φ₀ H₀ hd φ H → WR K hd φ H w → Kept oc ts w → ∃ xs, SqL K.1 H a xs ∧ Reps K hd φ H ts xs)
 : Src K hd₀ φ₀ H₀ (Itl K.1 a) ts oc := fun D i hd φ H w off e wr kp => by
  obtain ⟨xs, h1, h2⟩ := h D hd φ H w off e wr kp
  refine ⟨fun t ht => ?_, fun hl => ⟨xs, h1, by rw [← h2.len]; exact hl⟩⟩
  obtain ⟨x, hx, rx⟩ := h2.at ht
  refine ⟨⟨xs, x, h1, hx⟩, fun y H' hy => ?_⟩
  obtain ⟨rfl, hy⟩ := hy
  have := (hy xs h1).symm.trans hx
  cases this
  exact ⟨Ext.refl, wr, rx⟩
theorem src_tup {hd₀ φ₀ : List Addr} {H₀ : Hp} {a : Addr} {ts : List T} {oc : OC}
    (h : ∀ (D : Option Addr) hd φ H w, Off D hd₀ H₀ → ExtD D hd₀ φ₀ H₀ hd φ H → WR K hd φ H w → Kept oc ts w → ∃ xs, SqT K.1 H a xs ∧ Reps K hd φ H ts xs) : Src K hd₀ φ₀ H₀ (Itt K.1 a) ts oc := fun D i hd φ H w off e wr kp => by
  obtain ⟨xs, h1, h2⟩ := h D hd φ H w off e wr kp
  refine ⟨fun t ht => ?_, fun hl => ⟨xs, h1, by rw [← h2.len]; exact hl⟩⟩
  obtain ⟨x, hx, rx⟩ := h2.at ht
  refine ⟨⟨xs, x, h1, hx⟩, fun y H' hy => ?_⟩
  obtain ⟨rfl, hy⟩ := hy
  have := (hy xs h1).symm.trans hx
  cases this
  exact ⟨Ext.refl, wr, rx⟩
/-- at later heaps -/
theorem lst_later {hd₀ φ₀ : List Addr} {H₀ : Hp} {t : T} {v : V} {ts : List T} {oc : OC} {w₀ : World} (r : Rep K hd₀ φ₀ H₀ t v) (hs : items w₀ t = some (ts, oc)) (nt : ∀ us, t ≠ .tup us) :
    ∃ a, v = .ref a ∧ Kept oc ts w₀ ∧ ∀ (D : Option Addr) hd φ H w, Off D hd₀ H₀ → ExtD D hd₀ φ₀ H₀ hd φ H → WR K hd φ H w → Kept oc ts w → ∃ xs, SqL K.1 H a xs ∧ Reps K hd φ H ts xs := by
  cases t with
  | tup us => exact absurd rfl (nt us)
  | lst us =>
    cases hs
    unfold Rep at r
    obtain ⟨a, xs, e1, n, rs⟩ := r
    exact ⟨a, e1, kept_none, fun D hd φ H w off e wr kp => ⟨xs, SqL.of (n.monoD e off).1, rs.monoD e off⟩⟩
  | frz us =>
    cases hs
    unfold Rep at r
    obtain ⟨a, xs, e1, n, rs⟩ := r
    refine ⟨a, e1, kept_none, fun D hd φ H w off e wr kp => ⟨xs, ?_, rs.monoD e off⟩⟩
    rcases n.monoD e off with ⟨o, n, rfl | ⟨u, rfl⟩, _⟩ | n
    · exact SqL.of n
    · exact .inl (.inr ⟨u, n⟩)
    · rcases n with (n | ⟨_, n⟩) | n
      · cases n
      · cases n
      · exact .inr n
  | cell k =>
    unfold items at hs
    simp only at hs
    split at hs
    · rename_i us hk
      cases hs
      unfold Rep at r
      obtain ⟨a, e1, ha⟩ := r
      refine ⟨a, e1, kept_some hk, fun D hd φ H w off e wr kp => ?_⟩
      obtain ⟨m, e2, _⟩ := e.pre
      obtain ⟨xs, h1, h2⟩ := wr.cells k _ a (kp k _ rfl) (by rw [e2, List.getElem?_append_left (List.getElem?_eq_some_iff.mp ha).1]; exact ha)
      exact ⟨xs, SqL.of h1, h2⟩
    · cases hs
  | _ => cases hs
theorem di_seq {m : ME} (h : PE X e (rdE (X.K, Z) W m)) : PI X tg e (rdI (X.K, Z) W (mItems m)) := PI_imp (PI_or (pi_list h) (pi_tup h)) fun σ H Q => by
  rintro ⟨hd, φ, ρ, w, sr, wr, p⟩
  unfold mItems at p
  cases q : m ρ w with
  | no => rw [q] at p; exact p.elim
  | ex _ _ _ => (rw [q] at p; first | exact p | (rw [q]; exact p) | exact .inl ⟨hd, φ, ρ, w, sr, wr, by rw [q]; exact p⟩)
  | ok t w1 =>
    rw [q, bind_ok] at p
    unfold sItems at p
    cases q2 : items w1 t with
    | none => rw [q2] at p; exact p.elim
    | some r =>
      rw [q2] at p
      obtain ⟨ts, oc⟩ := r
      have two : (∀ us, t ≠ .tup us) ∨ ∃ us, t = .tup us := by
        cases t with
        | tup us => exact .inr ⟨us, rfl⟩
        | _ => exact .inl fun _ e => nomatch e
      rcases two with nt | ⟨us, rfl⟩
      · refine .inl ⟨hd, φ, ρ, w, sr, wr, ?_⟩
        rw [q]
        intro H' φ' e1 wr1 v rv
        obtain ⟨a, rfl, kp, h1⟩ := lst_later rv q2 nt
        obtain ⟨xs, h2, h3⟩ := h1 none hd φ' H' w1 off_none Ext.refl.toD wr1 kp
        exact ⟨a, rfl, ⟨xs, h2⟩, p H' φ' e1 wr1 _ (src_list h1)⟩
      · refine .inr ⟨hd, φ, ρ, w, sr, wr, ?_⟩
        rw [q]
        intro H' φ' e1 wr1 v rv
        cases q2
        unfold Rep at rv
        obtain ⟨a, xs, rfl, n, rs⟩ := rv
        exact ⟨a, rfl, ⟨xs, SqT.of n.1⟩, p H' φ' e1 wr1 _ (src_tup fun D hd φ H w off e wr kp => ⟨xs, SqT.of (n.monoD e off).1, rs.monoD e off⟩)⟩
/-- range -/
def rgT (lo : Int) (n : Nat) : List T := (List.range n).map fun i => .int (lo + (i : Nat))
theorem rgT_length {lo : Int} {n : Nat} : (rgT lo n).length = n := by unfold rgT; simp
theorem rgT_at {lo : Int} {n i : Nat} {t : T} (h : (rgT lo n)[i]? = some t) : t = .int (lo + i) ∧ i < n := by
  unfold rgT at h
  rw [List.getElem?_map] at h
  cases q : (List.range n)[i]? with
  | none => rw [q] at h; cases h
  | some j =>
    rw [q] at h
    obtain ⟨h1, h2⟩ := List.getElem?_eq_some_iff.mp q
    rw [List.getElem_range] at h2
    subst h2
    exact ⟨(Option.some.inj h).symm, by simpa using h1⟩
theorem src_range {hd₀ φ₀ : List Addr} {H₀ : Hp} {lo : Int} {n : Nat} : Src K hd₀ φ₀ H₀ (Itr lo n) (rgT lo n) none := fun D i hd φ H w off e wr kp => by
  refine ⟨fun t ht => ?_, fun hl => by rw [rgT_length] at hl; exact hl⟩
  obtain ⟨rfl, hi⟩ := rgT_at ht
  refine ⟨hi, fun y H' hy => ?_⟩
  obtain ⟨rfl, rfl⟩ := hy
  exact ⟨Ext.refl, wr, by unfold Rep; rfl⟩
def RgOk (i j : Int) : Prop := -(2 ^ 62) ≤ i ∧ i < 2 ^ 62 ∧ -(2 ^ 62) ≤ j ∧ j < 2 ^ 62
instance {i j : Int} : Decidable (RgOk i j) := by unfold RgOk; infer_instance
def sRange1 : List T → World → R (List T × OC) := fun ts w => match ts with
  | [.int j] => if RgOk 0 j then .ok (rgT 0 j.toNat, none) w else .no
  | _ => .no
def sRange2 : List T → World → R (List T × OC) := fun ts w => match ts with
  | [.int i, .int j] => if RgOk i j then .ok (rgT i (j - i).toNat, none) w else .no
  | _ => .no
def mRange1 (m : MF) : MI := fun ρ w => (m ρ w).bind sRange1
def mRange2 (m : MF) : MI := fun ρ w => (m ρ w).bind sRange2
theorem rep_int {hd φ : List Addr} {H : Hp} {i : Int} {v : V} (h : Rep K hd φ H (.int i) v) : v = .int i := by unfold Rep at h; exact h
theorem reps1 {hd φ : List Addr} {H : Hp} {t : T} {vs : List V} (h : Reps K hd φ H [t] vs) : ∃ v, vs = [v] ∧ Rep K hd φ H t v := by
  unfold Reps at h
  obtain ⟨v, r, rfl, h1, h2⟩ := h
  unfold Reps at h2
  subst h2
  exact ⟨v, rfl, h1⟩
theorem reps2 {hd φ : List Addr} {H : Hp} {t u : T} {vs : List V} (h : Reps K hd φ H [t, u] vs) : ∃ v x, vs = [v, x] ∧ Rep K hd φ H t v ∧ Rep K hd φ H u x := by
  unfold Reps at h
  obtain ⟨v, r, rfl, h1, h2⟩ := h
  obtain ⟨x, rfl, h3⟩ := reps1 h2
  exact ⟨v, x, rfl, h1, h3⟩
theorem di_range1 {p : Pos} {m : MF} (hm : X.mg "range" = none) (ha : PA X [a] (rdA (X.K, Z) W m)) (hg : Gl X "range" := by rfl) (hs : starEach [a] X.env = [(false, eval a X.env)] := by rfl) : PI X tg (.Call (.Name "range" p) [a] [] pos) (rdI (X.K, Z) W (mRange1 m)) := PI_imp (pi_range1 hg hm ha hs) fun σ H Q => by
  rintro ⟨hd, φ, ρ, w, sr, wr, p⟩
  refine ⟨hd, φ, ρ, w, sr, wr, ?_⟩
  unfold mRange1 at p
  cases q : m ρ w with
  | no => rw [q] at p; exact p.elim
  | ex _ _ _ => (rw [q] at p; first | exact p | (rw [q]; exact p) | exact .inl ⟨hd, φ, ρ, w, sr, wr, by rw [q]; exact p⟩)
  | ok ts w1 =>
    rw [q, bind_ok] at p
    intro H' φ' e1 wr1 vs rvs
    unfold sRange1 at p
    match ts, p with
    | [.int j], p =>
      obtain ⟨v, rfl, r1⟩ := reps1 rvs
      cases rep_int r1
      simp only at p
      split at p
      · rename_i ok
        exact ⟨j, rfl, ok.2.2.1, ok.2.2.2, p H' φ' e1 wr1 _ src_range⟩
      · exact p.elim
theorem di_range2 {p : Pos} {m : MF} (hm : X.mg "range" = none) (ha : PA X [a, b] (rdA (X.K, Z) W m)) (hg : Gl X "range" := by rfl) (hs : starEach [a, b] X.env = [(false, eval a X.env), (false, eval b X.env)] := by rfl) (hs2 : starEach [b] X.env = [(false, eval b X.env)] := by rfl) : PI X tg (.Call (.Name "range" p) [a, b] [] pos) (rdI (X.K, Z) W (mRange2 m)) := PI_imp (pi_range2 hg hm ha hs hs2) fun σ H Q => by
  rintro ⟨hd, φ, ρ, w, sr, wr, p⟩
  refine ⟨hd, φ, ρ, w, sr, wr, ?_⟩
  unfold mRange2 at p
  cases q : m ρ w with
  | no => rw [q] at p; exact p.elim
  | ex _ _ _ => (rw [q] at p; first | exact p | (rw [q]; exact p) | exact .inl ⟨hd, φ, ρ, w, sr, wr, by rw [q]; exact p⟩)
  | ok ts w1 =>
    rw [q, bind_ok] at p
    intro H' φ' e1 wr1 vs rvs
    unfold sRange2 at p
    match ts, p with
    | [.int i, .int j], p =>
      obtain ⟨v, x, rfl, r1, r2⟩ := reps2 rvs
      cases rep_int r1
      cases rep_int r2
      simp only at p
      split at p
      · rename_i ok
        exact ⟨i, j, rfl, ok, p H' φ' e1 wr1 _ src_range⟩
      · exact p.elim

/-! ### for -/
open Classical in
noncomputable def forL (g : MG) (b : MS) (oc : OC) (all : List T) : List T → Env → World → R (Env × Fl)
  | [], ρ, w => if Kept oc all w then .ok (ρ, .nx) w else .no
  | t :: ts, ρ, w => if Kept oc all w then (g t ρ w).bind fun ρ1 w1 => (b ρ1 w1).bind fun r w2 => match r.2 with
      | .nx => forL g b oc all ts r.1 w2
      | .ct => forL g b oc all ts r.1 w2
      | .bk => .ok (r.1, .nx) w2
      | .ret t => .ok (r.1, .ret t) w2
    else .no
noncomputable def mFor (it : MI) (g : MG) (b : MS) : MS := fun ρ w => (it ρ w).bind fun r w1 => forL g b r.2 r.1 r.1 ρ w1
variable {m1 : MS}
theorem ds_for {it : MI} {g : MG} {S : List Nat} {body : List Stmt} (hp : PassesOwn (model X.prog X.w) X.A X.env X.xe) (hc : X.calm = true) (hi : PI X tg e (rdI (X.K, Z) W it)) (hg : PG X tg (rdG (X.K, Z) W g S)) (hb : PSs X body (rdS (X.K, Z) W m1)) (hs : ∀ x, foldedSetIterable e X.env x = pure x := by intro _; rfl) :
    PS X (.For tg e body [] pos) (rdS (X.K, Z) W (mFor it g m1)) := PS_imp (ps_for hp hc hi hg hb hs) fun Ds σ H => by
  rintro ⟨hd, φ, ρ, w, sr, wr, p⟩
  refine ⟨hd, φ, ρ, w, sr, wr, Pst.then isPst p fun r w1 φ1 H1 e1 wr1 p1 J src => ?_⟩
  obtain ⟨all, oc⟩ := r
  simp only at p1 src
  refine ⟨fun i m σ H => m + i = all.length ∧ ∃ φ ρ w, Ext hd φ1 H1 hd φ H ∧ SR (X.K, Z) hd φ H σ ρ ∧ WR (X.K, Z) hd φ H w ∧ Pst (X.K, Z) W hd (CS (X.K, Z) hd Ds) φ H (forL g m1 oc all (all.drop i) ρ w), ⟨all.length, by omega, φ1, ρ, w1, Ext.refl, sr.mono e1, wr1, by rw [List.drop_zero]; exact p1⟩, fun i m σ H => ?_⟩
  rintro ⟨hm, φ, ρ, w, ee, sr, wr, p⟩
  by_cases hi : i < all.length
  · have hdr : all.drop i = all[i] :: all.drop (i + 1) := List.drop_eq_getElem_cons hi
    rw [hdr] at p
    unfold forL at p
    split at p
    · rename_i kp
      obtain ⟨s1, _⟩ := src none i hd φ H w off_none ee.toD wr kp
      obtain ⟨go, yl⟩ := s1 all[i] (by simp [hi])
      refine .inr ⟨go, fun σ' H' => ∃ φ ρ w, Ext hd φ1 H1 hd φ H' ∧ SR (X.K, Z) hd φ H' σ' ρ ∧ WR (X.K, Z) hd φ H' w ∧ Pst (X.K, Z) W hd (CS (X.K, Z) hd Ds) φ H' (forL g m1 oc all (all.drop (i + 1)) ρ w), fun σ' H' h => ⟨m - 1, by omega, by omega, h⟩, fun x H' hy => ?_⟩
      obtain ⟨e2, wr2, rx⟩ := yl x H' hy
      refine ⟨hd, φ, ρ, w, all[i], sr.mono e2, wr2, rx, Pst.then isPst (isPst.mono _ _ _ _ _ e2 p) fun ρ1 w3 φ3 H3 e3 wr3 p3 σ3 sr3 _ => ?_⟩
      refine ⟨hd, φ3, ρ1, w3, sr3, wr3, Pst.then isPst p3 fun r w4 φ4 H4 e4 wr4 p4 => ?_⟩
      have e5 := ((ee.trans e2).trans e3).trans e4
      obtain ⟨ρ4, fl⟩ := r
      cases fl with
      | nx => exact fun σ4 sr4 => ⟨φ4, ρ4, w4, e5, sr4, wr4, p4⟩
      | ct => exact fun σ4 sr4 => ⟨φ4, ρ4, w4, e5, sr4, wr4, p4⟩
      | bk => exact p4.ok wr4
      | ret t => exact p4.ok wr4
    · exact p.elim
  · have hdr : all.drop i = [] := List.drop_eq_nil_of_le (by omega)
    rw [hdr] at p
    unfold forL at p
    split at p
    · rename_i kp
      obtain ⟨_, s2⟩ := src none i hd φ H w off_none ee.toD wr kp
      exact .inl ⟨s2 (by omega), p.ok wr σ sr⟩
    · exact p.elim
end
end VS

set_option Elab.async false
set_option linter.all false
set_option maxRecDepth 100000
set_option maxHeartbeats 2000000
namespace VS
open PySem PySem.Spec PyProof.Rows L2

/-! ### list comprehensions -/
def wipeE (ρ : Env) : List Nat → Env
  | [] => ρ
  | v :: vs => (wipeE ρ vs).set v none
section
variable {K : KT} {hd φ : List Addr} {H : Hp} {σ : L2.St} {ρ : Env} {w : World}
theorem SR.unset (h : SR K hd φ H σ ρ) (i : Nat) : SR K hd φ H (σ.set i none) (ρ.set i none) := ⟨by simp [h.len], fun j u hu => by
  rw [List.getElem?_set] at hu
  split at hu
  · split at hu <;> simp at hu
  · rename_i e
    obtain ⟨x, h1, h2⟩ := h.get j u hu
    exact ⟨x, by rw [List.getElem?_set_ne e]; exact h1, h2⟩⟩
theorem SR.wipe (h : SR K hd φ H σ ρ) : ∀ vs : List Nat, SR K hd φ H (wipe σ vs) (wipeE ρ vs)
  | [] => h
  | v :: vs => by unfold L2.wipe wipeE; exact (SR.wipe h vs).unset v
end
open Classical in
noncomputable def compL (g : MG) (c : MT) (e : ME) (oc : OC) (all : List T) (ρ0 : Env) : List T → List T → World → R (List T)
  | [], out, w => if Kept oc all w then .ok out w else .no
  | t :: ts, out, w => if Kept oc all w then (g t ρ0 w).bind fun ρ1 w1 => (c ρ1 w1).bind fun k w2 => if k = true then (e ρ1 w2).bind fun y w3 => if out.length < sizeLine then compL g c e oc all ρ0 ts (out ++ [y]) w3 else .no
      else compL g c e oc all ρ0 ts out w2
    else .no
/-- behind a loop that fills the list at d -/
def PstD (K : KT) (hd : List Addr) (d : Addr) (C : Hp → World → List T → List Addr → Prop) (φ : List Addr) (H : Hp) : R (List T) → Prop
  | .ok out w' => ∀ H' φ' acc, ExtD (some d) hd φ H hd φ' H' → WR K hd φ' H' w' → H' d = some (.lst acc) → Reps K hd φ' H' out acc → C H' w' out φ'
  | .ex _ _ _ => False
  | .no => False
section
variable {X : Cx} {e iter : Expr} {tg : Expr} {K : KT} {Z : List (Addr × Str)} {W : Option WX}
theorem PstD.mono {hd : List Addr} {d : Addr} {C : Hp → World → List T → List Addr → Prop} {φ φ1 : List Addr} {H H1 : Hp} {r : R (List T)} (e : ExtD (some d) hd φ H hd φ1 H1) (p : PstD K hd d C φ H r) : PstD K hd d C φ1 H1 r := by
  cases r with
  | no => exact p
  | ex _ _ _ => exact p
  | ok out w => intro H' φ' acc e' wr hx rs; exact p H' φ' acc (e.trans e') wr hx rs
theorem isPstD {hd : List Addr} {d : Addr} {C : Hp → World → List T → List Addr → Prop} : IsPst K none hd (PstD K hd d C) where
  mono := fun φ H φ1 H1 r e p => p.mono e.toD
  no := fun _ _ h => h
  ex := fun _ _ _ _ _ h => h
theorem wipe_wipe {σ : L2.St} (vs : List Nat) : wipe (wipe σ vs) vs = wipe σ vs := by
  apply List.ext_getElem?
  intro j
  rw [wipe_get, wipe_get, wipe_length]
  split <;> rfl
theorem comp_loop {hd₀ φ₀ hd φ1 : List Addr} {H₀ H1 : Hp} {d : Addr} {J : It} {all : List T} {oc : OC} {g : MG} {S vs : List Nat} {mc : MT} {me : ME} {σ0 : L2.St} {ρ0 : Env} {w1 : World} {out : List T} {acc : List V} {Qd : Hp → Prop}
    (src : Src K hd₀ φ₀ H₀ J all oc) (off : Off (some d) hd₀ H₀) (e0 : ExtD (some d) hd₀ φ₀ H₀ hd φ1 H1) (hdm : d ∈ hd) (sr : SR K hd φ1 H1 σ0 ρ0) (wr : WR K hd φ1 H1 w1) (hx : H1 d = some (.lst acc)) (rs : Reps K hd φ1 H1 out acc)
    (hS : ∀ i ∈ S, i ∈ vs) {σw : L2.St} (hw : wipe σ0 vs = σw) (p : PstD K hd d (fun H' _ _ _ => Qd H') φ1 H1 (compL g mc me oc all ρ0 all out w1)) :
    ∃ W : Nat → Nat → Hp → Prop, (∃ m, W 0 m H1) ∧ ∀ i m H, W i m H →
      (J.stop i H ∧ Qd H) ∨ (J.go i H ∧ ∃ Nx : Hp → Prop, (∀ H', Nx H' → ∃ m', m' < m ∧ W (i + 1) m' H') ∧ ∀ x H', J.yld i H x H' → rdG K none g S x σ0 H' fun σ2 H2 => wipe σ2 vs = σw ∧ rdT K none mc σ2 H2 fun b H3 =>
        if b = true then rdE K none me σ2 H3 fun y H4 => ∃ acc, H4 d = some (.lst acc) ∧ acc.length < sizeLine ∧ Nx (upd H4 d (.lst (acc ++ [y]))) else Nx H3) := by
  have offd : ∀ H', Off (some d) hd H' := fun H' d' h => by cases h; exact .inl hdm
  refine ⟨fun i m H => m + i = all.length ∧ ∃ φ w out acc, ExtD (some d) hd φ1 H1 hd φ H ∧ WR K hd φ H w ∧ H d = some (.lst acc) ∧ Reps K hd φ H out acc ∧ PstD K hd d (fun H' _ _ _ => Qd H') φ H (compL g mc me oc all ρ0 (all.drop i) out w),
    ⟨all.length, by omega, φ1, w1, out, acc, Ext.refl.toD, wr, hx, rs, by rw [List.drop_zero]; exact p⟩, fun i m H => ?_⟩
  rintro ⟨hm, φ, w, out, acc, ee, wr, hx, rs, p⟩
  by_cases hi : i < all.length
  · have hdr : all.drop i = all[i] :: all.drop (i + 1) := List.drop_eq_getElem_cons hi
    rw [hdr] at p
    unfold compL at p
    split at p
    · rename_i kp
      obtain ⟨s1, _⟩ := src (some d) i hd φ H w off (e0.trans ee) wr kp
      obtain ⟨go, yl⟩ := s1 all[i] (by simp [hi])
      refine .inr ⟨go, fun H' => ∃ φ w out acc, ExtD (some d) hd φ1 H1 hd φ H' ∧ WR K hd φ H' w ∧ H' d = some (.lst acc) ∧ Reps K hd φ H' out acc ∧ PstD K hd d (fun H' _ _ _ => Qd H') φ H' (compL g mc me oc all ρ0 (all.drop (i + 1)) out w), fun H' h => ⟨m - 1, by omega, by omega, h⟩, fun x H' hy => ?_⟩
      obtain ⟨e2, wr2, rx⟩ := yl x H' hy
      have dn : ∀ {φ' : List Addr} {H' : Hp} {w' : World}, WR K hd φ' H' w' → d ∉ φ' := fun wr z => wr.apart d z hdm
      have hx2 := e2.keep d _ hx (dn wr) (fun _ z => nomatch z)
      refine ⟨hd, φ, ρ0, w, all[i], sr.monoD (ee.trans e2.toD) (offd H1), wr2, rx, Pst.then isPstD (p.mono e2.toD) fun ρ1 w3 φ3 H3 e3 wr3 p3 σ3 sr3 hw3 => ⟨(hw3 vs hS).trans hw, ?_⟩⟩
      have hx3 := e3.keep d _ hx2 (dn wr2) (fun _ z => nomatch z)
      refine ⟨hd, φ3, ρ1, w3, sr3, wr3, Pst.then isPstD p3 fun k w4 φ4 H4 e4 wr4 p4 => ?_⟩
      have hx4 := e4.keep d _ hx3 (dn wr3) (fun _ z => nomatch z)
      have r4 : Reps K hd φ4 H4 out acc := ((rs.mono e2).mono e3).mono e4
      cases k with
      | false =>
        show (if false = true then _ else _)
        rw [if_neg Bool.false_ne_true] at p4 ⊢
        exact ⟨φ4, w4, out, acc, (((ee.trans e2.toD).trans e3.toD).trans e4.toD), wr4, hx4, r4, p4⟩
      | true =>
        show (if true = true then _ else _)
        rw [if_pos rfl] at p4 ⊢
        refine ⟨hd, φ4, ρ1, w4, sr3.mono e4, wr4, Pst.then isPstD p4 fun y w5 φ5 H5 e5 wr5 p5 v rv => ?_⟩
        have hx5 := e5.keep d _ hx4 (dn wr4) (fun _ z => nomatch z)
        have r5 := r4.mono e5
        split at p5
        · rename_i hl
          have eg : ExtD (some d) hd φ5 H5 hd φ5 (upd H5 d (.lst (acc ++ [v]))) := ExtD.grow hdm
          refine ⟨acc, hx5, by rw [← r5.len]; exact hl, φ5, w5, out ++ [y], acc ++ [v], ((((ee.trans e2.toD).trans e3.toD).trans e4.toD).trans e5.toD).trans eg, wr5.grow hdm hx5, upd_same, ?_, p5.mono eg⟩
          exact (r5.append (Reps.cons rv Reps.nil)).monoD eg (offd H5)
        · exact p5.elim
    · exact p.elim
  · have hdr : all.drop i = [] := List.drop_eq_nil_of_le (by omega)
    rw [hdr] at p
    unfold compL at p
    split at p
    · rename_i kp
      obtain ⟨_, s2⟩ := src (some d) i hd φ H w off (e0.trans ee) wr kp
      exact .inl ⟨s2 (by omega), p H φ acc Ext.refl.toD wr hx rs⟩
    · exact p.elim
/-- no error is let out -/
def noX {α : Type} : R α → R α
  | .ex _ _ _ => .no
  | r => r
theorem noX_ok {α : Type} {a : α} {w : World} : noX (.ok a w) = .ok a w := rfl
noncomputable def mComp (vs : List Nat) (it : MI) (g : MG) (c : MT) (e : ME) : MF := fun ρ w => (it ρ w).bind fun r w1 => noX (compL g c e r.2 r.1 (wipeE ρ vs) r.1 [] w1)
theorem comp_read {it : MI} {g : MG} {S vs : List Nat} {mc : MT} {me : ME} (hS : ∀ i ∈ S, i ∈ vs) : ∀ σ H Q, rdF K W (mComp vs it g mc me) σ H Q → tLc (rdI K W it) (rdG K none g S) (rdT K none mc) (rdE K none me) vs σ H Q := fun σ H Q => by
  rintro ⟨hd, φ, ρ, w, sr, wr, p⟩
  refine ⟨hd, φ, ρ, w, sr, wr, Pst.then isPstF p fun r w1 φ1 H1 e1 wr1 p1 J src D nD => ?_⟩
  obtain ⟨all, oc⟩ := r
  simp only at p1 src
  have eh : Ext hd φ1 H1 (D :: hd) φ1 (upd H1 D (.lst [])) := Ext.hold nD
  have hD : D ∉ hd := (wr1.nin nD).2
  refine comp_loop (hd := D :: hd) (φ1 := φ1) (vs := vs) (σ0 := wipe σ vs) (ρ0 := wipeE ρ vs) (w1 := w1) (out := []) (acc := []) (mc := mc) (me := me) (g := g) (oc := oc) (all := all) (Qd := fun H' => Q (.ref D) H') src (fun d h => by cases h; exact .inr (fr0_none nD)) eh.toD List.mem_cons_self (((sr.mono e1).mono eh).wipe vs) (wr1.hold nD) upd_same Reps.nil hS (wipe_wipe vs) ?_
  cases q : compL g mc me oc all (wipeE ρ vs) all [] w1 with
  | no => rw [q] at p1; exact p1
  | ex _ _ _ => rw [q] at p1; exact p1.elim
  | ok out w' =>
    rw [q] at p1
    intro H' φ' acc e' wr' hx rs
    exact p1 D acc H' φ' ((eh.toD.trans e').plain (fr0_none nD)) wr' (fr0_none nD) hD hx rs
variable {elt : Expr} {ifs : List Expr} {scope : Scope} {own : List (Str × Nat)} {pos : Pos}
/-- what a block is read in -/
abbrev InBlk (X : Cx) (scope : Scope) (F : Cx → Prop) : Prop := ∀ (s : Shared) (H : Hp) (C : Addr) (cl : List (Str × Addr)) (fp : List Addr), F (X.blk s H scope (compEnvC scope cl C X.env) fp)
def PTs_imp {t t' : TT} (h : PTs X ifs t) (i : ∀ σ H Q, t' σ H Q → t σ H Q) : PTs X ifs t' := ⟨fun pins s σ H Q I q => h.run pins s σ H Q I (i σ H Q q)⟩
def mYes : MT := fun _ w => .ok true w
theorem dts_nil : PTs X [] (rdT (X.K, Z) W mYes) := PTs_imp pts_nil fun σ H Q => by
  rintro ⟨hd, φ, ρ, w, sr, wr, p⟩
  exact p.ok wr
theorem dts_one {c : Expr} {m : MT} (h : PT X c (rdT (X.K, Z) W m)) : PTs X [c] (rdT (X.K, Z) W m) := pts_one h
theorem df_comp {it : MI} {g : MG} {S : List Nat} {mc : MT} {me : ME} (hc : X.calm = true) (hN : X.N.Nodup) (hi : PI X tg iter (rdI (X.K, Z) W it)) (ok : blkC X.N X.env.scope scope own = true)
    (hg : InBlk X scope fun Y => PG Y tg (rdG (X.K, Z) none g S)) (ht : InBlk X scope fun Y => PTs Y ifs (rdT (X.K, Z) none mc)) (he : InBlk X scope fun Y => PE Y elt (rdE (X.K, Z) none me)) (hS : ∀ i ∈ S, i ∈ own.map (·.2) := by decide) (hs : ∀ x, foldedSetIterable iter X.env x = pure x := by intro _; rfl) :
    PE X (.ListComp elt [⟨tg, iter, ifs, 0⟩] scope pos) (rdF (X.K, Z) W (mComp (own.map (·.2)) it g mc me)) := PE_imp (pe_lc hc hN hi (blkOk_by ok) hg ht he hs) (comp_read hS)
/-- name = [..], both on one line -/
theorem setF_read {m : MF} {i : Nat} {t : TE} (h : ∀ σ H Q, rdF K W m σ H Q → t σ H Q) (cell : Bool) : ∀ D σ H, rdS K W (mAsg (if cell = true then mCell m else mVal m) (mgName i)) D σ H → tAsg t (gName i) D σ H := fun D σ H => by
  rintro ⟨hd, φ, ρ, w, sr, wr, p⟩
  refine h σ H _ ⟨hd, φ, ρ, w, sr, wr, ?_⟩
  cases cell with
  | false =>
    simp only [Bool.false_eq_true, if_false] at p
    unfold mAsg mVal at p
    cases q : m ρ w with
    | no => rw [q] at p; exact p
    | ex _ _ _ => rw [q] at p; exact p
    | ok ts w1 =>
      rw [q] at p
      intro a xs H' φ' e1 wr1 hn ha hx rs
      refine p H' φ' e1.free wr1.free _ ((sr.mono e1.free).set ?_ i)
      unfold Rep
      exact ⟨a, xs, rfl, ⟨hx, fun z => wr1.apart a z List.mem_cons_self, ha⟩, rs.free⟩
  | true =>
    simp only [if_true] at p
    unfold mAsg mCell at p
    cases q : m ρ w with
    | no => rw [q] at p; exact p
    | ex _ _ _ => rw [q] at p; exact p
    | ok ts w1 =>
      rw [q] at p
      intro a xs H' φ' e1 wr1 hn ha hx rs
      refine p H' (φ' ++ [a]) (e1.cell hn) (wr1.cell ha ⟨xs, hx, rs⟩) _ ((sr.mono (e1.cell hn)).set ?_ i)
      unfold Rep
      refine ⟨a, rfl, ?_⟩
      rw [← wr1.len, List.getElem?_append_right (Nat.le_refl _)]
      simp
theorem ds_setLc (i : Nat) (cell : Bool) {y : Str} {py spos : Pos} {it : MI} {g : MG} {S : List Nat} {mc : MT} {me : ME} (hc : X.calm = true) (hN : X.N.Nodup) (hi : PI X tg iter (rdI (X.K, Z) W it)) (ok : blkC X.N X.env.scope scope own = true)
    (hg : InBlk X scope fun Y => PG Y tg (rdG (X.K, Z) none g S)) (ht : InBlk X scope fun Y => PTs Y ifs (rdT (X.K, Z) none mc)) (he : InBlk X scope fun Y => PE Y elt (rdE (X.K, Z) none me)) (hsw : swapsWith (.ListComp elt [⟨tg, iter, ifs, 0⟩] scope pos) (some (.Name y py)) spos.line X.env = pure true) (hy : X.N[i]? = some y := by rfl) (hyl : X.env.scope.names.lookup y = some .local := by rfl)
    (hS : ∀ i ∈ S, i ∈ own.map (·.2) := by decide) (hs : ∀ x, foldedSetIterable iter X.env x = pure x := by intro _; rfl) :
    PS X (.Assign [.Name y py] (.ListComp elt [⟨tg, iter, ifs, 0⟩] scope pos) spos) (rdS (X.K, Z) W (mAsg (if cell = true then mCell (mComp (own.map (·.2)) it g mc me) else mVal (mComp (own.map (·.2)) it g mc me)) (mgName i))) :=
  PS_imp (ps_setLc hc hN hy hyl hsw hi (blkOk_by ok) hg ht he hs) (setF_read (comp_read hS) cell)

/-! two clauses -/
open Classical in
noncomputable def compL2 (g : MG) (c : MT) (it1 : MI) (vs1 : List Nat) (g1 : MG) (c1 : MT) (e : ME) (oc : OC) (all : List T) (ρ0 : Env) : List T → List T → World → R (List T)
  | [], out, w => if Kept oc all w then .ok out w else .no
  | t :: ts, out, w => if Kept oc all w then (g t ρ0 w).bind fun ρ1 w1 => (c ρ1 w1).bind fun k w2 => if k = true then (it1 ρ1 w2).bind fun r w3 => (compL g1 c1 e r.2 r.1 (wipeE ρ1 vs1) r.1 out w3).bind fun out w4 => compL2 g c it1 vs1 g1 c1 e oc all ρ0 ts out w4
      else compL2 g c it1 vs1 g1 c1 e oc all ρ0 ts out w2
    else .no
noncomputable def mComp2 (vs : List Nat) (it : MI) (g : MG) (c : MT) (it1 : MI) (vs1 : List Nat) (g1 : MG) (c1 : MT) (e : ME) : MF := fun ρ w => (it ρ w).bind fun r w1 => noX (compL2 g c it1 vs1 g1 c1 e r.2 r.1 (wipeE ρ vs) r.1 [] w1)
/-- the inner loop, then f -/
theorem PstD.then {β : Type} {hd φ : List Addr} {H : Hp} {d : Addr} {P : List Addr → Hp → R β → Prop} {C : Hp → World → List T → List Addr → Prop} {r : R (List T)} {f : List T → World → R β} (mono : ∀ φ H φ1 H1 r, ExtD (some d) hd φ H hd φ1 H1 → P φ H r → P φ1 H1 r) (no : ¬ P φ H .no) (ex : ∀ t ρ w, ¬ P φ H (.ex t ρ w)) (p : P φ H (r.bind f))
    (h : ∀ out w1 φ1 H1 acc, ExtD (some d) hd φ H hd φ1 H1 → WR K hd φ1 H1 w1 → H1 d = some (.lst acc) → Reps K hd φ1 H1 out acc → P φ1 H1 (f out w1) → C H1 w1 out φ1) : PstD K hd d C φ H r := by
  cases r with
  | no => exact (no p).elim
  | ex t ρ w => exact (ex _ _ _ p).elim
  | ok d w => intro H1 φ1 acc e wr hx rs; exact h d w φ1 H1 acc e wr hx rs (mono _ _ _ _ _ e p)
theorem comp2_read {it it1 : MI} {g g1 : MG} {S S1 vs vs1 : List Nat} {mc mc1 : MT} {me : ME} (hS : ∀ i ∈ S, i ∈ vs) (hS1 : ∀ i ∈ S1, i ∈ vs1) : ∀ σ H Q, rdF K W (mComp2 vs it g mc it1 vs1 g1 mc1 me) σ H Q → tLc2 (rdI K W it) (rdG K none g S) (rdT K none mc) (rdI K none it1) (rdG K none g1 S1) (rdT K none mc1) (rdE K none me) vs vs1 σ H Q := fun σ H Q => by
  rintro ⟨hd₀, φ, ρ, w, sr, wr, p⟩
  refine ⟨hd₀, φ, ρ, w, sr, wr, Pst.then isPstF p fun r w1 φ1 H1 e1 wr1 p1 J src D nD => ?_⟩
  obtain ⟨all, oc⟩ := r
  simp only at p1 src
  have eh : Ext hd₀ φ1 H1 (D :: hd₀) φ1 (upd H1 D (.lst [])) := Ext.hold nD
  have hD : D ∉ hd₀ := (wr1.nin nD).2
  have offd : ∀ H', Off (some D) (D :: hd₀) H' := fun H' d' h => by cases h; exact .inl List.mem_cons_self
  have dn : ∀ {φ' : List Addr} {H' : Hp} {w' : World}, WR K (D :: hd₀) φ' H' w' → D ∉ φ' := fun wr z => wr.apart D z List.mem_cons_self
  have p1 : PstD K (D :: hd₀) D (fun H' _ _ _ => Q (.ref D) H') φ1 (upd H1 D (.lst [])) (compL2 g mc it1 vs1 g1 mc1 me oc all (wipeE ρ vs) all [] w1) := by
    cases q : compL2 g mc it1 vs1 g1 mc1 me oc all (wipeE ρ vs) all [] w1 with
    | no => rw [q] at p1; exact p1
    | ex _ _ _ => rw [q] at p1; exact p1.elim
    | ok out w' =>
      rw [q] at p1
      intro H' φ' acc e' wr' hx rs
      exact p1 D acc H' φ' ((eh.toD.trans e').plain (fr0_none nD)) wr' (fr0_none nD) hD hx rs
  refine ⟨fun i m H => m + i = all.length ∧ ∃ φ w out acc, ExtD (some D) (D :: hd₀) φ1 (upd H1 D (.lst [])) (D :: hd₀) φ H ∧ WR K (D :: hd₀) φ H w ∧ H D = some (.lst acc) ∧ Reps K (D :: hd₀) φ H out acc ∧ PstD K (D :: hd₀) D (fun H' _ _ _ => Q (.ref D) H') φ H (compL2 g mc it1 vs1 g1 mc1 me oc all (wipeE ρ vs) (all.drop i) out w),
    ⟨all.length, by omega, φ1, w1, [], [], Ext.refl.toD, wr1.hold nD, upd_same, Reps.nil, by rw [List.drop_zero]; exact p1⟩, fun i m H => ?_⟩
  rintro ⟨hm, φ, w, out, acc, ee, wr, hx, rs, p⟩
  have src0 := src (some D) i (D :: hd₀) φ H w (fun d h => by cases h; exact .inr (fr0_none nD)) (eh.toD.trans ee) wr
  by_cases hi : i < all.length
  · have hdr : all.drop i = all[i] :: all.drop (i + 1) := List.drop_eq_getElem_cons hi
    rw [hdr] at p
    unfold compL2 at p
    split at p
    · rename_i kp
      obtain ⟨s1, _⟩ := src0 kp
      obtain ⟨go, yl⟩ := s1 all[i] (by simp [hi])
      refine .inr ⟨go, fun H' => ∃ φ w out acc, ExtD (some D) (D :: hd₀) φ1 (upd H1 D (.lst [])) (D :: hd₀) φ H' ∧ WR K (D :: hd₀) φ H' w ∧ H' D = some (.lst acc) ∧ Reps K (D :: hd₀) φ H' out acc ∧ PstD K (D :: hd₀) D (fun H' _ _ _ => Q (.ref D) H') φ H' (compL2 g mc it1 vs1 g1 mc1 me oc all (wipeE ρ vs) (all.drop (i + 1)) out w), fun H' h => ⟨m - 1, by omega, by omega, h⟩, fun x H' hy => ?_⟩
      obtain ⟨e2, wr2, rx⟩ := yl x H' hy
      have hx2 := e2.keep D _ hx (dn wr) (fun _ z => nomatch z)
      refine ⟨D :: hd₀, φ, wipeE ρ vs, w, all[i], (((sr.mono e1).mono eh).wipe vs).monoD (ee.trans e2.toD) (offd _), wr2, rx, Pst.then isPstD (p.mono e2.toD) fun ρ1 w3 φ3 H3 e3 wr3 p3 σ3 sr3 hw => ⟨(hw vs hS).trans (wipe_wipe vs), ?_⟩⟩
      have hx3 := e3.keep D _ hx2 (dn wr2) (fun _ z => nomatch z)
      refine ⟨D :: hd₀, φ3, ρ1, w3, sr3, wr3, Pst.then isPstD p3 fun k w4 φ4 H4 e4 wr4 p4 => ?_⟩
      have hx4 := e4.keep D _ hx3 (dn wr3) (fun _ z => nomatch z)
      have r4 : Reps K (D :: hd₀) φ4 H4 out acc := ((rs.mono e2).mono e3).mono e4
      have e04 := ((ee.trans e2.toD).trans e3.toD).trans e4.toD
      cases k with
      | false =>
        show (if false = true then _ else _)
        rw [if_neg Bool.false_ne_true] at p4 ⊢
        exact ⟨φ4, w4, out, acc, e04, wr4, hx4, r4, p4⟩
      | true =>
        show (if true = true then _ else _)
        rw [if_pos rfl] at p4 ⊢
        refine ⟨D :: hd₀, φ4, ρ1, w4, sr3.mono e4, wr4, Pst.then isPstD p4 fun r w5 φ5 H5 e5 wr5 p5 J1 src1 => ?_⟩
        obtain ⟨all1, oc1⟩ := r
        simp only at p5 src1
        have hx5 := e5.keep D _ hx4 (dn wr4) (fun _ z => nomatch z)
        refine comp_loop (hd := D :: hd₀) (φ1 := φ5) (vs := vs1) (σ0 := wipe σ3 vs1) (ρ0 := wipeE ρ1 vs1) (w1 := w5) (out := out) (acc := acc) (mc := mc1) (me := me) (g := g1) (oc := oc1) (all := all1) src1 (offd _) Ext.refl.toD List.mem_cons_self (((sr3.mono e4).mono e5).wipe vs1) wr5 hx5 (r4.mono e5) hS1 (wipe_wipe vs1) ?_
        refine PstD.then (P := PstD K (D :: hd₀) D fun H' _ _ _ => Q (.ref D) H') (fun _ _ _ _ _ e p => p.mono e) (fun h => h) (fun _ _ _ h => h) p5 fun out6 w6 φ6 H6 acc6 e6 wr6 hx6 rs6 p6 => ?_
        exact ⟨φ6, w6, out6, acc6, (e04.trans e5.toD).trans e6, wr6, hx6, rs6, p6⟩
    · exact p.elim
  · have hdr : all.drop i = [] := List.drop_eq_nil_of_le (by omega)
    rw [hdr] at p
    unfold compL2 at p
    split at p
    · rename_i kp
      obtain ⟨_, s2⟩ := src0 kp
      exact .inl ⟨s2 (by omega), p H φ acc Ext.refl.toD wr hx rs⟩
    · exact p.elim
theorem df_comp2 {tg1 iter1 : Expr} {ifs1 : List Expr} {vs1 : List Nat} {it it1 : MI} {g g1 : MG} {S S1 : List Nat} {mc mc1 : MT} {me : ME} (hc : X.calm = true) (hN : X.N.Nodup) (hi : PI X tg iter (rdI (X.K, Z) W it)) (ok : blkC X.N X.env.scope scope own = true)
    (hg : InBlk X scope fun Y => PG Y tg (rdG (X.K, Z) none g S)) (ht : InBlk X scope fun Y => PTs Y ifs (rdT (X.K, Z) none mc)) (hi1 : InBlk X scope fun Y => PI Y tg1 iter1 (rdI (X.K, Z) none it1)) (hg1 : InBlk X scope fun Y => PG Y tg1 (rdG (X.K, Z) none g1 S1)) (ht1 : InBlk X scope fun Y => PTs Y ifs1 (rdT (X.K, Z) none mc1)) (he : InBlk X scope fun Y => PE Y elt (rdE (X.K, Z) none me))
    (hv : ∀ i ∈ vs1, i ∈ own.map (·.2) := by decide) (hS : ∀ i ∈ S, i ∈ own.map (·.2) := by decide) (hS1 : ∀ i ∈ S1, i ∈ vs1 := by decide) (hs : ∀ x, foldedSetIterable iter X.env x = pure x := by intro _; rfl) (hs1 : ∀ env x, foldedSetIterable iter1 env x = pure x := by intro _ _; rfl) :
    PE X (.ListComp elt [⟨tg, iter, ifs, 0⟩, ⟨tg1, iter1, ifs1, 0⟩] scope pos) (rdF (X.K, Z) W (mComp2 (own.map (·.2)) it g mc it1 vs1 g1 mc1 me)) := PE_imp (pe_lc2 hc hN hi (blkOk_by ok) hv hg ht hi1 hg1 ht1 he hs hs1) (comp2_read hS hS1)
end
end VS

set_option Elab.async false
set_option linter.all false
set_option maxRecDepth 100000
set_option maxHeartbeats 2000000
namespace VS
open PySem PySem.Spec PyProof.Rows L2
section
variable {X : Cx} {K : KT} {Z : List (Addr × Str)} {W : Option WX} {hd φ : List Addr} {H : Hp} {w : World}
theorem PE_or {e : Expr} {t t' : TE} (h : PE X e t) (h' : PE X e t') : PE X e (fun σ H Q => t σ H Q ∨ t' σ H Q) := ⟨fun pins s σ H Q I q => q.elim (h.run pins s σ H Q I) (h'.run pins s σ H Q I)⟩
theorem PT_or {e : Expr} {t t' : TT} (h : PT X e t) (h' : PT X e t') : PT X e (fun σ H Q => t σ H Q ∨ t' σ H Q) := ⟨fun pins s σ H Q I q => q.elim (h.run pins s σ H Q I) (h'.run pins s σ H Q I)⟩
theorem Pst.int {Q : VK} {i : Int} {w' : World} (p : Pst K W hd (CE K hd Q) φ H (.ok (.int i) w')) (wr : WR K hd φ H w') : Q (.int i) H := p.ok wr _ (by unfold Rep; rfl)
theorem Pst.bl {Q : VK} {i : Bool} {w' : World} (p : Pst K W hd (CE K hd Q) φ H (.ok (.bl i) w')) (wr : WR K hd φ H w') : Q (.bl i) H := p.ok wr _ (by unfold Rep; rfl)
/-- a new tuple -/
theorem Pst.tup {Q : VK} {ts : List T} {xs : List V} {w' : World} (p : Pst K W hd (CE K hd Q) φ H (.ok (.tup ts) w')) (wr : WR K hd φ H w') (r : Reps K hd φ H ts xs) : ∀ q, H q = none → Q (.ref q) (upd H q (.tup xs)) := fun q hq => by
  refine p (upd H q (.tup xs)) φ (Ext.new hq) (wr.new hq) _ ?_
  unfold Rep
  exact ⟨q, xs, rfl, ⟨upd_same, wr.nin hq⟩, r.mono (Ext.new hq)⟩
/-- a new list -/
theorem PstF.new {Q : VK} {ts : List T} {xs : List V} {w' : World} (p : PstF K W hd Q φ H (.ok ts w')) (wr : WR K hd φ H w') (r : Reps K hd φ H ts xs) : ∀ q, H q = none → Q (.ref q) (upd H q (.lst xs)) := fun q hq =>
  p q xs (upd H q (.lst xs)) φ (Ext.hold hq) (wr.hold hq) (fr0_none hq) (wr.nin hq).2 upd_same (r.mono (Ext.hold hq))

/-! ### ints -/
def s2I (C : Int → Int → Prop) [∀ i j, Decidable (C i j)] (g : Int → Int → T) : S2 := fun x y w => match x, y with
  | .int i, .int j => if C i j then .ok (g i j) w else .no
  | _, _ => .no
instance {i j : Int} : Decidable (CMul i j) := by unfold CMul; infer_instance
instance {i j : Int} : Decidable (CDiv i j) := by unfold CDiv; infer_instance
instance {i j : Int} : Decidable (CPow i j) := by unfold CPow; infer_instance
abbrev CTrue : Int → Int → Prop := fun _ _ => True
theorem op2I {C : Int → Int → Prop} [∀ i j, Decidable (C i j)] {g : Int → Int → Int} : Op2 K (s2I C fun i j => .int (g i j)) (rI C fun i j => .int (g i j)) := fun W hd φ H w dx dy x y Q wr rx ry p => by
  cases dx with
  | int i =>
    cases dy with
    | int j =>
      cases rep_int rx
      cases rep_int ry
      unfold s2I at p
      simp only at p
      split at p
      · rename_i hc
        exact ⟨i, j, rfl, rfl, hc, p.int wr⟩
      · exact p.elim
    | _ => exact p.elim
  | _ => exact p.elim
theorem op2I0 {g : Int → Int → Int} : Op2 K (s2I CTrue fun i j => .int (g i j)) (rI0 fun i j => .int (g i j)) := fun W hd φ H w dx dy x y Q wr rx ry p => by
  obtain ⟨i, j, e1, e2, _, q⟩ := op2I W hd φ H w dx dy x y Q wr rx ry p
  exact ⟨i, j, e1, e2, q⟩
theorem op2B0 {g : Int → Int → Bool} : Op2 K (s2I CTrue fun i j => .bl (g i j)) (rI0 fun i j => .bl (g i j)) := fun W hd φ H w dx dy x y Q wr rx ry p => by
  cases dx with
  | int i =>
    cases dy with
    | int j =>
      cases rep_int rx
      cases rep_int ry
      unfold s2I at p
      simp only at p
      rw [if_pos trivial] at p
      exact ⟨i, j, rfl, rfl, p.bl wr⟩
    | _ => exact p.elim
  | _ => exact p.elim
def sSub : S2 := s2I CTrue fun i j => .int (i - j)
def sFdiv : S2 := s2I CDiv fun i j => .int (i / j)
def sMod : S2 := s2I (fun _ j => 0 < j) fun i j => .int (i % j)
def sPow : S2 := s2I CPow fun i j => .int (i ^ j.toNat)
def sShl : S2 := s2I CPow fun i j => .int (i * 2 ^ j.toNat)
def sBor : S2 := s2I CTrue fun i j => .int (Builtin.bitOr i j)
def sBand : S2 := s2I CTrue fun i j => .int (Builtin.bitAnd i j)
def sLt : S2 := s2I CTrue fun i j => .bl (decide (i < j))
def sLe : S2 := s2I CTrue fun i j => .bl (decide (i ≤ j))
def sGt : S2 := s2I CTrue fun i j => .bl (decide (j < i))
def sGe : S2 := s2I CTrue fun i j => .bl (decide (j ≤ i))
variable {a b : Expr} {pos : Pos} {ma mb : ME}
section
variable (ha : PE X a (rdE (X.K, Z) W ma)) (hb : PE X b (rdE (X.K, Z) W mb))
include ha hb
theorem de_sub : PE X (.BinOp a .Sub b pos) (rdE (X.K, Z) W (mOp2 sSub ma mb)) := de_op op_sub op2I0 ha hb
theorem de_fdiv : PE X (.BinOp a .FloorDiv b pos) (rdE (X.K, Z) W (mOp2 sFdiv ma mb)) := de_op op_fdiv op2I ha hb
theorem de_mod : PE X (.BinOp a .Mod b pos) (rdE (X.K, Z) W (mOp2 sMod ma mb)) := de_op op_mod op2I ha hb
theorem de_pow : PE X (.BinOp a .Pow b pos) (rdE (X.K, Z) W (mOp2 sPow ma mb)) := de_op op_pow op2I ha hb
theorem de_shl : PE X (.BinOp a .LShift b pos) (rdE (X.K, Z) W (mOp2 sShl ma mb)) := de_op op_shl op2I ha hb
theorem de_bor : PE X (.BinOp a .BitOr b pos) (rdE (X.K, Z) W (mOp2 sBor ma mb)) := de_op op_or op2I0 ha hb
theorem de_band : PE X (.BinOp a .BitAnd b pos) (rdE (X.K, Z) W (mOp2 sBand ma mb)) := de_op op_and op2I0 ha hb
theorem de_lt : PE X (.Compare a [.Lt] [b] pos) (rdE (X.K, Z) W (mOp2 sLt ma mb)) := de_cmp op_lt op2B0 ha hb (nomark _)
theorem de_le : PE X (.Compare a [.LtE] [b] pos) (rdE (X.K, Z) W (mOp2 sLe ma mb)) := de_cmp op_le op2B0 ha hb (nomark _)
theorem de_gt : PE X (.Compare a [.Gt] [b] pos) (rdE (X.K, Z) W (mOp2 sGt ma mb)) := de_cmp op_gt op2B0 ha hb (nomark _)
theorem de_ge : PE X (.Compare a [.GtE] [b] pos) (rdE (X.K, Z) W (mOp2 sGe ma mb)) := de_cmp op_ge op2B0 ha hb (nomark _)
theorem dt_lt : PT X (.Compare a [.Lt] [b] pos) (rdT (X.K, Z) W (mTest (mOp2 sLt ma mb))) := dt_cmp op_lt op2B0 ha hb (nomark _)
theorem dt_le : PT X (.Compare a [.LtE] [b] pos) (rdT (X.K, Z) W (mTest (mOp2 sLe ma mb))) := dt_cmp op_le op2B0 ha hb (nomark _)
theorem dt_gt : PT X (.Compare a [.Gt] [b] pos) (rdT (X.K, Z) W (mTest (mOp2 sGt ma mb))) := dt_cmp op_gt op2B0 ha hb (nomark _)
theorem dt_ge : PT X (.Compare a [.GtE] [b] pos) (rdT (X.K, Z) W (mTest (mOp2 sGe ma mb))) := dt_cmp op_ge op2B0 ha hb (nomark _)
end
def sNeg : S1 := fun x w => match x with
  | .int i => .ok (.int (-i)) w
  | _ => .no
theorem de_neg (ha : PE X a (rdE (X.K, Z) W ma)) : PE X (.UnaryOp .USub a pos) (rdE (X.K, Z) W (mOp1 sNeg ma)) := de_un un_neg (fun W hd φ H w dx x Q wr rx p => by
  cases dx with
  | int i => cases rep_int rx; exact ⟨i, rfl, p.int wr⟩
  | _ => exact p.elim) ha

/-! ### + and * -/
def sAdd : S2 := fun x y w => match x, y with
  | .int i, .int j => .ok (.int (i + j)) w
  | .str i, .str j => if i.length + j.length ≤ sizeLine then .ok (.str (i ++ j)) w else .no
  | .tup ts, .tup us => if ts.length + us.length ≤ sizeLine then .ok (.tup (ts ++ us)) w else .no
  | _, _ => .no
theorem opAdd : Op2 K sAdd (fun x y H Q => (rI0 fun i j => .int (i + j)) x y H Q ∨ (fun x y H Q => ∃ i j, x = .str i ∧ y = .str j ∧ i.length + j.length ≤ sizeLine ∧ Q (.str (i ++ j)) H) x y H Q ∨ rCatA K.1 x y H Q) := fun W hd φ H w dx dy x y Q wr rx ry p => by
  cases dx with
  | int i =>
    cases dy with
    | int j => cases rep_int rx; cases rep_int ry; exact .inl ⟨i, j, rfl, rfl, p.int wr⟩
    | _ => exact p.elim
  | str i =>
    cases dy with
    | str j =>
      unfold Rep at rx ry
      subst rx ry
      unfold sAdd at p
      simp only at p
      split at p
      · rename_i hl
        exact .inr (.inl ⟨i, j, rfl, rfl, hl, p.ok wr _ (by unfold Rep; rfl)⟩)
      · exact p.elim
    | _ => exact p.elim
  | tup ts =>
    cases dy with
    | tup us =>
      unfold sAdd at p
      simp only at p
      split at p
      · rename_i hl
        have rx' := rx
        have ry' := ry
        unfold Rep at rx ry
        obtain ⟨l, xs, rfl, n1, r1⟩ := rx
        obtain ⟨m, ys, rfl, n2, r2⟩ := ry
        refine .inr (.inr ⟨l, m, xs, ys, rfl, rfl, SqT.of n1.1, SqT.of n2.1, by rw [← r1.len, ← r2.len]; exact hl, fun e => ?_, fun _ e => ?_, fun _ _ => p.tup wr (r1.append r2)⟩)
        · have : ts = [] := List.eq_nil_of_length_eq_zero (by rw [r1.len, e]; rfl)
          subst this
          exact p.ok wr _ ry'
        · have : us = [] := List.eq_nil_of_length_eq_zero (by rw [r2.len, e]; rfl)
          subst this
          rw [List.append_nil] at p
          exact p.ok wr _ rx'
      · exact p.elim
    | _ => exact p.elim
  | _ => exact p.elim
theorem de_add (ha : PE X a (rdE (X.K, Z) W ma)) (hb : PE X b (rdE (X.K, Z) W mb)) : PE X (.BinOp a .Add b pos) (rdE (X.K, Z) W (mOp2 sAdd ma mb)) := de_op (op_add.or (op_add_str.or op_catA)) opAdd ha hb
/-- a list that stands by itself, not the script -/
def lst? (w : World) : T → Option (List T)
  | .lst ts => some ts
  | .cell k => match w[k]? with
    | some (.lst ts) => some ts
    | _ => none
  | _ => none
theorem lst_at (wr : WR K hd φ H w) {t : T} {v : V} {ts : List T} (r : Rep K hd φ H t v) (hs : lst? w t = some ts) : ∃ a xs, v = .ref a ∧ H a = some (.lst xs) ∧ Reps K hd φ H ts xs := by
  cases t with
  | lst us =>
    cases hs
    unfold Rep at r
    obtain ⟨a, xs, e, n, rs⟩ := r
    exact ⟨a, xs, e, n.1, rs⟩
  | cell k =>
    unfold lst? at hs
    simp only at hs
    split at hs
    · rename_i us hk
      cases hs
      obtain ⟨a, e, hk, _, xs, h1, h2⟩ := cell_at wr r hk
      exact ⟨a, xs, e, h1, h2⟩
    · cases hs
  | _ => cases hs
def sCat : S2F := fun x y w => match lst? w x, lst? w y with
  | some ts, some us => if ts.length + us.length ≤ sizeLine then .ok (ts ++ us) w else .no
  | _, _ => .no
theorem df_add (ha : PE X a (rdE (X.K, Z) W ma)) (hb : PE X b (rdE (X.K, Z) W mb)) : PE X (.BinOp a .Add b pos) (rdF (X.K, Z) W (mOp2F sCat ma mb)) := df_op op_cat (fun W hd φ H w dx dy x y Q wr rx ry p => by
  unfold sCat at p
  cases q1 : lst? w dx with
  | none => rw [q1] at p; exact p.elim
  | some ts =>
    cases q2 : lst? w dy with
    | none => rw [q1, q2] at p; exact p.elim
    | some us =>
      rw [q1, q2] at p
      simp only at p
      split at p
      · rename_i hl
        obtain ⟨l, xs, rfl, h1, r1⟩ := lst_at wr rx q1
        obtain ⟨m, ys, rfl, h2, r2⟩ := lst_at wr ry q2
        exact ⟨l, m, xs, ys, rfl, rfl, h1, h2, by rw [← r1.len, ← r2.len]; exact hl, p.new wr (r1.append r2)⟩
      · exact p.elim) ha hb
def sMul : S2 := fun x y w => match x, y with
  | .int i, .int j => if CMul i j then .ok (.int (i * j)) w else .no
  | .tup ts, .int k => if ts ≠ [] ∧ 2 ≤ k ∧ k ≤ 1000 ∧ ts.length ≤ 1000 then .ok (.tup (List.replicate k.toNat ts).flatten) w else .no
  | _, _ => .no
theorem de_mul (ha : PE X a (rdE (X.K, Z) W ma)) (hb : PE X b (rdE (X.K, Z) W mb)) : PE X (.BinOp a .Mult b pos) (rdE (X.K, Z) W (mOp2 sMul ma mb)) := de_op (op_mul.or op_repT) (fun W hd φ H w dx dy x y Q wr rx ry p => by
  cases dx with
  | int i =>
    cases dy with
    | int j =>
      cases rep_int rx
      cases rep_int ry
      unfold sMul at p
      simp only at p
      split at p
      · rename_i hc; exact .inl ⟨i, j, rfl, rfl, hc, p.int wr⟩
      · exact p.elim
    | _ => exact p.elim
  | tup ts =>
    cases dy with
    | int j =>
      cases rep_int ry
      unfold Rep at rx
      obtain ⟨l, xs, rfl, n1, r1⟩ := rx
      unfold sMul at p
      simp only at p
      split at p
      · rename_i hc
        refine .inr ⟨l, j, xs, rfl, rfl, SqT.of n1.1, fun e => hc.1 (List.eq_nil_of_length_eq_zero (by rw [r1.len, e]; rfl)), hc.2.1, hc.2.2.1, by rw [← r1.len]; exact hc.2.2.2, p.tup wr (r1.flat _)⟩
      · exact p.elim
    | _ => exact p.elim
  | _ => exact p.elim) ha hb
def sRep : S2F := fun x y w => match lst? w x, y with
  | some ts, .int k => if -(2 ^ 63) ≤ k ∧ k < 2 ^ 63 ∧ ts.length * k.toNat ≤ sizeLine then .ok (List.replicate k.toNat ts).flatten w else .no
  | _, _ => .no
theorem df_mul (ha : PE X a (rdE (X.K, Z) W ma)) (hb : PE X b (rdE (X.K, Z) W mb)) : PE X (.BinOp a .Mult b pos) (rdF (X.K, Z) W (mOp2F sRep ma mb)) := df_op op_rep (fun W hd φ H w dx dy x y Q wr rx ry p => by
  unfold sRep at p
  cases q1 : lst? w dx with
  | none => rw [q1] at p; exact p.elim
  | some ts =>
    cases dy with
    | int k =>
      rw [q1] at p
      simp only at p
      split at p
      · rename_i hl
        cases rep_int ry
        obtain ⟨l, xs, rfl, h1, r1⟩ := lst_at wr rx q1
        exact ⟨l, k, xs, rfl, rfl, h1, hl.1, hl.2.1, by rw [← r1.len]; exact hl.2.2, p.new wr (r1.flat _)⟩
      · exact p.elim
    | _ => rw [q1] at p; exact p.elim) ha hb

/-! ### == and != -/
mutual
def pd0 : T → Option PyData
  | .non => some .none
  | .bl b => some (.bool b)
  | .int i => some (.int i)
  | .str x => some (.str x)
  | .ty _ => none
  | .tup ts => (pds0 ts).map .tuple
  | .lst ts => (pds0 ts).map .list
  | .frz ts => (pds0 ts).map .list
  | .rng _ => none
  | .glb _ => none
  | .exc _ _ _ => none
  | .dct _ _ => none
  | .cell _ => none
def pds0 : List T → Option (List PyData)
  | [] => some []
  | t :: ts => match pd0 t, pds0 ts with
    | some d, some ds => some (d :: ds)
    | _, _ => none
end
mutual
def pd (w : World) : T → Option PyData
  | .non => some .none
  | .bl b => some (.bool b)
  | .int i => some (.int i)
  | .str x => some (.str x)
  | .ty _ => none
  | .tup ts => (pds w ts).map .tuple
  | .lst ts => (pds w ts).map .list
  | .frz ts => (pds w ts).map .list
  | .rng _ => none
  | .glb _ => none
  | .exc _ _ _ => none
  | .dct _ _ => none
  | .cell k => match w[k]? with
    | some (.lst ts) => (pds0 ts).map .list
    | _ => none
def pds (w : World) : List T → Option (List PyData)
  | [] => some []
  | t :: ts => match pd w t, pds w ts with
    | some d, some ds => some (d :: ds)
    | _, _ => none
end
theorem pds0_cons {t : T} {ts : List T} {ds : List PyData} (h : pds0 (t :: ts) = some ds) : ∃ d r, ds = d :: r ∧ pd0 t = some d ∧ pds0 ts = some r := by
  unfold pds0 at h
  split at h
  · rename_i d r e1 e2; cases h; exact ⟨d, r, rfl, e1, e2⟩
  · cases h
theorem pds_cons {t : T} {ts : List T} {ds : List PyData} (h : pds w (t :: ts) = some ds) : ∃ d r, ds = d :: r ∧ pd w t = some d ∧ pds w ts = some r := by
  unfold pds at h
  split at h
  · rename_i d r e1 e2; cases h; exact ⟨d, r, rfl, e1, e2⟩
  · cases h
theorem map_some {α β : Type} {f : α → β} {o : Option α} {b : β} (h : o.map f = some b) : ∃ a, o = some a ∧ f a = b := by
  cases o with
  | none => cases h
  | some a => exact ⟨a, rfl, Option.some.inj h⟩
theorem frz_sq {a : Addr} {xs : List V} (n : NdF K hd φ H a xs) : SqL K.1 H a xs := by
  rcases n with ⟨o, n, rfl | ⟨u, rfl⟩, _⟩ | n
  · exact SqL.of n
  · exact .inl (.inr ⟨u, n⟩)
  · rcases n with (n | ⟨_, n⟩) | n
    · cases n
    · cases n
    · exact .inr n
mutual
theorem dp0 : ∀ {t : T} {v : V} {d : PyData}, Rep K hd φ H t v → pd0 t = some d → Dp K.1 H v d
  | .non, v, d, r, h => by unfold Rep at r; unfold pd0 at h; subst r; cases h; exact .non
  | .bl b, v, d, r, h => by unfold Rep at r; unfold pd0 at h; subst r; cases h; exact .bl b
  | .int i, v, d, r, h => by unfold Rep at r; unfold pd0 at h; subst r; cases h; exact .int i
  | .str x, v, d, r, h => by unfold Rep at r; unfold pd0 at h; subst r; cases h; exact .str x
  | .ty _, v, d, r, h => by unfold pd0 at h; cases h
  | .rng _, v, d, r, h => by unfold pd0 at h; cases h
  | .glb _, v, d, r, h => by unfold pd0 at h; cases h
  | .exc _ _ _, v, d, r, h => by unfold pd0 at h; cases h
  | .dct _ _, v, d, r, h => by unfold pd0 at h; cases h
  | .cell _, v, d, r, h => by unfold pd0 at h; cases h
  | .tup ts, v, d, r, h => by
    unfold Rep at r; unfold pd0 at h
    obtain ⟨a, xs, rfl, n, rs⟩ := r
    obtain ⟨ds, h1, rfl⟩ := map_some h
    exact .tup (SqT.of n.1) (dps0 rs h1)
  | .lst ts, v, d, r, h => by
    unfold Rep at r; unfold pd0 at h
    obtain ⟨a, xs, rfl, n, rs⟩ := r
    obtain ⟨ds, h1, rfl⟩ := map_some h
    exact .lst (SqL.of n.1) (dps0 rs h1)
  | .frz ts, v, d, r, h => by
    unfold Rep at r; unfold pd0 at h
    obtain ⟨a, xs, rfl, n, rs⟩ := r
    obtain ⟨ds, h1, rfl⟩ := map_some h
    exact .lst (frz_sq n) (dps0 rs h1)
theorem dps0 : ∀ {ts : List T} {vs : List V} {ds : List PyData}, Reps K hd φ H ts vs → pds0 ts = some ds → DpAll K.1 H vs ds
  | [], vs, ds, r, h => by unfold Reps at r; unfold pds0 at h; subst r; cases h; exact .nil
  | t :: ts, vs, ds, r, h => by
    unfold Reps at r
    obtain ⟨x, xs, rfl, r1, r2⟩ := r
    obtain ⟨d, ds', rfl, h1, h2⟩ := pds0_cons h
    exact .cons (dp0 r1 h1) (dps0 r2 h2)
end
mutual
theorem dp (wr : WR K hd φ H w) : ∀ {t : T} {v : V} {d : PyData}, Rep K hd φ H t v → pd w t = some d → Dp K.1 H v d
  | .non, v, d, r, h => by unfold Rep at r; unfold pd at h; subst r; cases h; exact .non
  | .bl b, v, d, r, h => by unfold Rep at r; unfold pd at h; subst r; cases h; exact .bl b
  | .int i, v, d, r, h => by unfold Rep at r; unfold pd at h; subst r; cases h; exact .int i
  | .str x, v, d, r, h => by unfold Rep at r; unfold pd at h; subst r; cases h; exact .str x
  | .ty _, v, d, r, h => by unfold pd at h; cases h
  | .rng _, v, d, r, h => by unfold pd at h; cases h
  | .glb _, v, d, r, h => by unfold pd at h; cases h
  | .exc _ _ _, v, d, r, h => by unfold pd at h; cases h
  | .dct _ _, v, d, r, h => by unfold pd at h; cases h
  | .cell k, v, d, r, h => by
    unfold pd at h
    split at h
    · rename_i ts hk
      obtain ⟨ds, h1, rfl⟩ := map_some h
      obtain ⟨a, rfl, _, _, xs, h2, h3⟩ := cell_at wr r hk
      exact .lst (SqL.of h2) (dps0 h3 h1)
    · cases h
  | .tup ts, v, d, r, h => by
    unfold Rep at r; unfold pd at h
    obtain ⟨a, xs, rfl, n, rs⟩ := r
    obtain ⟨ds, h1, rfl⟩ := map_some h
    exact .tup (SqT.of n.1) (dps wr rs h1)
  | .lst ts, v, d, r, h => by
    unfold Rep at r; unfold pd at h
    obtain ⟨a, xs, rfl, n, rs⟩ := r
    obtain ⟨ds, h1, rfl⟩ := map_some h
    exact .lst (SqL.of n.1) (dps wr rs h1)
  | .frz ts, v, d, r, h => by
    unfold Rep at r; unfold pd at h
    obtain ⟨a, xs, rfl, n, rs⟩ := r
    obtain ⟨ds, h1, rfl⟩ := map_some h
    exact .lst (frz_sq n) (dps wr rs h1)
theorem dps (wr : WR K hd φ H w) : ∀ {ts : List T} {vs : List V} {ds : List PyData}, Reps K hd φ H ts vs → pds w ts = some ds → DpAll K.1 H vs ds
  | [], vs, ds, r, h => by unfold Reps at r; unfold pds at h; subst r; cases h; exact .nil
  | t :: ts, vs, ds, r, h => by
    unfold Reps at r
    obtain ⟨x, xs, rfl, r1, r2⟩ := r
    obtain ⟨d, ds', rfl, h1, h2⟩ := pds_cons h
    exact .cons (dp wr r1 h1) (dps wr r2 h2)
end
def eqT (w : World) (x y : T) : Option Bool := match pd w x, pd w y with
  | some d, some e => if SeqAt.shaped d = true ∧ SeqAt.shaped e = true then some (PyData.eqv d e) else none
  | _, _ => none
def sEq : S2 := fun x y w => match eqT w x y with
  | some b => .ok (.bl b) w
  | none => .no
def sNe : S2 := fun x y w => match eqT w x y with
  | some b => .ok (.bl (!b)) w
  | none => .no
theorem eqT_some {x y : T} {b : Bool} (h : eqT w x y = some b) : ∃ d e, pd w x = some d ∧ pd w y = some e ∧ SeqAt.shaped d = true ∧ SeqAt.shaped e = true ∧ b = PyData.eqv d e := by
  unfold eqT at h
  split at h
  · rename_i d e h1 h2
    split at h
    · rename_i hs; cases h; exact ⟨d, e, h1, h2, hs.1, hs.2, rfl⟩
    · cases h
  · cases h
theorem opEq : Op2 K sEq (rEqD K.1) := fun W hd φ H w dx dy x y Q wr rx ry p => by
  unfold sEq at p
  cases q : eqT w dx dy with
  | none => rw [q] at p; exact p.elim
  | some k =>
    rw [q] at p
    obtain ⟨d, e, h1, h2, h3, h4, rfl⟩ := eqT_some q
    exact ⟨d, e, dp wr rx h1, dp wr ry h2, h3, h4, p.bl wr⟩
theorem opNe : Op2 K sNe (rNeD K.1) := fun W hd φ H w dx dy x y Q wr rx ry p => by
  unfold sNe at p
  cases q : eqT w dx dy with
  | none => rw [q] at p; exact p.elim
  | some k =>
    rw [q] at p
    obtain ⟨d, e, h1, h2, h3, h4, rfl⟩ := eqT_some q
    exact ⟨d, e, dp wr rx h1, dp wr ry h2, h3, h4, p.bl wr⟩
section
variable (hu : X.A.units + 64 < cLine) (ha : PE X a (rdE (X.K, Z) W ma)) (hb : PE X b (rdE (X.K, Z) W mb))
include hu ha hb
theorem de_eq : PE X (.Compare a [.Eq] [b] pos) (rdE (X.K, Z) W (mOp2 sEq ma mb)) := de_cmp (op_eqD hu) opEq ha hb (nomark _)
theorem de_ne : PE X (.Compare a [.NotEq] [b] pos) (rdE (X.K, Z) W (mOp2 sNe ma mb)) := de_cmp (op_neD hu) opNe ha hb (nomark _)
theorem dt_eq : PT X (.Compare a [.Eq] [b] pos) (rdT (X.K, Z) W (mTest (mOp2 sEq ma mb))) := dt_cmp (op_eqD hu) opEq ha hb (nomark _)
theorem dt_ne : PT X (.Compare a [.NotEq] [b] pos) (rdT (X.K, Z) W (mTest (mOp2 sNe ma mb))) := dt_cmp (op_neD hu) opNe ha hb (nomark _)
end
/-! ### is None -/
def isNon : T → Bool
  | .non => true
  | _ => false
theorem isNon_at {t : T} {v : V} (r : Rep K hd φ H t v) : decide (v = .non) = isNon t := by
  cases t with
  | non => unfold Rep at r; subst r; rfl
  | bl b => unfold Rep at r; subst r; rfl
  | int b => unfold Rep at r; subst r; rfl
  | str b => unfold Rep at r; subst r; rfl
  | ty b => unfold Rep at r; subst r; rfl
  | tup ts => unfold Rep at r; obtain ⟨_, _, rfl, _⟩ := r; rfl
  | lst ts => unfold Rep at r; obtain ⟨_, _, rfl, _⟩ := r; rfl
  | frz ts => unfold Rep at r; obtain ⟨_, _, rfl, _⟩ := r; rfl
  | rng n => unfold Rep at r; obtain ⟨_, rfl, _⟩ := r; rfl
  | glb n => unfold Rep at r; obtain ⟨_, rfl, _⟩ := r; rfl
  | exc _ _ _ => unfold Rep at r; obtain ⟨_, _, _, rfl, _⟩ := r; rfl
  | dct _ _ => unfold Rep at r; obtain ⟨_, _, rfl, _⟩ := r; rfl
  | cell k => unfold Rep at r; obtain ⟨_, rfl, _⟩ := r; rfl
def sIs : S2 := fun x y w => match y with
  | .non => .ok (.bl (isNon x)) w
  | _ => .no
def sIsNot : S2 := fun x y w => match y with
  | .non => .ok (.bl (!isNon x)) w
  | _ => .no
theorem opIs : Op2 K sIs (fun x y H Q => y = .non ∧ Q (.bl (decide (x = .non))) H) := fun W hd φ H w dx dy x y Q wr rx ry p => by
  cases dy with
  | non => unfold Rep at ry; exact ⟨ry, by rw [isNon_at rx]; exact p.bl wr⟩
  | _ => exact p.elim
theorem opIsNot : Op2 K sIsNot (fun x y H Q => y = .non ∧ Q (.bl (!decide (x = .non))) H) := fun W hd φ H w dx dy x y Q wr rx ry p => by
  cases dy with
  | non => unfold Rep at ry; exact ⟨ry, by rw [isNon_at rx]; exact p.bl wr⟩
  | _ => exact p.elim
section
variable (ha : PE X a (rdE (X.K, Z) W ma)) (hb : PE X b (rdE (X.K, Z) W mb))
include ha hb
theorem de_is : PE X (.Compare a [.Is] [b] pos) (rdE (X.K, Z) W (mOp2 sIs ma mb)) := de_cmp op_isN opIs ha hb (nomark _)
theorem de_isnot : PE X (.Compare a [.IsNot] [b] pos) (rdE (X.K, Z) W (mOp2 sIsNot ma mb)) := de_cmp op_notN opIsNot ha hb (nomark _)
theorem dt_is : PT X (.Compare a [.Is] [b] pos) (rdT (X.K, Z) W (mTest (mOp2 sIs ma mb))) := dt_cmp op_isN opIs ha hb (nomark _)
theorem dt_isnot : PT X (.Compare a [.IsNot] [b] pos) (rdT (X.K, Z) W (mTest (mOp2 sIsNot ma mb))) := dt_cmp op_notN opIsNot ha hb (nomark _)
end
end
end VS

set_option Elab.async false
set_option linter.all false
set_option maxRecDepth 100000
set_option maxHeartbeats 2000000
namespace VS
open PySem PySem.Spec PyProof.Rows L2
section
variable {X : Cx} {K : KT} {hd φ : List Addr} {H : Hp} {w : World} {a b : Expr} {pos : Pos} {ma mb : ME} {Z : List (Addr × Str)} {W : Option WX}

/-! ### dicts -/
def keyT : T → Option Key
  | .int i => some (.inl i)
  | .str x => some (.inr x)
  | _ => none
def keysT : List T → Option (List Key)
  | [] => some []
  | t :: ts => match keyT t, keysT ts with
    | some k, some ks => some (k :: ks)
    | _, _ => none
def valT {κ : Type} [DecidableEq κ] (kvs : List (κ × T)) (k : κ) : Option T := (kvs.find? fun kv => decide (kv.1 = k)).map (·.2)
def putT {κ : Type} [DecidableEq κ] (kvs : List (κ × T)) (k : κ) (t : T) : List (κ × T) := if (kvs.any fun kv => decide (kv.1 = k)) = true then kvs.map fun kv => if kv.1 = k then (kv.1, t) else kv else kvs ++ [(k, t)]
theorem key_at {t : T} {v : V} {k : Key} (r : Rep K hd φ H t v) (h : keyT t = some k) : v = kV k := by
  cases t with
  | int i => cases h; unfold Rep at r; exact r
  | str i => cases h; unfold Rep at r; exact r
  | _ => cases h
theorem keys_at : ∀ {ts : List T} {vs : List V} {ks : List Key}, Reps K hd φ H ts vs → keysT ts = some ks → vs = ks.map kV
  | [], vs, ks, r, h => by cases h; unfold Reps at r; exact r
  | t :: ts, vs, ks, r, h => by
    unfold Reps at r
    obtain ⟨x, xs, rfl, r1, r2⟩ := r
    unfold keysT at h
    split at h
    · rename_i k ks' h1 h2
      cases h
      rw [key_at r1 h1, keys_at r2 h2]
      rfl
    · cases h
theorem valT_at {κ : Type} [DecidableEq κ] : ∀ {kvs : List (κ × T)} {ys : List (κ × V)}, ys.map (·.1) = kvs.map (·.1) → Reps K hd φ H (kvs.map (·.2)) (ys.map (·.2)) → ∀ k : κ,
    (match valT kvs k with | some t => ∃ v, valV ys k = some v ∧ Rep K hd φ H t v | none => valV ys k = none)
  | [], ys, e, r, k => by
    have : ys = [] := by cases ys with
      | nil => rfl
      | cons _ _ => simp at e
    subst this
    rfl
  | (k', t) :: kvs, [], e, r, k => by simp at e
  | (k', t) :: kvs, (k2, v) :: ys, e, r, k => by
    have e1 : k2 = k' := by simpa using congrArg List.head? e
    have e2 : ys.map (·.1) = kvs.map (·.1) := by simpa using congrArg List.tail e
    subst e1
    have r' : Reps K hd φ H (t :: kvs.map (·.2)) (v :: ys.map (·.2)) := r
    unfold Reps at r'
    obtain ⟨x, xs, e3, r1, r2⟩ := r'
    cases e3
    by_cases h : k2 = k
    · have h1 : valT ((k2, t) :: kvs) k = some t := by simp [valT, List.find?_cons, h]
      rw [h1]
      exact ⟨v, valV_pos h, r1⟩
    · have h1 : valT ((k2, t) :: kvs) k = valT kvs k := by simp [valT, List.find?_cons, h]
      rw [h1, valV_neg h]
      exact valT_at e2 r2 k
theorem putT_at {κ : Type} [DecidableEq κ] {kvs : List (κ × T)} {ys : List (κ × V)} (e : ys.map (·.1) = kvs.map (·.1)) (r : Reps K hd φ H (kvs.map (·.2)) (ys.map (·.2))) (k : κ) {t : T} {v : V} (rt : Rep K hd φ H t v) :
    (putK ys k v).map (·.1) = (putT kvs k t).map (·.1) ∧ Reps K hd φ H ((putT kvs k t).map (·.2)) ((putK ys k v).map (·.2)) := by
  have ea : (ys.any fun kv => decide (kv.1 = k)) = kvs.any fun kv => decide (kv.1 = k) := by
    have h1 : ∀ {α : Type} (l : List (κ × α)), (l.any fun kv => decide (kv.1 = k)) = (l.map (·.1)).any fun x => decide (x = k) := fun l => by rw [List.any_map]; rfl
    rw [h1, h1, e]
  unfold putK putT
  rw [ea]
  split
  · refine ⟨?_, ?_⟩
    · have h1 : ∀ {α : Type} (l : List (κ × α)) (x : α), (l.map fun kv => if kv.1 = k then (kv.1, x) else kv).map (·.1) = l.map (·.1) := fun l x => by
        rw [List.map_map]
        apply List.map_congr_left
        intro p _
        show (if p.1 = k then (p.1, x) else p).1 = p.1
        split <;> rfl
      rw [h1, h1, e]
    · clear ea
      rename_i hany
      clear hany
      induction kvs generalizing ys with
      | nil =>
        have : ys = [] := by cases ys with
          | nil => rfl
          | cons _ _ => simp at e
        subst this
        exact Reps.nil
      | cons p kvs ih =>
        cases ys with
        | nil => simp at e
        | cons q ys =>
          have e1 : q.1 = p.1 := by simpa using congrArg List.head? e
          have e2 : ys.map (·.1) = kvs.map (·.1) := by simpa using congrArg List.tail e
          have r' : Reps K hd φ H (p.2 :: kvs.map (·.2)) (q.2 :: ys.map (·.2)) := r
          unfold Reps at r'
          obtain ⟨x, xs, e3, r1, r2⟩ := r'
          cases e3
          show Reps K hd φ H ((if p.1 = k then (p.1, t) else p).2 :: _) ((if q.1 = k then (q.1, v) else q).2 :: _)
          refine Reps.cons ?_ (ih e2 r2)
          rw [e1]
          split
          · exact rt
          · exact r1
  · refine ⟨by rw [List.map_append, List.map_append, e]; rfl, ?_⟩
    rw [List.map_append, List.map_append]
    exact r.append (Reps.cons rt Reps.nil)
/-! ### subscripts -/
def sIx : S2 := fun x y w => match x, y with
  | .cell k, y => match w[k]?, y with
    | some (.lst ts), .int i => match atI ts i with
      | some t => .ok t w
      | none => .no
    | some (.dic kvs), y => match keyT y with
      | some key => match valT kvs key with
        | some t => .ok t w
        | none => .no
      | none => .no
    | some (.dit kvs), .tup us => match keysT us with
      | some key => match valT kvs key with
        | some t => .ok t w
        | none => .no
      | none => .no
    | _, _ => .no
  | x, .int i => match seq? w x with
    | some ts => match atI ts i with
      | some t => .ok t w
      | none => .no
    | none => .no
  | _, _ => .no
theorem Reps.atI {ts : List T} {xs : List V} {i : Int} {t : T} (h : Reps K hd φ H ts xs) (ht : L2.atI ts i = some t) : ∃ v, L2.atI xs i = some v ∧ Rep K hd φ H t v := by
  unfold L2.atI at ht ⊢
  rw [← h.len]
  cases q : ixN ts.length i with
  | none => rw [q] at ht; cases ht
  | some j =>
    rw [q] at ht
    exact h.at ht
theorem opIx (x y : V) (Q : VK) (wr : WR K hd φ H w) {dx dy : T} (rx : Rep K hd φ H dx x) (ry : Rep K hd φ H dy y) (p : Pst K W hd (CE K hd Q) φ H (sIx dx dy w)) :
    rIx K.1 x y H Q ∨ ∃ a v, x = .ref a ∧ DGet H a y (some v) ∧ Q v H := by
  have sq : ∀ ts i, seq? w dx = some ts → dy = .int i → Pst K W hd (CE K hd Q) φ H (match atI ts i with | some t => .ok t w | none => .no) → rIx K.1 x y H Q := fun ts i h1 h2 p => by
    rename Pst K W hd (CE K hd Q) φ H (sIx dx dy w) => p0
    clear p0
    subst h2
    cases rep_int ry
    obtain ⟨a, xs, rfl, h3, h4⟩ := seq_at wr rx h1
    cases q : atI ts i with
    | none => rw [q] at p; exact p.elim
    | some t =>
      rw [q] at p
      obtain ⟨v, h5, h6⟩ := h4.atI q
      rcases h3 with h3 | h3
      · exact .inl ⟨a, xs, i, v, rfl, rfl, h3, h5, p.ok wr v h6⟩
      · exact .inr (.inl ⟨a, xs, i, v, rfl, rfl, h3, h5, p.ok wr v h6⟩)
  cases dx with
  | cell k =>
    unfold sIx at p
    simp only at p
    cases q : w[k]? with
    | none => rw [q] at p; exact p.elim
    | some c =>
      rw [q] at p
      cases c with
      | lst ts =>
        cases dy with
        | int i => exact .inl (sq ts i (by unfold seq?; simp only [q]) rfl p)
        | _ => exact p.elim
      | dic kvs =>
        simp only at p
        cases q2 : keyT dy with
        | none => rw [q2] at p; exact p.elim
        | some key =>
          rw [q2] at p
          simp only at p
          obtain ⟨l, rfl, _, _, ys, h1, h2, h3⟩ := cell_at wr rx q
          have h4 := valT_at h2 h3 key
          cases q3 : valT kvs key with
          | none => rw [q3] at p; exact p.elim
          | some t =>
            rw [q3] at p h4
            obtain ⟨v, h5, h6⟩ := h4
            rw [key_at ry q2]
            exact .inr ⟨l, v, rfl, by rw [← h5]; exact DGet.k h1, p.ok wr v h6⟩
      | dit kvs =>
        cases dy with
        | tup us =>
          simp only at p
          cases q2 : keysT us with
          | none => rw [q2] at p; exact p.elim
          | some key =>
            rw [q2] at p
            simp only at p
            obtain ⟨l, rfl, _, _, ys, h1, h2, h3⟩ := cell_at wr rx q
            have h4 := valT_at h2 h3 key
            cases q3 : valT kvs key with
            | none => rw [q3] at p; exact p.elim
            | some t =>
              rw [q3] at p h4
              obtain ⟨v, h5, h6⟩ := h4
              unfold Rep at ry
              obtain ⟨m, zs, rfl, n, rz⟩ := ry
              have e := keys_at rz q2
              subst e
              exact .inr ⟨l, v, rfl, by rw [← h5]; exact DGet.t h1 n.1, p.ok wr v h6⟩
        | _ => exact p.elim
      | obj x ks ts => cases dy <;> exact p.elim
  | tup ts =>
    cases dy with
    | int i => exact .inl (sq ts i rfl rfl p)
    | _ => exact p.elim
  | lst ts =>
    cases dy with
    | int i => exact .inl (sq ts i rfl rfl p)
    | _ => exact p.elim
  | frz ts =>
    cases dy with
    | int i => exact .inl (sq ts i rfl rfl p)
    | _ => exact p.elim
  | _ => cases dy <;> exact p.elim
def rIxD : R2 := fun x y H Q => ∃ a v, x = .ref a ∧ DGet H a y (some v) ∧ Q v H
theorem ix_dict (hu : X.A.units + 1 < cLine) : IxR X rIxD := by
  intro value slice pins s σ H x y v u Q I rx ry h hs
  obtain ⟨a, z, rfl, g, q⟩ := h
  obtain rfl : v = Value.ref a := rx
  have hT := dict_typeIs I g
  unfold subscriptTail
  refine wpAny_bind ?_
  rw [getitemInPython_of_ne hT.not_modules]
  refine wpAny_bind (wpAny_specialOf hT PySem.F.slot_dict_getitem.lookup ?_)
  have h₂ : wpAny (model X.prog X.w) X.A (getItem (.ref a) u) (EP X pins σ Q) X.xe s := d_getItem hu I g ry fun w' s3 I3 rw' => ⟨z, H, I3, rw', q⟩
  have fin : wpAny (model X.prog X.w) X.A (subscripted slice false (.ref a) u) (fun r s₃ => wpAny (model X.prog X.w) X.A (letTemporaryGo value (.ref a) r >>= fun _ => pure r) (EP X pins σ Q) X.xe s₃) X.xe s := by
    rw [hs]
    exact wpAny_operating (wpAny_mono h₂ (fun r s₃ h₃ => wpAny_bind (wpAny_letTemporaryGo (wpAny_pure h₃))) fun _ _ x => x)
  first
    | exact wpAny_pure (wpAny_bind fin)
    | exact wpAny_bind (wpAny_pure (wpAny_bind fin))
    | exact wpAny_bind fin
theorem de_sub' (hu : X.A.units + 1 < cLine) (ha : PE X a (rdE (X.K, Z) W ma)) (hb : PE X b (rdE (X.K, Z) W mb)) (hp : PlainIx b := by exact fun _ _ => rfl) : PE X (.Subscript a b pos) (rdE (X.K, Z) W (mOp2 sIx ma mb)) :=
  de_ix (ix_seq.or (ix_dict hu)) (fun W hd φ H w dx dy x y Q wr rx ry p => opIx x y Q wr rx ry p) ha hb hp
/-! ### slices -/
abbrev MO := Env → World → R (Option Int)
abbrev CO (Q : Option Int → Hp → Prop) : Option Int → List Addr → Hp → Prop := fun d _ H' => Q d H'
def rdO (K : KT) (W : Option WX) (m : MO) : TO := fun σ H Q => ∃ hd φ ρ w, SR K hd φ H σ ρ ∧ WR K hd φ H w ∧ Pst K W hd (CO Q) φ H (m ρ w)
theorem PO_imp {e : Option Expr} {t t' : TO} (h : PO X e t) (i : ∀ σ H Q, t' σ H Q → t σ H Q) : PO X e t' := ⟨fun pins s σ H Q I q => h.run pins s σ H Q I (i σ H Q q)⟩
def mNoPart : MO := fun _ w => .ok none w
def mPart (m : ME) : MO := fun ρ w => (m ρ w).bind fun t w1 => match t with
  | .int i => .ok (some i) w1
  | _ => .no
theorem do_none : PO X none (rdO (X.K, Z) W mNoPart) := PO_imp po_none fun σ H Q => by
  rintro ⟨hd, φ, ρ, w, sr, wr, p⟩
  exact p.ok wr
theorem do_some (h : PE X a (rdE (X.K, Z) W ma)) : PO X (some a) (rdO (X.K, Z) W (mPart ma)) := PO_imp (po_some h) fun σ H Q => by
  rintro ⟨hd, φ, ρ, w, sr, wr, p⟩
  refine ⟨hd, φ, ρ, w, sr, wr, Pst.then isPst p fun d w1 φ1 H1 e1 wr1 p1 v rv => ?_⟩
  cases d with
  | int i => cases rep_int rv; exact ⟨i, rfl, p1.ok wr1⟩
  | _ => exact p1.elim
def cutT (xs : List T) (lo hi : Option Int) : List T := (xs.drop (HT.sIx xs.length 0 lo)).take (HT.sIx xs.length xs.length hi - HT.sIx xs.length 0 lo)
theorem Reps.cut {ts : List T} {xs : List V} (h : Reps K hd φ H ts xs) (lo hi : Option Int) : Reps K hd φ H (cutT ts lo hi) (cutV xs lo hi) := by
  unfold cutT cutV
  rw [h.len]
  exact (h.drop _).take _
def mSlT (a : ME) (lo hi : MO) : ME := fun ρ w => (a ρ w).bind fun t w1 => (lo ρ w1).bind fun l w2 => (hi ρ w2).bind fun u w3 => match t with
  | .tup ts => .ok (.tup (cutT ts l u)) w3
  | _ => .no
def mSlL (a : ME) (lo hi : MO) : MF := fun ρ w => (a ρ w).bind fun t w1 => (lo ρ w1).bind fun l w2 => (hi ρ w2).bind fun u w3 => match lst? w3 t with
  | some ts => .ok (cutT ts l u) w3
  | _ => .no
theorem de_slice {lo hi : Option Expr} {ml mh : MO} {p2 : Pos} (ha : PE X a (rdE (X.K, Z) W ma)) (hl : PO X lo (rdO (X.K, Z) W ml)) (hh : PO X hi (rdO (X.K, Z) W mh)) : PE X (.Subscript a (.Slice lo hi none p2) pos) (rdE (X.K, Z) W (mSlT ma ml mh)) := PE_imp (pe_slice sl_tupA ha hl hh) fun σ H Q => by
  rintro ⟨hd, φ, ρ, w, sr, wr, p⟩
  refine ⟨hd, φ, ρ, w, sr, wr, Pst.then isPst p fun t w1 φ1 H1 e1 wr1 p1 v rv => ?_⟩
  refine ⟨hd, φ1, ρ, w1, sr.mono e1, wr1, Pst.then isPst p1 fun l w2 φ2 H2 e2 wr2 p2 => ?_⟩
  refine ⟨hd, φ2, ρ, w2, sr.mono (e1.trans e2), wr2, Pst.then isPst p2 fun u w3 φ3 H3 e3 wr3 p3 => ?_⟩
  cases t with
  | tup ts =>
    have rv3 := (rv.mono e2).mono e3
    unfold Rep at rv3
    obtain ⟨q, xs, rfl, n, rs⟩ := rv3
    refine ⟨q, xs, rfl, SqT.of n.1, fun e => ?_, fun _ => p3.tup wr3 (rs.cut l u)⟩
    have e4 : cutT ts l u = ts := by
      unfold cutT
      rw [rs.len, e.1, e.2, List.drop_zero, Nat.sub_zero, ← rs.len]
      exact List.take_length
    simp only at p3
    rw [e4] at p3
    exact p3.ok wr3 _ (by unfold Rep; exact ⟨q, xs, rfl, n, rs⟩)
  | _ => exact p3.elim
theorem df_slice {lo hi : Option Expr} {ml mh : MO} {p2 : Pos} (ha : PE X a (rdE (X.K, Z) W ma)) (hl : PO X lo (rdO (X.K, Z) W ml)) (hh : PO X hi (rdO (X.K, Z) W mh)) : PE X (.Subscript a (.Slice lo hi none p2) pos) (rdF (X.K, Z) W (mSlL ma ml mh)) := PE_imp (pe_slice sl_list ha hl hh) fun σ H Q => by
  rintro ⟨hd, φ, ρ, w, sr, wr, p⟩
  refine ⟨hd, φ, ρ, w, sr, wr, Pst.then isPstF p fun t w1 φ1 H1 e1 wr1 p1 v rv => ?_⟩
  refine ⟨hd, φ1, ρ, w1, sr.mono e1, wr1, Pst.then isPstF p1 fun l w2 φ2 H2 e2 wr2 p2 => ?_⟩
  refine ⟨hd, φ2, ρ, w2, sr.mono (e1.trans e2), wr2, Pst.then isPstF p2 fun u w3 φ3 H3 e3 wr3 p3 => ?_⟩
  cases q : lst? w3 t with
  | none => rw [q] at p3; exact p3.elim
  | some ts =>
    rw [q] at p3
    obtain ⟨l', xs, rfl, h1, h2⟩ := lst_at wr3 ((rv.mono e2).mono e3) q
    exact ⟨l', xs, rfl, SqL.of h1, p3.new wr3 (h2.cut l u)⟩
/-! ### built-in functions -/
variable {e e2 : Expr} {es : List Expr} {p : Pos} {m : MF}
def sLen : SC := fun ds w => match ds with
  | [.cell k] => match w[k]? with
    | some (.lst ts) => .ok (.int ts.length) w
    | some (.dic kvs) => .ok (.int kvs.length) w
    | _ => .no
  | [t] => match seq? w t with
    | some ts => .ok (.int ts.length) w
    | none => .no
  | _ => .no
theorem opLen : OpC K sLen (fun xs H Q => (∃ p ys, xs = [.ref p] ∧ (SqL K.1 H p ys ∨ SqT K.1 H p ys) ∧ Q (.int ys.length) H) ∨ ∃ a kvs, xs = [V.ref a] ∧ H a = some (.dK kvs) ∧ Q (.int kvs.length) H) := fun W hd φ H w ds xs Q wr rx p => by
  have sq : ∀ t ts, ds = [t] → seq? w t = some ts → Pst K W hd (CE K hd Q) φ H (.ok (.int ts.length) w) → ∃ p ys, xs = [.ref p] ∧ (SqL K.1 H p ys ∨ SqT K.1 H p ys) ∧ Q (.int ys.length) H := fun t ts e1 h pp => by
    rw [e1] at rx
    obtain ⟨v, rfl, r⟩ := reps1 rx
    obtain ⟨a, xs, rfl, h1, h2⟩ := seq_at wr r h
    exact ⟨a, xs, rfl, h1, by rw [← h2.len]; exact pp.int wr⟩
  cases ds with
  | nil => exact p.elim
  | cons t r =>
    cases r with
    | cons u r => cases t <;> exact p.elim
    | nil =>
      cases t with
      | cell k =>
        unfold sLen at p
        simp only at p
        cases q : w[k]? with
        | none => rw [q] at p; exact p.elim
        | some c =>
          rw [q] at p
          cases c with
          | lst ts => exact .inl (sq _ ts rfl (by unfold seq?; simp only [q]) p)
          | dic kvs =>
            obtain ⟨v, rfl, r⟩ := reps1 rx
            obtain ⟨a, rfl, _, _, ys, h1, h2, h3⟩ := cell_at wr r q
            have e : ys.length = kvs.length := by simpa using congrArg List.length h2
            exact .inr ⟨a, ys, rfl, h1, by rw [e]; exact p.int wr⟩
          | dit kvs => exact p.elim
          | obj x ks ts => exact p.elim
      | tup ts => exact .inl (sq _ ts rfl rfl p)
      | lst ts => exact .inl (sq _ ts rfl rfl p)
      | frz ts => exact .inl (sq _ ts rfl rfl p)
      | _ => exact p.elim
theorem de_len (hm : X.mg "len" = none) (ha : PA X [e] (rdA (X.K, Z) W m)) (hg : Gl X "len" := by rfl) (he : starEach [e] X.env = (false, eval e X.env) :: starEach [] X.env := by rfl) (hpl : (backTo pos (starEach [] X.env)).any (·.1) = false := by rfl) : PE X (.Call (.Name "len" p) [e] [] pos) (rdE (X.K, Z) W (mCall sLen m)) :=
  de_callB (call_len_seq.or call_lenD) opLen hm PySem.boot_len ha hg (by decide) (by decide) he hpl
def sAbs : SC := fun ds w => match ds with
  | [.int i] => .ok (.int (if i < 0 then -i else i)) w
  | _ => .no
theorem de_abs (hm : X.mg "abs" = none) (ha : PA X [e] (rdA (X.K, Z) W m)) (hg : Gl X "abs" := by rfl) (he : starEach [e] X.env = (false, eval e X.env) :: starEach [] X.env := by rfl) (hpl : (backTo pos (starEach [] X.env)).any (·.1) = false := by rfl) : PE X (.Call (.Name "abs" p) [e] [] pos) (rdE (X.K, Z) W (mCall sAbs m)) :=
  de_callB call_abs (fun W hd φ H w ds xs Q wr rx p => by
    match ds, p with
    | [.int i], p => obtain ⟨v, rfl, r⟩ := reps1 rx; cases rep_int r; exact ⟨i, rfl, p.int wr⟩) hm (by decide +kernel) ha hg (by decide) (by decide) he hpl
def s2i (g : Int → Int → Int) : SC := fun ds w => match ds with
  | [.int i, .int j] => .ok (.int (g i j)) w
  | _ => .no
theorem op2i {g : Int → Int → Int} : OpC K (s2i g) (fun xs H Q => ∃ i j, xs = [.int i, .int j] ∧ Q (.int (g i j)) H) := fun W hd φ H w ds xs Q wr rx p => by
  match ds, p with
  | [.int i, .int j], p => obtain ⟨v, u, rfl, r1, r2⟩ := reps2 rx; cases rep_int r1; cases rep_int r2; exact ⟨i, j, rfl, p.int wr⟩
def sMax2 : SC := s2i fun i j => if j > i then j else i
def sMin2 : SC := s2i fun i j => if j < i then j else i
theorem de_max2 (hc : X.calm = true) (hm : X.mg "max" = none) (ha : PA X [e, e2] (rdA (X.K, Z) W m)) (hg : Gl X "max" := by rfl) (he : starEach [e, e2] X.env = (false, eval e X.env) :: starEach [e2] X.env := by rfl) (hpl : (backTo pos (starEach [e2] X.env)).any (·.1) = false := by rfl) : PE X (.Call (.Name "max" p) [e, e2] [] pos) (rdE (X.K, Z) W (mCall sMax2 m)) :=
  de_callB (call_max2 hc) op2i hm (by decide +kernel) ha hg (by decide) (by decide) he hpl
theorem de_min2 (hc : X.calm = true) (hm : X.mg "min" = none) (ha : PA X [e, e2] (rdA (X.K, Z) W m)) (hg : Gl X "min" := by rfl) (he : starEach [e, e2] X.env = (false, eval e X.env) :: starEach [e2] X.env := by rfl) (hpl : (backTo pos (starEach [e2] X.env)).any (·.1) = false := by rfl) : PE X (.Call (.Name "min" p) [e, e2] [] pos) (rdE (X.K, Z) W (mCall sMin2 m)) :=
  de_callB (call_min2 hc) op2i hm (by decide +kernel) ha hg (by decide) (by decide) he hpl
def sInt : SC := fun ds w => match ds with
  | [.int i] => .ok (.int i) w
  | [.bl k] => .ok (.int (if k then 1 else 0)) w
  | _ => .no
theorem de_int1 (hm : X.mg "int" = none) (ha : PA X [e] (rdA (X.K, Z) W m)) (hg : Gl X "int" := by rfl) (he : starEach [e] X.env = (false, eval e X.env) :: starEach [] X.env := by rfl) (hpl : (backTo pos (starEach [] X.env)).any (·.1) = false := by rfl) : PE X (.Call (.Name "int" p) [e] [] pos) (rdE (X.K, Z) W (mCall sInt m)) :=
  de_callTy call_int1 (fun W hd φ H w ds xs Q wr rx p => by
    match ds, p with
    | [.int i], p => obtain ⟨v, rfl, r⟩ := reps1 rx; cases rep_int r; exact .inl ⟨i, rfl, p.int wr⟩
    | [.bl k], p => obtain ⟨v, rfl, r⟩ := reps1 rx; unfold Rep at r; subst r; exact .inr ⟨k, rfl, p.int wr⟩) hm (by decide +kernel) ha hg (by decide) (by decide) he hpl
def sList : SCF := fun ds w => match ds with
  | [t] => match seq? w t with
    | some ts => .ok ts w
    | none => .no
  | _ => .no
theorem df_list (hm : X.mg "list" = none) (ha : PA X [e] (rdA (X.K, Z) W m)) (hg : Gl X "list" := by rfl) (he : starEach [e] X.env = (false, eval e X.env) :: starEach [] X.env := by rfl) (hpl : (backTo pos (starEach [] X.env)).any (·.1) = false := by rfl) : PE X (.Call (.Name "list" p) [e] [] pos) (rdF (X.K, Z) W (mCallF sList m)) :=
  df_callTy call_list_of (fun W hd φ H w ds xs Q wr rx p => by
    match ds, p with
    | [t], p =>
      unfold sList at p
      simp only at p
      cases q : seq? w t with
      | none => rw [q] at p; exact p.elim
      | some ts =>
        rw [q] at p
        obtain ⟨v, rfl, r⟩ := reps1 rx
        obtain ⟨a, xs, rfl, h1, h2⟩ := seq_at wr r q
        exact ⟨a, xs, rfl, h1, p.new wr h2⟩) hm (by decide +kernel) ha hg (by decide) (by decide) he hpl
def sTup : SC := fun ds w => match ds with
  | [t] => match seq? w t with
    | some ts => .ok (.tup ts) w
    | none => .no
  | _ => .no
theorem de_tuple (hm : X.mg "tuple" = none) (ha : PA X [e] (rdA (X.K, Z) W m)) (hg : Gl X "tuple" := by rfl) (he : starEach [e] X.env = (false, eval e X.env) :: starEach [] X.env := by rfl) (hpl : (backTo pos (starEach [] X.env)).any (·.1) = false := by rfl) : PE X (.Call (.Name "tuple" p) [e] [] pos) (rdE (X.K, Z) W (mCall sTup m)) :=
  de_callTy call_tuple_of (fun W hd φ H w ds xs Q wr rx p => by
    match ds, p with
    | [t], p =>
      unfold sTup at p
      simp only at p
      cases q : seq? w t with
      | none => rw [q] at p; exact p.elim
      | some ts =>
        rw [q] at p
        obtain ⟨v, rfl, r⟩ := reps1 rx
        have r' := r
        cases t with
        | tup us =>
          cases q
          unfold Rep at r
          obtain ⟨a, xs, rfl, n, rs⟩ := r
          exact ⟨a, xs, rfl, .inr ⟨SqT.of n.1, p.ok wr _ r'⟩⟩
        | lst us =>
          cases q
          unfold Rep at r
          obtain ⟨a, xs, rfl, n, rs⟩ := r
          exact ⟨a, xs, rfl, .inl ⟨SqL.of n.1, p.tup wr rs⟩⟩
        | frz us =>
          cases q
          unfold Rep at r
          obtain ⟨a, xs, rfl, n, rs⟩ := r
          exact ⟨a, xs, rfl, .inl ⟨frz_sq n, p.tup wr rs⟩⟩
        | cell k =>
          unfold seq? at q
          simp only at q
          split at q
          · rename_i us hk
            cases q
            obtain ⟨a, rfl, _, _, xs, h1, h2⟩ := cell_at wr r hk
            exact ⟨a, xs, rfl, .inl ⟨SqL.of h1, p.tup wr h2⟩⟩
          · cases q
        | _ => cases q) hm (by decide +kernel) ha hg (by decide) (by decide) he hpl
def blsT : List T → Option (List Bool)
  | [] => some []
  | .bl b :: ts => (blsT ts).map (b :: ·)
  | _ :: _ => none
theorem bls_at : ∀ {ts : List T} {vs : List V} {bs : List Bool}, Reps K hd φ H ts vs → blsT ts = some bs → vs = bs.map V.bl
  | [], vs, bs, r, h => by cases h; unfold Reps at r; exact r
  | .bl b :: ts, vs, bs, r, h => by
    unfold Reps at r
    obtain ⟨x, xs, rfl, r1, r2⟩ := r
    unfold Rep at r1
    subst r1
    obtain ⟨cs, h1, rfl⟩ := map_some h
    rw [bls_at r2 h1]
    rfl
  | .non :: ts, vs, bs, r, h => by cases h
  | .int _ :: ts, vs, bs, r, h => by cases h
  | .str _ :: ts, vs, bs, r, h => by cases h
  | .ty _ :: ts, vs, bs, r, h => by cases h
  | .tup _ :: ts, vs, bs, r, h => by cases h
  | .lst _ :: ts, vs, bs, r, h => by cases h
  | .frz _ :: ts, vs, bs, r, h => by cases h
  | .rng _ :: ts, vs, bs, r, h => by cases h
  | .glb _ :: ts, vs, bs, r, h => by cases h
  | .exc _ _ _ :: ts, vs, bs, r, h => by cases h
  | .dct _ _ :: ts, vs, bs, r, h => by cases h
  | .cell _ :: ts, vs, bs, r, h => by cases h
def sAll : SC := fun ds w => match ds with
  | [t] => match lst? w t with
    | some ts => match blsT ts with
      | some bs => .ok (.bl (bs.all id)) w
      | none => .no
    | none => .no
  | _ => .no
def sAny : SC := fun ds w => match ds with
  | [t] => match lst? w t with
    | some ts => match blsT ts with
      | some bs => .ok (.bl (bs.any id)) w
      | none => .no
    | none => .no
  | _ => .no
theorem de_all (hc : X.calm = true) (hm : X.mg "all" = none) (ha : PA X [e] (rdA (X.K, Z) W m)) (hg : Gl X "all" := by rfl) (he : starEach [e] X.env = (false, eval e X.env) :: starEach [] X.env := by rfl) (hpl : (backTo pos (starEach [] X.env)).any (·.1) = false := by rfl) : PE X (.Call (.Name "all" p) [e] [] pos) (rdE (X.K, Z) W (mCall sAll m)) :=
  de_callB (cr_all hc) (fun W hd φ H w ds xs Q wr rx p => by
    match ds, p with
    | [t], p =>
      unfold sAll at p
      simp only at p
      cases q : lst? w t with
      | none => rw [q] at p; exact p.elim
      | some ts =>
        cases q2 : blsT ts with
        | none => simp only [q, q2] at p; exact p.elim
        | some bs =>
          simp only [q, q2] at p
          obtain ⟨v, rfl, r⟩ := reps1 rx
          obtain ⟨a, xs, rfl, h1, h2⟩ := lst_at wr r q
          have e := bls_at h2 q2
          subst e
          exact ⟨a, bs, rfl, SqL.of h1, p.bl wr⟩) hm (by decide +kernel) ha hg (by decide) (by decide) he hpl
theorem de_any (hc : X.calm = true) (hm : X.mg "any" = none) (ha : PA X [e] (rdA (X.K, Z) W m)) (hg : Gl X "any" := by rfl) (he : starEach [e] X.env = (false, eval e X.env) :: starEach [] X.env := by rfl) (hpl : (backTo pos (starEach [] X.env)).any (·.1) = false := by rfl) : PE X (.Call (.Name "any" p) [e] [] pos) (rdE (X.K, Z) W (mCall sAny m)) :=
  de_callB (cr_any hc) (fun W hd φ H w ds xs Q wr rx p => by
    match ds, p with
    | [t], p =>
      unfold sAny at p
      simp only at p
      cases q : lst? w t with
      | none => rw [q] at p; exact p.elim
      | some ts =>
        cases q2 : blsT ts with
        | none => simp only [q, q2] at p; exact p.elim
        | some bs =>
          simp only [q, q2] at p
          obtain ⟨v, rfl, r⟩ := reps1 rx
          obtain ⟨a, xs, rfl, h1, h2⟩ := lst_at wr r q
          have e := bls_at h2 q2
          subst e
          exact ⟨a, bs, rfl, SqL.of h1, p.bl wr⟩) hm (by decide +kernel) ha hg (by decide) (by decide) he hpl
/-! ### isinstance -/
def kindT (w : World) : T → Option String
  | .non => some "NoneType"
  | .bl _ => some "bool"
  | .int _ => some "int"
  | .str _ => some "str"
  | .tup _ => some "tuple"
  | .lst _ => some "list"
  | .dct _ _ => some "dict"
  | .cell k => match w[k]? with
    | some (.lst _) => some "list"
    | some (.dic _) => some "dict"
    | some (.dit _) => some "dict"
    | _ => none
  | _ => none
def kinds : List String := ["NoneType", "bool", "int", "str", "tuple", "list", "dict"]
def isiB (a n : String) : Bool := a == n || (a == "bool" && n == "int")
theorem kit_tab : ∀ a ∈ kinds, ∀ n ∈ kinds, kitB a n = some (isiB a n) := by decide +kernel
theorem kindT_mem {t : T} {a : String} (h : kindT w t = some a) : a ∈ kinds := by
  unfold kindT at h
  split at h <;> first | (cases h; decide) | (split at h <;> first | (cases h; decide) | cases h) | cases h
theorem kind_at (wr : WR K hd φ H w) {t : T} {v : V} {a : String} (r : Rep K hd φ H t v) (h : kindT w t = some a) : TyX K.1 H v (.type a) := by
  cases t with
  | non => cases h; unfold Rep at r; subst r; exact .base .non
  | bl b => cases h; unfold Rep at r; subst r; exact .base (.bl b)
  | int i => cases h; unfold Rep at r; subst r; exact .base (.int i)
  | str i => cases h; unfold Rep at r; subst r; exact .base (.str i)
  | tup ts => cases h; unfold Rep at r; obtain ⟨l, xs, rfl, n, _⟩ := r; exact .base (.tup n.1)
  | lst ts => cases h; unfold Rep at r; obtain ⟨l, xs, rfl, n, _⟩ := r; exact .base (.lst n.1)
  | dct ks ts => cases h; unfold Rep at r; obtain ⟨l, xs, rfl, _, n, _⟩ := r; exact .base (.dK n.1)
  | cell k =>
    unfold kindT at h
    simp only at h
    cases q : w[k]? with
    | none => rw [q] at h; cases h
    | some c =>
      rw [q] at h
      cases c with
      | lst ts => cases h; obtain ⟨l, rfl, _, _, xs, h1, _⟩ := cell_at wr r q; exact .base (.lst h1)
      | dic kvs => cases h; obtain ⟨l, rfl, _, _, xs, h1, _⟩ := cell_at wr r q; exact .base (.dK h1)
      | dit kvs => cases h; obtain ⟨l, rfl, _, _, xs, h1, _⟩ := cell_at wr r q; exact .base (.dT h1)
      | obj x ks ts => cases h
  | _ => cases h
def tysT : List T → Option (List String)
  | [] => some []
  | .ty n :: ts => (tysT ts).map (n :: ·)
  | _ :: _ => none
def sIsi : SC := fun ds w => match ds with
  | [t, .ty n] => match kindT w t with
    | some a => if n ∈ kinds then .ok (.bl (isiB a n)) w else .no
    | none => .no
  | [t, .tup ts] => match kindT w t, tysT ts with
    | some a, some ns => if ∀ n ∈ ns, n ∈ kinds then .ok (.bl (ns.any fun n => isiB a n)) w else .no
    | _, _ => .no
  | _ => .no
theorem tys_at : ∀ {ts : List T} {vs : List V} {ns : List String}, Reps K hd φ H ts vs → tysT ts = some ns → vs = ns.map V.ty
  | [], vs, bs, r, h => by cases h; unfold Reps at r; exact r
  | .ty b :: ts, vs, bs, r, h => by
    unfold Reps at r
    obtain ⟨x, xs, rfl, r1, r2⟩ := r
    unfold Rep at r1
    subst r1
    obtain ⟨cs, h1, rfl⟩ := map_some h
    rw [tys_at r2 h1]
    rfl
  | .non :: ts, vs, bs, r, h => by cases h
  | .int _ :: ts, vs, bs, r, h => by cases h
  | .str _ :: ts, vs, bs, r, h => by cases h
  | .bl _ :: ts, vs, bs, r, h => by cases h
  | .tup _ :: ts, vs, bs, r, h => by cases h
  | .lst _ :: ts, vs, bs, r, h => by cases h
  | .frz _ :: ts, vs, bs, r, h => by cases h
  | .rng _ :: ts, vs, bs, r, h => by cases h
  | .glb _ :: ts, vs, bs, r, h => by cases h
  | .exc _ _ _ :: ts, vs, bs, r, h => by cases h
  | .dct _ _ :: ts, vs, bs, r, h => by cases h
  | .cell _ :: ts, vs, bs, r, h => by cases h
theorem kit_any {a : String} (ha : a ∈ kinds) : ∀ {ns : List String}, (∀ n ∈ ns, n ∈ kinds) → PySem.W.kitAny K.1 (.type a) (ns.map Value.type) = some (ns.any fun n => isiB a n)
  | [], _ => kitAny_nil
  | n :: ns, h => by
    have h1 := kit_ty (K := K.1) (kit_tab a ha n (h n List.mem_cons_self))
    have h2 := kit_any ha fun m hm => h m (List.mem_cons_of_mem _ hm)
    refine kitAny_cons h1 (fun e => ?_) (fun e => ?_)
    · rw [h2, List.any_cons, e, Bool.false_or]
    · rw [List.any_cons, e, Bool.true_or]
theorem cls_all : ∀ ns : List String, Paired ClsV (ns.map V.ty) (ns.map Value.type)
  | [] => .nil
  | n :: ns => .cons (.ty n) (cls_all ns)
theorem opIsi : OpC K sIsi (fun xs H Q => rIsi K.1 xs H Q ∨ rIsiT K.1 xs H Q) := fun W hd φ H w ds xs Q wr rx p => by
  match ds, p with
  | [t, .ty n], p =>
    unfold sIsi at p
    simp only at p
    cases q : kindT w t with
    | none => rw [q] at p; exact p.elim
    | some a =>
      rw [q] at p
      simp only at p
      split at p
      · rename_i hn
        obtain ⟨v, u, rfl, r1, r2⟩ := reps2 rx
        unfold Rep at r2
        subst r2
        exact .inl ⟨v, .ty n, .type a, .type n, isiB a n, rfl, .ty n, kind_at wr r1 q, kit_ty (kit_tab a (kindT_mem q) n hn), p.bl wr⟩
      · exact p.elim
  | [t, .tup ts], p =>
    unfold sIsi at p
    simp only at p
    cases q : kindT w t with
    | none => simp only [q] at p; exact p.elim
    | some a =>
      cases q2 : tysT ts with
      | none => simp only [q, q2] at p; exact p.elim
      | some ns =>
        simp only [q, q2] at p
        split at p
        · rename_i hn
          obtain ⟨v, u, rfl, r1, r2⟩ := reps2 rx
          unfold Rep at r2
          obtain ⟨l, ys, rfl, n2, r3⟩ := r2
          have e := tys_at r3 q2
          subst e
          exact .inr ⟨v, l, ns.map V.ty, .type a, ns.map Value.type, _, rfl, n2.1, cls_all ns, kind_at wr r1 q, kit_any (kindT_mem q) hn, p.bl wr⟩
        · exact p.elim
theorem de_isi (hm : X.mg "isinstance" = none) (ha : PA X [e, e2] (rdA (X.K, Z) W m)) (hg : Gl X "isinstance" := by rfl) (he : starEach [e, e2] X.env = (false, eval e X.env) :: starEach [e2] X.env := by rfl) (hpl : (backTo pos (starEach [e2] X.env)).any (·.1) = false := by rfl) : PE X (.Call (.Name "isinstance" p) [e, e2] [] pos) (rdE (X.K, Z) W (mCall sIsi m)) :=
  de_callB (call_isi.or call_isiT) opIsi hm (by decide +kernel) ha hg (by decide) (by decide) he hpl
end
end VS

set_option Elab.async false
set_option linter.all false
set_option maxRecDepth 100000
set_option maxHeartbeats 2000000
namespace VS
open PySem PySem.Spec PyProof.Rows L2
section
variable {X : Cx} {K : KT} {hd φ : List Addr} {H : Hp} {w : World} {a b o e : Expr} {es : List Expr} {pos : Pos} {ma mb mo : ME} {m : MF} {Z : List (Addr × Str)} {W : Option WX}
theorem reps_rg (lo : Int) (n : Nat) : Reps K hd φ H (rgT lo n) ((List.range n).map fun i => V.int (lo + (i : Nat))) := by
  unfold rgT
  refine Reps.iff.mpr ⟨by simp, fun i t x h1 h2 => ?_⟩
  rw [List.getElem?_map] at h1 h2
  cases q : (List.range n)[i]? with
  | none => rw [q] at h1; cases h1
  | some j => rw [q] at h1 h2; cases h1; cases h2; unfold Rep; rfl
instance {i j : Int} : Decidable (L2.RgOk i j) := by unfold L2.RgOk; infer_instance
def mLRg1 (m : ME) : MF := fun ρ w => (m ρ w).bind fun t w1 => match t with
  | .int n => if L2.RgOk 0 n then .ok (rgT 0 n.toNat) w1 else .no
  | _ => .no
theorem df_listRg1 {p p2 q2 : Pos} (hc : X.calm = true) (hm : X.mg "list" = none) (hm2 : X.mg "range" = none) (ha : PE X a (rdE (X.K, Z) W ma)) (hg : Gl X "list" := by rfl) (hg2 : Gl X "range" := by rfl) (na : starEach [a] X.env = (false, eval a X.env) :: starEach [] X.env := by rfl)
    (na2 : starEach [.Call (.Name "range" p2) [a] [] q2] X.env = (false, eval (.Call (.Name "range" p2) [a] [] q2) X.env) :: starEach [] X.env := by rfl) : PE X (.Call (.Name "list" p) [.Call (.Name "range" p2) [a] [] q2] [] pos) (rdF (X.K, Z) W (mLRg1 ma)) := PE_imp (pe_listRg hc hg hm (prg_1 hg2 hm2 ha na) na2) fun σ H Q => by
  rintro ⟨hd, φ, ρ, w, sr, wr, p⟩
  refine ⟨hd, φ, ρ, w, sr, wr, Pst.then isPstF p fun d w1 φ1 H1 e1 wr1 p1 v rv => ?_⟩
  cases d with
  | int n =>
    cases rep_int rv
    simp only at p1
    split at p1
    · rename_i ok
      refine ⟨n, rfl, ok, fun q hq => p1.new wr1 ?_ q hq⟩
      have := reps_rg (K := (X.K, Z)) (hd := hd) (φ := φ1) (H := H1) 0 n.toNat
      unfold rgV
      rw [Int.sub_zero]
      exact this
    · exact p1.elim
  | _ => exact p1.elim
def mLRg2 (m m2 : ME) : MF := fun ρ w => (m ρ w).bind fun t w1 => (m2 ρ w1).bind fun u w2 => match t, u with
  | .int i, .int j => if L2.RgOk i j then .ok (rgT i (j - i).toNat) w2 else .no
  | _, _ => .no
theorem df_listRg2 {p p2 q2 : Pos} (hc : X.calm = true) (hm : X.mg "list" = none) (hm2 : X.mg "range" = none) (ha : PE X a (rdE (X.K, Z) W ma)) (hb : PE X b (rdE (X.K, Z) W mb)) (hg : Gl X "list" := by rfl) (hg2 : Gl X "range" := by rfl) (na : starEach [a, b] X.env = (false, eval a X.env) :: starEach [b] X.env := by rfl) (nb : starEach [b] X.env = (false, eval b X.env) :: starEach [] X.env := by rfl) (hp2 : (backTo q2 (starEach [b] X.env)).any (·.1) = false := by rfl)
    (na2 : starEach [.Call (.Name "range" p2) [a, b] [] q2] X.env = (false, eval (.Call (.Name "range" p2) [a, b] [] q2) X.env) :: starEach [] X.env := by rfl) : PE X (.Call (.Name "list" p) [.Call (.Name "range" p2) [a, b] [] q2] [] pos) (rdF (X.K, Z) W (mLRg2 ma mb)) := PE_imp (pe_listRg hc hg hm (prg_2 hg2 hm2 ha hb na nb hp2) na2) fun σ H Q => by
  rintro ⟨hd, φ, ρ, w, sr, wr, p⟩
  refine ⟨hd, φ, ρ, w, sr, wr, Pst.then isPstF p fun d w1 φ1 H1 e1 wr1 p1 v rv => ?_⟩
  refine ⟨hd, φ1, ρ, w1, sr.mono e1, wr1, Pst.then isPstF p1 fun d2 w2 φ2 H2 e2 wr2 p2 v2 rv2 => ?_⟩
  cases d with
  | int i =>
    cases d2 with
    | int j =>
      cases rep_int rv
      cases rep_int rv2
      simp only at p2
      split at p2
      · rename_i ok
        exact ⟨i, j, rfl, rfl, ok, fun q hq => p2.new wr2 (reps_rg i (j - i).toNat) q hq⟩
      · exact p2.elim
    | _ => exact p2.elim
  | _ => exact p2.elim

/-! ### methods of lists -/
abbrev SM := T → List T → World → R T
def OpM (K : KT) (s : SM) (r : V → List V → Hp → VK → Prop) : Prop := ∀ (W : Option WX) hd φ H w d ds x xs Q, WR K hd φ H w → Rep K hd φ H d x → Reps K hd φ H ds xs → Pst K W hd (CE K hd Q) φ H (s d ds w) → r x xs H Q
def mMeth (s : SM) (o : ME) (m : MF) : ME := fun ρ w => (o ρ w).bind fun d w1 => match lst? w1 d with
  | some _ => (m ρ w1).bind fun ds w2 => s d ds w2
  | none => .no
theorem meth_read {s : SM} {r : V → List V → Hp → VK → Prop} (hs : OpM K s r) : ∀ σ H Q, rdE K W (mMeth s mo m) σ H Q → tBM K.1 "list" r (rdE K W mo) (rdA K W m) σ H Q := fun σ H Q => by
  rintro ⟨hd, φ, ρ, w, sr, wr, p⟩
  refine ⟨hd, φ, ρ, w, sr, wr, Pst.then isPst p fun d w1 φ1 H1 e1 wr1 p1 x rx => ?_⟩
  cases q : lst? w1 d with
  | none => rw [q] at p1; exact p1.elim
  | some ts =>
    rw [q] at p1
    obtain ⟨l, xs, e, h1, h2⟩ := lst_at wr1 rx q
    refine ⟨by rw [e]; exact .inl ⟨rfl, xs, SqL.of h1⟩, hd, φ1, ρ, w1, sr.mono e1, wr1, Pst.then isPst p1 fun ds w2 φ2 H2 e2 wr2 p2 vs rvs => ?_⟩
    exact hs W hd φ2 H2 w2 d ds x vs Q wr2 (rx.mono e2) rvs p2
/-- a cell that is a list, written -/
theorem Pst.write {Q : VK} {k : Nat} {l : Addr} {xs ys : List V} {us : List T} {t : T} {v : V} (wr : WR K hd φ H w) (hk : φ[k]? = some l) (rs : Reps K hd φ H us ys) (rt : Rep K hd φ H t v)
    (p : Pst K W hd (CE K hd Q) φ H (.ok t (w.set k (.lst us)))) : Q v (upd H l (.lst ys)) := by
  have e : Ext hd φ H hd φ (upd H l (.lst ys)) := Ext.write (List.mem_of_getElem? hk)
  exact p _ _ e (wr.write hk ⟨ys, upd_same, rs.mono e⟩) _ (rt.mono e)
def sAppend : SM := fun d ds w => match d, ds with
  | .cell k, [t] => match w[k]? with
    | some (.lst ts) => if ts.length < sizeLine then .ok .non (w.set k (.lst (ts ++ [t]))) else .no
    | _ => .no
  | _, _ => .no
theorem opAppend : OpM K sAppend rAppend := fun W hd φ H w d ds x xs Q wr rx rxs p => by
  cases d with
  | cell k =>
    cases ds with
    | nil => exact p.elim
    | cons t r =>
      cases r with
      | cons _ _ => exact p.elim
      | nil =>
        unfold sAppend at p
        simp only at p
        cases q : w[k]? with
        | none => rw [q] at p; exact p.elim
        | some c =>
          rw [q] at p
          cases c with
          | lst ts =>
            simp only at p
            split at p
            · rename_i hl
              obtain ⟨l, rfl, hk, _, ys, h1, h2⟩ := cell_at wr rx q
              obtain ⟨v, rfl, rt⟩ := reps1 rxs
              exact ⟨l, ys, v, rfl, rfl, h1, by rw [← h2.len]; exact hl, Pst.write (xs := ys) wr hk (h2.append (Reps.cons rt Reps.nil)) (by unfold Rep; rfl) p⟩
            · exact p.elim
          | _ => exact p.elim
  | _ => exact p.elim
theorem de_append {apos : Pos} (ho : PE X o (rdE (X.K, Z) W mo)) (ha : PA X [e] (rdA (X.K, Z) W m))
    (hbase : attributeBase o "append" X.env (eval o X.env) = eval o X.env := by rfl) (hline : (apos.endLine == pos.line) = true := by rfl)
    (hfew : ((backTo pos (starEach [e] X.env)).all (fun x => !x.1) && (backToKw pos (keywordEach [] X.env)).all (fun x => x.1.isSome)
      && decide (([e] : List Expr).length + ([] : List Keyword).length + (if ([] : List Keyword).isEmpty then 0 else 1) < 30)) = true := by rfl)
    (hs : starEach [e] X.env = (false, eval e X.env) :: starEach [] X.env := by rfl) (hplain : (backTo pos (starEach [] X.env)).any (·.1) = false := by rfl) :
    PE X (.Call (.Attribute o "append" apos) [e] [] pos) (rdE (X.K, Z) W (mMeth sAppend mo m)) :=
  PE_imp (pe_bm PySem.F.plainAttrs_list PySem.F.slot_list_append PySem.F.type_list_append mt_append ho ha hbase hfew hline hs hplain) (meth_read opAppend)
def sPopAt : SM := fun d ds w => match d, ds with
  | .cell k, [.int i] => match w[k]? with
    | some (.lst ts) => if -(2 ^ 63) ≤ i ∧ i < 2 ^ 63 then match seqIndex? i ts.length with
        | some j => match ts[j]? with
          | some t => .ok t (w.set k (.lst (ts.eraseIdx j)))
          | none => .no
        | none => .no
      else .no
    | _ => .no
  | _, _ => .no
theorem opPopAt : OpM K sPopAt rPopAt := fun W hd φ H w d ds x xs Q wr rx rxs p => by
  cases d with
  | cell k =>
    cases ds with
    | nil => exact p.elim
    | cons t r =>
      cases r with
      | cons _ _ => cases t <;> exact p.elim
      | nil =>
        cases t with
        | int i =>
          unfold sPopAt at p
          simp only at p
          cases q : w[k]? with
          | none => rw [q] at p; exact p.elim
          | some c =>
            rw [q] at p
            cases c with
            | lst ts =>
              simp only at p
              split at p
              · rename_i hl
                obtain ⟨l, rfl, hk, _, ys, h1, h2⟩ := cell_at wr rx q
                obtain ⟨v, rfl, rt⟩ := reps1 rxs
                cases rep_int rt
                cases q2 : seqIndex? i ts.length with
                | none => rw [q2] at p; exact p.elim
                | some j =>
                  rw [q2] at p
                  simp only at p
                  cases q3 : ts[j]? with
                  | none => rw [q3] at p; exact p.elim
                  | some t =>
                    rw [q3] at p
                    obtain ⟨y, h3, h4⟩ := h2.at q3
                    exact ⟨l, ys, i, j, y, rfl, rfl, h1, hl.1, hl.2, by rw [← h2.len]; exact q2, h3, Pst.write (xs := ys) wr hk (h2.eraseIdx j) h4 p⟩
              · exact p.elim
            | _ => exact p.elim
        | _ => exact p.elim
  | _ => exact p.elim
theorem de_popAt {apos : Pos} (ho : PE X o (rdE (X.K, Z) W mo)) (ha : PA X [e] (rdA (X.K, Z) W m))
    (hbase : attributeBase o "pop" X.env (eval o X.env) = eval o X.env := by rfl) (hline : (apos.endLine == pos.line) = true := by rfl)
    (hfew : ((backTo pos (starEach [e] X.env)).all (fun x => !x.1) && (backToKw pos (keywordEach [] X.env)).all (fun x => x.1.isSome)
      && decide (([e] : List Expr).length + ([] : List Keyword).length + (if ([] : List Keyword).isEmpty then 0 else 1) < 30)) = true := by rfl)
    (hs : starEach [e] X.env = (false, eval e X.env) :: starEach [] X.env := by rfl) (hplain : (backTo pos (starEach [] X.env)).any (·.1) = false := by rfl) :
    PE X (.Call (.Attribute o "pop" apos) [e] [] pos) (rdE (X.K, Z) W (mMeth sPopAt mo m)) :=
  PE_imp (pe_bm PySem.F.plainAttrs_list PySem.F.slot_list_pop PySem.F.type_list_pop mt_popAt ho ha hbase hfew hline hs hplain) (meth_read opPopAt)

/-! ### o[i] = v -/
def rSetD : TSet := fun o i v H Q => ∃ a H', o = .ref a ∧ DPut H a i v H' ∧ Q H'
theorem set_dict (hu : X.A.units + 1 < cLine) : PSet X rSetD := by
  intro pins s σ H o i v ov iv u Q I ro ri rv h
  obtain ⟨a, H', rfl, g, q⟩ := h
  obtain rfl : ov = Value.ref a := ro
  exact d_setItem hu I g ri rv fun s' I' => ⟨H', I', q⟩
theorem PSet.or {t t' : TSet} (h : PSet X t) (h' : PSet X t') : PSet X (fun o i v H Q => t o i v H Q ∨ t' o i v H Q) := by
  intro pins s σ H o i v ov iv u Q I ro ri rv q
  rcases q with q | q
  · exact h pins s σ H o i v ov iv u Q I ro ri rv q
  · exact h' pins s σ H o i v ov iv u Q I ro ri rv q
def sSet : S3 := fun o i t w => match o with
  | .cell k => match w[k]? with
    | some (.lst ts) => match i with
      | .int n => match ixN ts.length n with
        | some j => .ok () (w.set k (.lst (ts.set j t)))
        | none => .no
      | _ => .no
    | some (.dic kvs) => match keyT i with
      | some key => if kvs.length < sizeLine then .ok () (w.set k (.dic (putT kvs key t))) else .no
      | none => .no
    | some (.dit kvs) => match i with
      | .tup us => match keysT us with
        | some key => if kvs.length < sizeLine then .ok () (w.set k (.dit (putT kvs key t))) else .no
        | none => .no
      | _ => .no
    | _ => .no
  | _ => .no
theorem opSet : OpSet K sSet (fun o i v H Q => rSetL o i v H Q ∨ rSetD o i v H Q) := fun W hd φ H w d1 d2 d3 x y z Q wr r1 r2 r3 p => by
  cases d1 with
  | cell k =>
    unfold sSet at p
    simp only at p
    cases q : w[k]? with
    | none => rw [q] at p; exact p.elim
    | some c =>
      rw [q] at p
      cases c with
      | lst ts =>
        cases d2 with
        | int n =>
          cases rep_int r2
          simp only at p
          cases q2 : ixN ts.length n with
          | none => rw [q2] at p; exact p.elim
          | some j =>
            rw [q2] at p
            obtain ⟨l, rfl, hk, hm, ys, h1, h2⟩ := cell_at wr r1 q
            have e : Ext hd φ H hd φ (upd H l (.lst (ys.set j z))) := Ext.write hm
            exact .inl ⟨l, ys, n, j, rfl, rfl, h1, by rw [← h2.len]; exact q2, p _ _ e (wr.write hk ⟨_, upd_same, (h2.set r3 j).mono e⟩)⟩
        | _ => exact p.elim
      | dic kvs =>
        simp only at p
        cases q2 : keyT d2 with
        | none => rw [q2] at p; exact p.elim
        | some key =>
          rw [q2] at p
          simp only at p
          split at p
          · rename_i hl
            obtain ⟨l, rfl, hk, hm, ys, h1, h2, h3⟩ := cell_at wr r1 q
            have e : Ext hd φ H hd φ (upd H l (.dK (putK ys key z))) := Ext.write hm
            have hlen : ys.length = kvs.length := by simpa using congrArg List.length h2
            obtain ⟨g1, g2⟩ := putT_at h2 h3 key r3
            rw [key_at r2 q2]
            exact .inr ⟨l, _, rfl, DPut.k h1 (by rw [hlen]; exact hl), p _ _ e (wr.write hk ⟨_, upd_same, g1, g2.mono e⟩)⟩
          · exact p.elim
      | dit kvs =>
        cases d2 with
        | tup us =>
          simp only at p
          cases q2 : keysT us with
          | none => rw [q2] at p; exact p.elim
          | some key =>
            rw [q2] at p
            simp only at p
            split at p
            · rename_i hl
              obtain ⟨l, rfl, hk, hm, ys, h1, h2, h3⟩ := cell_at wr r1 q
              have e : Ext hd φ H hd φ (upd H l (.dT (putK ys key z))) := Ext.write hm
              have hlen : ys.length = kvs.length := by simpa using congrArg List.length h2
              obtain ⟨g1, g2⟩ := putT_at h2 h3 key r3
              unfold Rep at r2
              obtain ⟨m, zs, rfl, n, rz⟩ := r2
              have e' := keys_at rz q2
              subst e'
              exact .inr ⟨l, _, rfl, DPut.t h1 n.1 (by rw [hlen]; exact hl), p _ _ e (wr.write hk ⟨_, upd_same, g1, g2.mono e⟩)⟩
            · exact p.elim
        | _ => exact p.elim
      | obj x ks ts => exact p.elim
  | _ => exact p.elim
theorem dg_item (hu : X.A.units + 1 < cLine) {i : Expr} {mi : ME} (ho : PE X o (rdE (X.K, Z) W mo)) (hi : PE X i (rdE (X.K, Z) W mi))
    (ha : ∀ v, assign (.Subscript o i pos) X.env v = (do
      let ov ← holding [v] (eval o X.env)
      let iv ← holding [v, ov] (eval i X.env)
      standAt pos
      holding [v, ov, iv] (setItem ov iv v)
      release [v, ov, iv] []) := by exact fun _ => rfl) : PG X (.Subscript o i pos) (rdG (X.K, Z) W (mgSub sSet mo mi) []) := dg_sub ho hi (PSet.or set_list (set_dict hu)) opSet ha

/-! ### {} and {k: v, ..} -/
/-- a dict held apart becomes a cell -/
def mDict0 : ME := fun _ w => .ok (.cell w.length) (w ++ [.dic []])
def mDictT0 : ME := fun _ w => .ok (.cell w.length) (w ++ [.dit []])
theorem new_cell {Q : VK} {o : HO} {c : Cell} (wr : WR K hd φ H w) (p : Pst K W hd (CE K hd Q) φ H (.ok (.cell w.length) (w ++ [c]))) (hc : ∀ l, H l = none → CellR K (l :: hd) φ (upd H l o) c l) (ho : ∀ ps, o ≠ .tbl ps := by exact fun _ z => nomatch z) : ∀ l, H l = none → Q (.ref l) (upd H l o) := fun l hl => by
  refine p _ (φ ++ [l]) ((Ext.hold hl).cell (fr0_none hl)) ((wr.hold hl ho).cell (wr.nin hl).2 (hc l hl)) _ ?_
  unfold Rep
  refine ⟨l, rfl, ?_⟩
  rw [← wr.len, List.getElem?_append_right (Nat.le_refl _)]
  simp
theorem de_dict0 : PE X (.Dict [] [] pos) (rdE (X.K, Z) W mDict0) := PE_imp pe_dnewK fun σ H Q => by
  rintro ⟨hd, φ, ρ, w, sr, wr, p⟩
  exact new_cell wr p fun l hl => ⟨[], upd_same, rfl, Reps.nil⟩
theorem de_dictT0 : PE X (.Dict [] [] pos) (rdE (X.K, Z) W mDictT0) := PE_imp pe_dnewT fun σ H Q => by
  rintro ⟨hd, φ, ρ, w, sr, wr, p⟩
  exact new_cell wr p fun l hl => ⟨[], upd_same, rfl, Reps.nil⟩
/-- the pairs of a display: keys are written texts or ints -/
abbrev MPs := Env → World → R (List (Key × T))
def mpNil : MPs := fun _ w => .ok [] w
def mpCons (k v : ME) (r : MPs) : MPs := fun ρ w => (k ρ w).bind fun kt w1 => (v ρ w1).bind fun t w2 => (r ρ w2).bind fun ps w3 => match keyT kt with
  | some key => .ok ((key, t) :: ps) w3
  | none => .no
def rdP (K : KT) (W : Option WX) (m : MPs) : L2.St → Hp → (List (V × V) → Hp → Prop) → Prop := fun σ H Q => ∃ hd φ ρ w, SR K hd φ H σ ρ ∧ WR K hd φ H w ∧
  Pst K W hd (fun kvs φ' H' => ∀ ys : List (Key × V), ys.map (·.1) = kvs.map (·.1) → Reps K hd φ' H' (kvs.map (·.2)) (ys.map (·.2)) → Q (ys.map fun kv => (kV kv.1, kv.2)) H') φ H (m ρ w)
structure DPs (X : Cx) (Z : List (Addr × Str)) (W : Option WX) (pos : Pos) (keys : List (Option Expr)) (values : List Expr) (m : MPs) : Prop where
  ex : ∃ trs, PPs X pos keys values trs ∧ ∀ σ H Q, rdP (X.K, Z) W m σ H Q → tPairs trs σ H Q
theorem dp_nil : DPs X Z W pos [] [] mpNil := ⟨[], pps_nil, fun σ H Q => by
  rintro ⟨hd, φ, ρ, w, sr, wr, p⟩
  exact p.ok wr [] rfl Reps.nil⟩
theorem dp_cons {k v : Expr} {ks : List (Option Expr)} {vs : List Expr} {mk mv : ME} {mr : MPs} (hk : PE X k (rdE (X.K, Z) W mk)) (hv : PE X v (rdE (X.K, Z) W mv)) (hr : DPs X Z W pos ks vs mr) : DPs X Z W pos (some k :: ks) (v :: vs) (mpCons mk mv mr) := by
  obtain ⟨trs, h1, h2⟩ := hr.ex
  refine ⟨_, pps_cons hk hv h1, fun σ H Q => ?_⟩
  rintro ⟨hd, φ, ρ, w, sr, wr, p⟩
  refine ⟨hd, φ, ρ, w, sr, wr, Pst.then isPst p fun kt w1 φ1 H1 e1 wr1 p1 x rx => ?_⟩
  refine ⟨hd, φ1, ρ, w1, sr.mono e1, wr1, Pst.then isPst p1 fun t w2 φ2 H2 e2 wr2 p2 y ry => ?_⟩
  refine h2 σ H2 _ ⟨hd, φ2, ρ, w2, sr.mono (e1.trans e2), wr2, Pst.then isPst p2 fun ps w3 φ3 H3 e3 wr3 p3 ys g1 g2 => ?_⟩
  cases q : keyT kt with
  | none => rw [q] at p3; exact p3.elim
  | some key =>
    rw [q] at p3
    have := p3.ok wr3 ((key, y) :: ys) (by simp [g1]) (Reps.cons (ry.mono e3) g2)
    rw [key_at rx q]
    exact this
def mDict (m : MPs) : ME := fun ρ w => (m ρ w).bind fun kvs w1 => if kvs.length ≤ 15 ∧ (kvs.map (·.1)).Nodup then .ok (.cell w1.length) (w1 ++ [.dic kvs]) else .no
theorem merge_id : ∀ (ys acc : List (Key × V)), ((acc ++ ys).map (·.1)).Nodup → mergeK acc ys = acc ++ ys
  | [], acc, _ => by rw [List.append_nil]; rfl
  | p :: ys, acc, h => by
    show mergeK (putK acc p.1 p.2) ys = _
    have hn : valV acc p.1 = none := by
      cases q : valV acc p.1 with
      | none => rfl
      | some v =>
        exfalso
        have h1 : (acc.any fun kv => decide (kv.1 = p.1)) = true := by rw [valV_any, q]; rfl
        obtain ⟨z, hz, e⟩ := List.any_eq_true.mp h1
        have e := of_decide_eq_true e
        rw [List.map_append, List.nodup_append] at h
        exact h.2.2 z.1 (List.mem_map.mpr ⟨z, hz, rfl⟩) p.1 (by simp) e
    rw [putK_new _ hn, merge_id ys (acc ++ [(p.1, p.2)]) (by simpa using h)]
    simp
theorem de_dict {keys : List (Option Expr)} {values : List Expr} {m : MPs} (h : DPs X Z W pos keys values m) (hall : keys.all (·.isSome) = true := by rfl) (hl : keys.length = values.length := by rfl) (h0 : keys ≠ [] := by exact fun h => nomatch h) (h15 : keys.length ≤ 15 := by decide) : PE X (.Dict keys values pos) (rdE (X.K, Z) W (mDict m)) := by
  obtain ⟨trs, h1, h2⟩ := h.ex
  refine PE_imp (pe_disp h1 hall hl h0 h15) fun σ H Q => ?_
  rintro ⟨hd, φ, ρ, w, sr, wr, p⟩
  intro l hln
  have eh : Ext hd φ H (l :: hd) φ (upd H l (.dK [])) := Ext.hold hln
  refine h2 σ _ _ ⟨l :: hd, φ, ρ, w, sr.mono eh, wr.hold hln, ?_⟩
  unfold mDict at p
  cases q : m ρ w with
  | no => rw [q] at p; exact p.elim
  | ex t ρ' w' => rw [q] at p; exact PstX.hold hln p
  | ok kvs w1 =>
    rw [q, bind_ok] at p
    intro H' φ' e1 wr1 ys g1 g2
    have hx : H' l = some (.dK []) := e1.keep l _ upd_same (wr.hold (o := .dK []) hln |>.apart l · List.mem_cons_self) (fun _ z => nomatch z)
    split at p
    · rename_i hc
      refine ⟨hx, ys, rfl, by rw [show ys.length = kvs.length by simpa using congrArg List.length g1]; exact hc.1, ?_⟩
      have em : mergeK [] ys = ys := merge_id ys [] (by simpa [g1] using hc.2)
      rw [em]
      have eg : ExtD (some l) (l :: hd) φ' H' (l :: hd) φ' (upd H' l (.dK ys)) := ExtD.grow List.mem_cons_self
      have off : Off (some l) (l :: hd) H' := fun d h => by cases h; exact .inl List.mem_cons_self
      have e2 : Ext hd φ H (l :: hd) φ' (upd H' l (.dK ys)) := ((eh.toD.trans e1.toD).trans eg).plain (fr0_none hln)
      refine p _ (φ' ++ [l]) (e2.cell (fr0_none hln)) ((wr1.grow List.mem_cons_self hx).cell (wr.nin hln).2 ⟨ys, upd_same, g1, g2.monoD eg off⟩) _ ?_
      unfold Rep
      refine ⟨l, rfl, ?_⟩
      rw [← wr1.len, List.getElem?_append_right (Nat.le_refl _)]
      simp
    · exact p.elim
end
end VS

set_option Elab.async false
set_option linter.all false
set_option maxRecDepth 100000
set_option maxHeartbeats 2000000
namespace VS
open PySem PySem.Spec PyProof.Rows L2

/-! ### defs -/
/-- a body as a function of the arguments -/
def runB (n : Nat) (b : MS) : Sem := fun ds w => match b (ds.map some ++ List.replicate (n - ds.length) none) w with
  | .ok (_, .ret t) w' => .ok t w'
  | .ok (_, .nx) w' => .ok .non w'
  | .ex t _ w' => .ex t [] w'
  | _ => .no
/-! cells of the world ahead alone -/
mutual
def NoRef (n : Nat) : T → Prop
  | .cell k => k < n
  | .tup ts => NoRefs n ts
  | .lst ts => NoRefs n ts
  | .frz ts => NoRefs n ts
  | .exc _ _ ts => NoRefs n ts
  | .dct _ ts => NoRefs n ts
  | _ => True
def NoRefs (n : Nat) : List T → Prop
  | [] => True
  | t :: ts => NoRef n t ∧ NoRefs n ts
end
def NoRefC (n : Nat) : Cell → Prop
  | .lst ts => NoRefs n ts
  | .dic kvs => NoRefs n (kvs.map (·.2))
  | .dit kvs => NoRefs n (kvs.map (·.2))
  | .obj _ _ ts => NoRefs n ts
mutual
def mapC (g : Nat → T) : T → T
  | .cell k => g k
  | .tup ts => .tup (mapCs g ts)
  | .lst ts => .lst (mapCs g ts)
  | .frz ts => .frz (mapCs g ts)
  | .non => .non
  | .bl b => .bl b
  | .int i => .int i
  | .str x => .str x
  | .ty n => .ty n
  | .rng n => .rng n
  | .glb x => .glb x
  | .exc x ks ts => .exc x ks (mapCs g ts)
  | .dct ks ts => .dct ks (mapCs g ts)
def mapCs (g : Nat → T) : List T → List T
  | [] => []
  | t :: ts => mapC g t :: mapCs g ts
end
/-- the cells from n on read out -/
def fz (n : Nat) (w : World) : Nat → T → T
  | 0, t => t
  | f + 1, t => mapC (fun k => if k < n then .cell k else match w[k]? with
    | some (.lst ts) => .lst (ts.map (fz n w f))
    | _ => .cell k) t
def GcOk (w w' : World) : Prop := w.length ≤ w'.length ∧ ∀ (k : Nat) c, k < w.length → w'[k]? = some c → w[k]? = some c ∨ NoRefC w.length c
open Classical in
noncomputable def gcR (w : World) : R T → R T
  | .ok t w' => if GcOk w w' ∧ NoRef w.length (fz w.length w' 3 t) then .ok (fz w.length w' 3 t) (w'.take w.length) else .no
  | .ex t _ w' => if GcOk w w' ∧ NoRef w.length t then .ex t [] (w'.take w.length) else .no
  | .no => .no
noncomputable def gc (f : Sem) : Sem := fun ds w => gcR w (f ds w)
section
variable {K : KT} {hd φ φ' : List Addr} {H H' : Hp} {w w' : World} {n : Nat}
mutual
theorem noRef_of : ∀ {t : T} {v : V}, Rep K hd φ H t v → NoRef φ.length t
  | .non, _, _ => by unfold NoRef; trivial
  | .bl _, _, _ => by unfold NoRef; trivial
  | .int _, _, _ => by unfold NoRef; trivial
  | .str _, _, _ => by unfold NoRef; trivial
  | .ty _, _, _ => by unfold NoRef; trivial
  | .rng _, _, _ => by unfold NoRef; trivial
  | .glb _, _, _ => by unfold NoRef; trivial
  | .exc x ks ts, v, h => by
    unfold Rep at h; unfold NoRef
    obtain ⟨_, _, _, _, _, _, q⟩ := h
    rcases q with ⟨_, rfl, _⟩ | ⟨_, _, _, _, _, r⟩
    · unfold NoRefs; trivial
    · exact noRefs_of r
  | .dct ks ts, v, h => by unfold Rep at h; unfold NoRef; obtain ⟨_, _, _, _, _, r⟩ := h; exact noRefs_of r
  | .tup ts, v, h => by unfold Rep at h; unfold NoRef; obtain ⟨_, _, _, _, r⟩ := h; exact noRefs_of r
  | .lst ts, v, h => by unfold Rep at h; unfold NoRef; obtain ⟨_, _, _, _, r⟩ := h; exact noRefs_of r
  | .frz ts, v, h => by unfold Rep at h; unfold NoRef; obtain ⟨_, _, _, _, r⟩ := h; exact noRefs_of r
  | .cell k, v, h => by unfold Rep at h; unfold NoRef; obtain ⟨_, _, r⟩ := h; exact (List.getElem?_eq_some_iff.mp r).1
theorem noRefs_of : ∀ {ts : List T} {vs : List V}, Reps K hd φ H ts vs → NoRefs φ.length ts
  | [], _, _ => by unfold NoRefs; trivial
  | t :: ts, _, h => by unfold Reps at h; unfold NoRefs; obtain ⟨_, _, _, r1, r2⟩ := h; exact ⟨noRef_of r1, noRefs_of r2⟩
end
theorem noRefC_of {c : Cell} {a : Addr} (h : CellR K hd φ H c a) : NoRefC φ.length c := by
  cases c with
  | lst ts => obtain ⟨_, _, r⟩ := h; exact noRefs_of r
  | dic kvs => obtain ⟨_, _, _, r⟩ := h; exact noRefs_of r
  | dit kvs => obtain ⟨_, _, _, r⟩ := h; exact noRefs_of r
  | obj x ks ts => obtain ⟨_, _, _, _, _, _, _, r⟩ := h; exact noRefs_of r
/-! back to the cells ahead -/
mutual
theorem Rep.back (nn : ∀ a, a ∉ φ' → a ∉ φ) (g : ∀ (k : Nat) (a : Addr), k < n → φ'[k]? = some a → φ[k]? = some a) : ∀ {t : T} {v : V}, Rep K hd φ' H t v → NoRef n t → Rep K hd φ H t v
  | .non, _, h, _ => h
  | .bl _, _, h, _ => h
  | .int _, _, h, _ => h
  | .str _, _, h, _ => h
  | .ty _, _, h, _ => h
  | .tup ts, v, h, q => by
    unfold Rep at h ⊢; unfold NoRef at q
    obtain ⟨a, xs, e, ⟨n1, n2, n3⟩, r⟩ := h
    exact ⟨a, xs, e, ⟨n1, nn a n2, n3⟩, Reps.back nn g r q⟩
  | .lst ts, v, h, q => by
    unfold Rep at h ⊢; unfold NoRef at q
    obtain ⟨a, xs, e, ⟨n1, n2, n3⟩, r⟩ := h
    exact ⟨a, xs, e, ⟨n1, nn a n2, n3⟩, Reps.back nn g r q⟩
  | .frz ts, v, h, q => by
    unfold Rep at h ⊢; unfold NoRef at q
    obtain ⟨a, xs, e, n0, r⟩ := h
    refine ⟨a, xs, e, ?_, Reps.back nn g r q⟩
    rcases n0 with ⟨u, n1, z, n2, n3⟩ | n0
    · exact .inl ⟨u, n1, z, nn a n2, n3⟩
    · exact .inr n0
  | .rng n, v, h, q => by
    unfold Rep at h ⊢
    obtain ⟨a, e, h1, h2, h3⟩ := h
    exact ⟨a, e, h1, nn a h2, h3⟩
  | .glb x, v, h, q => by unfold Rep at h ⊢; exact h
  | .exc x ks ts, v, h, q => by
    unfold Rep at h ⊢; unfold NoRef at q
    obtain ⟨a, C, d, e, gl, ⟨n1, n2, n3⟩, z⟩ := h
    refine ⟨a, C, d, e, gl, ⟨n1, nn a n2, n3⟩, ?_⟩
    rcases z with z | ⟨dd, vs, e2, l, ⟨m1, m2, m3⟩, r⟩
    · exact .inl z
    · exact .inr ⟨dd, vs, e2, l, ⟨m1, nn dd m2, m3⟩, Reps.back nn g r q⟩
  | .dct ks ts, v, h, q => by
    unfold Rep at h ⊢; unfold NoRef at q
    obtain ⟨a, vs, e, l, ⟨n1, n2, n3⟩, r⟩ := h
    exact ⟨a, vs, e, l, ⟨n1, nn a n2, n3⟩, Reps.back nn g r q⟩
  | .cell k, v, h, q => by
    unfold Rep at h ⊢; unfold NoRef at q
    obtain ⟨a, e, hk⟩ := h
    exact ⟨a, e, g k a q hk⟩
theorem Reps.back (nn : ∀ a, a ∉ φ' → a ∉ φ) (g : ∀ (k : Nat) (a : Addr), k < n → φ'[k]? = some a → φ[k]? = some a) : ∀ {ts : List T} {vs : List V}, Reps K hd φ' H ts vs → NoRefs n ts → Reps K hd φ H ts vs
  | [], _, h, _ => by unfold Reps at h ⊢; exact h
  | t :: ts, _, h, q => by
    unfold Reps at h ⊢; unfold NoRefs at q
    obtain ⟨x, r, e, a, b⟩ := h
    exact ⟨x, r, e, Rep.back nn g a q.1, Reps.back nn g b q.2⟩
end
mutual
theorem Rep.mapC (nn : ∀ a, a ∉ φ' → a ∉ φ) {g : Nat → T} (gg : ∀ (k : Nat) v, Rep K hd φ' H (.cell k) v → NoRef n (g k) → Rep K hd φ H (g k) v) : ∀ {t : T} {v : V}, Rep K hd φ' H t v → NoRef n (VS.mapC g t) → Rep K hd φ H (VS.mapC g t) v
  | .non, _, h, _ => by unfold VS.mapC; exact h
  | .bl _, _, h, _ => by unfold VS.mapC; exact h
  | .int _, _, h, _ => by unfold VS.mapC; exact h
  | .str _, _, h, _ => by unfold VS.mapC; exact h
  | .ty _, _, h, _ => by unfold VS.mapC; exact h
  | .tup ts, v, h, q => by
    unfold VS.mapC at q ⊢; unfold Rep at h ⊢; unfold NoRef at q
    obtain ⟨a, xs, e, ⟨n1, n2, n3⟩, r⟩ := h
    exact ⟨a, xs, e, ⟨n1, nn a n2, n3⟩, Reps.mapC nn gg r q⟩
  | .lst ts, v, h, q => by
    unfold VS.mapC at q ⊢; unfold Rep at h ⊢; unfold NoRef at q
    obtain ⟨a, xs, e, ⟨n1, n2, n3⟩, r⟩ := h
    exact ⟨a, xs, e, ⟨n1, nn a n2, n3⟩, Reps.mapC nn gg r q⟩
  | .frz ts, v, h, q => by
    unfold VS.mapC at q ⊢; unfold Rep at h ⊢; unfold NoRef at q
    obtain ⟨a, xs, e, n0, r⟩ := h
    refine ⟨a, xs, e, ?_, Reps.mapC nn gg r q⟩
    rcases n0 with ⟨u, n1, z, n2, n3⟩ | n0
    · exact .inl ⟨u, n1, z, nn a n2, n3⟩
    · exact .inr n0
  | .rng n, v, h, q => by
    unfold VS.mapC; unfold Rep at h ⊢
    obtain ⟨a, e, h1, h2, h3⟩ := h
    exact ⟨a, e, h1, nn a h2, h3⟩
  | .glb x, v, h, q => by unfold VS.mapC; unfold Rep at h ⊢; exact h
  | .exc x ks ts, v, h, q => by
    unfold VS.mapC at q ⊢; unfold Rep at h ⊢; unfold NoRef at q
    obtain ⟨a, C, d, e, gl, ⟨n1, n2, n3⟩, z⟩ := h
    refine ⟨a, C, d, e, gl, ⟨n1, nn a n2, n3⟩, ?_⟩
    rcases z with ⟨z1, z2, z3⟩ | ⟨dd, vs, e2, l, ⟨m1, m2, m3⟩, r⟩
    · subst z2; exact .inl ⟨z1, by unfold VS.mapCs; rfl, z3⟩
    · have r' := Reps.mapC nn gg r q
      exact .inr ⟨dd, vs, e2, ⟨l.1, by rw [l.2, r.len, r'.len]⟩, ⟨m1, nn dd m2, m3⟩, r'⟩
  | .dct ks ts, v, h, q => by
    unfold VS.mapC at q ⊢; unfold Rep at h ⊢; unfold NoRef at q
    obtain ⟨a, vs, e, l, ⟨n1, n2, n3⟩, r⟩ := h
    have r' := Reps.mapC nn gg r q
    exact ⟨a, vs, e, by rw [l, r.len, r'.len], ⟨n1, nn a n2, n3⟩, r'⟩
  | .cell k, v, h, q => by
    unfold VS.mapC at q ⊢
    exact gg k v h q
theorem Reps.mapC (nn : ∀ a, a ∉ φ' → a ∉ φ) {g : Nat → T} (gg : ∀ (k : Nat) v, Rep K hd φ' H (.cell k) v → NoRef n (g k) → Rep K hd φ H (g k) v) : ∀ {ts : List T} {vs : List V}, Reps K hd φ' H ts vs → NoRefs n (VS.mapCs g ts) → Reps K hd φ H (VS.mapCs g ts) vs
  | [], _, h, _ => by unfold VS.mapCs; unfold Reps at h ⊢; exact h
  | t :: ts, _, h, q => by
    unfold VS.mapCs at q ⊢; unfold Reps at h ⊢; unfold NoRefs at q
    obtain ⟨x, r, e, a, b⟩ := h
    exact ⟨x, r, e, Rep.mapC nn gg a q.1, Reps.mapC nn gg b q.2⟩
end
theorem Rep.fz (wr : WR K hd φ' H w') (nn : ∀ a, a ∉ φ' → a ∉ φ) (g : ∀ (k : Nat) (a : Addr), k < n → φ'[k]? = some a → φ[k]? = some a) (far : ∀ (k : Nat) (a : Addr), n ≤ k → φ'[k]? = some a → a ∉ φ) :
    ∀ (f : Nat) {t : T} {v : V}, Rep K hd φ' H t v → NoRef n (VS.fz n w' f t) → Rep K hd φ H (VS.fz n w' f t) v
  | 0, t, v, h, q => Rep.back nn g h q
  | f + 1, t, v, h, q => by
    unfold VS.fz at q ⊢
    refine Rep.mapC nn (fun k v h q => ?_) h q
    split at q
    · rename_i hk
      rw [if_pos hk]
      exact Rep.back nn g h q
    · rename_i hk
      rw [if_neg hk]
      split at q
      · rename_i ts hw
        obtain ⟨a, rfl, ha, hm, xs, h1, h2⟩ := cell_at wr h hw
        show Rep K hd φ H (.lst (ts.map (VS.fz n w' f))) (.ref a)
        unfold Rep
        refine ⟨a, xs, rfl, ⟨h1, far k a (by omega) ha, wr.apart a hm⟩, ?_⟩
        unfold NoRef at q
        clear h1 hw h
        induction ts generalizing xs with
        | nil => unfold Reps at h2; subst h2; exact Reps.nil
        | cons t ts ih =>
          unfold Reps at h2
          obtain ⟨x, r, rfl, r1, r2⟩ := h2
          unfold List.map NoRefs at q
          exact Reps.cons (Rep.fz wr nn g far f r1 q.1) (ih r r2 q.2)
      · exfalso
        unfold NoRef at q
        exact hk q
theorem sr_nil : SR K hd φ H [] [] := ⟨rfl, fun i t h => by simp at h⟩
/-- the cells made since φ are let go -/
theorem gc_back (wr : WR K hd φ H w) (ok : GcOk w w') (e : Ext hd φ H hd φ' H') (wr' : WR K hd φ' H' w') :
    Ext hd φ H hd φ H' ∧ WR K hd φ H' (w'.take w.length) ∧ (∀ a, a ∉ φ' → a ∉ φ) ∧ (∀ (k : Nat) (a : Addr), k < w.length → φ'[k]? = some a → φ[k]? = some a) ∧ (∀ (k : Nat) (a : Addr), w.length ≤ k → φ'[k]? = some a → a ∉ φ) := by
  obtain ⟨hl, hc⟩ := ok
  obtain ⟨more, e1, fresh⟩ := e.pre
  have hlen : φ.length = w.length := wr.len
  have nn : ∀ a, a ∉ φ' → a ∉ φ := fun a h z => h (by rw [e1]; exact List.mem_append_left _ z)
  have g : ∀ (k : Nat) (a : Addr), k < w.length → φ'[k]? = some a → φ[k]? = some a := fun k a hk h => by
    rw [e1, List.getElem?_append_left (by omega)] at h
    exact h
  have far : ∀ (k : Nat) (a : Addr), w.length ≤ k → φ'[k]? = some a → a ∉ φ := fun k a hk h z => by
    rw [e1, List.getElem?_append_right (by omega)] at h
    have nd := wr'.nd
    rw [e1, List.nodup_append] at nd
    exact nd.2.2 a z a (List.mem_of_getElem? h) rfl
  refine ⟨⟨⟨[], by simp, fun _ h => by simp at h⟩, fun _ h => .inl h, e.keep, e.there⟩, ⟨?_, wr.nd, wr.apart, fun a ha => ?_, fun k c a h1 h2 => ?_, wr'.tabs⟩, nn, g, far⟩
  · rw [List.length_take, hlen]; omega
  · obtain ⟨o, ho, nt⟩ := wr.there a ha
    exact e.there a o ho nt
  · rw [List.getElem?_take] at h1
    split at h1
    · rename_i hk
      have h2' : φ'[k]? = some a := by rw [e1, List.getElem?_append_left (by omega)]; exact h2
      have cr := wr'.cells k c a h1 h2'
      have nr : NoRefC w.length c := by
        rcases hc k c hk h1 with z | z
        · have := noRefC_of (wr.cells k c a z h2)
          rw [hlen] at this
          exact this
        · exact z
      cases c with
      | lst ts => obtain ⟨xs, h3, h4⟩ := cr; exact ⟨xs, h3, Reps.back nn g h4 nr⟩
      | dic kvs => obtain ⟨ys, h3, h4, h5⟩ := cr; exact ⟨ys, h3, h4, Reps.back nn g h5 nr⟩
      | dit kvs => obtain ⟨ys, h3, h4, h5⟩ := cr; exact ⟨ys, h3, h4, Reps.back nn g h5 nr⟩
      | obj x ks ts => obtain ⟨C, dx, vs, h1, h2, h3, ⟨m1, m2, m3⟩, h5⟩ := cr; exact ⟨C, dx, vs, h1, h2, h3, ⟨m1, nn dx m2, m3⟩, Reps.back nn g h5 nr⟩
    · cases h1
theorem RepX.back (nn : ∀ a, a ∉ φ' → a ∉ φ) (g : ∀ (k : Nat) (a : Addr), k < n → φ'[k]? = some a → φ[k]? = some a) {t : T} {cls : Value} {d : Option Addr} (h : RepX K hd φ' H t cls d) (q : NoRef n t) : RepX K hd φ H t cls d := by
  obtain ⟨x, ks, ts, C, rfl, e2, gl, z⟩ := h
  unfold NoRef at q
  refine ⟨x, ks, ts, C, rfl, e2, gl, ?_⟩
  rcases z with z | ⟨dd, vs, e3, l, ⟨m1, m2, m3⟩, r⟩
  · exact .inl z
  · exact .inr ⟨dd, vs, e3, l, ⟨m1, nn dd m2, m3⟩, Reps.back nn g r q⟩
theorem gc_read {Q : VK} {E : XK} {r : R T} (wr : WR K hd φ H w) (p : Pst K (some fun cls d _ H' => E cls d H') hd (CE K hd Q) φ H (gcR w r)) : Pst K (some fun cls d _ H' => E cls d H') hd (CE K hd Q) φ H r := by
  cases r with
  | no => exact p
  | ex t ρ w' =>
    unfold gcR at p
    simp only at p
    by_cases ok : GcOk w w' ∧ NoRef w.length t
    · rw [if_pos ok] at p
      intro H' φ' σ' e wr' _ cls d rx
      obtain ⟨e1, wr1, nn, g, far⟩ := gc_back wr ok.1 e wr'
      exact p H' φ [] e1 wr1 sr_nil cls d (rx.back nn g ok.2)
    · rw [if_neg ok] at p; exact p.elim
  | ok t w' =>
    unfold gcR at p
    simp only at p
    by_cases ok : GcOk w w' ∧ NoRef w.length (fz w.length w' 3 t)
    · rw [if_pos ok] at p
      intro H' φ' e wr' v rv
      obtain ⟨e1, wr1, nn, g, far⟩ := gc_back wr ok.1 e wr'
      exact p H' φ e1 wr1 v (Rep.fz wr' nn g far 3 rv ok.2)
    · rw [if_neg ok] at p; exact p.elim
end

/-! ### from the text to what a def is worth -/
/-- a def's body, read in every call -/
def Bd (P : Program) (w : PySem.World) (K : PySem.W.Frag) (Z : List (Addr × Str)) (mg : Str → Option Value) (base : Heap) (N : List Str) (qual : Str) (st : Stmt) (cdv : Value) (k : Nat) (m : MS) : Prop :=
  ∀ (f : Addr) (A : Around) (outer : List PySem.Env) (s : Shared) (H : Hp) (E : XK) (W : Option WX), Room k (A.deeper (envOfC qual (defScope st) s.heap.objs.size f cdv)) → TakesO (cxOf (L2.CX P w) P w K mg base N qual (defScope st) f cdv A outer s H E) W →
    PSs (cxOf (L2.CX P w) P w K mg base N qual (defScope st) f cdv A outer s H E) (defBody st) (rdS (K, Z) W m)
section
variable {P : Program} {w : PySem.World} {K : PySem.W.Frag} {Z : List (Addr × Str)} {mg : Str → Option Value} {base : Heap}
/-- a def at f, its code object told -/
structure FunC (K : PySem.W.Frag) (x qual : Str) (st : Stmt) (f : Addr) (fd : FuncData) (cdv : Value) : Prop where
  ex : ∃ (oc : Value) (od : Option Addr) (kV doc pm : Value) (an : Option Addr) (ct : Value) (osl : Array (Option Value)), fd = PySem.W.fnOf x qual (defArgs st) (defBody st) (defScope st) .none kV doc pm an cdv ct ∧
    K.lookup f = some ⟨oc, od, .func fd, osl⟩ ∧ PySem.W.codeIn K cdv qual = true
theorem ok_of {x : Str} {st : Stmt} {f : Addr} {fd : FuncData} {cdv : Value} {N ps : List Str} {k : Nat} {m : MS} (F : FunC K x x st f fd cdv) (S : FnScope N ps (defScope st)) (body : Bd P w K Z mg base N x st cdv k m) : FnOk P w K mg base (L2.CX P w) (k + 1) f fd ps (spOf (K, Z) ps.length (runB N.length m)) := by
  obtain ⟨oc, od, kV, doc, pm, an, ct, osl, rfl, lk, hcd⟩ := F.ex
  refine fn_of lk hcd S spOf_len fun A outer s H vs Q E hr hsp => ⟨rdS (K, Z) (some fun cls d _ H' => E cls d H') m, body f A outer s H E _ hr (show Takes _ _ from takes_of rfl rfl rfl rfl), ?_⟩
  obtain ⟨hd, φ, w, ds, l, wr, rs, p⟩ := hsp
  refine ⟨hd, φ, ds.map some ++ List.replicate (N.length - ds.length) none, w, ?_, wr, ?_⟩
  · unfold L2.start
    rw [← rs.len]
    exact SR.start rs _
  · unfold runB at p
    cases q : m (ds.map some ++ List.replicate (N.length - ds.length) none) w with
    | no => rw [q] at p; exact p
    | ex t ρ w' =>
      rw [q] at p
      intro H' φ' σ' e wr' _ cls d rx
      exact p H' φ' [] e wr' sr_nil cls d rx
    | ok r w' =>
      rw [q] at p
      obtain ⟨ρ, fl⟩ := r
      cases fl with
      | nx => intro H' φ' e wr' σ' sr'; exact p H' φ' e wr' _ (by unfold Rep; rfl)
      | ret t => intro H' φ' e wr'; exact p H' φ' e wr'
      | bk => exact p.elim
      | ct => exact p.elim
theorem df_gc {x : Str} {ps : List Str} {k : Nat} {g : Sem} (D : Df P w K Z mg base k x ps g) : Df P w K Z mg base k x ps (gc g) := by
  obtain ⟨f, fd, ok, hm, hk, hb⟩ := D.ex
  refine ⟨f, fd, ok.imp fun vs H Q E h => ?_, hm, hk, hb⟩
  obtain ⟨hd, φ, w, ds, l, wr, rs, p⟩ := h
  exact ⟨hd, φ, w, ds, l, wr, rs, gc_read wr p⟩
/-- more stack -/
theorem Df.mono {x : Str} {ps : List Str} {j k : Nat} {g : Sem} (D : Df P w K Z mg base j x ps g) (h : j ≤ k) : Df P w K Z mg base k x ps g := by
  obtain ⟨f, fd, ok, hm, hk, hb⟩ := D.ex
  exact ⟨f, fd, ok.mono h, hm, hk, hb⟩
/-- a def of the text as the top has left it; its code object -/
structure At (K : PySem.W.Frag) (x : Str) (st : Stmt) (cd : Value) : Prop where
  ex : ∃ (f : Addr) (oc : Value) (od an : Option Addr) (sl : Array (Option Value)) (kV dc pm ct : Value), PySem.W.nsIn K mainGlobals x = some (some (.ref f)) ∧
    K.lookup f = some ⟨oc, od, .func (PySem.W.fnOf x x (defArgs st) (defBody st) (defScope st) .none kV dc pm an cd ct), sl⟩ ∧ PySem.W.codeIn K cd x = true ∧ PySem.W.keepIn K (.ref f) = true
theorem At.df {x : Str} {st : Stmt} {cd : Value} {N ps : List Str} {k : Nat} {m : MS} {h : Heap} (a : At K x st cd) (X : K.In h) (G : h.Ns mainGlobals mg) (S : FnScope N ps (defScope st))
    (hb : ∀ (kV doc pm : Value) (an : Option Addr) (cdv ct : Value) (us : List Value), us.length = ps.length → bindArgs (PySem.W.fnOf x x (defArgs st) (defBody st) (defScope st) .none kV doc pm an cdv ct) ⟨us, []⟩ = pure (ps.zip us))
    (body : Bd P w K Z mg base N x st cd k m) : Df P w K Z mg base (k + 1) x ps (runB N.length m) := by
  obtain ⟨f, oc, od, an, sl, kV, dc, pm, ct, h1, h2, h3, h4⟩ := a.ex
  have F := fun_mk (st := st) h2 h3 h4
  exact ⟨f, _, ok_of ⟨_, _, _, _, _, _, _, _, rfl, h2, h3⟩ S body, PySem.W.mg_of X G h1, h4, F.binds hb⟩
/-- the law's promise -/
def spL (K : PySem.W.Frag) (Z : List (Addr × Str)) : Sp := fun vs H Q _ => ∃ (a : Addr) (ns : List Int), vs = [.ref a] ∧ SqL K H a (ns.map V.int) ∧ ns.length ≤ 63 ∧ LamX.Tabs Z H ∧ ∀ H', Q (.bl true) H'
theorem reps_ints {K : KT} {hd φ : List Addr} {H : Hp} : ∀ ns : List Int, Reps K hd φ H (ns.map T.int) (ns.map V.int)
  | [] => Reps.nil
  | n :: ns => Reps.cons (by unfold Rep; rfl) (reps_ints ns)
theorem law_ok {k : Nat} {f : Addr} {fd : FuncData} {sem : Sem} (F : FnOk P w K mg base (L2.CX P w) k f fd ["script"] (spOf (K, Z) 1 sem)) (h : ∀ ns : List Int, ns.length ≤ 63 → ∃ w', sem [.frz (ns.map T.int)] [] = .ok (.bl true) w') : FnOk P w K mg base (L2.CX P w) k f fd ["script"] (spL K Z) := F.imp fun vs H Q E => by
  rintro ⟨a, ns, rfl, hS, hl, hT, q⟩
  obtain ⟨w', e⟩ := h ns hl
  refine ⟨[], [], [], [.frz (ns.map T.int)], rfl, ⟨rfl, List.nodup_nil, fun _ h => by simp at h, fun _ h => by simp at h, fun k c a h1 h2 => by simp at h1, hT⟩, Reps.cons ?_ Reps.nil, ?_⟩
  · unfold Rep
    refine ⟨a, ns.map V.int, rfl, ?_, reps_ints ns⟩
    rcases hS with (hS | ⟨o, hS⟩) | hS
    · exact .inl ⟨_, hS, .inl rfl, by simp, by simp⟩
    · exact .inl ⟨_, hS, .inr ⟨o, rfl⟩, by simp, by simp⟩
    · exact .inr (.inr hS)
  · rw [e]
    intro H' φ' _ _ v rv
    unfold Rep at rv
    subst rv
    exact q H'
theorem At.law {k : Nat} {m : MS} {N : List Str} {st : Stmt} {cd : Value} {h : Heap} {fa : Addr} (a : At K "law" st cd) (X : K.In h) (G : h.Ns mainGlobals mg) (hfa : mg "law" = some (.ref fa)) (S : FnScope N ["script"] (defScope st))
    (hb : ∀ (kV doc pm : Value) (an : Option Addr) (cdv ct : Value) (u : Value), bindArgs (PySem.W.fnOf "law" "law" (defArgs st) (defBody st) (defScope st) .none kV doc pm an cdv ct) ⟨[u], []⟩ = pure [(("script" : Str), u)])
    (C : Heap → Prop) (body : ∀ base : Heap, K.In base → base.Ns mainGlobals mg → C base → Bd P w K Z mg base N "law" st cd k m)
    (hl : ∀ ns : List Int, ns.length ≤ 63 → ∃ w', runB N.length m [.frz (ns.map T.int)] [] = .ok (.bl true) w') :
    ∃ fd : FuncData, (∀ (s : Shared) (u : Value), BindsTo s fd ⟨[u], []⟩ [("script", u)]) ∧ ∀ base : Heap, K.In base → base.Ns mainGlobals mg → C base → FnOk P w K mg base (L2.CX P w) (k + 1) fa fd ["script"] (spL K Z) := by
  obtain ⟨f, oc, od, an, sl, kV, dc, pm, ct, h1, h2, h3, h4⟩ := a.ex
  have e := hfa.symm.trans (PySem.W.mg_of X G h1)
  cases e
  exact ⟨_, fun s u => .of_eq (hb _ _ _ _ _ _ u), fun base b1 b2 b3 => law_ok (ok_of ⟨_, _, _, _, _, _, _, _, rfl, h2, h3⟩ S (body base b1 b2 b3)) hl⟩
theorem law_cx {H : Hp} {s : Shared} {e : Value} {s' : Shared} (h : L2.CX P w [] H s (fun _ _ _ => False) e s') : False := by
  obtain ⟨_, _, _, _, _, _, _, _, _, _, _, _, z⟩ := h
  exact z
end
end VS

set_option Elab.async false
set_option linter.all false
set_option maxRecDepth 100000
set_option maxHeartbeats 2000000
namespace VS
open PySem PySem.Spec PyProof.Rows L2
section
variable {X : Cx} {e : Expr} {es : List Expr} {x : Str} {p pos kpos : Pos} {nm : Option Str} {kws : List Keyword} {Z : List (Addr × Str)} {W : Option WX}
theorem de_gint' {i : Int} (h : ∃ t, X.mg x = some (.int i t)) (hg : Gl X x := by rfl) (hd : (x == ("__debug__" : Str)) = false := by decide) : PE X (.Name x pos) (rdE (X.K, Z) W (mC (.int i))) := by
  obtain ⟨t, h⟩ := h
  exact de_gint h ⟨t, rfl⟩ hg hd

/-! ### keywords, in the parameters' order -/
theorem PK_imp {t t' : TA} (h : PK X kws t) (i : ∀ σ H Q, t' σ H Q → t σ H Q) : PK X kws t' := ⟨fun po pins s σ H Q I q => h.run po pins s σ H Q I (i σ H Q q)⟩
theorem dk_nil : PK X [] (rdA (X.K, Z) W mNil) := PK_imp pk_nil fun σ H Q => by
  rintro ⟨hd, φ, ρ, w, sr, wr, p⟩
  exact p.ok wr _ Reps.nil
theorem dk_cons {ma : ME} {mr : MF} (ha : PE X e (rdE (X.K, Z) W ma)) (hr : PK X kws (rdA (X.K, Z) W mr)) : PK X (⟨nm, e, kpos⟩ :: kws) (rdA (X.K, Z) W (mCons ma mr)) := PK_imp (pk_cons ha hr) fun σ H Q => by
  rintro ⟨hd, φ, ρ, w, sr, wr, p⟩
  refine ⟨hd, φ, ρ, w, sr, wr, Pst.then isPst p fun x w1 φ1 H1 e1 wr1 p1 v rv => ?_⟩
  refine ⟨hd, φ1, ρ, w1, sr.mono e1, wr1, Pst.then isPst p1 fun xs w2 φ2 H2 e2 wr2 p2 vs rvs => ?_⟩
  exact p2.ok wr2 _ (Reps.cons (rv.mono e2) rvs)
end
theorem at_mk {K : PySem.W.Frag} {x : Str} {st : Stmt} {f : Addr} {oc : Value} {od an : Option Addr} {sl : Array (Option Value)} {kV dc pm cd ct : Value} (h1 : PySem.W.nsIn K mainGlobals x = some (some (.ref f)))
    (h2 : K.lookup f = some ⟨oc, od, .func (PySem.W.fnOf x x (defArgs st) (defBody st) (defScope st) .none kV dc pm an cd ct), sl⟩) (h3 : PySem.W.codeIn K cd x = true) (h4 : PySem.W.keepIn K (.ref f) = true) : At K x st cd := ⟨⟨_, _, _, _, _, _, _, _, _, h1, h2, h3, h4⟩⟩
end VS

set_option Elab.async false
set_option linter.all false
set_option maxRecDepth 100000
namespace VE
open PySem PySem.Spec PyProof.Rows L2
/-! enumerate(tuple), walked -/
set_option maxHeartbeats 1000000 in
theorem new_meets {v : Value} {o : Obj} {C : Heap → Prop} (B : Begins v o C) : Meets (Builtin.«enumerate.__new__» ⟨[.type "enumerate", v], []⟩) (fun _ R s => C s.heap ∧
      R (.ok (.ret (.ref (s.heap.push o).objs.size))) { s with heap := (s.heap.push o).push ⟨.type "enumerate", none, .fields #[.none, .bool false, .ref s.heap.objs.size, rawInt 0, .none, .none], #[]⟩ }) :=
  .of_wp fun prog w A R s h => by
    obtain ⟨hp, g, d, tk, os⟩ := s
    obtain ⟨hv, hR⟩ := h
    have hs' := sub_enumerate
    have it1 : ∀ {B' : Around} {E Q : Value → Shared → Prop}, Q (.ref hp.objs.size) ⟨hp.push o, g, d, tk, os⟩ → wpAny (model prog w) B' (pyIter v) Q E ⟨hp, g, d, tk, os⟩ := fun q => B.iter prog w _ _ ⟨hp, g, d, tk, os⟩ _ hv q
    wp_walk using it1
    refine wpAny_stack_any fun st => wpAny_pure ?_
    split
    · rename_i cc _ _ _ _ _
      cases (cc == Value.type "enumerate") <;> (wp_walk using it1) <;> exact ⟨_, rfl, hR⟩
    · wp_walk using it1
      exact ⟨_, rfl, hR⟩
section
variable {prog : Program} {w : PySem.World} {A : Around} {E : Value → Shared → Prop} {s : Shared}
theorem begins {v : Value} {o : Obj} {C : Heap → Prop} {Q : Value → Shared → Prop} (B : Begins v o C) (hC : C s.heap)
    (h : ∀ h', IsEnum h' (s.heap.objs.size + 1) s.heap.objs.size 0 .none → h'.get? s.heap.objs.size = some o → (∀ b u, s.heap.get? b = some u → h'.get? b = some u) → Q (.ref (s.heap.objs.size + 1)) { s with heap := h' }) : wpAny (model prog w) A (call (.type "enumerate") [v]) Q E s := by
  refine callType_new F.called_enumerate (by decide) (F.typeCall_enumerate_1 _) (F.newCall_enumerate_1 _) (fun ob => F.args_object_init_2 ob _) F.entry_enumerate_new (new_meets B) ⟨hC, ?_⟩
  have z : (s.heap.push o).objs.size = s.heap.objs.size + 1 := Heap.size_push ..
  show _ ∧ _
  rw [z]
  have e := Heap.get?_push_size (s.heap.push o) (o := ⟨.type "enumerate", none, .fields #[.none, .bool false, .ref s.heap.objs.size, rawInt 0, .none, .none], #[]⟩) rfl
  rw [z] at e
  exact ⟨⟨_, e, rfl⟩, h _ e (Heap.get?_push_of_some _ (Heap.get?_push_size _ B.free)) fun b u x => Heap.get?_push_of_some _ (Heap.get?_push_of_some _ x)⟩
end
/-- the items of the tuple at a with their numbers, each in a new pair -/
def IteT (K : PySem.W.Frag) (a : Addr) (n : Nat) : It :=
  ⟨fun i H => ∃ (xs : List V) (x : V), SqT K H a xs ∧ xs.length = n ∧ xs[i]? = some x, fun i H v H' => ∃ T x, v = .ref T ∧ H T = none ∧ H' = upd H T (.tup [.int (i : Nat), x]) ∧ (∀ xs, SqT K H a xs → xs[i]? = some x),
   fun i H => ∃ xs : List V, SqT K H a xs ∧ xs.length = n ∧ n ≤ i⟩
def tnT (a e it : Addr) (n : Nat) : Nat → Heap → Prop := fun i h => (∃ old, IsEnum h e it ((i : Nat) : Int) old) ∧ h.IsTupleIter it a i ∧ i ≤ n
theorem apart_ei {h : Heap} {a e it : Addr} {i j : Nat} {old : Value} (he : IsEnum h e it ((i : Nat) : Int) old) (hi : h.IsTupleIter it a j) : e ≠ it := by
  rintro rfl
  obtain ⟨o, h1, h2, _⟩ := hi
  rw [he] at h1
  cases h1
  exact absurd (Value.type.inj h2) (by decide)
theorem apart_ai {h : Heap} {a it : Addr} {j : Nat} {vs : Array Value} (ht : h.IsTuple a vs) (hi : h.IsTupleIter it a j) : a ≠ it := by
  rintro rfl
  obtain ⟨o, h1, h2, _⟩ := hi
  obtain ⟨o', g1, g2, _⟩ := ht
  rw [g1] at h1
  cases h1
  rw [g2] at h2
  exact absurd (Value.type.inj h2) (by decide)
theorem apart_ea {h : Heap} {a e it : Addr} {i : Nat} {old : Value} {vs : Array Value} (he : IsEnum h e it ((i : Nat) : Int) old) (ht : h.IsTuple a vs) : e ≠ a := by
  rintro rfl
  obtain ⟨o', g1, g2, _⟩ := ht
  rw [he] at g1
  cases g1
  exact absurd (Value.type.inj g2) (by decide)
theorem turnT {P : Program} {w : PySem.World} {K : PySem.W.Frag} {elts : List Expr} {kk : Nat} {tpos : Pos} (a e it : Addr) (n : Nat) : Turn P w K (.Tuple elts kk tpos) (IteT K a n) [e, it] e (tnT a e it n) where
  mem := List.mem_cons_self ..
  obj := fun i h st b hb => by
    obtain ⟨⟨old, he⟩, ⟨o, ho, hc, hd⟩, _⟩ := st
    rcases List.mem_cons.mp hb with rfl | hb
    · exact ⟨_, he, fun v q => nomatch q⟩
    · cases List.mem_singleton.mp hb
      exact ⟨o, ho, fun v q => by rw [hd] at q; cases q⟩
  keep := fun i h h' st k => ⟨⟨_, k e (List.mem_cons_self ..) _ st.1.choose_spec⟩, st.2.1.at fun o q => k it (List.mem_cons_of_mem _ (List.mem_cons_self ..)) o q, st.2.2⟩
  item := by
    intro X hP hw hK hc i pins s σ H E I hf st hg
    subst hP hw hK
    obtain ⟨⟨old, he⟩, hit, hin⟩ := st
    obtain ⟨xs, x, hq, hxl, hx⟩ := hg
    obtain ⟨its, rv, p, hz⟩ := I.tuple hq
    obtain ⟨u, hu, ru⟩ := rv.get hx
    have p' : s.heap.IsTuple a its.toArray := p
    have hlen := rv.length
    have hi : i < xs.length := (List.getElem?_eq_some_iff.mp hx).1
    have h0 := apart_ei he hit
    have D := Draws.tuple (prog := X.prog) (w := X.w) (A := X.A.in1) (show X.A.in1.handled = none from I.ok.hd hc) it a (apart_ai p' hit) its.toArray
    have hel : e < s.heap.objs.size := Heap.lt_size he
    refine wpAny_pyNext_enum_itemD (n := its.toArray.size) D he ⟨hit, p'⟩ (by simp; omega) h0 (fun hm => ?_) fun y h' tk py ho hst hT hsz hk => ?_
    · rcases List.mem_cons.mp hm with z | hm
      · exact h0 z
      · exact apart_ea he p' (List.mem_singleton.mp hm)
    · have hy : y = u := by
        have : its.toArray[i]? = some y := py
        rw [List.getElem?_toArray, hu] at this
        exact (Option.some.inj this).symm
      subst hy
      refine ⟨_, rfl, wpAny_letOwnedTupleGo_enum (s := { s with heap := h', toks := tk + 1 }) ho fun h2 he2 sb => ?_⟩
      have hT2 := (sb.2 _ (Nat.ne_of_gt hel)).trans hT
      have nw : ObjOk X.prog X.w (upd H s.heap.objs.size (.tup [.int (i : Nat), x])) h2 s.heap.objs.size (.tup [.int (i : Nat), x]) := ⟨(by decide : 2 ≤ sizeLine), [.int i tk, y], .cons ⟨_, rfl⟩ (.cons ru .nil), ⟨_, hT2, rfl, _, rfl⟩⟩
      have I1 : Inv X pins σ (upd H s.heap.objs.size (.tup [.int (i : Nat), x])) { s with heap := h2, toks := tk + 1 } := I.turnedNew (ch := [e, it]) (fun b o hb q => (sb.2 b (fun z => hb (by simp [z]))).trans (hk b o (fun z => hb (by simp [z])) (fun z => hb (by simp [z])) q)) hf (Nat.le_refl _) nw
      refine ⟨.ref s.heap.objs.size, _, I1, rfl, ⟨_, x, rfl, I.hok.fresh (Nat.le_refl _), rfl, fun ys hy => by rw [I.tuple_inj hy hq]; exact hx⟩, ⟨⟨y, by rw [show ((i + 1 : Nat) : Int) = (i : Int) + 1 from rfl]; exact he2⟩, hst.1.at fun o q => (sb.2 it (Ne.symm h0)).trans q, by omega⟩, fun b hb => ?_⟩
      have hlt : b < s.heap.objs.size := by
        rcases List.mem_cons.mp hb with rfl | hb
        · exact hel
        · cases List.mem_singleton.mp hb
          obtain ⟨_, q, _⟩ := hit
          exact Heap.lt_size q
      exact (upd_ne (Nat.ne_of_lt hlt)).trans (hf b hb).1
  done := by
    intro X hP hw hK hc i pins s σ H E I hf st hg
    subst hP hw hK
    obtain ⟨⟨old, he⟩, hit, hin⟩ := st
    obtain ⟨xs, hq, hxl, hni⟩ := hg
    obtain ⟨its, rv, p, hz⟩ := I.tuple hq
    have p' : s.heap.IsTuple a its.toArray := p
    have hlen := rv.length
    obtain ⟨f0, f1, f2, f3, f4, f5⟩ := hf it (by simp)
    have D := Draws.tuple (prog := X.prog) (w := X.w) (A := X.A.in1) (show X.A.in1.handled = none from I.ok.hd hc) it a (apart_ai p' hit) its.toArray
    have ei : i = its.toArray.size := by simp; omega
    exact wpAny_pyNext_enum_endD D he ⟨ei ▸ hit, p'⟩ fun h' eb => ⟨rfl, I.turned (t' := s.toks) (fun b o hb q => eb b o hb q) f0 f1 f3 f4 f5⟩
  self := fun A i s Q E st h => wpAny_pyIter_enum st.1.choose_spec h
def iEnT (K : PySem.W.Frag) (ta : TA) : TI := fun σ H R => ta σ H fun vs H1 => ∃ (a : Addr) (xs : List V), vs = [.ref a] ∧ SqT K H1 a xs ∧ R (IteT K a xs.length) H1
theorem pi_enT {X : Cx} {e : Expr} {ta : TA} {p pos tpos : Pos} {elts : List Expr} {kk : Nat} (hg : Gl X "enumerate") (hm : X.mg "enumerate" = none) (ha : PA X [e] ta) (hs : starEach [e] X.env = [(false, eval e X.env)] := by rfl) : PI X (.Tuple elts kk tpos) (.Call (.Name "enumerate" p) [e] [] pos) (iEnT X.K ta) := by
  refine ⟨fun pins s σ H R I h => ?_⟩
  refine Call_ (ld_blt I hg hm boot_enumerate (PyProof.Rows.callWith_type1 (thn (ha.run pos pins s σ H _ I h) fun us s1 ⟨vs, H1, I1, r1, q1⟩ => ?_) hs rfl))
  obtain ⟨a, xs, rfl, hq, q⟩ := q1
  cases r1 with
  | cons r1 rr =>
    cases rr
    cases r1
    obtain ⟨its, rv, p', hz⟩ := I1.tuple hq
    refine begins (begins_tuple a its.toArray) p' fun h' he hit hk => wpAny_pyIter_enum he ?_
    refine ⟨s1.heap.objs.size + 1, [s1.heap.objs.size + 1, s1.heap.objs.size], _, _, H1, rfl, I1.kept (t' := s1.toks) hk, turnT a (s1.heap.objs.size + 1) s1.heap.objs.size xs.length, ⟨⟨.none, he⟩, ⟨_, hit, rfl, rfl⟩, Nat.zero_le _⟩, fun b hb => ?_, q⟩
    have hle : s1.heap.objs.size ≤ b := by
      rcases List.mem_cons.mp hb with rfl | hb
      · exact Nat.le_add_right _ _
      · cases List.mem_singleton.mp hb
        exact Nat.le_refl _
    exact I1.fpOk hle (I1.hok.fresh hle)
end VE

set_option Elab.async false
set_option linter.all false
set_option maxRecDepth 100000
set_option maxHeartbeats 2000000
namespace VS
open PySem PySem.Spec PyProof.Rows L2
/-! ### enumerate -/
def enT : Nat → List T → List T
  | _, [] => []
  | i, t :: ts => .tup [.int (i : Int), t] :: enT (i + 1) ts
theorem enT_len : ∀ (ts : List T) (i : Nat), (enT i ts).length = ts.length
  | [], i => rfl
  | t :: ts, i => by unfold enT; simp [enT_len ts]
theorem enT_at : ∀ {ts : List T} {i j : Nat} {u : T}, (enT i ts)[j]? = some u → ∃ t, ts[j]? = some t ∧ u = .tup [.int ((i + j : Nat) : Int), t]
  | [], i, j, u, h => by unfold enT at h; cases h
  | t :: ts, i, 0, u, h => by unfold enT at h; cases h; exact ⟨t, rfl, rfl⟩
  | t :: ts, i, j + 1, u, h => by
    unfold enT at h
    obtain ⟨s, h1, h2⟩ := enT_at (ts := ts) (i := i + 1) (j := j) h
    refine ⟨s, h1, ?_⟩
    rw [h2, show i + 1 + j = i + (j + 1) by omega]
section
variable {X : Cx} {tg : Expr} {K : KT} {e : Expr} {pos : Pos} {Z : List (Addr × Str)} {W : Option WX}
theorem src_enT {hd₀ φ₀ : List Addr} {H₀ : Hp} {a : Addr} {ts : List T} {n : Nat} (hn : ts.length = n)
    (h : ∀ (D : Option Addr) hd φ H w, Off D hd₀ H₀ → ExtD D hd₀ φ₀ H₀ hd φ H → WR K hd φ H w → ∃ xs, SqT K.1 H a xs ∧ Reps K hd φ H ts xs) : Src K hd₀ φ₀ H₀ (VE.IteT K.1 a n) (enT 0 ts) none := fun D i hd φ H w off e wr kp => by
  obtain ⟨xs, h1, h2⟩ := h D hd φ H w off e wr
  have hl := h2.len
  refine ⟨fun t ht => ?_, fun hl' => ⟨xs, h1, by omega, by rw [enT_len] at hl'; omega⟩⟩
  obtain ⟨s, hs, rfl⟩ := enT_at ht
  obtain ⟨x, hx, rx⟩ := h2.at hs
  refine ⟨⟨xs, x, h1, by omega, hx⟩, fun y H' hy => ?_⟩
  obtain ⟨p, z, rfl, hp, rfl, hy⟩ := hy
  cases (hy xs h1).symm.trans hx
  refine ⟨Ext.new hp, wr.new hp, ?_⟩
  unfold Rep
  exact ⟨p, [.int (i : Nat), x], rfl, ⟨upd_same, wr.nin hp⟩, Reps.cons (by unfold Rep; rw [Nat.zero_add]) (Reps.cons (rx.mono (Ext.new hp)) Reps.nil)⟩
theorem src_enL {hd₀ φ₀ : List Addr} {H₀ : Hp} {a : Addr} {ts : List T} {oc : OC}
    (h : ∀ (D : Option Addr) hd φ H w, Off D hd₀ H₀ → ExtD D hd₀ φ₀ H₀ hd φ H → WR K hd φ H w → Kept oc ts w → ∃ xs, SqL K.1 H a xs ∧ Reps K hd φ H ts xs) : Src K hd₀ φ₀ H₀ (Ite K.1 a) (enT 0 ts) oc := fun D i hd φ H w off e wr kp => by
  obtain ⟨xs, h1, h2⟩ := h D hd φ H w off e wr kp
  have hl := h2.len
  refine ⟨fun t ht => ?_, fun hl' => ⟨xs, h1, by rw [enT_len] at hl'; omega⟩⟩
  obtain ⟨s, hs, rfl⟩ := enT_at ht
  obtain ⟨x, hx, rx⟩ := h2.at hs
  refine ⟨⟨xs, x, h1, hx⟩, fun y H' hy => ?_⟩
  obtain ⟨p, z, rfl, hp, rfl, hy⟩ := hy
  cases (hy xs h1).symm.trans hx
  refine ⟨Ext.new hp, wr.new hp, ?_⟩
  unfold Rep
  exact ⟨p, [.int (i : Nat), x], rfl, ⟨upd_same, wr.nin hp⟩, Reps.cons (by unfold Rep; rw [Nat.zero_add]) (Reps.cons (rx.mono (Ext.new hp)) Reps.nil)⟩
def sEnum : List T → World → R (List T × OC) := fun ts w => match ts with
  | [t] => match items w t with
    | some (us, oc) => .ok (enT 0 us, oc) w
    | none => .no
  | _ => .no
def mEnum (m : MF) : MI := fun ρ w => (m ρ w).bind sEnum
theorem di_enum {p tpos : Pos} {elts : List Expr} {kk : Nat} {m : MF} (hm : X.mg "enumerate" = none) (ha : PA X [e] (rdA (X.K, Z) W m)) (hg : Gl X "enumerate" := by rfl) (hs : starEach [e] X.env = [(false, eval e X.env)] := by rfl) : PI X (.Tuple elts kk tpos) (.Call (.Name "enumerate" p) [e] [] pos) (rdI (X.K, Z) W (mEnum m)) := PI_imp (PI_or (pi_enum hg hm ha hs) (VE.pi_enT hg hm ha hs)) fun σ H Q => by
  rintro ⟨hd, φ, ρ, w, sr, wr, p⟩
  unfold mEnum at p
  cases q : m ρ w with
  | no => rw [q] at p; exact p.elim
  | ex _ _ _ => rw [q] at p; exact .inl ⟨hd, φ, ρ, w, sr, wr, by rw [q]; exact p⟩
  | ok ts w1 =>
    rw [q, bind_ok] at p
    unfold sEnum at p
    match ts, p with
    | [t], p =>
      simp only at p
      cases hi : items w1 t with
      | none => rw [hi] at p; exact p.elim
      | some r =>
        rw [hi] at p
        obtain ⟨us, oc⟩ := r
        have two : (∀ vs, t ≠ .tup vs) ∨ ∃ vs, t = .tup vs := by
          cases t with
          | tup vs => exact .inr ⟨vs, rfl⟩
          | _ => exact .inl fun _ e => nomatch e
        rcases two with nt | ⟨vs, rfl⟩
        · refine .inl ⟨hd, φ, ρ, w, sr, wr, ?_⟩
          rw [q]
          intro H' φ' e1 wr1 vs rvs
          obtain ⟨v, rfl, rv⟩ := reps1 rvs
          obtain ⟨a, rfl, kp, h1⟩ := lst_later rv hi nt
          obtain ⟨xs, h2, h3⟩ := h1 none hd φ' H' w1 off_none Ext.refl.toD wr1 kp
          exact ⟨a, xs, rfl, h2, p H' φ' e1 wr1 _ (src_enL h1)⟩
        · cases hi
          refine .inr ⟨hd, φ, ρ, w, sr, wr, ?_⟩
          rw [q]
          intro H' φ' e1 wr1 vs rvs
          obtain ⟨v, rfl, rv⟩ := reps1 rvs
          unfold Rep at rv
          obtain ⟨a, xs, rfl, n, rs⟩ := rv
          exact ⟨a, xs, rfl, SqT.of n.1, p H' φ' e1 wr1 _ (src_enT rs.len fun D hd φ H w off e wr => ⟨xs, SqT.of (n.monoD e off).1, rs.monoD e off⟩)⟩
end
end VS

set_option Elab.async false
set_option linter.all false
set_option maxRecDepth 100000
set_option maxHeartbeats 2000000
namespace VS
open PySem PySem.Spec PyProof.Rows L2
section
variable {X : Cx} {K : KT} {hd φ : List Addr} {H : Hp} {w : World} {a b e : Expr} {es : List Expr} {ma mb : ME} {kws : List Keyword} {x : Str} {p pos : Pos} {Z : List (Addr × Str)} {W : Option WX}
/-! ### is True -/
def sIsB : S2 := fun x y w => match x, y with
  | .bl i, .bl j => .ok (.bl (decide (i = j))) w
  | _, _ => .no
theorem opIsB : Op2 K sIsB rIsB := fun W hd φ H w dx dy x y Q wr rx ry p => by
  cases dx with
  | bl i =>
    cases dy with
    | bl j =>
      unfold Rep at rx ry
      exact ⟨i, j, rx, ry, p.bl wr⟩
    | _ => exact p.elim
  | _ => exact p.elim
theorem de_isB (ha : PE X a (rdE (X.K, Z) W ma)) (hb : PE X b (rdE (X.K, Z) W mb)) : PE X (.Compare a [.Is] [b] pos) (rdE (X.K, Z) W (mOp2 sIsB ma mb)) := de_cmp op_isBl opIsB ha hb (nomark _)
theorem dt_isB (ha : PE X a (rdE (X.K, Z) W ma)) (hb : PE X b (rdE (X.K, Z) W mb)) : PT X (.Compare a [.Is] [b] pos) (rdT (X.K, Z) W (mTest (mOp2 sIsB ma mb))) := dt_cmp op_isBl opIsB ha hb (nomark _)
/-! ### xs[::-1] -/
theorem Reps.rev {ts : List T} {xs : List V} (h : Reps K hd φ H ts xs) : Reps K hd φ H ts.reverse xs.reverse := by
  induction ts generalizing xs with
  | nil => unfold Reps at h; subst h; exact Reps.nil
  | cons t ts ih =>
    unfold Reps at h
    obtain ⟨v, vs, rfl, h1, h2⟩ := h
    rw [List.reverse_cons, List.reverse_cons]
    exact (ih h2).append (Reps.cons h1 Reps.nil)
def mRevL (a : ME) : MF := fun ρ w => (a ρ w).bind fun t w1 => match lst? w1 t with
  | some ts => .ok ts.reverse w1
  | _ => .no
theorem df_revL {k : Nat} {p1 p2 p3 : Pos} (ha : PE X a (rdE (X.K, Z) W ma)) : PE X (.Subscript a (.Slice none none (some (.UnaryOp .USub (.Constant (.int 1) k p1) p2)) p3) pos) (rdF (X.K, Z) W (mRevL ma)) := PE_imp (pe_revL ha) fun σ H Q => by
  rintro ⟨hd, φ, ρ, w, sr, wr, p⟩
  refine ⟨hd, φ, ρ, w, sr, wr, Pst.then isPstF p fun t w1 φ1 H1 e1 wr1 p1 v rv => ?_⟩
  cases q : lst? w1 t with
  | none => rw [q] at p1; exact p1.elim
  | some ts =>
    rw [q] at p1
    obtain ⟨l', xs, rfl, h1, h2⟩ := lst_at wr1 rv q
    exact ⟨l', xs, rfl, SqL.of h1, p1.new wr1 h2.rev⟩
/-! ### calls by keywords in any sequence -/
def prm {α : Type} (ix : List Nat) (zs : List α) : List α := ix.filterMap fun i => zs[i]?
def gP {α : Type} (np nk : Nat) (ix : List Nat) (us ws : List α) : List α := if us.length = np ∧ ws.length = nk then prm ix (us ++ ws) else []
theorem prm_vals {vs : List V} {us : List Value} (h : Vals vs us) : ∀ ix : List Nat, Vals (prm ix vs) (prm ix us)
  | [] => .nil
  | i :: ix => by
    have ih := prm_vals h ix
    unfold prm at ih ⊢
    rw [List.filterMap_cons, List.filterMap_cons]
    cases q : vs[i]? with
    | none =>
      have : us[i]? = none := by rw [List.getElem?_eq_none_iff] at q ⊢; rw [← h.length]; exact q
      rw [this]
      exact ih
    | some v =>
      obtain ⟨u, hu, r⟩ := h.get q
      rw [hu]
      exact .cons r ih
theorem prm_reps {ts : List T} {vs : List V} (h : Reps K hd φ H ts vs) : ∀ ix : List Nat, Reps K hd φ H (prm ix ts) (prm ix vs)
  | [] => Reps.nil
  | i :: ix => by
    have ih := prm_reps h ix
    unfold prm at ih ⊢
    rw [List.filterMap_cons, List.filterMap_cons]
    cases q : ts[i]? with
    | none =>
      have : vs[i]? = none := by rw [List.getElem?_eq_none_iff] at q ⊢; rw [← h.len]; exact q
      rw [this]
      exact ih
    | some t =>
      obtain ⟨v, hv, r⟩ := h.at q
      rw [hv]
      exact Reps.cons r ih
theorem gP_rel {np nk : Nat} {ix : List Nat} {vs : List V} {us : List Value} {zs : List V} {ws : List Value} (a : Vals vs us) (b : Vals zs ws) : Vals (gP np nk ix vs zs) (gP np nk ix us ws) := by
  unfold gP
  rw [a.length, b.length]
  split
  · exact prm_vals (a.append b) ix
  · exact .nil
structure DfP (P : Program) (w : PySem.World) (K : PySem.W.Frag) (Z : List (Addr × Str)) (mg : Str → Option Value) (base : Heap) (k : Nat) (x : Str) (n np : Nat) (ks : List Str) (ix : List Nat) (f : Sem) : Prop where
  ex : ∃ (ad : Addr) (fd : FuncData) (ps : List Str), ps.length = n ∧ FnOk P w K mg base (L2.CX P w) k ad fd ps (spOf (K, Z) n f) ∧ mg x = some (.ref ad) ∧ PySem.W.keepIn K (.ref ad) = true ∧ KBinds K fd ps ks (gP np ks.length ix) (gP np ks.length ix)
def mDefP (n np nk : Nat) (ix : List Nat) (f : Sem) (m mk : MF) : ME := fun ρ w => (m ρ w).bind fun ds w1 => (mk ρ w1).bind fun es w2 => if ds.length = np ∧ es.length = nk ∧ (prm ix (ds ++ es)).length = n then (f (prm ix (ds ++ es)) w2).at ρ else .no
/-- run_fnk, where an error is told at the slots -/
theorem run_fnkO {CX : CXT} {f : Addr} {fd : FuncData} {ps ks : List Str} {k : Nat} {sp : Sp} {g : List Value → List Value → List Value} {gV : List V → List V → List V} {pins : List (Addr × Obj)} {σ : L2.St} {H : Hp} {s : Shared} {Q : VK} {E : L2.St → XK} {us ws : List Value} {vs zs : List V}
    (F : FnOk X.prog X.w X.K X.mg X.base CX k f fd ps sp) (hr : Room k X.A) (hb : KBinds X.K fd ps ks g gV) (hx : PassesAt CX X σ (E σ))
    (I : Inv X pins σ H s) (r : Vals vs us) (rz : Vals zs ws) (h : sp (gV vs zs) H Q (E σ)) : wpAny (model X.prog X.w) X.A (call (.ref f) us (ks.zip ws)) (EP X pins σ Q) X.xe s := by
  have r2 := hb.rel r rz
  have hl : (g us ws).length = ps.length := by rw [← r2.length]; exact F.len _ _ _ _ h
  refine wpAny_call (codeAny_mono (F.run X.A X.stack s H ⟨us, ks.zip ws⟩ (g us ws) (gV vs zs) Q (E σ) hr I.env0 (hb.to s us ws I.kIn hl) r2 h) fun r s' hq => ?_)
  cases r with
  | error e => exact hx pins H s e s' I hq
  | ok fl =>
    cases fl with
    | ret u => exact I.after hq
    | next => exact False.elim hq
    | brk => exact False.elim hq
    | cont => exact False.elim hq
def tCallKO (sp : Sp) (gV : List V → List V → List V) (E : L2.St → XK) (t tk : TA) : TE := fun σ H Q => t σ H fun vs H1 => tk σ H1 fun zs H2 => sp (gV vs zs) H2 Q (E σ)
theorem defP_read {k n np : Nat} {ks : List Str} {ix : List Nat} {f : Sem} {m mk : MF} (σ : L2.St) (H : Hp) (Q : VK) (h : rdE (X.K, Z) W (mDefP n np ks.length ix f m mk) σ H Q) : tCallKO (spOf (X.K, Z) n f) (gP np ks.length ix) (wE W) (rdA (X.K, Z) W m) (rdA (X.K, Z) W mk) σ H Q := by
  obtain ⟨hd, φ, ρ, w, sr, wr, q⟩ := h
  refine ⟨hd, φ, ρ, w, sr, wr, Pst.then isPst q fun ds w1 φ1 H1 e1 wr1 p1 xs rx => ?_⟩
  refine ⟨hd, φ1, ρ, w1, sr.mono e1, wr1, ?_⟩
  cases q2 : mk ρ w1 with
  | no => rw [q2] at p1; exact p1.elim
  | ex _ _ _ => rw [q2] at p1; exact p1
  | ok zs w2 =>
    rw [q2, bind_ok] at p1
    intro H2 φ2 e2 wr2 vz rz
    by_cases hc : ds.length = np ∧ zs.length = ks.length ∧ (prm ix (ds ++ zs)).length = n
    · rw [if_pos hc] at p1
      have e : gP np ks.length ix xs vz = prm ix (xs ++ vz) := by unfold gP; rw [if_pos ⟨by rw [← rx.len]; exact hc.1, by rw [← rz.len]; exact hc.2.1⟩]
      rw [e]
      exact ⟨hd, φ2, w2, prm ix (ds ++ zs), hc.2.2, wr2, prm_reps ((rx.mono e2).append rz) ix, (isPst.mono _ _ _ _ _ e2 p1).callee ((sr.mono e1).mono e2)⟩
    · rw [if_neg hc] at p1; exact p1.elim
theorem de_defP {k n np nk : Nat} {ks : List Str} {ix : List Nat} {f : Sem} {m mk : MF} (F : DfP X.prog X.w X.K Z X.mg X.base k x n np ks ix f) (tk : TakesO X W) (hr : Room k X.A) (ha : PA X (e :: es) (rdA (X.K, Z) W m)) (hkw : PK X kws (rdA (X.K, Z) W mk)) (hg : Gl X x := by rfl)
    (hall : (backToKw pos (keywordEach kws X.env)).all (·.1.isSome) = true := by rfl) (hks : (backToKw pos (keywordEach kws X.env)).filterMap (·.1) = ks := by rfl)
    (hdb : (x == ("__debug__" : Str)) = false := by decide) (he : starEach (e :: es) X.env = (false, eval e X.env) :: starEach es X.env := by rfl)
    (hpl : ((backTo pos (starEach (e :: es) X.env)).any (·.1) || (backToKw pos (keywordEach kws X.env)).any (·.1.isNone)) = false := by rfl) (hnk : ks.length = nk := by rfl) : PE X (.Call (.Name x p) (e :: es) kws pos) (rdE (X.K, Z) W (mDefP n np nk ix f m mk)) := by
  subst hnk
  obtain ⟨ad, fd, ps, hn, ok, hm, hk, hb⟩ := F.ex
  refine PE_imp (t := tCallKO (spOf (X.K, Z) n f) (gP np ks.length ix) (wE W) (rdA (X.K, Z) W m) (rdA (X.K, Z) W mk)) ⟨fun pins s σ H Q I h => ?_⟩ (defP_read (k := k))
  refine wpAny_Call_Name_kw (ld_glob I hg hm ?_ hdb)
  refine PySem.W.callWith_KW (h₀ := X.base) I.ok.mod.kin hk hall (thn (ha.run pos pins s σ H _ I h) fun us s1 ⟨vs, H1, I1, r, q⟩ => ?_) hpl he
  refine thn (hkw.run pos pins s1 σ H1 _ I1 q) fun ws s2 ⟨zs, H2, I2, rz, q2⟩ => ⟨I2.kIn, ?_⟩
  rw [hks]
  exact run_fnkO ok hr hb (passO tk σ) I2 r rz q2
theorem de_defP0 {k n nk : Nat} {ks : List Str} {ix : List Nat} {f : Sem} {mk : MF} (F : DfP X.prog X.w X.K Z X.mg X.base k x n 0 ks ix f) (tk : TakesO X W) (hr : Room k X.A) (hkw : PK X kws (rdA (X.K, Z) W mk)) (hg : Gl X x := by rfl)
    (hall : (backToKw pos (keywordEach kws X.env)).all (·.1.isSome) = true := by rfl) (hks : (backToKw pos (keywordEach kws X.env)).filterMap (·.1) = ks := by rfl)
    (hdb : (x == ("__debug__" : Str)) = false := by decide)
    (hpl : ((backTo pos (starEach [] X.env)).any (·.1) || (backToKw pos (keywordEach kws X.env)).any (·.1.isNone)) = false := by rfl) (hnk : ks.length = nk := by rfl) : PE X (.Call (.Name x p) [] kws pos) (rdE (X.K, Z) W (mDefP n 0 nk ix f mNil mk)) := by
  subst hnk
  obtain ⟨ad, fd, ps, hn, ok, hm, hk, hb⟩ := F.ex
  refine ⟨fun pins s σ H Q I h => ?_⟩
  obtain ⟨hd, φ, ρ, w, sr, wr, q⟩ := defP_read (k := k) (m := mNil) σ H Q h
  have q := q H φ Ext.refl wr [] Reps.nil
  refine wpAny_Call_Name_kw (ld_glob I hg hm ?_ hdb)
  refine PySem.W.callWith_KW0 (h₀ := X.base) I.ok.mod.kin hk hall (thn (hkw.run pos pins s σ H _ I q) fun ws s2 ⟨zs, H2, I2, rz, q2⟩ => ⟨I2.kIn, ?_⟩) hpl
  rw [hks]
  exact run_fnkO (us := []) ok hr hb (passO tk σ) I2 .nil rz q2
end
theorem At.dfP {P : Program} {w : PySem.World} {K : PySem.W.Frag} {Z : List (Addr × Str)} {cd : Value} {mg : Str → Option Value} {base : Heap} {x : Str} {st : Stmt} {N ps ks : List Str} {k np : Nat} {ix : List Nat} {m : MS} {h : Heap} (a : At K x st cd) (X : K.In h) (G : h.Ns mainGlobals mg) (S : FnScope N ps (defScope st)) (hne : ps ≠ [])
    (hb : ∀ (kV doc pm : Value) (an : Option Addr) (cdv ct : Value) (us ws : List Value), us.length = np → ws.length = ks.length → bindArgs (PySem.W.fnOf x x (defArgs st) (defBody st) (defScope st) .none kV doc pm an cdv ct) ⟨us, ks.zip ws⟩ = pure (ps.zip (prm ix (us ++ ws))))
    (body : Bd P w K Z mg base N x st cd k m) : DfP P w K Z mg base (k + 1) x ps.length np ks ix (runB N.length m) := by
  obtain ⟨f, oc, od, an, sl, kV, dc, pm, ct, h1, h2, h3, h4⟩ := a.ex
  refine ⟨f, _, ps, rfl, ok_of ⟨_, _, _, _, _, _, _, _, rfl, h2, h3⟩ S body, PySem.W.mg_of X G h1, h4, ⟨fun s us ws _ hl => ?_, fun a b => gP_rel a b⟩⟩
  unfold gP at hl ⊢
  split at hl
  · rename_i hc
    rw [if_pos hc]
    exact .of_eq (hb _ _ _ _ _ _ us ws hc.1 hc.2)
  · exfalso
    exact hne (List.eq_nil_of_length_eq_zero (by simpa using hl.symm))
end VS

set_option Elab.async false
set_option linter.all false
set_option maxRecDepth 100000
set_option maxHeartbeats 2000000
/-! VS13: dicts asked (in, not in, get), a display with one tuple for a key, range down. -/
namespace VS
open PySem PySem.Spec PyProof.Rows L2
/-- what a dict holds of a key; none where it is no dict, or no key -/
def getD? (w : World) (d y : T) : Option (Option T) := match d with
  | .cell k => match w[k]? with
    | some (.dic kvs) => match keyT y with
      | some key => some (valT kvs key)
      | none => none
    | some (.dit kvs) => match y with
      | .tup us => match keysT us with
        | some key => some (valT kvs key)
        | none => none
      | _ => none
    | _ => none
  | _ => none
def isDct (w : World) (d : T) : Bool := match d with
  | .cell k => match w[k]? with
    | some (.dic _) => true
    | some (.dit _) => true
    | _ => false
  | _ => false
def sIn : S2 := fun y d w => match getD? w d y with
  | some o => .ok (.bl o.isSome) w
  | none => .no
def sNotIn : S2 := fun y d w => match getD? w d y with
  | some o => .ok (.bl (!o.isSome)) w
  | none => .no
section
variable {K : KT} {hd φ : List Addr} {H : Hp} {w : World}
theorem dget_at (wr : WR K hd φ H w) {d y : T} {x z : V} {o : Option T} (rd : Rep K hd φ H d x) (ry : Rep K hd φ H y z) (h : getD? w d y = some o) :
    ∃ a o', x = .ref a ∧ DGet H a z o' ∧ o'.isSome = o.isSome ∧ ∀ t, o = some t → ∃ v, o' = some v ∧ Rep K hd φ H t v := by
  cases d with
  | cell k =>
    unfold getD? at h
    simp only at h
    cases q : w[k]? with
    | none => rw [q] at h; cases h
    | some c =>
      rw [q] at h
      cases c with
      | lst ts => cases h
      | obj x ks ts => first | cases h | (cases y <;> cases h)
      | dic kvs =>
        simp only at h
        cases q2 : keyT y with
        | none => rw [q2] at h; cases h
        | some key =>
          rw [q2] at h
          cases h
          obtain ⟨l, rfl, _, _, ys, h1, h2, h3⟩ := cell_at wr rd q
          have h4 := valT_at h2 h3 key
          rw [key_at ry q2]
          refine ⟨l, valV ys key, rfl, DGet.k h1, ?_, fun t ht => ?_⟩
          · cases q3 : valT kvs key with
            | none => rw [q3] at h4; rw [h4]; rfl
            | some t =>
              rw [q3] at h4
              obtain ⟨v, h5, h6⟩ := h4
              rw [h5]; rfl
          · rw [ht] at h4
            exact h4
      | dit kvs =>
        cases y with
        | tup us =>
          simp only at h
          cases q2 : keysT us with
          | none => rw [q2] at h; cases h
          | some key =>
            rw [q2] at h
            cases h
            obtain ⟨l, rfl, _, _, ys, h1, h2, h3⟩ := cell_at wr rd q
            have h4 := valT_at h2 h3 key
            unfold Rep at ry
            obtain ⟨m, zs, rfl, n, rz⟩ := ry
            have e := keys_at rz q2
            subst e
            refine ⟨l, valV ys key, rfl, DGet.t h1 n.1, ?_, fun t ht => ?_⟩
            · cases q3 : valT kvs key with
              | none => rw [q3] at h4; rw [h4]; rfl
              | some t =>
                rw [q3] at h4
                obtain ⟨v, h5, h6⟩ := h4
                rw [h5]; rfl
            · rw [ht] at h4
              exact h4
        | _ => cases h
  | _ => cases h
theorem isD_of (wr : WR K hd φ H w) {d : T} {x : V} (rd : Rep K hd φ H d x) (h : isDct w d = true) : ∃ a, x = .ref a ∧ IsD H a := by
  cases d with
  | cell k =>
    unfold isDct at h
    simp only at h
    cases q : w[k]? with
    | none => rw [q] at h; cases h
    | some c =>
      rw [q] at h
      cases c with
      | lst ts => cases h
      | obj x ks ts => first | cases h | (cases y <;> cases h)
      | dic kvs =>
        obtain ⟨l, rfl, _, _, ys, h1, _⟩ := cell_at wr rd q
        exact ⟨l, rfl, .inl ⟨ys, .inl h1⟩⟩
      | dit kvs =>
        obtain ⟨l, rfl, _, _, ys, h1, _⟩ := cell_at wr rd q
        exact ⟨l, rfl, .inr ⟨ys, .inl h1⟩⟩
  | _ => cases h
variable {X : Cx} {e a b c o i : Expr} {pos apos cpos : Pos} {ma mb mo mi : ME} {Z : List (Addr × Str)} {W : Option WX}
theorem in_read : ∀ σ H Q, rdE (X.K, Z) W (mOp2 sIn ma mb) σ H Q → tDIn (rdE (X.K, Z) W ma) (rdE (X.K, Z) W mb) σ H Q := fun σ H Q => by
  rintro ⟨hd, φ, ρ, w, sr, wr, p⟩
  refine ⟨hd, φ, ρ, w, sr, wr, Pst.then isPst p fun dx w1 φ1 H1 e1 wr1 p1 x rx => ?_⟩
  refine ⟨hd, φ1, ρ, w1, sr.mono e1, wr1, Pst.then isPst p1 fun dy w2 φ2 H2 e2 wr2 p2 y ry => ?_⟩
  unfold sIn at p2
  cases q : getD? w2 dy dx with
  | none => rw [q] at p2; exact p2.elim
  | some o =>
    rw [q] at p2
    obtain ⟨l, o', rfl, g, hs, _⟩ := dget_at wr2 ry (rx.mono e2) q
    exact ⟨l, o', rfl, g, p2.ok wr2 _ (by unfold Rep; rw [hs])⟩
theorem notin_read : ∀ σ H Q, rdE (X.K, Z) W (mOp2 sNotIn ma mb) σ H Q → tDNotIn (rdE (X.K, Z) W ma) (rdE (X.K, Z) W mb) σ H Q := fun σ H Q => by
  rintro ⟨hd, φ, ρ, w, sr, wr, p⟩
  refine ⟨hd, φ, ρ, w, sr, wr, Pst.then isPst p fun dx w1 φ1 H1 e1 wr1 p1 x rx => ?_⟩
  refine ⟨hd, φ1, ρ, w1, sr.mono e1, wr1, Pst.then isPst p1 fun dy w2 φ2 H2 e2 wr2 p2 y ry => ?_⟩
  unfold sNotIn at p2
  cases q : getD? w2 dy dx with
  | none => rw [q] at p2; exact p2.elim
  | some o =>
    rw [q] at p2
    obtain ⟨l, o', rfl, g, hs, _⟩ := dget_at wr2 ry (rx.mono e2) q
    exact ⟨l, o', rfl, g, p2.ok wr2 _ (by unfold Rep; rw [hs])⟩
theorem de_din (hu : X.A.units + 1 < cLine) (ha : PE X a (rdE (X.K, Z) W ma)) (hb : PE X b (rdE (X.K, Z) W mb)) (hm : behindInMarks .In b = false := by rfl) : PE X (.Compare a [.In] [b] pos) (rdE (X.K, Z) W (mOp2 sIn ma mb)) := PE_imp (pe_cmp (pc_din hu ha hb) hm) in_read
theorem de_dnotin (hu : X.A.units + 1 < cLine) (ha : PE X a (rdE (X.K, Z) W ma)) (hb : PE X b (rdE (X.K, Z) W mb)) (hm : behindInMarks .NotIn b = false := by rfl) : PE X (.Compare a [.NotIn] [b] pos) (rdE (X.K, Z) W (mOp2 sNotIn ma mb)) := PE_imp (pe_cmp (pc_dnotin hu ha hb) hm) notin_read
theorem dt_din (hu : X.A.units + 1 < cLine) (ha : PE X a (rdE (X.K, Z) W ma)) (hb : PE X b (rdE (X.K, Z) W mb)) (hm : behindInMarks .In b = false := by rfl) : PT X (.Compare a [.In] [b] pos) (rdT (X.K, Z) W (mTest (mOp2 sIn ma mb))) := PT_imp (pt_cmp (pc_din hu ha hb) hm) fun σ H Q h => in_read σ H _ (test_read σ H Q h)
theorem dt_dnotin (hu : X.A.units + 1 < cLine) (ha : PE X a (rdE (X.K, Z) W ma)) (hb : PE X b (rdE (X.K, Z) W mb)) (hm : behindInMarks .NotIn b = false := by rfl) : PT X (.Compare a [.NotIn] [b] pos) (rdT (X.K, Z) W (mTest (mOp2 sNotIn ma mb))) := PT_imp (pt_cmp (pc_dnotin hu ha hb) hm) fun σ H Q h => notin_read σ H _ (test_read σ H Q h)
/-- d.get(y) -/
def mDGet (a b : ME) : ME := fun ρ w => (a ρ w).bind fun d w1 => if isDct w1 d = true then (b ρ w1).bind fun y w2 => match getD? w2 d y with
  | some (some t) => .ok t w2
  | some none => .ok .non w2
  | none => .no
  else .no
theorem de_dget (hu : X.A.units + 1 < cLine) (ho : PE X o (rdE (X.K, Z) W mo)) (he : PE X e (rdE (X.K, Z) W mi)) (m : M1 X o "get" apos e cpos := by exact ⟨rfl, rfl, rfl, rfl⟩) : PE X (.Call (.Attribute o "get" apos) [e] [] cpos) (rdE (X.K, Z) W (mDGet mo mi)) := PE_imp (pe_dget1 hu ho he m) fun σ H Q => by
  rintro ⟨hd, φ, ρ, w, sr, wr, p⟩
  refine ⟨hd, φ, ρ, w, sr, wr, Pst.then isPst p fun d w1 φ1 H1 e1 wr1 p1 x rx => ?_⟩
  split at p1
  · rename_i hD
    obtain ⟨l, rfl, hl⟩ := isD_of wr1 rx hD
    refine ⟨l, rfl, hl, ⟨hd, φ1, ρ, w1, sr.mono e1, wr1, Pst.then isPst p1 fun y w2 φ2 H2 e2 wr2 p2 z rz => ?_⟩⟩
    cases q : getD? w2 d y with
    | none => rw [q] at p2; exact p2.elim
    | some o =>
      rw [q] at p2
      obtain ⟨l', o', hl', g, hs, hv⟩ := dget_at wr2 (rx.mono e2) rz q
      cases hl'
      refine ⟨o', g, ?_⟩
      cases o with
      | none =>
        cases o' with
        | none => exact p2.ok wr2 _ (by unfold Rep; rfl)
        | some v => cases hs
      | some t =>
        obtain ⟨v, rfl, rv⟩ := hv t rfl
        exact p2.ok wr2 v rv
  · exact p1.elim
/-! range down -/
def rgD (hi : Int) (n : Nat) : List T := (List.range n).map fun i => .int (hi + (i : Nat) * (-1))
theorem rgD_length {hi : Int} {n : Nat} : (rgD hi n).length = n := by unfold rgD; simp
theorem rgD_at {hi : Int} {n i : Nat} {t : T} (h : (rgD hi n)[i]? = some t) : t = .int (hi + (i : Nat) * (-1)) ∧ i < n := by
  unfold rgD at h
  rw [List.getElem?_map] at h
  cases q : (List.range n)[i]? with
  | none => rw [q] at h; cases h
  | some j =>
    rw [q] at h
    obtain ⟨h1, h2⟩ := List.getElem?_eq_some_iff.mp q
    rw [List.getElem_range] at h2
    subst h2
    exact ⟨(Option.some.inj h).symm, by simpa using h1⟩
theorem src_rangeD {hd₀ φ₀ : List Addr} {H₀ : Hp} {hi : Int} {n : Nat} : Src K hd₀ φ₀ H₀ (Itc hi (-1) n) (rgD hi n) none := fun D i hd φ H w off e wr kp => by
  refine ⟨fun t ht => ?_, fun hl => by rw [rgD_length] at hl; exact hl⟩
  obtain ⟨rfl, hi⟩ := rgD_at ht
  refine ⟨hi, fun y H' hy => ?_⟩
  obtain ⟨rfl, rfl⟩ := hy
  exact ⟨Ext.refl, wr, by unfold Rep; rfl⟩
def sRangeD : List T → World → R (List T × OC) := fun ts w => match ts with
  | [.int i, .int j, .int c] => if c = -1 ∧ RgOk i j then .ok (rgD i (i - j).toNat, none) w else .no
  | _ => .no
def mRangeD (m : MF) : MI := fun ρ w => (m ρ w).bind sRangeD
theorem reps3 {hd φ : List Addr} {H : Hp} {t u s : T} {vs : List V} (h : Reps K hd φ H [t, u, s] vs) : ∃ v x y, vs = [v, x, y] ∧ Rep K hd φ H t v ∧ Rep K hd φ H u x ∧ Rep K hd φ H s y := by
  unfold Reps at h
  obtain ⟨v, r, rfl, h1, h2⟩ := h
  obtain ⟨x, y, rfl, h3, h4⟩ := reps2 h2
  exact ⟨v, x, y, rfl, h1, h3, h4⟩
theorem di_rangeD {tg : Expr} {p : Pos} {m : MF} (hm : X.mg "range" = none) (ha : PA X [a, b, c] (rdA (X.K, Z) W m)) (hg : Gl X "range" := by rfl) (hs : starEach [a, b, c] X.env = (false, eval a X.env) :: starEach [b, c] X.env := by rfl) (hpl : (backTo pos (starEach [b, c] X.env)).any (·.1) = false := by rfl) : PI X tg (.Call (.Name "range" p) [a, b, c] [] pos) (rdI (X.K, Z) W (mRangeD m)) := PI_imp (pi_range3 hg hm ha hs hpl) fun σ H Q => by
  rintro ⟨hd, φ, ρ, w, sr, wr, p⟩
  refine ⟨hd, φ, ρ, w, sr, wr, ?_⟩
  unfold mRangeD at p
  cases q : m ρ w with
  | no => rw [q] at p; exact p.elim
  | ex _ _ _ => (rw [q] at p; first | exact p | (rw [q]; exact p))
  | ok ts w1 =>
    rw [q, bind_ok] at p
    intro H' φ' e1 wr1 vs rvs
    unfold sRangeD at p
    match ts, p with
    | [.int i, .int j, .int c], p =>
      obtain ⟨v, x, y, rfl, r1, r2, r3⟩ := reps3 rvs
      cases rep_int r1
      cases rep_int r2
      cases rep_int r3
      simp only at p
      split at p
      · rename_i ok
        obtain ⟨rfl, o1, o2, o3, o4⟩ := ok
        exact ⟨i, j, -1, (i - j).toNat, rfl, RgC.neg o1 o2 o3 o4, p H' φ' e1 wr1 _ src_rangeD⟩
      · exact p.elim
/-! {(a, b): v}: one pair, the key a tuple -/
def tDispT1 (tk tv : TE) : TE := fun σ H Q => ∀ p, H p = none → tk σ (upd H p (.dT [])) fun x H1 => tv σ H1 fun y H2 => H2 p = some (.dT []) ∧ ∃ b key, x = .ref b ∧ H2 b = some (.tup ((key : List Key).map kV)) ∧ Q (.ref p) (upd H2 p (.dT [(key, y)]))
theorem pe_dispT1 {k v : Expr} {tk tv : TE} (hu : X.A.units + 1 < cLine) (hk : PE X k tk) (hv : PE X v tv) : PE X (.Dict [some k] [v] pos) (tDispT1 tk tv) := by
  refine ⟨fun pins s σ H Q I q => ?_⟩
  have hn := I.hok.fresh (Nat.le_refl s.heap.objs.size)
  have I1 := I.laid (a := s.heap.objs.size) (o := .dT []) (h' := s.heap.push { cls := .type "dict", data := .dict #[] }) (t' := s.toks) (fun _ _ q => Heap.get?_push_of_some _ q) (Nat.le_refl _) (dt_empty s.heap I.big)
  have hlen : (pairTrees [some k] [v] X.env pos).length = 1 := by rw [pairTrees_length [some k] [v] X.env pos rfl rfl]; rfl
  rw [arm_eval_Dict, zip_pairTrees [some k] [v] X.env pos rfl rfl, dictDisplay_pairs (pairTrees [some k] [v] X.env pos) (fun h => by rw [h] at hlen; cases hlen) (by rw [hlen]; decide)]
  refine wpAny_bind (wpAny_standAt (wpAny_bind (wpAny_subDictH (knd := tupleKind (mixKind X.prog X.w)) (show X.A.units < cLine from Nat.lt_of_succ_lt hu) (by rw [hlen]; decide) (thn ((pps_cons hk hv (pps_nil (X := X) (pos := pos))).run pins _ σ _ (fun ps H2 => match ps with
    | [(x, y)] => H2 s.heap.objs.size = some (.dT []) ∧ ∃ b key, x = .ref b ∧ H2 b = some (.tup ((key : List Key).map kV)) ∧ Q (.ref s.heap.objs.size) (upd H2 s.heap.objs.size (.dT [(key, y)]))
    | _ => False) I1 (q _ hn)) fun ws s2 ⟨ps, H2, I2, rel, q2⟩ => ?_))))
  match ps, rel, q2 with
  | [(x, y)], rel, ⟨e, b, key, ex, eb, q2⟩ =>
    subst ex
    cases rel with
    | @cons a c as cs r rt =>
      cases rt
      obtain ⟨kv, u⟩ := c
      obtain ⟨r1, r2⟩ := r
      obtain rfl : kv = Value.ref b := r1
      obtain ⟨z, hd, xs, rx, dd⟩ := dt_of I2.hok e
      cases rx
      refine ⟨[(key, b, u)], ⟨rfl, rfl, key_of I2.hok eb, trivial⟩, dd, fun h' tk dd' hs => wpAny_pure ?_⟩
      have dd2 : h'.DictOfH (tupleKind (mixKind X.prog X.w)) s.heap.objs.size [(key, b, u)] := dd'
      obtain ⟨o, es, ep, ho, h2, h3, h4, _, h5⟩ := dd2
      refine ⟨.ref s.heap.objs.size, _, d_write (ob := .dT [(key, y)]) I2 (by rw [e]; exact True.intro) hs ⟨o, ho⟩ ⟨by rw [sizeLine_eq]; show 1 ≤ _; omega, hd, [(key, b, u)], .cons ⟨rfl, ?_, r2⟩ .nil, o, es, ep, ho, h2, h3, h4, h5⟩, rfl, q2⟩
      show upd H2 _ _ b = _
      rw [upd_ne (ne_of eb e (fun z => nomatch z))]
      exact eb
def mDictT1 (a b : ME) : ME := fun ρ w => (a ρ w).bind fun kt w1 => (b ρ w1).bind fun t w2 => match kt with
  | .tup us => match keysT us with
    | some key => .ok (.cell w2.length) (w2 ++ [.dit [(key, t)]])
    | none => .no
  | _ => .no
theorem de_dictT1 {k v : Expr} (hu : X.A.units + 1 < cLine) (hk : PE X k (rdE (X.K, Z) W ma)) (hv : PE X v (rdE (X.K, Z) W mb)) : PE X (.Dict [some k] [v] pos) (rdE (X.K, Z) W (mDictT1 ma mb)) := PE_imp (pe_dispT1 hu hk hv) fun σ H Q => by
  rintro ⟨hd, φ, ρ, w, sr, wr, p⟩
  intro l hln
  have eh : Ext hd φ H (l :: hd) φ (upd H l (.dT [])) := Ext.hold hln
  refine ⟨l :: hd, φ, ρ, w, sr.mono eh, wr.hold hln, ?_⟩
  unfold mDictT1 at p
  cases q : ma ρ w with
  | no => rw [q] at p; exact p.elim
  | ex _ _ _ => rw [q] at p; exact PstX.hold hln p
  | ok kt w1 =>
    rw [q, bind_ok] at p
    intro H1 φ1 e1 wr1 x rx
    refine ⟨l :: hd, φ1, ρ, w1, (sr.mono eh).mono e1, wr1, ?_⟩
    cases q2 : mb ρ w1 with
    | no => rw [q2] at p; exact p.elim
    | ex _ _ _ => rw [q2] at p; exact (PstX.hold hln p).mono e1
    | ok t w2 =>
      rw [q2, bind_ok] at p
      intro H2 φ2 e2 wr2 y ry
      have e12 := e1.trans e2
      have hx : H2 l = some (.dT []) := e12.keep l _ upd_same (wr.hold (o := .dT []) hln |>.apart l · List.mem_cons_self) (fun _ z => nomatch z)
      cases kt with
      | tup us =>
        simp only at p
        cases q3 : keysT us with
        | none => rw [q3] at p; exact p.elim
        | some key =>
          rw [q3] at p
          have rx2 := rx.mono e2
          unfold Rep at rx2
          obtain ⟨b, zs, rfl, n, rz⟩ := rx2
          have e' := keys_at rz q3
          subst e'
          refine ⟨hx, b, key, rfl, n.1, ?_⟩
          have eg : ExtD (some l) (l :: hd) φ2 H2 (l :: hd) φ2 (upd H2 l (.dT [(key, y)])) := ExtD.grow List.mem_cons_self
          have off : Off (some l) (l :: hd) H2 := fun d h => by cases h; exact .inl List.mem_cons_self
          have e3 : Ext hd φ H (l :: hd) φ2 (upd H2 l (.dT [(key, y)])) := ((eh.toD.trans e12.toD).trans eg).plain (fr0_none hln)
          refine p _ (φ2 ++ [l]) (e3.cell (fr0_none hln)) ((wr2.grow List.mem_cons_self hx).cell (wr.nin hln).2 ⟨[(key, y)], upd_same, rfl, (Reps.cons ry Reps.nil).monoD eg off⟩) _ ?_
          unfold Rep
          refine ⟨l, rfl, ?_⟩
          rw [← wr2.len, List.getElem?_append_right (Nat.le_refl _)]
          simp
      | _ => exact p.elim
end
end VS

set_option Elab.async false
set_option linter.all false
set_option maxRecDepth 100000
set_option maxHeartbeats 2000000
/-! VS14: x in a sequence, len(set(xs)), range as a value, a starred item, sorted(tuples of ints). -/
namespace VS
open PySem PySem.Spec PyProof.Rows L2
section
variable {X : Cx} {K : KT} {hd φ : List Addr} {H : Hp} {w : World} {e a b c : Expr} {es : List Expr} {pos p p2 q : Pos} {ma mb m0 : ME} {m : MF} {tg : Expr} {Z : List (Addr × Str)} {W : Option WX}
/-! ### x in a sequence -/
def rInQ (K : PySem.W.Frag) (f : Bool → Bool) : R2 := fun x y H Q => ∃ d ds, Dp K H x d ∧ (Dp K H y (.list ds) ∨ Dp K H y (.tuple ds)) ∧ SeqAt.shaped d = true ∧ SeqAt.shaped (.list ds) = true ∧ Q (.bl (f (ds.any fun z => PyData.eqv z d))) H
theorem op_inQ (hu : X.A.units + 65 < cLine) : OpR X (compareOp .In) (rInQ X.K id) := by
  intro pins s σ H x y v u Q I rx ry h
  obtain ⟨d, ds, hd, he, sd, se, q⟩ := h
  obtain ⟨as, r1⟩ := Dp.reads I d x v hd rx
  rcases he with he | he
  · obtain ⟨bs, r2⟩ := Dp.reads I (.list ds) y u he ry
    exact SeqAt.in_list_reads r2 r1 (SeqAt.canLay_of_shaped se) (SeqAt.canLay_of_shaped sd) (room_in_shaped sd hu) ⟨.bl _, H, I, rfl, q⟩
  · obtain ⟨bs, r2⟩ := Dp.reads I (.tuple ds) y u he ry
    exact SeqAt.in_tuple_reads r2 r1 (SeqAt.canLay_of_shaped se) (SeqAt.canLay_of_shaped sd) (room_in_shaped sd hu) ⟨.bl _, H, I, rfl, q⟩
theorem op_notInQ (hu : X.A.units + 65 < cLine) : OpR X (compareOp .NotIn) (rInQ X.K not) := by
  intro pins s σ H x y v u Q I rx ry h
  obtain ⟨d, ds, hd, he, sd, se, q⟩ := h
  obtain ⟨as, r1⟩ := Dp.reads I d x v hd rx
  rcases he with he | he
  · obtain ⟨bs, r2⟩ := Dp.reads I (.list ds) y u he ry
    exact SeqAt.notIn_list_reads r2 r1 (SeqAt.canLay_of_shaped se) (SeqAt.canLay_of_shaped sd) (room_in_shaped sd hu) ⟨.bl _, H, I, rfl, q⟩
  · obtain ⟨bs, r2⟩ := Dp.reads I (.tuple ds) y u he ry
    exact SeqAt.notIn_tuple_reads r2 r1 (SeqAt.canLay_of_shaped se) (SeqAt.canLay_of_shaped sd) (room_in_shaped sd hu) ⟨.bl _, H, I, rfl, q⟩
def inT (w : World) (x y : T) : Option Bool := match pd w x, pd w y with
  | some d, some (.list ds) => if SeqAt.shaped d = true ∧ SeqAt.shaped (.list ds) = true then some (ds.any fun z => PyData.eqv z d) else none
  | some d, some (.tuple ds) => if SeqAt.shaped d = true ∧ SeqAt.shaped (.list ds) = true then some (ds.any fun z => PyData.eqv z d) else none
  | _, _ => none
def sInQ : S2 := fun x y w => match inT w x y with
  | some b => .ok (.bl b) w
  | none => .no
def sNotInQ : S2 := fun x y w => match inT w x y with
  | some b => .ok (.bl (!b)) w
  | none => .no
theorem inT_at (wr : WR K hd φ H w) {dx dy : T} {x y : V} {b : Bool} (rx : Rep K hd φ H dx x) (ry : Rep K hd φ H dy y) (h : inT w dx dy = some b) :
    ∃ d ds, Dp K.1 H x d ∧ (Dp K.1 H y (.list ds) ∨ Dp K.1 H y (.tuple ds)) ∧ SeqAt.shaped d = true ∧ SeqAt.shaped (.list ds) = true ∧ b = ds.any fun z => PyData.eqv z d := by
  unfold inT at h
  split at h
  · rename_i d ds h1 h2
    split at h
    · rename_i hs; cases h; exact ⟨d, ds, dp wr rx h1, .inl (dp wr ry h2), hs.1, hs.2, rfl⟩
    · cases h
  · rename_i d ds h1 h2
    split at h
    · rename_i hs; cases h; exact ⟨d, ds, dp wr rx h1, .inr (dp wr ry h2), hs.1, hs.2, rfl⟩
    · cases h
  · cases h
theorem opInQ : Op2 K sInQ (rInQ K.1 id) := fun W hd φ H w dx dy x y Q wr rx ry p => by
  unfold sInQ at p
  cases q : inT w dx dy with
  | none => rw [q] at p; exact p.elim
  | some k =>
    rw [q] at p
    obtain ⟨d, ds, h1, h2, h3, h4, rfl⟩ := inT_at wr rx ry q
    exact ⟨d, ds, h1, h2, h3, h4, p.bl wr⟩
theorem opNotInQ : Op2 K sNotInQ (rInQ K.1 not) := fun W hd φ H w dx dy x y Q wr rx ry p => by
  unfold sNotInQ at p
  cases q : inT w dx dy with
  | none => rw [q] at p; exact p.elim
  | some k =>
    rw [q] at p
    obtain ⟨d, ds, h1, h2, h3, h4, rfl⟩ := inT_at wr rx ry q
    exact ⟨d, ds, h1, h2, h3, h4, p.bl wr⟩
section
variable (hu : X.A.units + 65 < cLine) (ha : PE X a (rdE (X.K, Z) W ma)) (hb : PE X b (rdE (X.K, Z) W mb))
include hu ha hb
theorem de_inq (hm : behindInMarks .In b = false := by rfl) : PE X (.Compare a [.In] [b] pos) (rdE (X.K, Z) W (mOp2 sInQ ma mb)) := de_cmp (op_inQ hu) opInQ ha hb hm
theorem de_notinq (hm : behindInMarks .NotIn b = false := by rfl) : PE X (.Compare a [.NotIn] [b] pos) (rdE (X.K, Z) W (mOp2 sNotInQ ma mb)) := de_cmp (op_notInQ hu) opNotInQ ha hb hm
theorem dt_inq (hm : behindInMarks .In b = false := by rfl) : PT X (.Compare a [.In] [b] pos) (rdT (X.K, Z) W (mTest (mOp2 sInQ ma mb))) := dt_cmp (op_inQ hu) opInQ ha hb hm
theorem dt_notinq (hm : behindInMarks .NotIn b = false := by rfl) : PT X (.Compare a [.NotIn] [b] pos) (rdT (X.K, Z) W (mTest (mOp2 sNotInQ ma mb))) := dt_cmp (op_notInQ hu) opNotInQ ha hb hm
end
/-! ### len(set(xs)), ints -/
def unlike (ns : List Int) : Nat := (firstMet (fun i => ns.getD i 0) ns.length).length
def tLenSet (K : PySem.W.Frag) (ta : TE) : TE := fun σ H Q => ta σ H fun x H1 => ∃ (l : Addr) (ns : List Int), x = .ref l ∧ SqL K H1 l (ns.map V.int) ∧ ns.length ≤ 4000 ∧ Q (.int (unlike ns : Nat)) H1
theorem pe_lenSet' {ta : TE} (hg : Gl X "len") (hm : X.mg "len" = none) (hg2 : Gl X "set") (hm2 : X.mg "set" = none) (ha : PE X a ta) (hc : X.calm = true := by rfl)
    (na : starEach [a] X.env = (false, eval a X.env) :: starEach [] X.env := by rfl) : PE X (.Call (.Name "len" p) [.Call (.Name "set" p2) [a] [] q] [] pos) (tLenSet X.K ta) := by
  refine ⟨fun pins s σ H Q I h => ?_⟩
  refine Call_ (ld_blt I hg hm boot_len ?_)
  refine PyProof.Rows.callWith_builtin1 (PyProof.Rows.args_cons ?_ rfl) rfl rfl
  refine Call_ (ld_blt I hg2 hm2 boot_set ?_)
  refine PyProof.Rows.callWith_type1 (PyProof.Rows.args_cons (thn (ha.run pins s σ H _ I h) fun v s1 ⟨x, H1, I1, r1, q1⟩ => PyProof.Rows.args_nil ?_) na) na rfl
  obtain ⟨l, ns, rfl, hq, hl, q1⟩ := q1
  cases r1
  obtain ⟨its, r, pl, hz⟩ := I1.list hq
  have hlen : its.toArray.size = ns.length := by rw [List.size_toArray, ← r.length, List.length_map]
  refine call_set_list (I1.ok.hd hc) pl.isList (by simpa using RZ.intsAre_vals r) (by rw [hlen]; unfold scanBound; omega) fun h' tk hS hk => ?_
  refine PyProof.Rows.args_nil ?_
  rw [hlen] at hS
  have hle := firstMet_length_le (fun i => ns.getD i 0) ns.length
  obtain ⟨o, es, ep, t, ho, hex, hd, _, _, _, hf, hn⟩ := hS
  have I2 : Inv X pins σ H1 { s1 with heap := h', toks := tk } := I1.kept fun b o e => hk b o (Heap.lt_size e) e
  exact call_len_set ho hex hd hf (by rw [hn] <;> omega) ⟨.int _, H1, I2.tok _, ⟨_, by rw [hn] <;> rfl⟩, q1⟩
def intsT : List T → Option (List Int)
  | [] => some []
  | .int i :: ts => (intsT ts).map (i :: ·)
  | _ => none
theorem intV_at : ∀ {ts : List T} {vs : List V} {ns : List Int}, Reps K hd φ H ts vs → intsT ts = some ns → vs = ns.map V.int
  | [], vs, ns, r, h => by cases h; unfold Reps at r; exact r
  | .int i :: ts, vs, ns, r, h => by
    unfold Reps at r
    obtain ⟨x, xs, rfl, r1, r2⟩ := r
    cases rep_int r1
    obtain ⟨cs, h1, rfl⟩ := map_some h
    rw [intV_at r2 h1]
    rfl
  | .non :: ts, vs, bs, r, h => by cases h
  | .bl _ :: ts, vs, bs, r, h => by cases h
  | .str _ :: ts, vs, bs, r, h => by cases h
  | .ty _ :: ts, vs, bs, r, h => by cases h
  | .tup _ :: ts, vs, bs, r, h => by cases h
  | .lst _ :: ts, vs, bs, r, h => by cases h
  | .frz _ :: ts, vs, bs, r, h => by cases h
  | .rng _ :: ts, vs, bs, r, h => by cases h
  | .glb _ :: ts, vs, bs, r, h => by cases h
  | .exc _ _ _ :: ts, vs, bs, r, h => by cases h
  | .dct _ _ :: ts, vs, bs, r, h => by cases h
  | .cell _ :: ts, vs, bs, r, h => by cases h
def mLenSet (a : ME) : ME := fun ρ w => (a ρ w).bind fun t w1 => match lst? w1 t with
  | some ts => match intsT ts with
    | some ns => if ns.length ≤ 4000 then .ok (.int (unlike ns : Nat)) w1 else .no
    | none => .no
  | none => .no
theorem de_lenset (hm : X.mg "len" = none) (hm2 : X.mg "set" = none) (ha : PE X a (rdE (X.K, Z) W ma)) (hg : Gl X "len" := by rfl) (hg2 : Gl X "set" := by rfl) (hc : X.calm = true := by rfl)
    (na : starEach [a] X.env = (false, eval a X.env) :: starEach [] X.env := by rfl) : PE X (.Call (.Name "len" p) [.Call (.Name "set" p2) [a] [] q] [] pos) (rdE (X.K, Z) W (mLenSet ma)) := PE_imp (pe_lenSet' hg hm hg2 hm2 ha hc na) fun σ H Q => by
  rintro ⟨hd, φ, ρ, w, sr, wr, p⟩
  refine ⟨hd, φ, ρ, w, sr, wr, Pst.then isPst p fun t w1 φ1 H1 e1 wr1 p1 x rx => ?_⟩
  cases q1 : lst? w1 t with
  | none => rw [q1] at p1; exact p1.elim
  | some ts =>
    rw [q1] at p1
    simp only at p1
    cases q2 : intsT ts with
    | none => rw [q2] at p1; exact p1.elim
    | some ns =>
      rw [q2] at p1
      simp only at p1
      split at p1
      · rename_i hl
        obtain ⟨l, xs, rfl, h1, h2⟩ := lst_at wr1 rx q1
        cases intV_at h2 q2
        exact ⟨l, ns, rfl, SqL.of h1, hl, p1.int wr1⟩
      · exact p1.elim
/-! ### range(n) as a value -/
theorem cr_range1 : CallR X (.type "range") (fun vs H Q => ∃ j, vs = [V.int j] ∧ ∀ p, H p = none → Q (.ref p) (upd H p (.rng 0 j))) := by
  intro pins s σ H vs us Q I r h
  obtain ⟨j, rfl, q⟩ := h
  cases r with
  | cons r1 rt =>
    cases rt
    obtain ⟨t, rfl⟩ := r1
    refine call_range_1 ⟨.ref s.heap.objs.size, upd H s.heap.objs.size (.rng 0 j), I.laid (t' := s.toks + 1 + 1) (fun b o e => Heap.get?_push_of_some _ e) (Nat.le_refl _) ?_, rfl, q _ (I.hok.fresh (Nat.le_refl _))⟩
    exact ⟨s.toks, t, s.toks + 1, Heap.get?_push_size _ rfl⟩
def sRng : SC := fun ds w => match ds with
  | [.int j] => if 0 ≤ j then .ok (.rng j.toNat) w else .no
  | _ => .no
theorem opRng : OpC K sRng (fun vs H Q => ∃ j, vs = [V.int j] ∧ ∀ p, H p = none → Q (.ref p) (upd H p (.rng 0 j))) := fun W hd φ H w ds xs Q wr rx p => by
  unfold sRng at p
  match ds, p with
  | [.int j], p =>
    obtain ⟨v, rfl, r⟩ := reps1 rx
    cases rep_int r
    simp only at p
    split at p
    · rename_i hj
      refine ⟨j, rfl, fun q hq => ?_⟩
      refine p (upd H q (.rng 0 j)) φ (Ext.new hq) (wr.new hq) _ ?_
      unfold Rep
      exact ⟨q, rfl, by rw [upd_same, Int.toNat_of_nonneg hj], (wr.nin hq).1, (wr.nin hq).2⟩
    · exact p.elim
theorem de_range1 (hm : X.mg "range" = none) (ha : PA X [e] (rdA (X.K, Z) W m)) (hg : Gl X "range" := by rfl) (he : starEach [e] X.env = (false, eval e X.env) :: starEach [] X.env := by rfl) (hpl : (backTo pos (starEach [] X.env)).any (·.1) = false := by rfl) : PE X (.Call (.Name "range" p) [e] [] pos) (rdE (X.K, Z) W (mCall sRng m)) :=
  de_callTy cr_range1 opRng hm boot_range ha hg (by decide) (by decide) he hpl
def iRngV (te : TE) : TI := fun σ H R => te σ H fun x H1 => ∃ a hi, x = .ref a ∧ H1 a = some (.rng 0 hi) ∧ 0 ≤ hi ∧ hi < 2 ^ 62 ∧ R (Itr 0 hi.toNat) H1
theorem pi_rngV {te : TE} (he : PE X e te) : PI X tg e (iRngV te) := by
  refine ⟨fun pins s σ H R I h => ?_⟩
  refine thn (he.run pins s σ H _ I h) fun v s1 ⟨x, H1, I1, r1, q1⟩ => ?_
  obtain ⟨a, hi, rfl, ha, h0, h1, q⟩ := q1
  cases r1
  obtain ⟨t, u, k, ho⟩ := I1.hok a _ ha
  have hr : IsRange s1.heap a 0 hi 1 t u k := ho
  refine wpAny_pyIter_range hr (small_one (by decide) (by decide) (by omega) h1) ?_
  refine ⟨s1.heap.objs.size, [s1.heap.objs.size], _, _, H1, rfl, I1.kept (t' := s1.toks) fun b o e => Heap.get?_push_of_some _ e, turn_range _ 0 hi.toNat, ?_, fun b hb => ?_, q⟩
  · have e1 : (0 : Int) + ((0 : Nat) : Int) * 1 = 0 := by simp
    have e2 : ((hi.toNat : Nat) : Int) - ((0 : Nat) : Int) = Builtin.Range.rangeSize 0 hi 1 := by rw [rangeSize_one]; split <;> omega
    show IsRangeIter _ _ ((0 : Int) + ((0 : Nat) : Int) * 1) (((hi.toNat : Nat) : Int) - ((0 : Nat) : Int)) 1
    rw [e1, e2]
    exact Heap.get?_push_size _ rfl
  · have e : b = s1.heap.objs.size := by simpa using hb
    subst e
    exact I1.fpOk (Nat.le_refl _) (I1.hok.fresh (Nat.le_refl _))
def mItemsR (m : ME) : MI := fun ρ w => (m ρ w).bind fun t w1 => match t with
  | .rng n => if (n : Int) < 2 ^ 62 then .ok (rgT 0 n, none) w1 else .no
  | _ => .no
theorem di_rng (h : PE X e (rdE (X.K, Z) W m0)) : PI X tg e (rdI (X.K, Z) W (mItemsR m0)) := PI_imp (pi_rngV h) fun σ H Q => by
  rintro ⟨hd, φ, ρ, w, sr, wr, p⟩
  refine ⟨hd, φ, ρ, w, sr, wr, ?_⟩
  unfold mItemsR at p
  cases q : m0 ρ w with
  | no => rw [q] at p; exact p.elim
  | ex _ _ _ => (rw [q] at p; first | exact p | (rw [q]; exact p))
  | ok t w1 =>
    rw [q, bind_ok] at p
    intro H' φ' e1 wr1 v rv
    cases t with
    | rng n =>
      simp only at p
      split at p
      · rename_i hn
        unfold Rep at rv
        obtain ⟨a, rfl, h1, _⟩ := rv
        refine ⟨a, n, rfl, h1, by omega, hn, ?_⟩
        have e2 : ((n : Int)).toNat = n := by simp
        rw [e2]
        exact p H' φ' e1 wr1 _ src_range
      · exact p.elim
    | _ => exact p.elim
/-! ### a starred item -/
def mStar (a : ME) (m : MF) : MF := fun ρ w => (a ρ w).bind fun t w1 => match seq? w1 t with
  | some ts => (m ρ w1).bind fun us w2 => .ok (ts ++ us) w2
  | none => .no
theorem da_star (ha : PE X a (rdE (X.K, Z) W ma)) (hr : PA X es (rdA (X.K, Z) W m)) (hs : starEach (.Starred a p :: es) X.env = (true, eval a X.env) :: starEach es X.env := by rfl) : PA X (.Starred a p :: es) (rdA (X.K, Z) W (mStar ma m)) := PA_imp (StX.pa_star ha hr hs) fun σ H Q => by
  rintro ⟨hd, φ, ρ, w, sr, wr, p⟩
  refine ⟨hd, φ, ρ, w, sr, wr, Pst.then isPst p fun x w1 φ1 H1 e1 wr1 p1 v rv => ?_⟩
  cases q : seq? w1 x with
  | none => rw [q] at p1; exact p1.elim
  | some ts =>
    rw [q] at p1
    simp only at p1
    obtain ⟨l, xs, rfl, h1, h2⟩ := seq_at wr1 rv q
    refine ⟨l, xs, rfl, h1.symm, hd, φ1, ρ, w1, sr.mono e1, wr1, Pst.then isPst p1 fun us w2 φ2 H2 e2 wr2 p2 vs rvs => ?_⟩
    exact p2.ok wr2 _ ((h2.mono e2).append rvs)
/-! ### sorted(xs), tuples of ints -/
def rowsT : List T → Option (List (List Int))
  | [] => some []
  | .tup us :: ts => match intsT us, rowsT ts with
    | some r, some rs => some (r :: rs)
    | _, _ => none
  | _ => none
def rowT (r : List Int) : T := .tup (r.map T.int)
theorem intsT_map : ∀ {ts : List T} {ns : List Int}, intsT ts = some ns → ts = ns.map T.int
  | [], ns, h => by cases h; rfl
  | .int i :: ts, ns, h => by
    obtain ⟨cs, h1, rfl⟩ := map_some h
    rw [intsT_map h1]
    rfl
  | .non :: ts, _, h => by cases h
  | .bl _ :: ts, _, h => by cases h
  | .str _ :: ts, _, h => by cases h
  | .ty _ :: ts, _, h => by cases h
  | .tup _ :: ts, _, h => by cases h
  | .lst _ :: ts, _, h => by cases h
  | .frz _ :: ts, _, h => by cases h
  | .rng _ :: ts, _, h => by cases h
  | .glb _ :: ts, _, h => by cases h
  | .exc _ _ _ :: ts, _, h => by cases h
  | .dct _ _ :: ts, _, h => by cases h
  | .cell _ :: ts, _, h => by cases h
theorem rowsT_map : ∀ {ts : List T} {rs : List (List Int)}, rowsT ts = some rs → ts = rs.map rowT
  | [], ns, h => by cases h; rfl
  | .tup us :: ts, rs, h => by
    unfold rowsT at h
    split at h
    · rename_i r rs' h1 h2
      cases h
      rw [rowsT_map h2, intsT_map h1]
      rfl
    · cases h
  | .non :: ts, _, h => by cases h
  | .bl _ :: ts, _, h => by cases h
  | .str _ :: ts, _, h => by cases h
  | .ty _ :: ts, _, h => by cases h
  | .int _ :: ts, _, h => by cases h
  | .lst _ :: ts, _, h => by cases h
  | .frz _ :: ts, _, h => by cases h
  | .rng _ :: ts, _, h => by cases h
  | .glb _ :: ts, _, h => by cases h
  | .exc _ _ _ :: ts, _, h => by cases h
  | .dct _ _ :: ts, _, h => by cases h
  | .cell _ :: ts, _, h => by cases h
theorem intsT_of : ∀ ns : List Int, intsT (ns.map T.int) = some ns
  | [] => rfl
  | n :: ns => by show (intsT (ns.map T.int)).map _ = _; rw [intsT_of ns]; rfl
theorem rowsT_of : ∀ rs : List (List Int), rowsT (rs.map rowT) = some rs
  | [] => rfl
  | r :: rs => by
    show (match intsT (r.map T.int), rowsT (rs.map rowT) with
      | some r, some rs => some (r :: rs)
      | _, _ => none) = _
    rw [intsT_of, rowsT_of rs]
def bdT : Int := 2 ^ 64
def bdRow (d : Nat) (r : List Int) : Prop := r.length = d ∧ TS.Bd bdT r
theorem code_inj {B : Int} : ∀ {r q : List Int}, r.length = q.length → TS.Bd B r → TS.Bd B q → TS.code B r = TS.code B q → r = q
  | [], [], _, _, _, _ => rfl
  | d :: r, e :: q, hl, h1, h2, h => by
    have hl' : r.length = q.length := by simpa using hl
    rcases Int.lt_trichotomy d e with c | c | c
    · exact absurd h (Int.ne_of_lt (TS.code_lt hl' h1.tail h2.tail c))
    · subst c
      have i1 := (TS.code_same (B := B) (d := d) hl').mpr
      have i2 := (TS.code_same (B := B) (d := d) hl'.symm).mpr
      rw [code_inj hl' h1.tail h2.tail]
      omega
    · exact absurd h.symm (Int.ne_of_lt (TS.code_lt hl'.symm h2.tail h1.tail c))
  | [], _ :: _, hl, _, _, _ => by simp at hl
  | _ :: _, [], hl, _, _, _ => by simp at hl
theorem reps_perm {f : List Int → T} : ∀ {ys xs : List V}, ys.Perm xs → ∀ {rs : List (List Int)}, Reps K hd φ H (rs.map f) xs → ∃ qs : List (List Int), qs.Perm rs ∧ Reps K hd φ H (qs.map f) ys := fun {ys xs} h => by
  induction h with
  | nil => intro rs r; exact ⟨rs, .refl _, r⟩
  | @cons x l1 l2 _ ih =>
    intro rs r
    cases rs with
    | nil => unfold Reps at r; cases r
    | cons q rs =>
      rw [List.map_cons] at r
      unfold Reps at r
      obtain ⟨z, zs, ez, r1, r2⟩ := r
      cases ez
      obtain ⟨qs, p1, p2⟩ := ih r2
      exact ⟨q :: qs, .cons _ p1, Reps.cons r1 p2⟩
  | @swap x y l =>
    intro rs r
    match rs, r with
    | [], r => unfold Reps at r; cases r
    | [q], r =>
      rw [List.map_cons] at r
      unfold Reps at r
      obtain ⟨z, zs, ez, r1, r2⟩ := r
      cases ez
      unfold List.map Reps at r2
      cases r2
    | q1 :: q2 :: rs, r =>
      rw [List.map_cons, List.map_cons] at r
      unfold Reps at r
      obtain ⟨z, zs, ez, r1, r2⟩ := r
      cases ez
      unfold Reps at r2
      obtain ⟨z, zs, ez, r3, r4⟩ := r2
      cases ez
      exact ⟨q2 :: q1 :: rs, .swap _ _ _, Reps.cons r3 (Reps.cons r1 r4)⟩
  | trans _ _ ih1 ih2 =>
    intro rs r
    obtain ⟨qs, p1, p2⟩ := ih2 r
    obtain ⟨qs', p3, p4⟩ := ih1 p2
    exact ⟨qs', p3.trans p1, p4⟩
def sortR (rs : List (List Int)) : List (List Int) := rs.mergeSort fun a b => decide (TS.code bdT a ≤ TS.code bdT b)
theorem sortR_perm (rs : List (List Int)) : (sortR rs).Perm rs := List.mergeSort_perm _ _
theorem sortR_pw (rs : List (List Int)) : (sortR rs).Pairwise fun a b => TS.code bdT a ≤ TS.code bdT b := by
  have h := List.pairwise_mergeSort (le := fun a b : List Int => decide (TS.code bdT a ≤ TS.code bdT b)) (fun a b c h1 h2 => by simp at h1 h2 ⊢; omega) (fun a b => by simp; omega) rs
  exact h.imp fun h => by simpa using h
open Classical in
noncomputable def sSortT (d : Nat) : SCF := fun ds w => match ds with
  | [t] => match lst? w t with
    | some ts => match rowsT ts with
      | some rs => if rs.length < 64 ∧ ∀ r ∈ rs, bdRow d r then .ok ((sortR rs).map rowT) w else .no
      | none => .no
    | none => .no
  | _ => .no
theorem opSortT {d : Nat} : OpCF K (sSortT d) (rSortU K.1 d bdT) := fun W hd φ H w ds xs Q wr rx p => by
  unfold sSortT at p
  match ds, p with
  | [t], p =>
    simp only at p
    cases q : lst? w t with
    | none => rw [q] at p; exact p.elim
    | some ts =>
      rw [q] at p
      simp only at p
      cases q2 : rowsT ts with
      | none => rw [q2] at p; exact p.elim
      | some rs =>
        rw [q2] at p
        simp only at p
        split at p
        · rename_i hc
          obtain ⟨h64, hb⟩ := hc
          obtain ⟨v, rfl, r⟩ := reps1 rx
          obtain ⟨l, ys, rfl, h1, h2⟩ := lst_at wr r q
          rw [rowsT_map q2] at h2
          have tu : ∀ (r : List Int) (x : V), Rep K hd φ H (rowT r) x → TupI K.1 H x r := fun r x h => by
            unfold rowT Rep at h
            obtain ⟨a, xs, rfl, n, rs⟩ := h
            have := intV_at rs (intsT_of r)
            subst this
            exact ⟨a, rfl, SqT.of n.1⟩
          refine ⟨l, ys, rfl, SqL.of h1, ?_, fun x hx => ?_, fun zs p0 hp hw hn => ?_⟩
          · rw [← h2.len, List.length_map]; exact h64
          · obtain ⟨i, hi⟩ := List.mem_iff_getElem?.mp hx
            obtain ⟨t, ht, rt⟩ := h2.at' hi
            rw [List.getElem?_map] at ht
            cases e : rs[i]? with
            | none => rw [e] at ht; cases ht
            | some r =>
              rw [e] at ht
              cases ht
              exact ⟨r, tu r x rt, hb r (List.mem_of_getElem? e)⟩
          · obtain ⟨qs, pq, rq⟩ := reps_perm hp h2
            have bq : ∀ r ∈ qs, bdRow d r := fun r hr => hb r (pq.mem_iff.mp hr)
            have pw : qs.Pairwise fun a b => TS.code bdT a ≤ TS.code bdT b := by
              rw [List.pairwise_iff_getElem]
              intro i j hi hj hij
              have e1 : (qs.map rowT)[i]? = some (rowT qs[i]) := by simp [hi]
              have e2 : (qs.map rowT)[j]? = some (rowT qs[j]) := by simp [hj]
              obtain ⟨x, hx, rx⟩ := rq.at e1
              obtain ⟨y, hy, ry⟩ := rq.at e2
              obtain ⟨li, ex⟩ := List.getElem?_eq_some_iff.mp hx
              obtain ⟨lj, ey⟩ := List.getElem?_eq_some_iff.mp hy
              refine List.pairwise_iff_getElem.mp hw i j li lj hij _ _ ?_ ?_
              · rw [ex]; exact tu _ _ rx
              · rw [ey]; exact tu _ _ ry
            have e : qs = sortR rs := List.Perm.eq_of_pairwise (le := fun a b => TS.code bdT a ≤ TS.code bdT b) (fun a b ha hb' h1 h2 => code_inj (by rw [(bq a ha).1, (hb b ((sortR_perm rs).mem_iff.mp hb')).1]) (bq a ha).2 (hb b ((sortR_perm rs).mem_iff.mp hb')).2 (Int.le_antisymm h1 h2)) pw (sortR_pw rs) (pq.trans (sortR_perm rs).symm)
            rw [e] at rq
            exact p.new wr rq p0 hn
        · exact p.elim
theorem df_sortT {d : Nat} (hm : X.mg "sorted" = none) (ha : PA X [e] (rdA (X.K, Z) W m)) (hd : 1 ≤ d := by decide) (hg : Gl X "sorted" := by rfl) (he : starEach [e] X.env = (false, eval e X.env) :: starEach [] X.env := by rfl) (hpl : (backTo pos (starEach [] X.env)).any (·.1) = false := by rfl) : PE X (.Call (.Name "sorted" p) [e] [] pos) (rdF (X.K, Z) W (mCallF (sSortT d) m)) :=
  df_callB (cr_sortT hd) opSortT hm (by decide +kernel) ha hg (by decide) (by decide) he hpl
theorem hu65 {k : Nat} (hr : Room k X.A) : X.A.units + 65 < cLine := by have := hr.un; omega
/-! ### f() -/
def mDef0 (f : Sem) : ME := fun ρ w => (f [] w).at ρ
theorem de_def0 {k : Nat} {x : Str} {f : Sem} (F : Df X.prog X.w X.K Z X.mg X.base k x [] f) (tk : TakesO X W) (hr : Room k X.A) (hg : Gl X x := by rfl) (hdb : (x == ("__debug__" : Str)) = false := by decide) : PE X (.Call (.Name x p) [] [] pos) (rdE (X.K, Z) W (mDef0 f)) := by
  obtain ⟨ad, fd, ok, hm, hk, hb⟩ := F.ex
  refine ⟨fun pins s σ H Q I h => ?_⟩
  obtain ⟨hd, φ, ρ, w, sr, wr, q⟩ := h
  refine wpAny_Call_Name_kw (ld_glob I hg hm ?_ hdb)
  exact PySem.W.callWith_K0 I.kIn hk (run_fnS (E := wE W) ok hr hb (passO tk σ) I .nil ⟨hd, φ, w, [], rfl, wr, Reps.nil, q.callee sr⟩)
theorem dfP_gc {P : Program} {w : PySem.World} {K : PySem.W.Frag} {mg : Str → Option Value} {base : Heap} {x : Str} {n np k : Nat} {ks : List Str} {ix : List Nat} {g : Sem} (D : DfP P w K Z mg base k x n np ks ix g) : DfP P w K Z mg base k x n np ks ix (gc g) := by
  obtain ⟨f, fd, ps, e1, ok, hm, hk, hb⟩ := D.ex
  refine ⟨f, fd, ps, e1, ok.imp fun vs H Q E h => ?_, hm, hk, hb⟩
  obtain ⟨hd, φ, w, ds, l, wr, rs, p⟩ := h
  exact ⟨hd, φ, w, ds, l, wr, rs, gc_read wr p⟩
end
end VS

set_option Elab.async false
set_option linter.all false
set_option maxRecDepth 100000
set_option maxHeartbeats 2000000
/-! VS15: defs that call themselves: worked out so deep (fuel); below that nothing is promised. -/
namespace VS
open PySem PySem.Spec PyProof.Rows L2
noncomputable def fuelS (c : Bool) (N : Nat) (F : Sem → MS) : Nat → Sem
  | 0 => runB N fun _ _ => .no
  | n + 1 => if c = true then gc (runB N (F (fuelS c N F n))) else runB N (F (fuelS c N F n))
theorem fuel_gc {N : Nat} {F : Sem → MS} {n : Nat} : fuelS true N F (n + 1) = gc (runB N (F (fuelS true N F n))) := rfl
theorem fuel_run {N : Nat} {F : Sem → MS} {n : Nat} : fuelS false N F (n + 1) = runB N (F (fuelS false N F n)) := rfl
section
variable {P : Program} {w : PySem.World} {K : PySem.W.Frag} {Z : List (Addr × Str)} {W : Option WX} {cd : Value} {mg : Str → Option Value} {base : Heap}
theorem ss_no {X : Cx} : ∀ {b : List Stmt}, PSs X b (rdS (X.K, Z) W fun _ _ => .no)
  | [] => PSs_imp (ds_nil (Z := Z) (W := W)) fun D σ H => by
    rintro ⟨hd, φ, ρ, w, sr, wr, p⟩
    exact p.elim
  | s :: b => PSs_imp (ds_cons (Z := Z) (W := W) (ds_never (st := s)) (ss_no (b := b))) fun D σ H => by
    rintro ⟨hd, φ, ρ, w, sr, wr, p⟩
    exact p.elim
theorem bd_no {N : List Str} {x : Str} {st : Stmt} {k : Nat} : Bd P w K Z mg base N x st cd k fun _ _ => .no := fun f A outer s H E W hr tk => ss_no
/-- the def's worth, so deep: one level more for each turn -/
theorem df_fuel {x : Str} {st : Stmt} {N ps : List Str} {k : Nat} {c : Bool} {F : Sem → MS} {h : Heap} (a : At K x st cd) (X : K.In h) (G : h.Ns mainGlobals mg) (S : FnScope N ps (defScope st))
    (hb : ∀ (kV doc pm : Value) (an : Option Addr) (cdv ct : Value) (us : List Value), us.length = ps.length → bindArgs (PySem.W.fnOf x x (defArgs st) (defBody st) (defScope st) .none kV doc pm an cdv ct) ⟨us, []⟩ = pure (ps.zip us))
    (body : ∀ (L : Nat) (g : Sem), k ≤ L → Df P w K Z mg base L x ps g → Bd P w K Z mg base N x st cd L (F g)) : ∀ n : Nat, Df P w K Z mg base (k + 1 + n) x ps (fuelS c N.length F n)
  | 0 => At.df a X G S hb bd_no
  | n + 1 => by
    have D := At.df a X G S hb (body (k + 1 + n) _ (by omega) (df_fuel (c := c) a X G S hb body n))
    cases c with
    | true => exact df_gc D
    | false => exact D
/-- two levels for each turn: a helper between -/
theorem df_fuel2 {x : Str} {st : Stmt} {N ps : List Str} {k : Nat} {c : Bool} {F : Sem → MS} {h : Heap} (a : At K x st cd) (X : K.In h) (G : h.Ns mainGlobals mg) (S : FnScope N ps (defScope st))
    (hb : ∀ (kV doc pm : Value) (an : Option Addr) (cdv ct : Value) (us : List Value), us.length = ps.length → bindArgs (PySem.W.fnOf x x (defArgs st) (defBody st) (defScope st) .none kV doc pm an cdv ct) ⟨us, []⟩ = pure (ps.zip us))
    (body : ∀ (L : Nat) (g : Sem), k ≤ L → Df P w K Z mg base L x ps g → Bd P w K Z mg base N x st cd (L + 1) (F g)) : ∀ n : Nat, Df P w K Z mg base (k + 1 + 2 * n) x ps (fuelS c N.length F n)
  | 0 => At.df a X G S hb bd_no
  | n + 1 => by
    have D := At.df a X G S hb (body (k + 1 + 2 * n) _ (by omega) (df_fuel2 (c := c) a X G S hb body n))
    cases c with
    | true => exact df_gc D
    | false => exact D
end
end VS

set_option Elab.async false
set_option linter.all false
set_option maxRecDepth 100000
set_option maxHeartbeats 2000000
/-! VS16: max, min, sum of one list of ints; d.get(y, z). -/
namespace VS
open PySem PySem.Spec PyProof.Rows L2
def maxI (n : Int) : List Int → Int
  | [] => n
  | m :: ms => maxI (if m > n then m else n) ms
def minI (n : Int) : List Int → Int
  | [] => n
  | m :: ms => minI (if m < n then m else n) ms
theorem maxI_spec : ∀ (ms : List Int) (n : Int), (maxI n ms = n ∨ maxI n ms ∈ ms) ∧ n ≤ maxI n ms ∧ ∀ y ∈ ms, y ≤ maxI n ms
  | [], n => ⟨.inl rfl, Int.le_refl _, fun _ h => nomatch h⟩
  | m :: ms, n => by
    obtain ⟨h1, h2, h3⟩ := maxI_spec ms (if m > n then m else n)
    show (maxI (if m > n then m else n) ms = n ∨ _) ∧ n ≤ maxI (if m > n then m else n) ms ∧ ∀ y ∈ m :: ms, y ≤ maxI (if m > n then m else n) ms
    refine ⟨?_, ?_, fun y hy => ?_⟩
    · rcases h1 with h1 | h1
      · by_cases c : m > n
        · rw [if_pos c] at h1; exact .inr (by show maxI (if m > n then m else n) ms ∈ m :: ms; rw [if_pos c, h1]; exact .head _)
        · rw [if_neg c] at h1; exact .inl (by rw [if_neg c]; exact h1)
      · exact .inr (.tail _ h1)
    · refine Int.le_trans ?_ h2; split <;> omega
    · rcases List.mem_cons.mp hy with rfl | hy
      · refine Int.le_trans ?_ h2; split <;> omega
      · exact h3 y hy
theorem minI_spec : ∀ (ms : List Int) (n : Int), (minI n ms = n ∨ minI n ms ∈ ms) ∧ minI n ms ≤ n ∧ ∀ y ∈ ms, minI n ms ≤ y
  | [], n => ⟨.inl rfl, Int.le_refl _, fun _ h => nomatch h⟩
  | m :: ms, n => by
    obtain ⟨h1, h2, h3⟩ := minI_spec ms (if m < n then m else n)
    show (minI (if m < n then m else n) ms = n ∨ _) ∧ minI (if m < n then m else n) ms ≤ n ∧ ∀ y ∈ m :: ms, minI (if m < n then m else n) ms ≤ y
    refine ⟨?_, ?_, fun y hy => ?_⟩
    · rcases h1 with h1 | h1
      · by_cases c : m < n
        · rw [if_pos c] at h1; exact .inr (by show minI (if m < n then m else n) ms ∈ m :: ms; rw [if_pos c, h1]; exact .head _)
        · rw [if_neg c] at h1; exact .inl (by rw [if_neg c]; exact h1)
      · exact .inr (.tail _ h1)
    · refine Int.le_trans h2 ?_; split <;> omega
    · rcases List.mem_cons.mp hy with rfl | hy
      · refine Int.le_trans h2 ?_; split <;> omega
      · exact h3 y hy
/-- a call on one list of ints -/
def sInts (f : List Int → Option Int) : SC := fun ds w => match ds with
  | [t] => match lst? w t with
    | some ts => match intsT ts with
      | some ns => match f ns with
        | some i => .ok (.int i) w
        | none => .no
      | none => .no
    | none => .no
  | _ => .no
def fMax : List Int → Option Int
  | [] => none
  | n :: ns => some (maxI n ns)
def fMin : List Int → Option Int
  | [] => none
  | n :: ns => some (minI n ns)
def fSum : List Int → Option Int := fun ns => some ns.sum
section
variable {X : Cx} {K : KT} {e a b c o i j : Expr} {pos apos cpos p : Pos} {m : MF} {ma mb mc mo mi mj : ME} {Z : List (Addr × Str)} {W : Option WX}
theorem opInts {f : List Int → Option Int} {r : List V → Hp → VK → Prop} (h : ∀ (l : Addr) (ns : List Int) (i : Int) (H : Hp) (Q : VK), SqL K.1 H l (ns.map V.int) → f ns = some i → Q (.int i) H → r [V.ref l] H Q) : OpC K (sInts f) r := fun W hd φ H w ds xs Q wr rx p => by
  unfold sInts at p
  match ds, p with
  | [t], p =>
    simp only at p
    cases q1 : lst? w t with
    | none => rw [q1] at p; exact p.elim
    | some ts =>
      rw [q1] at p
      simp only at p
      cases q2 : intsT ts with
      | none => rw [q2] at p; exact p.elim
      | some ns =>
        rw [q2] at p
        simp only at p
        cases q3 : f ns with
        | none => rw [q3] at p; exact p.elim
        | some i =>
          rw [q3] at p
          obtain ⟨v, rfl, r1⟩ := reps1 rx
          obtain ⟨l, ys, rfl, h1, h2⟩ := lst_at wr r1 q1
          cases intV_at h2 q2
          exact h l ns i H Q (SqL.of h1) q3 (p.int wr)
theorem opMaxL : OpC K (sInts fMax) (rMax K.1) := opInts fun l ns i H Q hs hf q => by
  cases ns with
  | nil => cases hf
  | cons n ns =>
    cases hf
    refine ⟨l, n :: ns, rfl, hs, by simp, fun m hm hb => ?_⟩
    obtain ⟨h1, h2, h3⟩ := maxI_spec ns n
    have e : m = maxI n ns := by
      refine Int.le_antisymm ?_ (hb _ (h1.elim (fun h => by rw [h]; exact .head _) (fun h => .tail _ h)))
      rcases List.mem_cons.mp hm with rfl | hm
      · exact h2
      · exact h3 m hm
    rw [e]
    exact q
theorem opMinL : OpC K (sInts fMin) (rMin K.1) := opInts fun l ns i H Q hs hf q => by
  cases ns with
  | nil => cases hf
  | cons n ns =>
    cases hf
    refine ⟨l, n :: ns, rfl, hs, by simp, fun m hm hb => ?_⟩
    obtain ⟨h1, h2, h3⟩ := minI_spec ns n
    have e : m = minI n ns := by
      refine Int.le_antisymm (hb _ (h1.elim (fun h => by rw [h]; exact .head _) (fun h => .tail _ h))) ?_
      rcases List.mem_cons.mp hm with rfl | hm
      · exact h2
      · exact h3 m hm
    rw [e]
    exact q
theorem opSumL : OpC K (sInts fSum) (rSum K.1) := opInts fun l ns i H Q hs hf q => by
  cases hf
  exact ⟨l, ns, rfl, hs, q⟩
theorem de_maxL (hc : X.calm = true) (hm : X.mg "max" = none) (ha : PA X [e] (rdA (X.K, Z) W m)) (hg : Gl X "max" := by rfl) (he : starEach [e] X.env = (false, eval e X.env) :: starEach [] X.env := by rfl) (hpl : (backTo pos (starEach [] X.env)).any (·.1) = false := by rfl) : PE X (.Call (.Name "max" p) [e] [] pos) (rdE (X.K, Z) W (mCall (sInts fMax) m)) :=
  de_callB (cr_max hc) opMaxL hm (by decide +kernel) ha hg (by decide) (by decide) he hpl
theorem de_minL (hc : X.calm = true) (hm : X.mg "min" = none) (ha : PA X [e] (rdA (X.K, Z) W m)) (hg : Gl X "min" := by rfl) (he : starEach [e] X.env = (false, eval e X.env) :: starEach [] X.env := by rfl) (hpl : (backTo pos (starEach [] X.env)).any (·.1) = false := by rfl) : PE X (.Call (.Name "min" p) [e] [] pos) (rdE (X.K, Z) W (mCall (sInts fMin) m)) :=
  de_callB (cr_min hc) opMinL hm (by decide +kernel) ha hg (by decide) (by decide) he hpl
theorem de_sumL (hc : X.calm = true) (hm : X.mg "sum" = none) (ha : PA X [e] (rdA (X.K, Z) W m)) (hg : Gl X "sum" := by rfl) (he : starEach [e] X.env = (false, eval e X.env) :: starEach [] X.env := by rfl) (hpl : (backTo pos (starEach [] X.env)).any (·.1) = false := by rfl) : PE X (.Call (.Name "sum" p) [e] [] pos) (rdE (X.K, Z) W (mCall (sInts fSum) m)) :=
  de_callB (cr_sum hc) opSumL hm (by decide +kernel) ha hg (by decide) (by decide) he hpl
/-- d.get(y, z) -/
def mDGet2 (a b c : ME) : ME := fun ρ w => (a ρ w).bind fun d w1 => if isDct w1 d = true then (b ρ w1).bind fun y w2 => (c ρ w2).bind fun z w3 => match getD? w3 d y with
  | some (some t) => .ok t w3
  | some none => .ok z w3
  | none => .no
  else .no
theorem de_dget2 (hu : X.A.units + 1 < cLine) (ho : PE X o (rdE (X.K, Z) W mo)) (he : PE X i (rdE (X.K, Z) W mi)) (hf : PE X j (rdE (X.K, Z) W mj)) (m : M2 X o "get" apos i j cpos := by exact ⟨rfl, rfl, rfl, rfl⟩) : PE X (.Call (.Attribute o "get" apos) [i, j] [] cpos) (rdE (X.K, Z) W (mDGet2 mo mi mj)) := PE_imp (pe_dget2 hu ho he hf m) fun σ H Q => by
  rintro ⟨hd, φ, ρ, w, sr, wr, p⟩
  refine ⟨hd, φ, ρ, w, sr, wr, Pst.then isPst p fun d w1 φ1 H1 e1 wr1 p1 x rx => ?_⟩
  split at p1
  · rename_i hD
    obtain ⟨l, rfl, hl⟩ := isD_of wr1 rx hD
    refine ⟨l, rfl, hl, ⟨hd, φ1, ρ, w1, sr.mono e1, wr1, Pst.then isPst p1 fun y w2 φ2 H2 e2 wr2 p2 z rz => ?_⟩⟩
    refine ⟨hd, φ2, ρ, w2, (sr.mono e1).mono e2, wr2, Pst.then isPst p2 fun u w3 φ3 H3 e3 wr3 p3 v rv => ?_⟩
    cases q : getD? w3 d y with
    | none => rw [q] at p3; exact p3.elim
    | some o =>
      rw [q] at p3
      obtain ⟨l', o', hl', g, hs, hv⟩ := dget_at wr3 ((rx.mono e2).mono e3) (rz.mono e3) q
      cases hl'
      refine ⟨o', g, ?_⟩
      cases o with
      | none =>
        cases o' with
        | none => exact p3.ok wr3 _ rv
        | some v => cases hs
      | some t =>
        obtain ⟨v', rfl, rv'⟩ := hv t rfl
        exact p3.ok wr3 v' rv'
  · exact p1.elim
end
end VS

set_option Elab.async false
set_option linter.all false
set_option maxRecDepth 100000
set_option maxHeartbeats 2000000
/-! VW17: raise, a caught error as a value, a lambda that is called under a try. -/
namespace VS
open PySem PySem.Spec PyProof.Rows L2

/-! ### a caught error, known from then on -/
section
variable {X : Cx} {pins : List (Addr × Obj)} {σ : L2.St} {H : Hp} {sI sx : Shared} {B : Heap}
theorem Inv.landedT (I : Inv X pins σ H sI) (nb : ∀ b o, sI.heap.get? b = some o → b ∉ frs X.stack → B.get? b = some o) (st : B.StaysIn sx.heap) (up : sI.heap.UpToSlots sx.heap) (os : sx.os = sI.os) (ag : AllBare sx.gens)
    {a : Addr} {o : HO} (ha : sI.heap.get? a = none) (hn : H a = none) (new : ObjOk X.prog X.w (upd H a o) sx.heap a o) : Inv X pins σ (upd H a o) sx := by
  have fr : ∀ b ∈ frs X.stack, ∀ ob, sI.heap.get? b = some ob → ∃ sl, sx.heap.get? b = some { ob with slots := sl } := fun b hb ob q => by
    obtain ⟨_, ob', q', nf⟩ := I.stack.mem hb
    rw [q] at q'
    cases q'
    exact up b ob q nf
  have ne : ∀ b ob, sI.heap.get? b = some ob → b ≠ a := fun b ob q z => by subst z; rw [ha] at q; cases q
  have un : Un (frs X.stack) [] H (upd H a o) sI.heap sx.heap := by
    refine ⟨fun b ob q _ hb _ => st b ob (nb b ob q hb), fun b ob q _ hb _ => fr b hb ob q, fun b ob q n _ => ?_, fun b ob q _ => ?_, fun b xs q => ?_, fun b ob u q => ?_, fun b ps q => ⟨#[], ?_⟩⟩
    · rw [upd_ne (ne b ob q)]; exact n
    · by_cases hb : b ∈ frs X.stack
      · obtain ⟨sl, z⟩ := fr b hb ob q
        exact ⟨_, z⟩
      · exact ⟨ob, st b ob (nb b ob q hb)⟩
    · rw [upd_ne (ne_of_none q hn)]; exact q
    · rw [upd_ne (ne_of_none q hn)]; exact q
    · rw [upd_ne (ne_of_none q hn), q]; simp
  exact I.call' os un (HOk.laidN ((I.inGround nb).kept st) (fun _ _ z => z) hn new) ag fun b z => absurd z (by simp)
/-- an except suite's context: the error is among what is known -/
abbrev Cx.suiteT (X : Cx) (a : Addr) : Cx := { X with A := X.A.mark (some (.ref a)), calm := false, xe := fun _ _ => False }
theorem Cx.Ok.suiteT (ok : X.Ok) (a : Addr) : (Cx.suiteT X a).Ok :=
  ⟨ok.mod, ok.kind, ok.glob, ok.blt, ok.above, ok.inj, ok.has, ok.cab, fun z => (nomatch (show false = true from z)), ok.frames, ok.stk, ok.exf, ok.bs, ok.bsz, ok.noex, ok.exfs, ok.funs, ok.frf⟩
theorem Inv.suiteT {s : Shared} (I : Inv X pins σ H s) (a : Addr) : Inv (Cx.suiteT X a) pins σ H s :=
  ⟨Cx.Ok.suiteT I.ok a, I.os, I.bare, I.base, I.loc, I.cell, I.free, I.freeC, I.pin, I.hok, I.len⟩
theorem Inv.unsuiteT {s : Shared} {a : Addr} (ok : X.Ok) (I : Inv (Cx.suiteT X a) pins σ H s) : Inv X pins σ H s :=
  ⟨ok, I.os, I.bare, I.base, I.loc, I.cell, I.free, I.freeC, I.pin, I.hok, I.len⟩
end
/-- what 'except x as n' wishes, n in slot i -/
def wAsT (K : PySem.W.Frag) (c : Value) (i : Nat) (ts : Addr → Value → Option Addr → TS) (Wout : WX) (D : Ends) : WX := fun cls d σ H =>
  ∃ b, PySem.W.exmOne K cls c = some b ∧ (b = false → Wout cls d σ H) ∧
    (b = true → ∀ a, H a = none → ts a cls d ⟨fun σ' H' => D.nx (σ'.set i none) H', D.rt, fun σ' H' => D.bk (σ'.set i none) H', fun σ' H' => D.ct (σ'.set i none) H'⟩ (σ.set i (some (.ref a))) (upd H a (ExC cls d a)))
section
variable {X : Cx} {x n : Str} {c : Value} {i : Nat} {body suite : List Stmt} {b₀ : Stmt} {np pos hpos : Pos} {tb : WX → TS} {ts : Addr → Value → Option Addr → TS} {Wout : WX}
theorem ps_try_asT (e1 : X.stack = X.env :: X.outer) (e2 : X.env.frame = some X.env.locals) (nd : X.N.Nodup) (hi : X.N[i]? = some n) (hl : X.env.kindOf n = some .local) (hc : Names X x c) (tk : Takes X Wout)
    (hb : ∀ (W : WX) (pn : List (Addr × Obj)) (xe : Value → Shared → Prop), Takes (X.tr pn xe) W → PassesOwn (model X.prog X.w) X.A X.env xe → PSs (X.tr pn xe) body (tb W))
    (hsu : ∀ (a : Addr) (cls : Value) (d : Option Addr), PSs (Cx.suiteT X a) (b₀ :: suite) (ts a cls d)) :
    PS X (.Try body [.ExceptHandler (some (.Name x np)) (some n) (b₀ :: suite) hpos] [] [] pos) (fun D σ H => tb (wAsT X.K c i ts Wout D) D σ H) := by
  refine ⟨fun pins s0 σ0 H0 D I0 h0 => ?_⟩
  have xok := I0.ok
  have frA : X.A.frames = some (X.env :: X.outer) := xok.frames.trans (congrArg some e1)
  refine wpAny_Try_except ?_
  have run := (hb (wAsT X.K c i ts Wout D) (X.pn ++ pins) (fun e s₁ => wpAny (model X.prog X.w) X.A (noteFrame e X.env) (fun _ s₂ => wpAny (model X.prog X.w) X.A (setFlight e none) (fun _ s₃ =>
      wpAny (model X.prog X.w) X.A (handleBy e X.env [.ExceptHandler (some (.Name x np)) (some n) (b₀ :: suite) hpos]) (SP X pins D) X.xe s₃) X.xe s₂) X.xe s₁) (fun u sx caught => ?_) PassesOwn.looking).run [] s0 σ0 H0 D (I0.toTry _) h0
  · refine wpAny_mono run (fun fl s1 end_ => ?_) (fun e s1 he => he)
    cases fl with
    | next =>
      obtain ⟨σ1, H1, J, q⟩ := end_
      exact wpAny_execs_nil ⟨σ1, H1, J.ofTry xok, q⟩
    | brk => obtain ⟨σ1, H1, J, q⟩ := end_; exact ⟨σ1, H1, J.ofTry xok, q⟩
    | cont => obtain ⟨σ1, H1, J, q⟩ := end_; exact ⟨σ1, H1, J.ofTry xok, q⟩
    | ret v => obtain ⟨y, σ1, H1, J, r, q⟩ := end_; exact ⟨y, σ1, H1, J.ofTry xok, r, q⟩
  · obtain ⟨a, B, sI, pins1, σ1, H1, cls, d, rfl, J1, nb, up, sky, na, os, ag, b, hb1, no, yes⟩ := caught
    have J : Inv X pins σ1 H1 sI := J1.ofTry xok
    have sky1 : Sky B (X.env :: X.outer) a (Zc cls d) X.env.locals sx.heap := e1 ▸ sky
    show wpAny (model X.prog X.w) X.A (noteFrame (.ref a) X.env) _ _ _
    refine Sky.land Zc.steady frA e2 sky1 fun h3 fly up3 => ?_
    have J3 : Inv X pins σ1 H1 { sx with heap := h3 } := J.landed nb fly.1 (up.trans up3) os ag
    obtain ⟨o3, vs3, get3, z3, dat3⟩ := fly.there
    have off : a ∉ frs (X.env :: X.outer) := fun hm => by
      obtain ⟨_, ob, q, nf⟩ := fly.2.2.1.mem hm
      rw [get3] at q
      cases q
      exact nf _ dat3
    have newA : sI.heap.get? a = none := by
      cases q : sI.heap.get? a with
      | none => rfl
      | some ob =>
        have q2 := nb a ob q (by rw [e1]; exact off)
        rw [fly.2.1] at q2
        cases q2
    refine wpAny_handleBy_cons (codeAny_handlers_test ?_) (fun z => nomatch z)
    have look : PySem.W.Looks (model X.prog X.w) h3 (typeOf (.ref a)) cls := fun A' Q' E' s' k q => wpAny_typeOf_ref (k _ _ get3) (by rw [z3.1]; exact q)
    have meets := PySem.W.exm_one (M := model X.prog X.w) (J3.kIn) look hb1
    have named : ∀ {Q : Value → Shared → Prop} {E : Value → Shared → Prop}, Q c { sx with heap := h3 } → wpAny (model X.prog X.w) (X.A.mark (some (.ref a))) (eval (.Name x np) X.env) Q E { sx with heap := h3 } := fun {Q E} q => by
      obtain ⟨g1, g2, g3 | ⟨g3, g4, g5⟩⟩ := hc
      · exact ld_glob (X := Cx.suiteT X a) (Inv.suiteT J3 a) g1 g3 q g2
      · exact ld_blt (X := Cx.suiteT X a) (Inv.suiteT J3 a) g1 g3 g4 q g5 g2
    refine named (meets.here ?_)
    cases b with
    | false =>
      show wpAny _ X.A (handleBy (.ref a) X.env []) _ _ _
      refine wpAny_handleBy_nil ?_
      obtain ⟨_, _, _, oe, vs, Tb, oT, tvs, g1, g2, g3, g4, _⟩ := id fly
      unfold PySem.passOn
      refine wpAny_bind (wpAny_field g1 g3 g4 ?_)
      rw [if_neg (show ¬ ((Value.ref Tb == Value.none) = true) from by simp)]
      have on : wpAny (model X.prog X.w) X.A (setFlight (.ref a) X.env.frame) (fun _ s4 => wpAny (model X.prog X.w) X.A (throw (.ref a) : PySem.Sem Flow) (SP X pins D) X.xe s4) X.xe { sx with heap := h3 } := by
        rw [e2]
        exact HandSPX.setFlight_upZ fly fun h4 held up4 => wpAny_throw (tk _ _ ⟨a, B, sI, pins, σ1, H1, cls, d, rfl, J, nb, (up.trans up3).trans up4, .inr (.inr (by rw [e1]; exact held)), na, os, ag, no rfl⟩)
      first
        | exact wpAny_bind (wpAny_pure (wpAny_bind on))
        | exact wpAny_bind on
    | true =>
      refine codeAny_handlers_suite_as (HandSPX.lands_againZ fly fun h4 fly4 up4 => ?_)
      obtain ⟨o4, vs4, get4, z4, dat4⟩ := fly4.there
      have J4 : Inv X pins σ1 (upd H1 a (ExC cls d a)) { sx with heap := h4 } :=
        Inv.landedT (sx := { sx with heap := h4 }) J nb fly4.1 ((up.trans up3).trans up4) os ag newA na (exC_ok (h := h4) get4 z4 dat4)
      have loc : Loc X.env.scope n := .inl hl
      refine store_ok (X := Cx.suiteT X a) (v := .ref a) (Inv.suiteT J4 a) nd hi loc rfl (fun s5 S5 => ?_) (.inr hl)
      refine wpAny_mono ((hsu a cls d).run pins s5 _ _ _ S5 (yes rfl a na)) (fun fl s6 en => ?_) (fun _ _ z => False.elim z)
      have fin : ∀ {σ6 : L2.St} {H6 : Hp} {Q : Shared → Prop}, Inv (Cx.suiteT X a) pins σ6 H6 s6 → (∀ s7, Inv X pins (σ6.set i none) H6 s7 → Q s7) →
          wpAny (model X.prog X.w) X.A (do bindName X.env n .none; unbindBehindTheSuite X.env n hpos) (fun _ s7 => Q s7) X.xe s6 := fun {σ6 H6 Q} S6 hq => gone_ok (Inv.unsuiteT xok S6) nd hi hl hq
      cases fl with
      | next => obtain ⟨σ6, H6, S6, q⟩ := en; exact fin S6 fun s7 J7 => ⟨_, _, J7, q⟩
      | brk => obtain ⟨σ6, H6, S6, q⟩ := en; exact fin S6 fun s7 J7 => ⟨_, _, J7, q⟩
      | cont => obtain ⟨σ6, H6, S6, q⟩ := en; exact fin S6 fun s7 J7 => ⟨_, _, J7, q⟩
      | ret u => obtain ⟨y, σ6, H6, S6, r, q⟩ := en; exact fin S6 fun s7 J7 => ⟨_, _, _, J7, r, q⟩
end
end VS

set_option Elab.async false
set_option linter.all false
set_option maxRecDepth 100000
set_option maxHeartbeats 2000000
/-! VW18: raise X('..'); a def that calls what it gets under a try, handed a lambda. -/
namespace VS
open PySem PySem.Spec PyProof.Rows L2
/-! ### raise -/
/-- an own class of errors without an __init__ of its own -/
structure ErrC (K : PySem.W.Frag) (mg : Str → Option Value) (x : Str) : Prop where
  ex : ∃ C : Addr, GlbAt K x C ∧ mg x = some (.ref C) ∧ PySem.W.excIn K C [.type "ValueError", .type "Exception", .type "BaseException", .type "object"] "ValueError.__new__" = true ∧ PySem.W.keepIn K (.ref C) = true ∧
    PySem.W.subIn K (.ref C) (.type "BaseException") = some true ∧ PySem.W.typeIn K (.ref C) = some (.type "type")
def mRaise (x : Str) : MS := fun ρ w => .ex (.exc x [] []) ρ w
theorem ds_raise {X : Cx} {Z : List (Addr × Str)} {W : Option WX} {x m : Str} {j : Nat} {p p2 pos rpos : Pos} (C : ErrC X.K X.mg x) (hc : X.calm = true) (tk : TakesO X W) (hg : Gl X x := by rfl) (hdb : (x == ("__debug__" : Str)) = false := by decide) :
    PS X (.Raise (some (.Call (.Name x p) [.Constant (.str m) j p2] [] pos)) none rpos) (rdS (X.K, Z) W (mRaise x)) := by
  obtain ⟨C, g, hm, xc, kp, sub, ty⟩ := C.ex
  cases W with
  | none => exact PS_imp ps_never fun D σ H => by rintro ⟨hd, φ, ρ, w, sr, wr, p⟩; exact p.elim
  | some W =>
    refine PS_imp (ps_raise hc tk (pmk_own PySem.F.excBase_ValueError xc hm kp (raises_own sub ty) hg hdb)) fun D σ H => ?_
    rintro ⟨hd, φ, ρ, w, sr, wr, p⟩
    exact p H φ σ Ext.refl wr sr _ _ ⟨x, [], [], C, rfl, rfl, g, .inl ⟨rfl, rfl, rfl⟩⟩
/-! ### the def that calls what it gets -/
/-- its words -/
abbrev caughtB (S : Str) (p1 p2 p3 p4 p5 p6 p7 p8 p9 p10 p11 p12 p13 p14 : Pos) (j : Nat) : List Stmt :=
  [.Assign [.Name "caught" p1] (.Constant .none j p2) p3,
   .Try [.Expr (.Call (.Name "work" p4) [] [] p5) p6] [.ExceptHandler (some (.Name S p7)) (some "error") [.Assign [.Name "caught" p8] (.Name "error" p9) p10] p11] [] [] p12,
   .Return (some (.Name "caught" p13)) p14]
structure CaughtT (st : Stmt) (S : Str) : Prop where
  sc : FnScope ["work", "caught", "error"] ["work"] (defScope st)
  lw : (defScope st).names.lookup ("work" : Str) = some .local
  lc : (defScope st).names.lookup ("caught" : Str) = some .local
  le : (defScope st).names.lookup ("error" : Str) = some .local
  ls : (defScope st).names.lookup S = some .globalImplicit
  hd : (S == ("__debug__" : Str)) = false
  body : ∃ p1 p2 p3 p4 p5 p6 p7 p8 p9 p10 p11 p12 p13 p14 j, defBody st = caughtB S p1 p2 p3 p4 p5 p6 p7 p8 p9 p10 p11 p12 p13 p14 j
theorem takes_len {X : Cx} {W : WX} (t : Takes X W) : Takes X (fun cls d σ H => σ.length = X.N.length → W cls d σ H) := fun u s' ⟨a, B, sI, pins, σ, H, cls, d, e, I, nb, up, sky, na, os, ag, w⟩ =>
  t u s' ⟨a, B, sI, pins, σ, H, cls, d, e, I, nb, up, sky, na, os, ag, w I.len⟩
/-- told of what it is handed: nothing raised, or the error -/
def TTc (K : PySem.W.Frag) (CS : Addr) : (XK → Hp → VK → Prop) → Hp → VK → Prop := fun tl H Q =>
  tl (fun cls d H' => PySem.W.exmOne K cls (.ref CS) = some true ∧ ∀ a, H' a = none → Q (.ref a) (upd H' a (ExC cls d a))) H fun _ H' => Q .non H'
/-- a reading with a wish of its own -/
theorem PE_up {X : Cx} {e : Expr} {t : TE} (h : PE X e t) : PE X e (fun σ H Q => ∃ Q' : VK, t σ H Q' ∧ ∀ v H', Q' v H' → Q v H') := ⟨fun pins s σ H Q I ⟨Q', h1, h2⟩ =>
  wpAny_mono (h.run pins s σ H Q' I h1) (fun u s1 ⟨v, H1, I1, r1, q1⟩ => ⟨v, H1, I1, r1, h2 v H1 q1⟩) fun _ _ z => z⟩
theorem caught_gives {X : Cx} {st : Stmt} {S q : Str} {g CS : Addr} {cdg : Value} (T : CaughtT st S) (hm : X.mg S = some (.ref CS)) : LamX.GivesTo X ["work", "caught", "error"] "_law_caught" (defScope st) g cdg (defBody st) "work" q (TTc X.K CS) := by
  obtain ⟨p1, p2, p3, p4, p5, p6, p7, p8, p9, p10, p11, p12, p13, p14, j, hB⟩ := T.body
  intro f c' s H Q tl act hc h
  rw [hB]
  refine ⟨_, pss_cons (ps_set (i := 1) T.sc.nd rfl (.inl T.lc) pe_non (by rfl) (.inr T.lc)) (pss_cons (ps_try_asT (i := 2) (c := .ref CS) (Wout := fun _ _ _ _ => False)
      (tb := fun W D σ H => ∃ Ech : XK, (∀ cls d (σ' : L2.St) H', Ech cls d H' → σ'.length = 3 → W cls d σ' H') ∧ ∃ Q' : VK, (σ[0]? = some (some (.ref f)) ∧ H c' = some (LamX.CodeO c' q) ∧ tl Ech H Q') ∧ ∀ v H1, Q' v H1 → D.nx σ H1)
      (ts := fun a cls d => tAsg (tVar 2) (gName 1)) rfl rfl T.sc.nd rfl T.le ⟨T.ls, T.hd, .inl hm⟩ takes0 (fun W pn xe tk _ => ?_) (fun a cls d => ?_)) (pss_one (ps_ret (pe_var (i := 1) rfl (.inl T.lc))))), ?_⟩
  · refine ⟨fun pins s' σ H' D I h' => ?_⟩
    obtain ⟨Ech, hW, h1⟩ := h'
    have hp := act _ pn xe Ech p4 p5 (takes_len tk) (fun cls d σ' H' e hl => hW cls d σ' H' e hl)
    exact (pss_one (ps_expr (PE_up hp) (by rfl))).run pins s' σ H' D I h1
  · exact pss_one (ps_set (i := 1) T.sc.nd rfl (.inl T.lc) (pe_var (i := 2) rfl (.inl T.le)) (by rfl) (.inr T.lc))
  · refine ⟨fun cls d H' => PySem.W.exmOne X.K cls (.ref CS) = some true ∧ ∀ a, H' a = none → Q (.ref a) (upd H' a (ExC cls d a)), fun cls d σ' H' hE hl => ⟨true, hE.1, (fun z => nomatch z), fun _ a ha => ?_⟩, _, ⟨rfl, hc, h⟩, fun _ H1 hq => ⟨_, rfl, hq⟩⟩
    match σ', hl with
    | [x, y, z], _ => exact ⟨_, rfl, _, rfl, hE.2 a ha⟩
end VS

set_option Elab.async false
set_option linter.all false
set_option maxRecDepth 100000
set_option maxHeartbeats 2000000
/-! VW19: _law_caught(lambda: e); isinstance of an error. -/
namespace VS
open PySem PySem.Spec PyProof.Rows L2
/-- a def's code object and its table, in which the lambdas of the name q are kept -/
structure LamAt (Z : List (Addr × Str)) (base : Heap) (mg : Str → Option Value) (cd : Value) (q : Str) : Prop where
  ex : ∃ c P, cd = .ref c ∧ LamX.TabB base mg c P ∧ (P, q) ∈ Z ∧ ∀ p ∈ Z, p.1 = P → p.2 = q
/-- the def that calls what it gets under a try; cs: the errors that it catches -/
structure CaughtD (K : PySem.W.Frag) (mg : Str → Option Value) (cs : List Str) : Prop where
  ex : ∃ (st : Stmt) (S : Str) (g CS : Addr) (oc : Value) (od an : Option Addr) (sl : Array (Option Value)) (kV dc pm cd ct : Value), CaughtT st S ∧ mg "_law_caught" = some (.ref g) ∧ PySem.W.keepIn K (.ref g) = true ∧
    K.lookup g = some ⟨oc, od, .func (PySem.W.fnOf "_law_caught" "_law_caught" (defArgs st) (defBody st) (defScope st) .none kV dc pm an cd ct), sl⟩ ∧ PySem.W.codeIn K cd "_law_caught" = true ∧
    L2.Binds K (PySem.W.fnOf "_law_caught" "_law_caught" (defArgs st) (defBody st) (defScope st) .none kV dc pm an cd ct) ["work"] [] ∧ mg S = some (.ref CS) ∧ ∀ x ∈ cs, ∀ C, GlbAt K x C → PySem.W.exmOne K (.ref C) (.ref CS) = some true
def mCaught (cs : List Str) (m : ME) : ME := fun ρ w => match m ρ w with
  | .ok _ w' => .ok .non w'
  | .ex (.exc x ks ts) _ w' => if x ∈ cs then .ok (.exc x ks ts) w' else .no
  | _ => .no
theorem rep_exc {K : KT} {hd φ : List Addr} {H : Hp} {w : World} {x : Str} {ks : List Str} {ts : List T} {cls : Value} {d : Option Addr} {a : Addr} (wr : WR K hd φ H w) (h : RepX K hd φ H (.exc x ks ts) cls d) (ha : H a = none) :
    Ext hd φ H hd φ (upd H a (ExC cls d a)) ∧ WR K hd φ (upd H a (ExC cls d a)) w ∧ Rep K hd φ (upd H a (ExC cls d a)) (.exc x ks ts) (.ref a) := by
  have e : Ext hd φ H hd φ (upd H a (ExC cls d a)) := Ext.new ha
  refine ⟨e, wr.new ha, ?_⟩
  obtain ⟨x', ks', ts', C, e1, e2, g, q⟩ := h
  cases e1
  subst e2
  unfold Rep
  refine ⟨a, C, d, rfl, g, ⟨upd_same, wr.nin ha⟩, ?_⟩
  rcases q with q | ⟨dd, vs, e3, l, n, r⟩
  · exact .inl q
  · exact .inr ⟨dd, vs, e3, l, n.mono e (fun _ z => nomatch z), r.mono e⟩
theorem de_caught {X : Cx} {Z : List (Addr × Str)} {W : Option WX} {cs : List Str} {m : ME} {k : Nat} {params : Arguments} {body : Expr} {scope : Scope} {p lpos pos : Pos} (D : CaughtD X.K X.mg cs) (L : LamAt Z X.base X.mg X.env.code (X.env.qual ++ "<lambda>")) (hr : Room (k + 2) X.A)
    (hbody : ∀ (A : Around) (outer : List PySem.Env) (s : Shared) (H : Hp) (E : XK) (f c' : Addr), Room k (A.deeper (LamX.lamEnv X scope s.heap.objs.size f c')) → TakesO (LamX.lamCx X A outer s H E scope f c') (some fun cls d _ H => E cls d H) →
      PE (LamX.lamCx X A outer s H E scope f c') body (rdE (X.K, Z) (some fun cls d _ H => E cls d H) m))
    (LS : LamX.lamSB X.env.scope scope = true := by decide +kernel) (hg : Gl X "_law_caught" := by rfl) (hdef : defaultsOf params X.env = ([], []) := by rfl)
    (hbind : ∀ (q : Str) (cl : List (Str × Addr)) (pm cv ctv : Value), bindArgs (PySem.W.kla_fn "<lambda>" q params body scope cl pm cv ctv) ⟨[], []⟩ = pure [] := by intro _ _ _ _ _; rfl) :
    PE X (.Call (.Name "_law_caught" p) [.Lambda params body scope lpos] [] pos) (rdE (X.K, Z) W (mCaught cs m)) := by
  obtain ⟨st, S, g, CS, oc, od, an, sl, kV, dc, pm, cd, ct, T, hm, kp, lk, hcd, hb, hS, hx⟩ := D.ex
  obtain ⟨c, P, hcode, TB, mZ, uZ⟩ := L.ex
  refine PE_imp (LamX.pe_lamcall (T := Z) (TT := TTc X.K CS) (t := fun E => rdE (X.K, Z) (some fun cls d _ H => E cls d H) m) hg hm kp lk hcd hb T.sc rfl (.inl T.lw) (caught_gives T hS) TB hcode mZ uZ hr (LamX.lamS_by LS) hdef hbind
    (fun A outer s H E f c' hr' => hbody A outer s H E f c' hr' (show Takes _ _ from takes_of rfl rfl rfl rfl))) fun σ H Q => ?_
  rintro ⟨hd, φ, ρ, w, sr, wr, q⟩
  refine ⟨wr.tabs, fun H1 eN T1 => ?_⟩
  have e1 : Ext hd φ H hd φ H1 := Ext.tables eN
  have wr1 : WR (X.K, Z) hd φ H1 w := wr.tables eN T1
  refine ⟨hd, φ, ρ, w, sr.mono e1, wr1, ?_⟩
  unfold mCaught at q
  cases hq : m ρ w with
  | no => rw [hq] at q; exact q.elim
  | ok t w' =>
    rw [hq] at q
    intro H' φ' e' wr' v rv
    exact q H' φ' (e1.trans e') wr' .non (by unfold Rep; rfl)
  | ex t ρ' w' =>
    rw [hq] at q
    cases t with
    | exc x ks ts =>
      simp only at q
      split at q
      · rename_i hin
        intro H' φ' σ' e' wr' _ cls d rx
        refine ⟨?_, fun a ha => ?_⟩
        · obtain ⟨x', ks', ts', C, z1, z2, gl, _⟩ := rx
          cases z1
          subst z2
          exact hx x hin C gl
        · obtain ⟨e2, wr2, r2⟩ := rep_exc wr' rx ha
          exact q _ _ ((e1.trans e').trans e2) wr2 _ r2
      · exact q.elim
    | _ => exact q.elim
/-! ### isinstance(e, X) -/
/-- what isinstance must know of the error's class -/
structure IsE (K : PySem.W.Frag) (x : Str) : Prop where
  ex : ∀ C, GlbAt K x C → ExcC K C
theorem inst_of {H : Hp} {P : Program} {wd : PySem.World} {h : Heap} {C a : Addr} (x : ObjOk P wd H h a (ExC (.ref C) none a)) : ∃ oe, PySem.W.InstAt h a oe C none := by
  obtain ⟨⟨oe, vs, h1, h2, h3⟩, _⟩ := x
  obtain ⟨oc, od, oda, osl⟩ := oe
  obtain ⟨z1, z2⟩ := h2
  dsimp only at z1 z2 h3
  subst z1 z2 h3
  exact ⟨_, h1, rfl, rfl, trivial⟩
/-- isinstance(e, c): e a known error, c an own class -/
def rIsX (K : PySem.W.Frag) : List V → Hp → VK → Prop := fun xs H Q => ∃ (a D C : Addr) (b : Bool), xs = [.ref a, .ref C] ∧ H a = some (ExC (.ref D) none a) ∧ ExcC K D ∧ PySem.W.kitOne K (.ref D) (.ref C) = some b ∧ Q (.bl b) H
theorem call_isX {X : Cx} : CallR X (.builtin "isinstance") (rIsX X.K) := by
  intro pins s σ H xs us Q I r h
  obtain ⟨a, D, C, b, rfl, ha, EC, e, q⟩ := h
  cases r with
  | cons rx rr =>
    cases rr with
    | cons rt rr =>
      cases rr
      cases rx
      cases rt
      obtain ⟨oe, J⟩ := inst_of (I.hok a _ ha)
      exact PySem.W.kia_one (PySem.W.handS_kitx_exc EC.hg EC.hk EC.hs EC.hd EC.ha EC.hn EC.ht EC.hm) I.kIn J e (fun z => nomatch z) fun tk => ⟨.bl b, H, I.kept (t' := tk) fun _ _ z => z, rfl, q⟩
end VS

set_option Elab.async false
set_option linter.all false
set_option maxRecDepth 100000
set_option maxHeartbeats 2000000
/-! VW20: sorted(set(xs)), xs a list of ints. -/
namespace VS
open PySem PySem.Spec PyProof.Rows L2
section
variable {P : Program} {w : PySem.World} {A : Around} {E : Value → Shared → Prop} {s : Shared}
/-- a set, just made -/
abbrev emptyO (w : PySem.World) : Obj := { cls := .type "set", dict := none, data := .set #[] 0 (.fresh 0 0 (!w.params.followText "set-order")) }
set_option maxHeartbeats 4000000 in
/-- set(xs): its members are those of the list -/
theorem set_of_ints {l : Addr} {items : Array Value} (ns : List Int) {Q : Value → Shared → Prop} (nh : A.handled = none) (isl : s.heap.IsList l items) (its : IntsAre items.toList ns) (few : ns.length + 1 < scanBound)
    (k : ∀ (g : Heap) (tok n : Nat), SetR w g s.heap.objs.size (fun j => decide (j ∈ ns)) n → n ≤ ns.length → (∀ b o, s.heap.get? b = some o → g.get? b = some o) → Q (.ref s.heap.objs.size) { s with heap := g, toks := tok }) :
    wpAny (model P w) A (call (.type "set") [.ref l]) Q E s := by
  have sz : items.size = ns.length := by have q := IntsAre.length its; rwa [Array.length_toList] at q
  obtain ⟨c, tl, hmro⟩ := F.called_set.mro
  have f1 := F.called_set.made
  have f2 := F.called_set.sub
  have f3 := F.called_set.notType
  have f4 := F.called_set.canCreate
  have f5 := F.typeCall_set_1 (.ref l)
  refine wpAny_call (codeAny_of_tree ?_)
  show wpAny _ _ (callAny (.type "set") ⟨[.ref l], []⟩) _ _ _
  refine wpAny_pure ⟨Code.quiet_builtin _ (by decide +kernel), codeAny_builtin F.entry_type_call ?_⟩
  rw [Around.under_plain (weight_type_call_type "set" [.ref l] []) rfl]
  repeat (any_goals (first | assumption | wp_step))
  refine codeAny_mono (code_set_led1 (.ref l) (E := E) (Q₁ := fun obj s₁ => obj = .ref s.heap.objs.size ∧ s₁ = { s with heap := s.heap.push (emptyO w) }) ⟨rfl, rfl⟩) fun r sn hr => ?_
  match r, hr with
  | .error e, hr => exact hr
  | .ok (.ret obj), hr =>
    obtain ⟨rfl, rfl⟩ := hr
    have atS : (s.heap.push (emptyO w)).get? s.heap.objs.size = some (emptyO w) := Heap.get?_push_size _ rfl
    have tyS : Shared.TypeIs { s with heap := s.heap.push (emptyO w) } (.ref s.heap.objs.size) "set" := ⟨_, atS, rfl⟩
    have g1 := F.called_set.init.lookup
    have g2 := F.called_set.init.bind (.ref s.heap.objs.size)
    repeat (any_goals (first | assumption | wp_step))
    refine codeAny_mono (codeAny_call_builtin (R := wants (fun r sm => r = .none ∧ ∃ g tok n, sm = { s with heap := g, toks := tok } ∧ SetR w g s.heap.objs.size (fun j => decide (j ∈ ns)) n ∧ n ≤ ns.length ∧
        (∀ b o, s.heap.get? b = some o → g.get? b = some o)) E) F.called_set.init.plain F.entry_set_init (check_set_init_1 tyS ?_)) fun r2 sm hr2 => ?_
    · obtain ⟨ol, hol, hcl, nl, hdl⟩ := isl
      obtain ⟨ocls, odict, odata, oslots⟩ := ol
      simp only at hcl hdl
      subst hcl hdl
      have ltl : l < s.heap.objs.size := Heap.lt_size hol
      have hol1 : (s.heap.push (emptyO w)).get? l = some { cls := .type "list", dict := odict, data := .seq items nl, slots := oslots } := Heap.get?_push_of_some _ hol
      have isl1 : (s.heap.push (emptyO w)).IsList l items := ⟨_, hol1, rfl, nl, rfl⟩
      have n1 := F.sub_list_set
      have n2 := F.sub_list_frozenset
      have n3 : (Value.type "list" == Value.type "dict") = false := by decide
      unfold Builtin.«set.__init__» noKeywords Builtin.Frozenset.updateFrom
      generalize hPI : pyIter = PI
      wp_walk
      subst hPI
      refine wpAny_pyIter_list isl1 (wpAny_bind (wpAny_runValue ?_))
      have nh3 : A.in1.in1.in1.handled = none := by simp [nh]
      have szP : (s.heap.push (emptyO w)).objs.size = s.heap.objs.size + 1 := Heap.size_push ..
      have neI : l ≠ (s.heap.push (emptyO w)).objs.size := by rw [szP]; exact Nat.ne_of_lt (Nat.lt_succ_of_lt ltl)
      have offS : s.heap.objs.size ∉ [(s.heap.push (emptyO w)).objs.size, l] := by
        rw [szP]
        simp only [List.mem_cons, List.not_mem_nil, or_false, not_or]
        exact ⟨Nat.ne_of_lt (Nat.lt_succ_self _), Nat.ne_of_gt ltl⟩
      have vals : ∀ (i : Nat) (v : Value), items[i]? = some v → ∃ z t, ns[i]? = some z ∧ v = .int z t := fun i v hv => by
        have hi : i < ns.length := by rw [← sz]; exact (Array.getElem?_eq_some_iff.mp hv).1
        obtain ⟨t, e⟩ := PyProof.Rows.IntsAre.int_at its i v (by rw [Array.getElem?_toList]; exact hv)
        refine ⟨ns[i], t, List.getElem?_eq_getElem hi, ?_⟩
        rw [e, List.getD_eq_getElem?_getD, List.getElem?_eq_getElem hi] <;> rfl
      refine set_update_ints ((Walks.list nh3 _ l neI items).toS) s.heap.objs.size offS ns sz few vals (items.size - 0) 0 _ (by omega) (Nat.zero_le _)
        ⟨⟨_, Heap.get?_push_size _ rfl, rfl, rfl⟩, isl1.push _⟩ ⟨0, Nat.le_refl 0, setR_new_at (Heap.get?_push_of_some _ atS)⟩ ?hR
      case hR =>
        intro sx n hm hn hS
        obtain ⟨gx, g2, dx, tx, ox⟩ := sx
        have eg : g2 = s.gens := hm.gens
        have ed : dx = s.drawn := hm.drawn
        have eo : ox = s.os := hm.os
        subst eg ed eo
        show wpAny _ _ _ _ _ _
        refine wpAny_pure ?_
        show wpAny _ _ (ret Value.none) _ _ _
        refine wpAny_pure ⟨rfl, gx, tx, n, rfl, hS, by rw [← sz]; exact hn, fun b o e => ?_⟩
        have hb : b < s.heap.objs.size := Heap.lt_size e
        refine hm.heap b o ?_ (Heap.get?_push_of_some _ (Heap.get?_push_of_some _ e))
        rw [szP]
        simp only [List.mem_cons, List.not_mem_nil, or_false, not_or]
        exact ⟨Nat.ne_of_lt hb, Nat.ne_of_lt (Nat.lt_succ_of_lt hb)⟩
    · match r2, hr2 with
      | .error e, hr2 => exact hr2
      | .ok (.ret r), hr2 =>
        obtain ⟨rfl, g, tok, n, rfl, a1, a2, a3⟩ := hr2
        repeat (any_goals (first | assumption | wp_step))
        exact k _ _ _ a1 a2 a3
end
/-! ### sorted(set(xs)) -/
variable {X : Cx} {a : Expr} {pos p p2 q : Pos} {Z : List (Addr × Str)} {W : Option WX} {m0 : ME}
def tSortSet (K : PySem.W.Frag) (ta : TE) : TE := fun σ H Q => ta σ H fun x H1 => ∃ (l : Addr) (ns : List Int), x = .ref l ∧ SqL K H1 l (ns.map V.int) ∧ ns.length < 64 ∧ ∀ (ms : List Int) (b : Addr), ms.Pairwise (· < ·) → (∀ k, k ∈ ms ↔ k ∈ ns) → H1 b = none → Q (.ref b) (upd H1 b (.lst (ms.map V.int)))
theorem pe_sortSet {ta : TE} (hg : Gl X "sorted") (hm : X.mg "sorted" = none) (hg2 : Gl X "set") (hm2 : X.mg "set" = none) (ha : PE X a ta) (hc : X.calm = true := by rfl)
    (na : starEach [a] X.env = (false, eval a X.env) :: starEach [] X.env := by rfl) : PE X (.Call (.Name "sorted" p) [.Call (.Name "set" p2) [a] [] q] [] pos) (tSortSet X.K ta) := by
  refine ⟨fun pins s σ H Q I h => ?_⟩
  refine Call_ (ld_blt I hg hm (show bootBuiltins ("sorted" : Str) = some (.builtin "sorted") by decide +kernel) ?_)
  refine PyProof.Rows.callWith_builtin1 (PyProof.Rows.args_cons ?_ rfl) rfl rfl
  refine Call_ (ld_blt I hg2 hm2 boot_set ?_)
  refine PyProof.Rows.callWith_type1 (PyProof.Rows.args_cons (thn (ha.run pins s σ H _ I h) fun v s1 ⟨x, H1, I1, r1, q1⟩ => PyProof.Rows.args_nil ?_) na) na rfl
  obtain ⟨l, ns, rfl, hq, hl, q1⟩ := q1
  cases r1
  obtain ⟨its, r, pl, hz⟩ := I1.list hq
  refine set_of_ints ns (I1.ok.hd hc) pl.isList (by simpa using RZ.intsAre_vals r) (by unfold scanBound; omega) fun g tok n R hn hk => ?_
  refine PyProof.Rows.args_nil ?_
  have I2 : Inv X pins σ H1 { s1 with heap := g, toks := tok } := I1.kept hk
  refine sorted_set (s := { s1 with heap := g, toks := tok }) R (I2.ok.hd hc) (by omega) fun s' b out c ms k eg eo hp hget hi hs hm hlen => ?_
  have hn : H1 b = none := I2.hok.fresh hp
  have J : Inv X pins σ (upd H1 b (.lst (ms.map V.int))) { s1 with heap := s'.heap, gens := s'.gens, drawn := s'.drawn, toks := s'.toks } :=
    Inv.call (s := { s1 with heap := g, toks := tok }) (ch := []) I2 (Un.laid (h := g) k hp hn) (I2.hok.laid k hp ⟨by rw [List.length_map, hlen, sizeLine_eq]; omega, out.toList, c, vals_of_ints hi, hget⟩) (by rw [eg]; exact I2.bare) (fun _ z => nomatch z)
  have e : s' = { s1 with heap := s'.heap, gens := s'.gens, drawn := s'.drawn, toks := s'.toks } := by
    obtain ⟨_, _, _, _, _⟩ := s'
    simp only at eo
    subst eo
    rfl
  rw [e]
  exact ⟨.ref b, _, J, rfl, q1 ms b hs (fun j => (hm j).trans (by simp)) hn⟩
/-- the members, rising -/
def riseI (ns : List Int) : List Int := ns.foldr insI []
where insI (i : Int) : List Int → List Int
  | [] => [i]
  | j :: js => if i < j then i :: j :: js else if i = j then j :: js else j :: insI i js
theorem insI_mem {i k : Int} : ∀ {l : List Int}, k ∈ riseI.insI i l ↔ k = i ∨ k ∈ l
  | [] => by unfold riseI.insI; simp
  | j :: js => by
    unfold riseI.insI
    split
    · simp
    · split
      · rename_i h; subst h; simp
      · rw [List.mem_cons, insI_mem, List.mem_cons]
        constructor
        · rintro (h | h | h) <;> simp [h]
        · rintro (h | h | h) <;> simp [h]
theorem insI_rise {i : Int} : ∀ {l : List Int}, l.Pairwise (· < ·) → (riseI.insI i l).Pairwise (· < ·)
  | [], _ => by unfold riseI.insI; simp
  | j :: js, h => by
    unfold riseI.insI
    rw [List.pairwise_cons] at h
    split
    · rename_i hij
      rw [List.pairwise_cons, List.pairwise_cons]
      exact ⟨fun b hb => by rcases List.mem_cons.mp hb with rfl | hb; exact hij; exact Int.lt_trans hij (h.1 b hb), h⟩
    · split
      · rw [List.pairwise_cons]; exact h
      · rename_i h1 h2
        rw [List.pairwise_cons]
        refine ⟨fun b hb => ?_, insI_rise h.2⟩
        rcases insI_mem.mp hb with rfl | hb
        · omega
        · exact h.1 b hb
theorem rise_mem {k : Int} : ∀ {ns : List Int}, k ∈ riseI ns ↔ k ∈ ns
  | [] => by unfold riseI; simp
  | n :: ns => by
    show k ∈ riseI.insI n (riseI ns) ↔ _
    rw [insI_mem, rise_mem, List.mem_cons]
theorem rise_rise : ∀ ns : List Int, (riseI ns).Pairwise (· < ·)
  | [] => List.Pairwise.nil
  | n :: ns => insI_rise (rise_rise ns)
theorem rise_unique {as bs : List Int} (ha : as.Pairwise (· < ·)) (hb : bs.Pairwise (· < ·)) (h : ∀ k, k ∈ as ↔ k ∈ bs) : as = bs := by
  induction as generalizing bs with
  | nil =>
    cases bs with
    | nil => rfl
    | cons b bs => exact absurd ((h b).mpr List.mem_cons_self) (by simp)
  | cons a as ih =>
    cases bs with
    | nil => exact absurd ((h a).mp List.mem_cons_self) (by simp)
    | cons b bs =>
      rw [List.pairwise_cons] at ha hb
      have e : a = b := by
        rcases List.mem_cons.mp ((h a).mp List.mem_cons_self) with z | z
        · exact z
        · rcases List.mem_cons.mp ((h b).mpr List.mem_cons_self) with y | y
          · exact y.symm
          · have := hb.1 a z; have := ha.1 b y; omega
      subst e
      rw [ih ha.2 hb.2 fun k => ?_]
      have hk := h k
      rw [List.mem_cons, List.mem_cons] at hk
      constructor
      · intro z
        rcases hk.mp (.inr z) with y | y
        · have := ha.1 k z; omega
        · exact y
      · intro z
        rcases hk.mpr (.inr z) with y | y
        · have := hb.1 k z; omega
        · exact y
def mSortSet (m : ME) : MF := fun ρ w => (m ρ w).bind fun t w1 => match lst? w1 t with
  | some ts => match intsT ts with
    | some ns => if ns.length < 64 then .ok ((riseI ns).map T.int) w1 else .no
    | none => .no
  | none => .no
theorem df_sortSet (hm : X.mg "sorted" = none) (hm2 : X.mg "set" = none) (ha : PE X a (rdE (X.K, Z) W m0)) (hg : Gl X "sorted" := by rfl) (hg2 : Gl X "set" := by rfl) (hc : X.calm = true := by rfl)
    (na : starEach [a] X.env = (false, eval a X.env) :: starEach [] X.env := by rfl) : PE X (.Call (.Name "sorted" p) [.Call (.Name "set" p2) [a] [] q] [] pos) (rdF (X.K, Z) W (mSortSet m0)) := PE_imp (pe_sortSet hg hm hg2 hm2 ha hc na) fun σ H Q => by
  rintro ⟨hd, φ, ρ, w, sr, wr, p⟩
  refine ⟨hd, φ, ρ, w, sr, wr, Pst.then isPstF p fun t w1 φ1 H1 e1 wr1 p1 v rv => ?_⟩
  cases h1 : lst? w1 t with
  | none => rw [h1] at p1; exact p1.elim
  | some ts =>
    cases h2 : intsT ts with
    | none => simp only [h1, h2] at p1; exact p1.elim
    | some ns =>
      simp only [h1, h2] at p1
      split at p1
      · rename_i hl
        obtain ⟨l, xs, rfl, g1, g2⟩ := lst_at wr1 rv h1
        have e := intV_at g2 h2
        subst e
        refine ⟨l, ns, rfl, SqL.of g1, hl, fun ms b hs hm hb => ?_⟩
        have e := rise_unique hs (rise_rise ns) fun k => (hm k).trans rise_mem.symm
        subst e
        exact p1.new wr1 (reps_ints _) b hb
      · exact p1.elim
end VS

set_option Elab.async false
set_option linter.all false
set_option maxRecDepth 100000
set_option maxHeartbeats 2000000
/-! VW21: sorted(xs) of data that can be compared, xs a list or a tuple. -/
namespace VS
open PySem PySem.Spec PyProof.Rows L2
mutual
theorem reads_in {h : Heap} : ∀ {v : Value} {d : PyData} {as : List Addr}, Reads h v d as → ∀ x ∈ as, x < h.objs.size
  | _, _, _, .none, _, hx => absurd hx (by simp)
  | _, _, _, .bool _, _, hx => absurd hx (by simp)
  | _, _, _, .int _ _, _, hx => absurd hx (by simp)
  | _, _, _, .str _ _, _, hx => absurd hx (by simp)
  | _, _, _, .list h1 _ _ h4, x, hx => by
    rcases List.mem_cons.mp hx with rfl | hx
    · exact Heap.lt_size h1
    · exact readsAll_in h4 x hx
  | _, _, _, .tuple h1 _ _ h4, x, hx => readsAll_in h4 x hx
  | _, _, _, .dict h1 _ _ h4 h5, x, hx => by
    rcases List.mem_append.mp hx with hx | hx
    · rcases List.mem_cons.mp hx with rfl | hx
      · exact Heap.lt_size h1
      · exact readsAll_in h4 x hx
    · exact readsAll_in h5 x hx
theorem readsAll_in {h : Heap} : ∀ {vs : List Value} {ds : List PyData} {as : List Addr}, ReadsAll h vs ds as → ∀ x ∈ as, x < h.objs.size
  | _, _, _, .nil, _, hx => absurd hx (by simp)
  | _, _, _, .cons h1 h2, x, hx => by
    rcases List.mem_append.mp hx with hx | hx
    · exact reads_in h1 x hx
    · exact readsAll_in h2 x hx
end
section
variable {prog : Program} {w : PySem.World} {A : Around} {E : Value → Shared → Prop} {s : Shared} {β : Type} {R : Value → β → Prop} {enc : β → PyData} {vs : List Value} {bs : List β}
/-- sorted(xs), xs a list or a tuple -/
theorem sorted_seq {it : Addr} {ty : String} {o : Obj} {items : Array Value} {n : Nat} {Q : Value → Shared → Prop} (hT : ty = "list" ∨ ty = "tuple") (ho : s.heap.get? it = some o) (hc : o.cls = .type ty) (hd : o.data = .seq items n) (hi : items.toList = vs)
    (e : PySem.W.EachIs R vs bs) (er : PySem.W.EachIs (fun v b => ∃ as, Reads s.heap v (enc b) as) vs bs) (hal : PySem.W.AllAlike (bs.map enc)) (hk : PySem.W.Sortable (bs.map enc)) (hL : bs.length ≤ sizeLine)
    (hu : ∀ b, b ∈ bs → A.units + 2 + (enc b).depth < cLine)
    (k : ∀ (g : Heap) (p : Addr) (out : List Value) (ep : Nat), s.heap.get? p = none → (∀ b u, s.heap.get? b = some u → g.get? b = some u) → PySem.W.EachIs R out (bs.mergeSort (PySem.W.dataLe false enc)) → out.length = bs.length → g.get? p = some (seqObj "list" out.toArray ep) → Q (.ref p) { s with heap := g }) :
    wpAny (model prog w) A (call (.builtin "sorted") [.ref it]) Q E s := by
  have hlv : vs.length = bs.length := e.length
  refine Calls.call_function_entry kind_sorted plain_sorted entry_sorted (args_sorted1 _) ?_
  unfold Builtin.«sorted»
  refine wpAny_bind (m := checkCount "sorted" 1 1 _) (wpAny_pure ?_)
  refine wpAny_bind (wpAny_collect_seq it hT ho hc hd (fun g kg => ?_) (by rw [← Array.length_toList, hi, hlv]; exact hL))
  rw [hi]
  refine wpAny_bind (wpAny_newList ?_ (by rw [hlv]; exact hL))
  refine wpAny_bind (wpAny_holding ?_)
  have new : (g.push (seqObj "list" vs.toArray 0)).get? g.objs.size = some (seqObj "list" vs.toArray 0) := Heap.get?_push_size _ rfl
  have kept : ∀ b u, s.heap.get? b = some u → (g.push (seqObj "list" vs.toArray 0)).get? b = some u := fun b u q => Heap.get?_push_of_some _ (kg b u q)
  have gone : s.heap.get? g.objs.size = none := by
    cases q : s.heap.get? g.objs.size with
    | none => rfl
    | some u => exact absurd (Heap.lt_size (kg _ u q)) (Nat.lt_irrefl _)
  have er2 : PySem.W.EachIs (fun v b => ∃ as, Reads (g.push (seqObj "list" vs.toArray 0)) v (enc b) as ∧ g.objs.size ∉ as) vs bs := er.mono fun v b ⟨as, r⟩ =>
    ⟨as, PyProof.Rows.Reads.keeps kept r, fun hm => absurd (reads_in (PyProof.Rows.Reads.keeps kg r) _ hm) (Nat.lt_irrefl _)⟩
  refine PySem.W.list_sort_data (s := { s with heap := g.push (seqObj "list" vs.toArray 0) }) (n := 0) new e er2 hal hk hL hu fun out hl ho' => ?_
  show wpAny _ _ (ret (Value.ref g.objs.size)) _ _ _
  obtain ⟨ep, at_⟩ := sortedHeap_at (vs := vs) (out := out.toArray) new
  refine wpAny_pure ⟨_, rfl, k _ _ out ep gone (fun b u q => ?_) ho' hl at_⟩
  have hb : b < g.objs.size := Heap.lt_size (kg b u q)
  rw [sortedHeap_old (Nat.ne_of_lt hb) (by show b < (g.push _).objs.size; rw [Heap.size_push]; exact Nat.lt_succ_of_lt hb)]
  exact kept b u q
end
end VS

set_option Elab.async false
set_option linter.all false
set_option maxRecDepth 100000
set_option maxHeartbeats 2000000
/-! VW22: the module's classes; isinstance of an error by a table; the walk. -/
namespace VS
open PySem PySem.Spec PyProof.Rows L2
/-! ### a name of the module as a value -/
structure GlbD (K : PySem.W.Frag) (mg : Str → Option Value) (x : Str) : Prop where
  ex : ∃ a, mg x = some (.ref a) ∧ GlbAt K x a
theorem de_glb {X : Cx} {Z : List (Addr × Str)} {W : Option WX} {x : Str} {pos : Pos} (g : GlbD X.K X.mg x) (hg : Gl X x := by rfl) (hd : (x == ("__debug__" : Str)) = false := by decide) : PE X (.Name x pos) (rdE (X.K, Z) W (mC (.glb x))) := by
  obtain ⟨a, h1, h2⟩ := g.ex
  refine PE_imp (pe_glob hg h1 (v := .ref a) rfl hd) fun σ H Q => ?_
  rintro ⟨hd, φ, ρ, w, sr, wr, p⟩
  exact p.ok wr _ (by unfold Rep; exact ⟨a, rfl, h2⟩)
/-! ### own classes of errors -/
/-- what the written part says of the class x -/
structure ClsAt (K : PySem.W.Frag) (x : Str) (C : Addr) : Prop where
  c1 : PySem.W.nsIn K mainGlobals x = some (some (.ref C))
  c2 : PySem.W.keepIn K (.ref C) = true
  c3 : PySem.W.subIn K (.ref C) (.type "BaseException") = some true
  c4 : PySem.W.typeIn K (.ref C) = some (.type "type")
  c5 : PySem.W.hasDictIn K C = true
  c6 : PySem.W.isClsIn K C = true
  c7 : PySem.W.findIn K (.ref C) "__getattribute__" = some (some (.builtin "BaseException.__getattribute__"))
  c8 : PySem.W.findIn K (.ref C) "__getattr__" = some none
  c9 : PySem.W.findIn K (.ref C) "__class__" = some (some (.builtin "object.__class__"))
  c10 : PySem.W.mroIn K C (.type "object") = some true
  c11 : PySem.W.subIn K (.ref C) (.ref C) = some true
/-- what it says of an object's class -/
structure ObjG (K : PySem.W.Frag) : Prop where
  o1 : PySem.W.specialIn K (.builtin "object.__class__") "__get__" = some (some (.builtin "getset_descriptor.__get__"))
  o2 : PySem.W.takesIn K (.builtin "object.__class__") = some true
section
variable {K : PySem.W.Frag} {mg : Str → Option Value} {h : Heap} {x y : Str} {C D : Addr} {b : Bool}
theorem ClsAt.glb (q : ClsAt K x C) (X : K.In h) (G : h.Ns mainGlobals mg) : GlbD K mg x := ⟨C, PySem.W.mg_of X G q.c1, q.c1⟩
theorem At.glb {st : Stmt} {cd : Value} (a : At K x st cd) (X : K.In h) (G : h.Ns mainGlobals mg) : GlbD K mg x := by
  obtain ⟨f, _, _, _, _, _, _, _, _, h1, _⟩ := a.ex
  exact ⟨f, PySem.W.mg_of X G h1, h1⟩
theorem ClsAt.err (q : ClsAt K x C) (X : K.In h) (G : h.Ns mainGlobals mg) (e : PySem.W.excIn K C [.type "ValueError", .type "Exception", .type "BaseException", .type "object"] "ValueError.__new__" = true) : ErrC K mg x :=
  ⟨C, q.c1, PySem.W.mg_of X G q.c1, e, q.c2, q.c3, q.c4⟩
theorem ClsAt.exc (q : ClsAt K x C) (o : ObjG K) : ExcC K C := ⟨q.c7, q.c8, q.c3, q.c5, q.c9, o.o1, o.o2, q.c10⟩
theorem ClsAt.kit {t : Value} (q : ClsAt K x C) (s : PySem.W.subIn K t (.ref C) = some b) : PySem.W.kitOne K t (.ref C) = some b := by
  unfold PySem.W.kitOne
  split
  · rename_i e
    have e2 : t = .ref C := by
      cases t with
      | ref a => exact congrArg Value.ref (by simpa using e)
      | _ => exact absurd e (by first | decide | (intro z; cases z) | simp)
    subst e2
    exact q.c11.symm.trans s
  · unfold PySem.W.kitCls
    have e : ((PySem.W.clsIn K C).isSome && PySem.W.typeIn K (.ref C) == some (.type "type")) = true := by
      have := q.c6
      unfold PySem.W.isClsIn at this
      rw [this, q.c4]
      rfl
    simp only [e, if_true]
    exact s
theorem ClsAt.caught (q : ClsAt K x C) (S : ClsAt K y D) (s : PySem.W.subIn K (.ref C) (.ref D) = some true) : ∀ C', GlbAt K x C' → PySem.W.exmOne K (.ref C') (.ref D) = some true := fun C' g => by
  have e : C' = C := GlbAt.inj g q.c1
  subst e
  exact PySem.W.exm_ref S.c3 S.c5 S.c4 s
theorem caughtD_mk {st : Stmt} {cd : Value} {S : Str} {CS : Addr} {cs : List Str} (a : At K "_law_caught" st cd) (X : K.In h) (G : h.Ns mainGlobals mg) (T : CaughtT st S) (q : ClsAt K S CS) (hx : ∀ x ∈ cs, ∀ C, GlbAt K x C → PySem.W.exmOne K (.ref C) (.ref CS) = some true)
    (hb : ∀ (kV doc pm : Value) (an : Option Addr) (cdv ct : Value) (us : List Value), us.length = 1 → bindArgs (PySem.W.fnOf "_law_caught" "_law_caught" (defArgs st) (defBody st) (defScope st) .none kV doc pm an cdv ct) ⟨us, []⟩ = pure ([("work" : Str)].zip us)) : CaughtD K mg cs := by
  obtain ⟨f, oc, od, an, sl, kV, dc, pm, ct, h1, h2, h3, h4⟩ := a.ex
  exact ⟨st, S, f, CS, oc, od, an, sl, kV, dc, pm, cd, ct, T, PySem.W.mg_of X G h1, h4, h2, h3, (fun_mk (st := st) h2 h3 h4).binds hb, PySem.W.mg_of X G q.c1, hx⟩
end
/-! ### isinstance of an error, by a table -/
def lookB : List (Str × Str × Bool) → Str → Str → Option Bool
  | [], _, _ => none
  | (a, b, v) :: r, x, c => if a = x ∧ b = c then some v else lookB r x c
/-- a row: the class of the error ("" for None), the class asked of, the answer -/
def IsRow (K : PySem.W.Frag) (r : Str × Str × Bool) : Prop := ∃ C, GlbAt K r.2.1 C ∧ if r.1 = "" then PySem.W.kitOne K (.type "NoneType") (.ref C) = some r.2.2 else ∃ D, GlbAt K r.1 D ∧ ExcC K D ∧ PySem.W.kitOne K (.ref D) (.ref C) = some r.2.2
structure IsTab (K : PySem.W.Frag) (tab : List (Str × Str × Bool)) : Prop where
  rows : ∀ r ∈ tab, IsRow K r
theorem lookB_mem : ∀ {tab : List (Str × Str × Bool)} {x c : Str} {b : Bool}, lookB tab x c = some b → (x, c, b) ∈ tab
  | [], x, c, b, h => by cases h
  | (a, d, v) :: r, x, c, b, h => by
    unfold lookB at h
    split at h
    · rename_i e
      obtain ⟨rfl, rfl⟩ := e
      cases h
      exact List.mem_cons_self
    · exact List.mem_cons_of_mem _ (lookB_mem h)
theorem isTab_nil {K : PySem.W.Frag} : IsTab K [] := ⟨fun r h => by cases h⟩
theorem isTab_cons {K : PySem.W.Frag} {x c : Str} {b : Bool} {C D : Addr} {tab : List (Str × Str × Bool)} (o : ObjG K) (q : ClsAt K x D) (p : ClsAt K c C) (s : PySem.W.subIn K (.ref D) (.ref C) = some b) (r : IsTab K tab) (hx : ¬ x = "" := by decide) : IsTab K ((x, c, b) :: tab) := ⟨fun u hu => by
  rcases List.mem_cons.mp hu with rfl | hu
  · refine ⟨C, p.c1, ?_⟩
    rw [if_neg hx]
    exact ⟨D, q.c1, q.exc o, p.kit s⟩
  · exact r.rows u hu⟩
theorem isTab_none {K : PySem.W.Frag} {c : Str} {b : Bool} {C : Addr} {tab : List (Str × Str × Bool)} (p : ClsAt K c C) (s : PySem.W.subIn K (.type "NoneType") (.ref C) = some b) (r : IsTab K tab) : IsTab K (("", c, b) :: tab) := ⟨fun u hu => by
  rcases List.mem_cons.mp hu with rfl | hu
  · refine ⟨C, p.c1, ?_⟩
    rw [if_pos rfl]
    exact p.kit s
  · exact r.rows u hu⟩
def sIsX (tab : List (Str × Str × Bool)) : SC := fun ds w => match ds with
  | [.exc x [] _, .glb c] => if x = "" then .no else match lookB tab x c with
    | some b => .ok (.bl b) w
    | none => .no
  | [.non, .glb c] => match lookB tab "" c with
    | some b => .ok (.bl b) w
    | none => .no
  | _ => .no
/-- isinstance(None, c), c an own class -/
def rIsN (K : PySem.W.Frag) : List V → Hp → VK → Prop := fun xs H Q => ∃ (C : Addr) (b : Bool), xs = [.non, .ref C] ∧ PySem.W.kitOne K (.type "NoneType") (.ref C) = some b ∧ Q (.bl b) H
section
variable {X : Cx} {e e2 : Expr} {m : MF} {p pos : Pos} {Z : List (Addr × Str)} {W : Option WX} {tab : List (Str × Str × Bool)} {K : KT}
theorem call_isN : CallR X (.builtin "isinstance") (rIsN X.K) := by
  intro pins s σ H xs us Q I r h
  obtain ⟨C, b, rfl, e, q⟩ := h
  exact call_isi pins s σ H _ us Q I r ⟨.non, .ref C, .type "NoneType", .ref C, b, rfl, .own _, .base .non, e, q⟩
theorem opIsX (T : IsTab K.1 tab) : OpC K (sIsX tab) (fun xs H Q => rIsX K.1 xs H Q ∨ rIsN K.1 xs H Q) := fun W hd φ H w ds xs Q wr rx p => by
  unfold sIsX at p
  split at p
  · rename_i x ts c
    split at p
    · exact p.elim
    · rename_i hx
      cases h1 : lookB tab x c with
      | none => rw [h1] at p; exact p.elim
      | some b =>
        rw [h1] at p
        obtain ⟨v, u, rfl, r1, r2⟩ := reps2 rx
        obtain ⟨C, g1, g2⟩ := T.rows _ (lookB_mem h1)
        dsimp only at g1 g2
        rw [if_neg hx] at g2
        obtain ⟨D, g3, g4, g5⟩ := g2
        unfold Rep at r1 r2
        obtain ⟨C', rfl, g6⟩ := r2
        cases GlbAt.inj g1 g6
        obtain ⟨a, D', d, rfl, g7, g8, g9⟩ := r1
        cases GlbAt.inj g3 g7
        rcases g9 with ⟨_, _, rfl⟩ | ⟨dd, vs, rfl, l, n, rr⟩
        · exact .inl ⟨a, D, C, b, rfl, g8.1, g4, g5, p.bl wr⟩
        · exact absurd rfl l.1
  · rename_i c
    cases h1 : lookB tab "" c with
    | none => rw [h1] at p; exact p.elim
    | some b =>
      rw [h1] at p
      obtain ⟨v, u, rfl, r1, r2⟩ := reps2 rx
      obtain ⟨C, g1, g2⟩ := T.rows _ (lookB_mem h1)
      dsimp only at g1 g2
      rw [if_pos rfl] at g2
      unfold Rep at r1 r2
      obtain ⟨C', rfl, g6⟩ := r2
      cases GlbAt.inj g1 g6
      subst r1
      exact .inr ⟨C, b, rfl, g2, p.bl wr⟩
  · exact p.elim
theorem de_isX (T : IsTab X.K tab) (hm : X.mg "isinstance" = none) (ha : PA X [e, e2] (rdA (X.K, Z) W m)) (hg : Gl X "isinstance" := by rfl) (he : starEach [e, e2] X.env = (false, eval e X.env) :: starEach [e2] X.env := by rfl) (hpl : (backTo pos (starEach [e2] X.env)).any (·.1) = false := by rfl) : PE X (.Call (.Name "isinstance" p) [e, e2] [] pos) (rdE (X.K, Z) W (mCall (sIsX tab) m)) :=
  de_callB (call_isX.or call_isN) (opIsX T) hm (by decide +kernel) ha hg (by decide) (by decide) he hpl
end
end VS

set_option Elab.async false
set_option linter.all false
set_option maxRecDepth 100000
set_option maxHeartbeats 2000000
/-! VW23: the law's walk, where the law's lambdas lie in tables. -/
namespace VS
open PySem PySem.Spec PyProof.Rows L2
theorem walk_ofZ {l : PySem.W.OpenLaw} {n k : Nat} {q : Program} {loose : List Str} {XP : (Str → Option Value) → Heap → Prop} {YP : PySem.World → Heap → Prop} {d : DefRec} {K : Params → PySem.W.Frag} {CX : PySem.World → CXT} {x : Str}
    (hn : l.most = some n) (hn2 : n ≤ sizeLine) (hdf : d.params.defaults = []) (hr : Room k callerA) (hY : ∀ (w : PySem.World) (h : Heap), YP w h → (K w.params).In h)
    (F : ∀ (w : PySem.World) (mg mb : Str → Option Value) (fa : Addr) (h : Heap) (lo : List Str) (mean : ExcName → Option Value), (K w.params).In h → Top q lo mean mg mb h → mg d.name = some (.ref fa) → LamX.LawAtS l w (K w.params) (CX w) k n x mg fa h)
    (hCX : ∀ (w : PySem.World) (H : Hp) (s : Shared) (e : Value) (s' : Shared), CX w [] H s (fun _ _ _ => False) e s' → False) :
    PySem.W.WalkO q loose XP YP l.row.toRowW d [] (fun f vs => PySem.call f vs) := by
  refine Att.attach_callB hn hdf fun w s₀ s₁ mg mb fa o pm cd doc a vs ns G Y ho hd hcd hmg hobj hints hlen hbits hg => ?_
  have KX := hY w _ Y
  obtain ⟨fd, cs, sp, hT, nT, C, hb, hsp, hF⟩ := F w mg mb fa _ _ _ KX G.T hmg
  exact LamX.law_callTs KX G.T.g G.T.b G.T.builtins G.T.nolimit hg hT nT C G.T.bmain hobj hints (Nat.le_trans hlen hn2) hr hF hb (fun H hH hS => hsp H a ns hlen hbits hH hS) fun H e s' => hCX w H s₁ e s'
/-- a def's code object c and its table P, empty, in which lambdas of the name q will lie -/
structure TabAt (K : PySem.W.Frag) (h : Heap) (t : Addr × Addr × Str) : Prop where
  hd : PySem.W.CodeHd h t.1 t.2.1
  ob : h.get? t.2.1 = some { cls := .none, data := .fields #[] }
  no : K.lookup t.2.1 = none
theorem At.tab {K : PySem.W.Frag} {x : Str} {st : Stmt} {c P : Addr} {q : Str} {p : Program} {lo : List Str} {mean : ExcName → Option Value} {mg mb : Str → Option Value} {h : Heap} {e : Value} {dd : Option Addr} {vs : Array Value} {sl : Array (Option Value)}
    (a : At K x st (.ref c)) (X : K.In h) (T : Top p lo mean mg mb h) (h4 : K.lookup c = some ⟨e, dd, .fields vs, sl⟩) (h5 : vs[11]? = some (.ref P)) (nP : K.lookup P = none) (hrec : ((recsOf p).any fun e => e.name == x) = true) : TabAt K h (c, P, q) := by
  obtain ⟨f, oc, od, an, sl, kV, dc, pm, ct, h1, h2, h3, _⟩ := a.ex
  have hmg := PySem.W.mg_of X T.g h1
  obtain ⟨dL, hm, hn1⟩ := List.any_eq_true.mp hrec
  have hn2 : dL.name = x := beq_iff_eq.mp hn1
  obtain ⟨a', o', fd', c', P', g1, g2, g3, g4, g5, g6⟩ := T.tab dL hm
  rw [hn2, hmg] at g1
  cases g1
  have e1 := X _ _ h2
  rw [e1] at g2
  cases g2
  cases g3
  have e2 : c = c' := Value.ref.inj g4
  subst e2
  have g6' := g6
  obtain ⟨⟨oc, vc, k1, _, k3, k4⟩, hP⟩ := g6'
  have e3 := X _ _ h4
  rw [e3] at k1
  cases k1
  cases k3
  rw [h5] at k4
  cases k4
  exact ⟨PySem.W.CodeHd.of g5 g6, hP, nP⟩
theorem lawAt_of {l : PySem.W.OpenLaw} {w : PySem.World} {K : PySem.W.Frag} {k : Nat} {mg : Str → Option Value} {fa : Addr} {h : Heap} (tabs : List (Addr × Addr × Str)) (ht : ∀ t ∈ tabs, TabAt K h t)
    (top : ∃ fd : FuncData, (∀ (s : Shared) (u : Value), BindsTo s fd ⟨[u], []⟩ [("script", u)]) ∧ ∀ base : Heap, K.In base → base.Ns mainGlobals mg → (∀ p ∈ tabs.map (fun t => (t.1, t.2.1)), LamX.TabB base mg p.1 p.2) →
      FnOk l.prog w K mg base (L2.CX l.prog w) k fa fd ["script"] (spL K (tabs.map fun t => (t.2.1, t.2.2)))) : LamX.LawAtS l w K (L2.CX l.prog w) k 63 "script" mg fa h := by
  obtain ⟨fd, hb, hF⟩ := top
  have mem : ∀ p ∈ tabs.map (fun t => (t.1, t.2.1)), ∃ t ∈ tabs, p = (t.1, t.2.1) := fun p hp => by
    obtain ⟨t, h1, h2⟩ := List.mem_map.mp hp
    exact ⟨t, h1, h2.symm⟩
  refine ⟨fd, tabs.map (fun t => (t.1, t.2.1)), spL K (tabs.map fun t => (t.2.1, t.2.2)), fun p hp => ?_, fun p hp => ?_, fun p hp => ?_, hb, fun H a ns hl hbits hH hS => ?_, hF⟩
  · obtain ⟨t, h1, rfl⟩ := mem p hp
    exact (ht t h1).ob
  · obtain ⟨t, h1, rfl⟩ := mem p hp
    exact (ht t h1).no
  · obtain ⟨t, h1, rfl⟩ := mem p hp
    exact (ht t h1).hd
  · refine ⟨a, ns, rfl, hS, hl, fun p hp => ?_, fun _ => rfl⟩
    obtain ⟨t, h1, rfl⟩ := List.mem_map.mp hp
    exact LamX.TabS.nil (hH (t.1, t.2.1) (List.mem_map.mpr ⟨t, h1, rfl⟩))
end VS

set_option Elab.async false
set_option linter.all false
set_option maxRecDepth 100000
set_option maxHeartbeats 2000000
/-! VW24: == where a dict may stand, < of data, {} as a value, sorted data, zip. -/
namespace VEQ
open PySem PySem.SeqAt PySem.Calls PyProof.Rows
open PySem.AutoSeq1 (wpAny_loadPart')
open PySem.MeetsSeq
theorem dict_declines (l : Addr) (es : Array DictEntry) (n : Nat) (dd : Option Addr) (sl : Array (Option Value)) (b : Str) (u : Tok) :
    Meets (Builtin.«dict.__eq__» ⟨[.ref l, .str b u], []⟩) (fun _ R s => s.heap.get? l = some { cls := .type "dict", dict := dd, data := .dict es n, slots := sl } ∧ R (.ok (.ret .notImplemented)) s) :=
  .of_wp fun prog w A R s h => by obtain ⟨hp, g, d, tk, os⟩ := s; obtain ⟨hl, h⟩ := h; have f1 := F.sub_str_dict; wp_walk using wpAny_loadPart' hl; exact ⟨_, rfl, h⟩
theorem str_declines (b : Str) (u : Tok) (l : Addr) (es : Array DictEntry) (n : Nat) (dd : Option Addr) (sl : Array (Option Value)) :
    Meets (Builtin.«str.__eq__» ⟨[.str b u, .ref l], []⟩) (fun _ R s => s.heap.get? l = some { cls := .type "dict", dict := dd, data := .dict es n, slots := sl } ∧ R (.ok (.ret .notImplemented)) s) :=
  .of_wp fun prog w A R s h => by obtain ⟨hp, g, d, tk, os⟩ := s; obtain ⟨hl, h⟩ := h; wp_walk using wpAny_loadPart' hl, wpAny_load hl; exact ⟨_, rfl, h⟩
theorem dict_str {A : Around} {s : Shared} {l : Addr} {o : Obj} {es : Array DictEntry} {n : Nat} (b : Str) (u : Tok) (ho : s.heap.get? l = some o) (hc : o.cls = .type "dict") (hd : o.data = .dict es n) (hu : A.units < cLine) : RcAt A s (.ref l) (.str b u) false := fun prog w E Q h => by
  obtain ⟨cls, dd, data, sl⟩ := o
  simp only at hc hd
  subst hc hd
  exact rc_eq_decline_or (k := false) ⟨_, ho, rfl⟩ (typeIs_str s b u) (by decide) F.sub_str_dict F.slot_dict_eq F.slot_str_eq_refl
    (fun _ hq => call_meets F.slot_dict_eq ⟨_, ho, rfl⟩ F.entry_dict_eq (F.args_dict_eq_2 _ _) (dict_declines l es n dd sl b u) ⟨ho, hq⟩)
    (fun _ hq => call_meets F.slot_str_eq_refl (typeIs_str s b u) F.entry_str_eq (F.args_str_eq_2 _ _) (str_declines b u l es n dd sl) ⟨ho, hq⟩)
    (fun _ hq => wpAny_of_eq (rfl : isSame (.ref l) (.str b u) = pure false) hq) (.inr hu) h
end VEQ
namespace VS
open PySem PySem.Spec PyProof.Rows L2
section
variable {X : Cx} {K : KT} {hd φ : List Addr} {H : Hp} {w : World} {a b e : Expr} {es : List Expr} {p pos : Pos} {ma mb : ME} {m : MF} {Z : List (Addr × Str)} {W : Option WX}
/-! ### == where a dict may stand -/
def eqX (w : World) (x y : T) : Option Bool := match x, y with
  | .dct _ _, .str _ => some false
  | .tup _, .str _ => some false
  | .lst _, .str _ => some false
  | .tup ts, .tup [] => some ts.isEmpty
  | _, _ => eqT w x y
def sEqX : S2 := fun x y w => match eqX w x y with
  | some b => .ok (.bl b) w
  | none => .no
def rEqX (K : PySem.W.Frag) : R2 := fun x y H Q => rEqD K x y H Q ∨ (∃ a kvs s, x = .ref a ∧ H a = some (.dK kvs) ∧ y = .str s ∧ Q (.bl false) H) ∨ (∃ a xs s, x = .ref a ∧ (SqL K H a xs ∨ SqT K H a xs) ∧ y = .str s ∧ Q (.bl false) H) ∨ ∃ a b xs, x = .ref a ∧ y = .ref b ∧ SqT K H a xs ∧ SqT K H b [] ∧ Q (.bl xs.isEmpty) H
theorem op_eqX (hu : X.A.units + 64 < cLine) : OpR X (compareOp .Eq) (rEqX X.K) := by
  intro pins s σ H x y v u Q I rx ry h
  rcases h with h | ⟨a, kvs, t, rfl, hs, rfl, q⟩ | ⟨a, xs, t, rfl, hs, rfl, q⟩ | ⟨a, b, xs, rfl, rfl, ha, hb, q⟩
  · exact op_eqD hu pins s σ H x y v u Q I rx ry h
  · cases (show v = Value.ref a from rx)
    obtain ⟨tk, rfl⟩ := ry
    obtain ⟨_, _, va, ra, o, es, ep, ho, ⟨hc, _⟩, hd, _⟩ := (show ObjOk X.prog X.w H s.heap a (.dK kvs) from I.hok a _ hs)
    exact VEQ.dict_str t tk ho hc hd (by omega) X.prog X.w X.xe (EP X pins σ Q) ⟨.bl _, H, I, rfl, q⟩
  · cases (show v = Value.ref a from rx)
    obtain ⟨tk, rfl⟩ := ry
    rcases hs with hs | hs
    · obtain ⟨us, r1, p1, _⟩ := I.list hs
      exact SeqAt.RcAt.list_str t tk p1.isList (by omega) X.prog X.w X.xe (EP X pins σ Q) ⟨.bl _, H, I, rfl, q⟩
    · obtain ⟨us, r1, p1, _⟩ := I.tuple hs
      exact SeqAt.RcAt.tuple_str t tk p1 (by omega) X.prog X.w X.xe (EP X pins σ Q) ⟨.bl _, H, I, rfl, q⟩
  · cases (show v = Value.ref a from rx)
    cases (show u = Value.ref b from ry)
    obtain ⟨us, r1, p1, _⟩ := I.tuple ha
    obtain ⟨ws, r2, p2, _⟩ := I.tuple hb
    cases r2
    have z := SeqAt.RcAt.tuples (A := X.A) (s := s) (e := fun _ => true) p1 p2 (by omega) (fun j h1 h2 => absurd h2 (by simp)) X.prog X.w X.xe (EP X pins σ Q)
    have e : ((List.range (min us.toArray.size ([] : List Value).toArray.size)).all (fun _ => true) && us.toArray.size == ([] : List Value).toArray.size) = xs.isEmpty := by
      have l := r1.length
      cases us with
      | nil => cases xs with
        | nil => rfl
        | cons _ _ => cases l
      | cons _ _ => cases xs with
        | nil => cases l
        | cons _ _ => simp
    rw [e] at z
    exact z ⟨.bl _, H, I, rfl, q⟩
theorem opEqX : Op2 K sEqX (rEqX K.1) := fun W hd φ H w dx dy x y Q wr rx ry p => by
  unfold sEqX at p
  unfold eqX at p
  split at p
  · rename_i b h
    split at h
    · cases h
      unfold Rep at rx ry
      obtain ⟨l, vs, rfl, _, n, _⟩ := rx
      exact .inr (.inl ⟨l, _, _, rfl, n.1, ry, p.bl wr⟩)
    · cases h
      unfold Rep at rx ry
      obtain ⟨l, vs, rfl, n, _⟩ := rx
      exact .inr (.inr (.inl ⟨l, _, _, rfl, .inr (SqT.of n.1), ry, p.bl wr⟩))
    · cases h
      unfold Rep at rx ry
      obtain ⟨l, vs, rfl, n, _⟩ := rx
      exact .inr (.inr (.inl ⟨l, _, _, rfl, .inl (SqL.of n.1), ry, p.bl wr⟩))
    · cases h
      unfold Rep at rx ry
      obtain ⟨l, xs, rfl, n, rs⟩ := rx
      obtain ⟨l2, ys, rfl, n2, rs2⟩ := ry
      unfold Reps at rs2
      subst rs2
      refine .inr (.inr (.inr ⟨l, l2, xs, rfl, rfl, SqT.of n.1, SqT.of n2.1, ?_⟩))
      have e : ∀ {ts : List T} {xs : List V}, Reps K hd φ H ts xs → xs.isEmpty = ts.isEmpty := fun {ts xs} r => by
        have l := r.len
        cases ts with
        | nil => cases xs with
          | nil => rfl
          | cons _ _ => cases l
        | cons _ _ => cases xs with
          | nil => cases l
          | cons _ _ => rfl
      rw [e rs]
      exact p.bl wr
    · obtain ⟨d, e, h1, h2, h3, h4, rfl⟩ := eqT_some h
      exact .inl ⟨d, e, dp wr rx h1, dp wr ry h2, h3, h4, p.bl wr⟩
  · exact p.elim
section
variable (hu : X.A.units + 64 < cLine) (ha : PE X a (rdE (X.K, Z) W ma)) (hb : PE X b (rdE (X.K, Z) W mb))
include hu ha hb
theorem de_eqX : PE X (.Compare a [.Eq] [b] pos) (rdE (X.K, Z) W (mOp2 sEqX ma mb)) := de_cmp (op_eqX hu) opEqX ha hb (nomark _)
theorem dt_eqX : PT X (.Compare a [.Eq] [b] pos) (rdT (X.K, Z) W (mTest (mOp2 sEqX ma mb))) := dt_cmp (op_eqX hu) opEqX ha hb (nomark _)
end
/-! ### < of data -/
open Classical in
noncomputable def sLtD : S2 := fun x y w => match pd w x, pd w y with
  | some d, some e => if PySem.W.alike d e = true ∧ d ≠ .none ∧ d.depth ≤ 60 then .ok (.bl (PySem.W.dataLt d e)) w else .no
  | _, _ => .no
def rLtD (K : PySem.W.Frag) : R2 := fun x y H Q => ∃ d e, Dp K H x d ∧ Dp K H y e ∧ PySem.W.alike d e = true ∧ d ≠ .none ∧ d.depth ≤ 60 ∧ Q (.bl (PySem.W.dataLt d e)) H
theorem op_ltD (hu : X.A.units + 64 < cLine) : OpR X (compareOp .Lt) (rLtD X.K) := by
  intro pins s σ H x y v u Q I rx ry h
  obtain ⟨d, e, hd, he, al, nn, dp, q⟩ := h
  obtain ⟨as, r1⟩ := Dp.reads I d x v hd rx
  obtain ⟨bs, r2⟩ := Dp.reads I e y u he ry
  exact PySem.W.lt_data r1 r2 al nn (by have := Nat.min_le_left d.depth e.depth; omega) ⟨.bl _, H, I, rfl, q⟩
theorem opLtD : Op2 K sLtD (rLtD K.1) := fun W hd φ H w dx dy x y Q wr rx ry p => by
  unfold sLtD at p
  split at p
  · rename_i d e h1 h2
    split at p
    · rename_i h
      exact ⟨d, e, dp wr rx h1, dp wr ry h2, h.1, h.2.1, h.2.2, p.bl wr⟩
    · exact p.elim
  · exact p.elim
theorem de_ltD (hu : X.A.units + 64 < cLine) (ha : PE X a (rdE (X.K, Z) W ma)) (hb : PE X b (rdE (X.K, Z) W mb)) : PE X (.Compare a [.Lt] [b] pos) (rdE (X.K, Z) W (mOp2 sLtD ma mb)) := de_cmp (op_ltD hu) opLtD ha hb (nomark _)
/-! ### {} as a value -/
def mC0 : ME := mC (.dct [] [])
theorem de_dct0 : PE X (.Dict [] [] pos) (rdE (X.K, Z) W mC0) := PE_imp pe_dnewK fun σ H Q => by
  rintro ⟨hd, φ, ρ, w, sr, wr, p⟩
  intro l hl
  refine p _ φ (Ext.new hl) (wr.new hl) _ ?_
  unfold Rep
  exact ⟨l, [], rfl, rfl, ⟨upd_same, wr.nin hl⟩, Reps.nil⟩
/-! ### zip of two lists or two tuples -/
def zipT : List T → List T → List T
  | x :: xs, y :: ys => .tup [x, y] :: zipT xs ys
  | _, _ => []
theorem zipT_len : ∀ xs ys : List T, (zipT xs ys).length = min xs.length ys.length
  | [], _ => by simp [zipT]
  | _ :: _, [] => by simp [zipT]
  | x :: xs, y :: ys => by simp [zipT, zipT_len xs ys]
theorem zipT_at : ∀ {xs ys : List T} {i : Nat} {u : T}, (zipT xs ys)[i]? = some u → ∃ x y, xs[i]? = some x ∧ ys[i]? = some y ∧ u = .tup [x, y]
  | [], _, i, u, h => by simp [zipT] at h
  | _ :: _, [], i, u, h => by simp [zipT] at h
  | x :: xs, y :: ys, 0, u, h => by simp [zipT] at h; exact ⟨x, y, rfl, rfl, h.symm⟩
  | x :: xs, y :: ys, i + 1, u, h => by
    simp [zipT] at h
    obtain ⟨x', y', h1, h2, h3⟩ := zipT_at h
    exact ⟨x', y', by simpa using h1, by simpa using h2, h3⟩
theorem src_zipT {hd₀ φ₀ : List Addr} {H₀ : Hp} {a b : Addr} {ts us : List T}
    (h : ∀ (D : Option Addr) hd φ H w, Off D hd₀ H₀ → ExtD D hd₀ φ₀ H₀ hd φ H → WR K hd φ H w → ∃ xs ys, SqT K.1 H a xs ∧ Reps K hd φ H ts xs ∧ SqT K.1 H b ys ∧ Reps K hd φ H us ys) : Src K hd₀ φ₀ H₀ (RZ.ItzT K.1 a b) (zipT ts us) none := fun D i hd φ H w off e wr kp => by
  obtain ⟨xs, ys, h1, h2, h3, h4⟩ := h D hd φ H w off e wr
  refine ⟨fun t ht => ?_, fun hl => ⟨xs, ys, h1, h3, ?_⟩⟩
  · obtain ⟨x, y, e1, e2, rfl⟩ := zipT_at ht
    obtain ⟨v, hv, rv⟩ := h2.at e1
    obtain ⟨u, hu, ru⟩ := h4.at e2
    refine ⟨⟨xs, ys, v, u, h1, h3, hv, hu⟩, fun z H' hz => ?_⟩
    obtain ⟨q, v', u', rfl, hq, rfl, f1, f2⟩ := hz
    cases (f1 xs h1).symm.trans hv
    cases (f2 ys h3).symm.trans hu
    refine ⟨Ext.new hq, wr.new hq, ?_⟩
    unfold Rep
    exact ⟨q, _, rfl, ⟨upd_same, wr.nin hq⟩, Reps.cons (rv.mono (Ext.new hq)) (Reps.cons (ru.mono (Ext.new hq)) Reps.nil)⟩
  · rw [zipT_len, h2.len, h4.len] at hl
    omega
theorem src_zipL {hd₀ φ₀ : List Addr} {H₀ : Hp} {a b : Addr} {ts us : List T}
    (h : ∀ (D : Option Addr) hd φ H w, Off D hd₀ H₀ → ExtD D hd₀ φ₀ H₀ hd φ H → WR K hd φ H w → ∃ xs ys, SqL K.1 H a xs ∧ Reps K hd φ H ts xs ∧ SqL K.1 H b ys ∧ Reps K hd φ H us ys) : Src K hd₀ φ₀ H₀ (Itz K.1 a b) (zipT ts us) none := fun D i hd φ H w off e wr kp => by
  obtain ⟨xs, ys, h1, h2, h3, h4⟩ := h D hd φ H w off e wr
  refine ⟨fun t ht => ?_, fun hl => ⟨xs, ys, h1, h3, ?_⟩⟩
  · obtain ⟨x, y, e1, e2, rfl⟩ := zipT_at ht
    obtain ⟨v, hv, rv⟩ := h2.at e1
    obtain ⟨u, hu, ru⟩ := h4.at e2
    refine ⟨⟨xs, ys, v, u, h1, h3, hv, hu⟩, fun z H' hz => ?_⟩
    obtain ⟨q, v', u', rfl, hq, rfl, f1, f2⟩ := hz
    cases (f1 xs h1).symm.trans hv
    cases (f2 ys h3).symm.trans hu
    refine ⟨Ext.new hq, wr.new hq, ?_⟩
    unfold Rep
    exact ⟨q, _, rfl, ⟨upd_same, wr.nin hq⟩, Reps.cons (rv.mono (Ext.new hq)) (Reps.cons (ru.mono (Ext.new hq)) Reps.nil)⟩
  · rw [zipT_len, h2.len, h4.len] at hl
    omega
/-- lists that no cell holds, or tuples -/
def flatL? : T → Option (List T)
  | .lst ts => some ts
  | .frz ts => some ts
  | _ => none
def sZip : List T → World → R (List T × OC) := fun ts w => match ts with
  | [.tup xs, .tup ys] => .ok (zipT xs ys, none) w
  | [x, y] => match flatL? x, flatL? y with
    | some xs, some ys => .ok (zipT xs ys, none) w
    | _, _ => .no
  | _ => .no
def mZip (m : MF) : MI := fun ρ w => (m ρ w).bind sZip
theorem flat_later {hd₀ φ₀ : List Addr} {H₀ : Hp} {t : T} {v : V} {ts : List T} (r : Rep K hd₀ φ₀ H₀ t v) (h : flatL? t = some ts) :
    ∃ a, v = .ref a ∧ ∀ (D : Option Addr) hd φ H w, Off D hd₀ H₀ → ExtD D hd₀ φ₀ H₀ hd φ H → WR K hd φ H w → ∃ xs, SqL K.1 H a xs ∧ Reps K hd φ H ts xs := by
  have nt : ∀ us, t ≠ .tup us := fun us e => by subst e; cases h
  have hi : items [] t = some (ts, none) := by
    cases t with
    | lst us => cases h; rfl
    | frz us => cases h; rfl
    | _ => cases h
  obtain ⟨a, e, _, f⟩ := lst_later r hi nt
  exact ⟨a, e, fun D hd φ H w o x wr => f D hd φ H w o x wr kept_none⟩
theorem di_zip {tpos : Pos} {elts : List Expr} {kk : Nat} {e2 : Expr} (hm : X.mg "zip" = none) (ha : PA X [e, e2] (rdA (X.K, Z) W m)) (hg : Gl X "zip" := by rfl)
    (hs : starEach [e, e2] X.env = (false, eval e X.env) :: starEach [e2] X.env := by rfl) (hpl : (backTo pos (starEach [e2] X.env)).any (·.1) = false := by rfl) : PI X (.Tuple elts kk tpos) (.Call (.Name "zip" p) [e, e2] [] pos) (rdI (X.K, Z) W (mZip m)) := PI_imp (RZ.pi_zipA hg hm ha hs hpl) fun σ H Q => by
  rintro ⟨hd, φ, ρ, w, sr, wr, p⟩
  refine ⟨hd, φ, ρ, w, sr, wr, Pst.then isPst p fun ts w1 φ1 H1 e1 wr1 p1 vs rvs => ?_⟩
  unfold sZip at p1
  split at p1
  · rename_i xs ys
    obtain ⟨v, u, rfl, r1, r2⟩ := reps2 rvs
    unfold Rep at r1 r2
    obtain ⟨l1, x1, rfl, n1, s1⟩ := r1
    obtain ⟨l2, x2, rfl, n2, s2⟩ := r2
    exact ⟨l1, l2, x1, x2, rfl, .inr ⟨SqT.of n1.1, SqT.of n2.1, p1 H1 φ1 Ext.refl wr1 _ (src_zipT fun D hd φ H w off e wr => ⟨x1, x2, SqT.of (n1.monoD e off).1, s1.monoD e off, SqT.of (n2.monoD e off).1, s2.monoD e off⟩)⟩⟩
  · rename_i x y _
    split at p1
    · rename_i xs ys q1 q2
      obtain ⟨v, u, rfl, r1, r2⟩ := reps2 rvs
      obtain ⟨l1, rfl, f1⟩ := flat_later r1 q1
      obtain ⟨l2, rfl, f2⟩ := flat_later r2 q2
      obtain ⟨x1, g1, _⟩ := f1 none _ _ _ _ off_none Ext.refl.toD wr1
      obtain ⟨x2, g2, _⟩ := f2 none _ _ _ _ off_none Ext.refl.toD wr1
      refine ⟨l1, l2, x1, x2, rfl, .inl ⟨g1, g2, p1 H1 φ1 Ext.refl wr1 _ (src_zipL fun D hd φ H w off e wr => ?_)⟩⟩
      obtain ⟨y1, k1, k2⟩ := f1 D hd φ H w off e wr
      obtain ⟨y2, k3, k4⟩ := f2 D hd φ H w off e wr
      exact ⟨y1, y2, k1, k2, k3, k4⟩
    · exact p1.elim
  · exact p1.elim
end
end VS

set_option Elab.async false
set_option linter.all false
set_option maxRecDepth 100000
set_option maxHeartbeats 2000000
/-! VW25: sorted(xs) of data. -/
namespace VEQ
open PySem PySem.SeqAt PySem.Calls PyProof.Rows
open PySem.AutoSeq1 (wpAny_loadPart')
open PySem.MeetsSeq
theorem dict_ne_declines (l : Addr) (es : Array DictEntry) (n : Nat) (dd : Option Addr) (sl : Array (Option Value)) (b : Str) (u : Tok) :
    Meets (Builtin.«dict.__ne__» ⟨[.ref l, .str b u], []⟩) (fun _ R s => s.heap.get? l = some { cls := .type "dict", dict := dd, data := .dict es n, slots := sl } ∧ R (.ok (.ret .notImplemented)) s) :=
  .of_wp fun prog w A R s h => by obtain ⟨hp, g, d, tk, os⟩ := s; obtain ⟨hl, h⟩ := h; have f1 := F.sub_str_dict; wp_walk using wpAny_loadPart' hl; exact ⟨_, rfl, h⟩
theorem str_ne_declines (b : Str) (u : Tok) (l : Addr) (es : Array DictEntry) (n : Nat) (dd : Option Addr) (sl : Array (Option Value)) :
    Meets (Builtin.«str.__ne__» ⟨[.str b u, .ref l], []⟩) (fun _ R s => s.heap.get? l = some { cls := .type "dict", dict := dd, data := .dict es n, slots := sl } ∧ R (.ok (.ret .notImplemented)) s) :=
  .of_wp fun prog w A R s h => by obtain ⟨hp, g, d, tk, os⟩ := s; obtain ⟨hl, h⟩ := h; wp_walk using wpAny_loadPart' hl, wpAny_load hl; exact ⟨_, rfl, h⟩
theorem dict_ne_str {prog : Program} {w : PySem.World} {A : Around} {E Q : Value → Shared → Prop} {s : Shared} {l : Addr} {o : Obj} {es : Array DictEntry} {n : Nat} (b : Str) (u : Tok) (ho : s.heap.get? l = some o) (hc : o.cls = .type "dict") (hd : o.data = .dict es n) (hu : A.units < cLine) (h : Q (.bool true) s) : wpAny (model prog w) A (richCompare .NotEq (.ref l) (.str b u)) Q E s := by
  obtain ⟨cls, dd, data, sl⟩ := o
  simp only at hc hd
  subst hc hd
  exact rc_ne_decline_or (k := false) ⟨_, ho, rfl⟩ (typeIs_str s b u) (by decide) F.sub_str_dict F.slot_dict_ne F.slot_str_ne_refl
    (fun _ hq => call_meets F.slot_dict_ne ⟨_, ho, rfl⟩ F.entry_dict_ne (F.args_dict_ne_2 _ _) (dict_ne_declines l es n dd sl b u) ⟨ho, hq⟩)
    (fun _ hq => call_meets F.slot_str_ne_refl (typeIs_str s b u) F.entry_str_ne (F.args_str_ne_2 _ _) (str_ne_declines b u l es n dd sl) ⟨ho, hq⟩)
    (fun _ hq => wpAny_of_eq (rfl : isSame (.ref l) (.str b u) = pure false) hq) (.inr hu) h
end VEQ
namespace VS
open PySem PySem.Spec PyProof.Rows L2
section
variable {prog : Program} {w : PySem.World} {A : Around} {E : Value → Shared → Prop} {s : Shared}
/-- a list is gathered: one object more -/
theorem collect_sz {Q : List Value → Shared → Prop} (l : Addr) {ty : String} {o : Obj} {xs : Array Value} {n : Nat} (hT : ty = "list" ∨ ty = "tuple") (ho : s.heap.get? l = some o) (hc : o.cls = .type ty) (hd : o.data = .seq xs n)
    (k : ∀ g : Heap, (∀ b u, s.heap.get? b = some u → g.get? b = some u) → s.heap.objs.size ≤ g.objs.size → Q xs.toList { s with heap := g }) (sz : xs.size ≤ sizeLine) : wpAny (model prog w) A (collect (.ref l)) Q E s := by
  have eL : ([] : List Value).toArray = #[] := rfl
  let h1 : Heap := s.heap.push { cls := .type "list", data := .seq ([] : List Value).toArray }
  let h2 : Heap := h1.update s.heap.objs.size (Obj.mapSeq (· ++ xs))
  have g1 : h1.get? s.heap.objs.size = some { cls := .type "list", data := .seq #[] 0 } := Heap.get?_push_size _ rfl
  have g2 := Heap.get?_update_self (Obj.mapSeq (· ++ xs)) g1 rfl
  have ex : ((#[] : Array Value) ++ xs).toList = xs.toList := by simp
  have old : ∀ b u, s.heap.get? b = some u → h2.get? b = some u := fun b u q =>
    (Heap.get?_update_other _ _ (Nat.ne_of_gt (Heap.lt_size q))).trans (Heap.get?_push_of_some _ q)
  have z1 : h1.objs.size = s.heap.objs.size + 1 := Heap.size_push ..
  have z2 : h2.objs.size = h1.objs.size := by
    show (h1.update _ _).objs.size = _
    unfold Heap.update
    simp
  unfold collect
  refine wpAny_bind (wpAny_runValue (codeAny_builtin F.entry_proto_collect ?_))
  rw [Around.under_plainId F.plain_proto_collect _]
  refine wpAny_bind (m := newList []) (wpAny_newObj_type ?_)
  refine wpAny_pure ⟨plainId_quiet F.plain_list_iadd _, codeAny_builtin F.entry_list_iadd ?_⟩
  rw [Around.under_plainId F.plain_list_iadd _]
  refine wpAny_mono (wpAny_extend_seq (hsz := sz) (A := A) (R := fun r s' => r = .ok (.ret (.ref s.heap.objs.size)) ∧ s' = { s with heap := h2 }) (s := { s with heap := h1 }) _ l _ 0 hT g1 (Heap.get?_push_of_some _ ho) hc hd ⟨rfl, rfl⟩) (fun fin s' hf => ?_) fun e s' hf => absurd hf.1 (by simp)
  have last : wpAny (model prog w) A (load s.heap.objs.size >>= fun ob => match ob.data with
      | Data.seq ys _ => pure ys.toList
      | _ => unsupported "internal:collect") Q E { s with heap := h2 } := by
    refine wpAny_bind (wpAny_load g2 (wpAny_pure ?_))
    show Q ((#[] : Array Value) ++ xs).toList _
    rw [ex]
    exact k h2 old (by rw [z2, z1]; omega)
  cases fin with
  | done f =>
    obtain ⟨e, rfl⟩ := hf
    cases e
    exact last
  | again c' =>
    exact ⟨hf.1, codeAny_mono hf.2 fun r s'' hr => by obtain ⟨rfl, rfl⟩ := hr; exact last⟩
end
section
variable {prog : Program} {w : PySem.World} {A : Around} {E : Value → Shared → Prop} {s : Shared} {β : Type} {R : Value → β → Prop} {enc : β → PyData} {vs : List Value} {bs : List β}
/-- sorted(xs), xs a list or a tuple -/
theorem sorted_sz {it : Addr} {ty : String} {o : Obj} {items : Array Value} {n : Nat} {Q : Value → Shared → Prop} (hT : ty = "list" ∨ ty = "tuple") (ho : s.heap.get? it = some o) (hc : o.cls = .type ty) (hd : o.data = .seq items n) (hi : items.toList = vs)
    (e : PySem.W.EachIs R vs bs) (er : PySem.W.EachIs (fun v b => ∃ as, Reads s.heap v (enc b) as) vs bs) (hal : PySem.W.AllAlike (bs.map enc)) (hk : PySem.W.Sortable (bs.map enc)) (hL : bs.length ≤ sizeLine)
    (hu : ∀ b, b ∈ bs → A.units + 2 + (enc b).depth < cLine)
    (k : ∀ (g : Heap) (p : Addr) (out : List Value) (ep : Nat), s.heap.objs.size ≤ p → (∀ b u, s.heap.get? b = some u → g.get? b = some u) → PySem.W.EachIs R out (bs.mergeSort (PySem.W.dataLe false enc)) → out.length = bs.length → g.get? p = some (seqObj "list" out.toArray ep) → Q (.ref p) { s with heap := g }) :
    wpAny (model prog w) A (call (.builtin "sorted") [.ref it]) Q E s := by
  have hlv : vs.length = bs.length := e.length
  refine Calls.call_function_entry kind_sorted plain_sorted entry_sorted (args_sorted1 _) ?_
  unfold Builtin.«sorted»
  refine wpAny_bind (m := checkCount "sorted" 1 1 _) (wpAny_pure ?_)
  refine wpAny_bind (collect_sz it hT ho hc hd (fun g kg zg => ?_) (by rw [← Array.length_toList, hi, hlv]; exact hL))
  rw [hi]
  refine wpAny_bind (wpAny_newList ?_ (by rw [hlv]; exact hL))
  refine wpAny_bind (wpAny_holding ?_)
  have new : (g.push (seqObj "list" vs.toArray 0)).get? g.objs.size = some (seqObj "list" vs.toArray 0) := Heap.get?_push_size _ rfl
  have kept : ∀ b u, s.heap.get? b = some u → (g.push (seqObj "list" vs.toArray 0)).get? b = some u := fun b u q => Heap.get?_push_of_some _ (kg b u q)
  have er2 : PySem.W.EachIs (fun v b => ∃ as, Reads (g.push (seqObj "list" vs.toArray 0)) v (enc b) as ∧ g.objs.size ∉ as) vs bs := er.mono fun v b ⟨as, r⟩ =>
    ⟨as, PyProof.Rows.Reads.keeps kept r, fun hm => absurd (reads_in (PyProof.Rows.Reads.keeps kg r) _ hm) (Nat.lt_irrefl _)⟩
  refine PySem.W.list_sort_data (s := { s with heap := g.push (seqObj "list" vs.toArray 0) }) (n := 0) new e er2 hal hk hL hu fun out hl ho' => ?_
  show wpAny _ _ (ret (Value.ref g.objs.size)) _ _ _
  obtain ⟨ep, at_⟩ := sortedHeap_at (vs := vs) (out := out.toArray) new
  refine wpAny_pure ⟨_, rfl, k _ _ out ep zg (fun b u q => ?_) ho' hl at_⟩
  have hb : b < g.objs.size := Heap.lt_size (kg b u q)
  rw [sortedHeap_old (Nat.ne_of_lt hb) (by show b < (g.push _).objs.size; rw [Heap.size_push]; exact Nat.lt_succ_of_lt hb)]
  exact kept b u q
end

/-- data sorted, what bears them with them -/
noncomputable def sortBy {α : Type} (ts : List α) (ds : List PyData) : List α := ((ts.zip ds).mergeSort (PySem.W.dataLe false Prod.snd)).map Prod.fst
section
variable {X : Cx} {K : KT} {hd φ : List Addr} {H : Hp} {w : World} {e : Expr} {p pos : Pos} {m : MF} {Z : List (Addr × Str)} {W : Option WX}
def rSortD (K : PySem.W.Frag) : List V → Hp → VK → Prop := fun vs H Q => ∃ (a : Addr) (xs : List V) (ds : List PyData), vs = [.ref a] ∧ (SqL K H a xs ∨ SqT K H a xs) ∧ DpAll K H xs ds ∧ PySem.W.AllAlike ds ∧ PySem.W.Sortable ds ∧ ds.length ≤ sizeLine ∧ (∀ d ∈ ds, d.depth ≤ 60) ∧
  ∀ p, H p = none → Q (.ref p) (upd H p (.lst (sortBy xs ds)))
theorem each_zip {s : Shared} {pins : List (Addr × Obj)} {σ : L2.St} (I : Inv X pins σ H s) : ∀ {xs : List V} {ds : List PyData} {us : List Value}, DpAll X.K H xs ds → Vals xs us →
    PySem.W.EachIs (fun v (b : V × PyData) => RelV b.1 v) us (xs.zip ds) ∧ PySem.W.EachIs (fun v (b : V × PyData) => ∃ as, Reads s.heap v b.2 as) us (xs.zip ds)
  | [], _, _, h, r => by cases h; cases r; exact ⟨.nil, .nil⟩
  | x :: xs, _, _, h, r => by
    cases h with
    | cons h1 h2 =>
      cases r with
      | cons r1 r2 =>
        obtain ⟨a, b⟩ := each_zip I h2 r2
        exact ⟨.cons r1 a, .cons (Dp.reads I _ _ _ h1 r1) b⟩
theorem dpAll_len : ∀ {xs : List V} {ds : List PyData}, DpAll K.1 H xs ds → xs.length = ds.length
  | [], _, h => by cases h; rfl
  | x :: xs, _, h => by cases h with | cons _ h2 => simp [dpAll_len h2]
theorem vals_each : ∀ {bs : List (V × PyData)} {us : List Value}, PySem.W.EachIs (fun v (b : V × PyData) => RelV b.1 v) us bs → Vals (bs.map Prod.fst) us
  | _, _, .nil => .nil
  | _, _, .cons h r => .cons h (vals_each r)
theorem cr_sortD (hu : X.A.units + 65 < cLine) : CallR X (.builtin "sorted") (rSortD X.K) := by
  intro pins s σ H vs us Q I r h
  obtain ⟨a, xs, ds, rfl, hs, hD, al, so, ln, dp, q⟩ := h
  rw [Vals.ref1 r]
  have lz : (xs.zip ds).length = ds.length := by
    have := dpAll_len (K := (X.K, [])) hD
    simp [this]
  have mz : (xs.zip ds).map Prod.snd = ds := List.map_snd_zip (by have := dpAll_len (K := (X.K, [])) hD; omega)
  have fin : ∀ (ty : String) (o : Obj) (items : Array Value) (n : Nat) (its : List Value), (ty = "list" ∨ ty = "tuple") → s.heap.get? a = some o → o.cls = .type ty → o.data = .seq items n → items.toList = its → Vals xs its →
      wpAny (model X.prog X.w) X.A (call (.builtin "sorted") [.ref a]) (EP X pins σ Q) X.xe s := fun ty o items n its hT ho hc hd hi rv => by
    obtain ⟨e1, e2⟩ := each_zip I hD rv
    refine sorted_sz hT ho hc hd hi e1 (enc := Prod.snd) e2 (by rw [mz]; exact al) (by rw [mz]; exact so) (by rw [lz]; exact ln) (fun b hb => ?_) fun g p out ep hp kg ho' hl at_ => ?_
    · have := dp b.2 (by rw [← mz]; exact List.mem_map.mpr ⟨b, hb, rfl⟩)
      omega
    · have hlen : (sortBy xs ds).length ≤ sizeLine := by
        unfold sortBy
        rw [List.length_map, List.length_mergeSort, lz]
        exact ln
      exact ⟨.ref p, upd H p (.lst (sortBy xs ds)), I.laid (t' := s.toks) kg hp ⟨hlen, out, ep, vals_each ho', at_⟩, rfl, q p (I.hok.fresh hp)⟩
  rcases hs with hs | hs
  · obtain ⟨its, rv, ⟨o, n, ho, hc, _, hd⟩, _⟩ := I.list hs
    exact fin "list" o _ n its (.inl rfl) ho hc hd (by simp) rv
  · obtain ⟨its, rv, ⟨o, ho, hc, n, hd⟩, _⟩ := I.tuple hs
    exact fin "tuple" o _ n its (.inr rfl) ho hc hd (by simp) rv
theorem zip3 {α β γ : Type} : ∀ {as : List α} {bs : List β} {cs : List γ}, as.length = bs.length → bs.length = cs.length → ((as.zip bs).zip cs).map (fun m => (m.1.1, m.2)) = as.zip cs ∧ ((as.zip bs).zip cs).map (fun m => (m.1.2, m.2)) = bs.zip cs
  | [], [], [], _, _ => ⟨rfl, rfl⟩
  | a :: as, b :: bs, c :: cs, h1, h2 => by
    obtain ⟨x, y⟩ := zip3 (as := as) (bs := bs) (cs := cs) (by simpa using h1) (by simpa using h2)
    exact ⟨by simp [x], by simp [y]⟩
theorem reps_sort {ts : List T} {xs : List V} {ds : List PyData} (r : Reps K hd φ H ts xs) (hl : xs.length = ds.length) : Reps K hd φ H (sortBy ts ds) (sortBy xs ds) := by
  have l1 := r.len
  obtain ⟨e1, e2⟩ := zip3 (as := ts) (bs := xs) (cs := ds) l1 hl
  unfold sortBy
  rw [← e1, ← e2]
  have k1 : (((ts.zip xs).zip ds).map fun m => (m.1.1, m.2)).mergeSort (PySem.W.dataLe false Prod.snd) = (((ts.zip xs).zip ds).mergeSort (PySem.W.dataLe false Prod.snd)).map fun m => (m.1.1, m.2) := (List.map_mergeSort (f := fun m : (T × V) × PyData => (m.1.1, m.2)) (r := PySem.W.dataLe false Prod.snd) (s := PySem.W.dataLe false Prod.snd) (fun _ _ _ _ => rfl)).symm
  have k2 : (((ts.zip xs).zip ds).map fun m => (m.1.2, m.2)).mergeSort (PySem.W.dataLe false Prod.snd) = (((ts.zip xs).zip ds).mergeSort (PySem.W.dataLe false Prod.snd)).map fun m => (m.1.2, m.2) := (List.map_mergeSort (f := fun m : (T × V) × PyData => (m.1.2, m.2)) (r := PySem.W.dataLe false Prod.snd) (s := PySem.W.dataLe false Prod.snd) (fun _ _ _ _ => rfl)).symm
  rw [k1, k2, List.map_map, List.map_map]
  have hall : ∀ m ∈ ((ts.zip xs).zip ds).mergeSort (PySem.W.dataLe false Prod.snd), Rep K hd φ H m.1.1 m.1.2 := fun m hm => by
    have hm2 := (List.mergeSort_perm _ _).mem_iff.mp hm
    have hm3 : m.1 ∈ ts.zip xs := (List.of_mem_zip (a := m.1) (b := m.2) hm2).1
    obtain ⟨i, hi, e⟩ := List.getElem_of_mem hm3
    rw [List.getElem_zip] at e
    have h1 : ts[i]? = some m.1.1 := by rw [List.getElem?_eq_getElem (by simp at hi; omega), ← e]
    obtain ⟨x, hx, rx⟩ := r.at h1
    rw [List.getElem?_eq_getElem (by simp at hi; omega)] at hx
    rw [← e] at rx ⊢
    cases hx
    exact rx
  generalize ((ts.zip xs).zip ds).mergeSort (PySem.W.dataLe false Prod.snd) = L at hall
  induction L with
  | nil => exact Reps.nil
  | cons m L ih => exact Reps.cons (hall m List.mem_cons_self) (ih fun k hk => hall k (List.mem_cons_of_mem _ hk))
open Classical in
noncomputable def sSortD : SCF := fun ds w => match ds with
  | [t] => match seq? w t with
    | some ts => match pds w ts with
      | some es => if PySem.W.AllAlike es ∧ PySem.W.Sortable es ∧ es.length ≤ sizeLine ∧ ∀ d ∈ es, d.depth ≤ 60 then .ok (sortBy ts es) w else .no
      | none => .no
    | none => .no
  | _ => .no
theorem opSortD : OpCF K sSortD (rSortD K.1) := fun W hd φ H w ds xs Q wr rx p => by
  unfold sSortD at p
  split at p
  · rename_i t
    split at p
    · rename_i ts h1
      split at p
      · rename_i es h2
        split at p
        · rename_i h
          obtain ⟨v, rfl, rv⟩ := reps1 rx
          obtain ⟨a, ys, rfl, hs, rs⟩ := seq_at wr rv h1
          have hD := dps wr rs h2
          exact ⟨a, ys, es, rfl, hs, hD, h.1, h.2.1, h.2.2.1, h.2.2.2, fun q hq => p.new wr (reps_sort rs (dpAll_len hD)) q hq⟩
        · exact p.elim
      · exact p.elim
    · exact p.elim
  · exact p.elim
theorem df_sortD (hu : X.A.units + 65 < cLine) (hm : X.mg "sorted" = none) (ha : PA X [e] (rdA (X.K, Z) W m)) (hg : Gl X "sorted" := by rfl) (he : starEach [e] X.env = (false, eval e X.env) :: starEach [] X.env := by rfl) (hpl : (backTo pos (starEach [] X.env)).any (·.1) = false := by rfl) : PE X (.Call (.Name "sorted" p) [e] [] pos) (rdF (X.K, Z) W (mCallF sSortD m)) :=
  df_callB (cr_sortD hu) opSortD hm (by decide +kernel) ha hg (by decide) (by decide) he hpl
/-! ### is not True -/
def sIsNotB : S2 := fun x y w => match x, y with
  | .bl i, .bl j => .ok (.bl (!decide (i = j))) w
  | _, _ => .no
theorem opIsNotB : Op2 K sIsNotB (fun x y H Q => ∃ a b, x = .bl a ∧ y = .bl b ∧ Q (.bl (!decide (a = b))) H) := fun W hd φ H w dx dy x y Q wr rx ry p => by
  unfold sIsNotB at p
  split at p
  · unfold Rep at rx ry
    exact ⟨_, _, rx, ry, p.bl wr⟩
  · exact p.elim
variable {a b : Expr} {ma mb : ME}
theorem de_isnotB (ha : PE X a (rdE (X.K, Z) W ma)) (hb : PE X b (rdE (X.K, Z) W mb)) : PE X (.Compare a [.IsNot] [b] pos) (rdE (X.K, Z) W (mOp2 sIsNotB ma mb)) := de_cmp op_isnot_bl opIsNotB ha hb (nomark _)
theorem dt_isnotB (ha : PE X a (rdE (X.K, Z) W ma)) (hb : PE X b (rdE (X.K, Z) W mb)) : PT X (.Compare a [.IsNot] [b] pos) (rdT (X.K, Z) W (mTest (mOp2 sIsNotB ma mb))) := dt_cmp op_isnot_bl opIsNotB ha hb (nomark _)
/-! ### != where a dict may stand -/
def neX (w : World) (x y : T) : Option Bool := match x, y with
  | .dct _ _, .str _ => some true
  | .tup _, .str _ => some true
  | .lst _, .str _ => some true
  | _, _ => (eqT w x y).map not
def sNeX : S2 := fun x y w => match neX w x y with
  | some b => .ok (.bl b) w
  | none => .no
def rNeX (K : PySem.W.Frag) : R2 := fun x y H Q => rNeD K x y H Q ∨ (∃ a kvs s, x = .ref a ∧ H a = some (.dK kvs) ∧ y = .str s ∧ Q (.bl true) H) ∨ ∃ a xs s, x = .ref a ∧ (SqL K H a xs ∨ SqT K H a xs) ∧ y = .str s ∧ Q (.bl true) H
theorem op_neX (hu : X.A.units + 64 < cLine) : OpR X (compareOp .NotEq) (rNeX X.K) := by
  intro pins s σ H x y v u Q I rx ry h
  rcases h with h | ⟨a, kvs, t, rfl, hs, rfl, q⟩ | ⟨a, xs, t, rfl, hs, rfl, q⟩
  · exact op_neD hu pins s σ H x y v u Q I rx ry h
  · cases (show v = Value.ref a from rx)
    obtain ⟨tk, rfl⟩ := ry
    obtain ⟨_, _, va, ra, o, es, ep, ho, ⟨hc, _⟩, hd, _⟩ := (show ObjOk X.prog X.w H s.heap a (.dK kvs) from I.hok a _ hs)
    exact VEQ.dict_ne_str t tk ho hc hd (by omega) ⟨.bl _, H, I, rfl, q⟩
  · cases (show v = Value.ref a from rx)
    obtain ⟨tk, rfl⟩ := ry
    rcases hs with hs | hs
    · obtain ⟨us, r1, p1, _⟩ := I.list hs
      exact SeqAt.RcNeAt.list_str t tk p1.isList (by omega) X.prog X.w X.xe (EP X pins σ Q) ⟨.bl _, H, I, rfl, q⟩
    · obtain ⟨us, r1, p1, _⟩ := I.tuple hs
      exact SeqAt.RcNeAt.tuple_str t tk p1 (by omega) X.prog X.w X.xe (EP X pins σ Q) ⟨.bl _, H, I, rfl, q⟩
theorem opNeX : Op2 K sNeX (rNeX K.1) := fun W hd φ H w dx dy x y Q wr rx ry p => by
  unfold sNeX at p
  unfold neX at p
  split at p
  · rename_i b h
    split at h
    · cases h
      unfold Rep at rx ry
      obtain ⟨l, vs, rfl, _, n, _⟩ := rx
      exact .inr (.inl ⟨l, _, _, rfl, n.1, ry, p.bl wr⟩)
    · cases h
      unfold Rep at rx ry
      obtain ⟨l, vs, rfl, n, _⟩ := rx
      exact .inr (.inr ⟨l, _, _, rfl, .inr (SqT.of n.1), ry, p.bl wr⟩)
    · cases h
      unfold Rep at rx ry
      obtain ⟨l, vs, rfl, n, _⟩ := rx
      exact .inr (.inr ⟨l, _, _, rfl, .inl (SqL.of n.1), ry, p.bl wr⟩)
    · obtain ⟨c, hc, rfl⟩ := Option.map_eq_some_iff.mp h
      obtain ⟨d, e, h1, h2, h3, h4, rfl⟩ := eqT_some hc
      exact .inl ⟨d, e, dp wr rx h1, dp wr ry h2, h3, h4, p.bl wr⟩
  · exact p.elim
theorem de_neX (hu : X.A.units + 64 < cLine) (ha : PE X a (rdE (X.K, Z) W ma)) (hb : PE X b (rdE (X.K, Z) W mb)) : PE X (.Compare a [.NotEq] [b] pos) (rdE (X.K, Z) W (mOp2 sNeX ma mb)) := de_cmp (op_neX hu) opNeX ha hb (nomark _)
theorem dt_neX (hu : X.A.units + 64 < cLine) (ha : PE X a (rdE (X.K, Z) W ma)) (hb : PE X b (rdE (X.K, Z) W mb)) : PT X (.Compare a [.NotEq] [b] pos) (rdT (X.K, Z) W (mTest (mOp2 sNeX ma mb))) := dt_cmp (op_neX hu) opNeX ha hb (nomark _)
end
end VS

set_option Elab.async false
set_option linter.all false
set_option maxRecDepth 100000
set_option maxHeartbeats 2000000
/-! VW26: instances: attributes, methods, making one. -/
namespace VS
open PySem PySem.Spec PyProof.Rows L2
/-! ### calls whose errors are told at the slots -/
section
variable {X : Cx} {CX : CXT} {k : Nat} {f C : Addr} {fd : FuncData} {ps : List Str} {sp : Sp} {E : L2.St → XK} {x m : Str} {p pos apos : Pos} {e o : Expr} {es : List Expr} {ta : TE} {t : TA}
def tMethO (C : Addr) (m : Str) (sp : Sp) (E : L2.St → XK) (ta : TE) (t : TA) : TE := fun σ H Q => ta σ H fun x H1 => ∃ a dx fs, x = .ref a ∧ H1 a = some (.ins C dx fs) ∧ fs.lookup m = none ∧ t σ H1 fun vs H2 => sp (x :: vs) H2 Q (E σ)
/-- o.m(e, ..) -/
theorem pe_methO {pl : PySem.Sem Bool} (he : PE X o ta) (c : Cls X.K C) (hm : Meth X.K C m f) (F : FnOk X.prog X.w X.K X.mg X.base CX k f fd ps sp) (hr : Room k X.A) (hb : Binds X.K fd ps []) (hx : ∀ σ, PassesAt CX X σ (E σ)) (ha : PA X (e :: es) t)
    (hst : starEach (e :: es) X.env = (false, eval e X.env) :: starEach es X.env := by rfl) (hpl : (backTo pos (starEach es X.env)).any (·.1) = false := by rfl)
    (ht : eval (.Call (.Attribute o m apos) (e :: es) [] pos) X.env = (do
      let ov ← eval o X.env
      standAt apos.atName
      let (g, first) ← holding [ov] (getMethod ov m pl)
      callWith pos g first (backTo pos (starEach (e :: es) X.env)) (backToKw pos (keywordEach [] X.env))) := by rfl) : PE X (.Call (.Attribute o m apos) (e :: es) [] pos) (tMethO C m sp E ta t) :=
  ⟨fun pins s σ H Q I h => PySem.W.methodCall_KW (pl := pl) (thn (he.run pins s σ H _ I h) fun u s1 ⟨x, H1, I1, rx, a, dx, fs, ex, ea, l, q⟩ => by
    subst ex
    obtain rfl : u = Value.ref a := rx
    exact getmeth_ok I1 ea c hm l (PySem.W.callWith_K (first := [.ref a]) (h₀ := X.base) I.ok.mod.kin hm.kp (thn (ha.run pos pins s1 σ H1 _ I1 q) fun us s2 ⟨vs, H2, I2, r, q2⟩ => ⟨I2.kIn, run_fnS (us := .ref a :: us) (vs := .ref a :: vs) F hr hb (hx σ) I2 (.cons rfl r) q2⟩) hst hpl)) ht⟩
/-- o.m() -/
theorem pe_methO0 {pl : PySem.Sem Bool} (he : PE X o ta) (c : Cls X.K C) (hm : Meth X.K C m f) (F : FnOk X.prog X.w X.K X.mg X.base CX k f fd ps sp) (hr : Room k X.A) (hb : Binds X.K fd ps []) (hx : ∀ σ, PassesAt CX X σ (E σ))
    (ht : eval (.Call (.Attribute o m apos) [] [] pos) X.env = (do
      let ov ← eval o X.env
      standAt apos.atName
      let (g, first) ← holding [ov] (getMethod ov m pl)
      callWith pos g first (backTo pos (starEach [] X.env)) (backToKw pos (keywordEach [] X.env))) := by rfl) : PE X (.Call (.Attribute o m apos) [] [] pos) (tMethO C m sp E ta tNil) :=
  ⟨fun pins s σ H Q I h => PySem.W.methodCall_KW (pl := pl) (thn (he.run pins s σ H _ I h) fun u s1 ⟨x, H1, I1, rx, a, dx, fs, ex, ea, l, q⟩ => by
    subst ex
    obtain rfl : u = Value.ref a := rx
    exact getmeth_ok I1 ea c hm l (PySem.W.callWith_K0 (first := [.ref a]) I1.kIn hm.kp (run_fnS (us := [.ref a]) (vs := [.ref a]) F hr hb (hx σ) I1 (.cons rfl .nil) q))) ht⟩
def tMakeO (C : Addr) (sp : Sp) (E : L2.St → XK) (t : TA) : TE := fun σ H Q => t σ H fun vs H1 => ∀ x dx, H1 x = none → H1 dx = none → dx ≠ x → sp (.ref x :: vs) (upd (upd H1 dx (.own x)) x (.ins C dx [])) (fun v H2 => v = .non ∧ Q (.ref x) H2) (E σ)
theorem run_makeO {pins : List (Addr × Obj)} {σ : L2.St} {H : Hp} {s : Shared} {Q : VK} {us : List Value} {vs : List V} (M : Mk X.K C f) (F : FnOk X.prog X.w X.K X.mg X.base CX k f fd ps sp) (hr : Room (k + 1) X.A) (hb : Binds X.K fd ps []) (hx : PassesAt CX X σ (E σ)) (I : Inv X pins σ H s) (r : Vals vs us)
    (h : ∀ x dx, H x = none → H dx = none → dx ≠ x → sp (.ref x :: vs) (upd (upd H dx (.own x)) x (.ins C dx [])) (fun v H2 => v = .non ∧ Q (.ref x) H2) (E σ)) : wpAny (model X.prog X.w) X.A (call (.ref C) us) (EP X pins σ Q) X.xe s := by
  have hq := h (s.heap.objs.size + 1) s.heap.objs.size (I.hok.fresh (Nat.le_succ _)) (I.hok.fresh (Nat.le_refl _)) (Nat.ne_of_lt (Nat.lt_succ_self _))
  have J := Inv.made (C := C) I
  have r2 : Vals (V.ref (s.heap.objs.size + 1) :: vs) (Value.ref (s.heap.objs.size + 1) :: us) := .cons rfl r
  have hl : (Value.ref (s.heap.objs.size + 1) :: us).length = ps.length := by
    rw [← r2.length]
    exact F.len _ _ _ _ hq
  have bb := hb _ (Value.ref (s.heap.objs.size + 1) :: us) J.kIn (by rw [List.append_nil]; exact hl)
  rw [List.append_nil] at bb
  refine wpAny_call (make_map (f := f) I.kIn M.makes M.init (beq_iff_eq.mp M.fn) (codeAny_mono (F.run _ X.stack _ _ ⟨Value.ref (s.heap.objs.size + 1) :: us, []⟩ _ _ _ (E σ) (hr.make C us []) (J.env0.make C us []) bb r2 hq) fun r s' hq' => ?_))
  cases r with
  | error e => exact hx pins _ _ e s' J hq'
  | ok fl =>
    cases fl with
    | ret u =>
      obtain ⟨v, H', I3, rv, ev, q3⟩ := J.after hq'
      subst ev
      exact ⟨rv, ⟨V.ref (s.heap.objs.size + 1), H', I3, rfl, q3⟩⟩
    | next => exact False.elim hq'
    | brk => exact False.elim hq'
    | cont => exact False.elim hq'
/-- C(e, ..) -/
theorem pe_makeO (M : Mk X.K C f) (F : FnOk X.prog X.w X.K X.mg X.base CX k f fd ps sp) (hr : Room (k + 1) X.A) (hg : Gl X x) (hm : X.mg x = some (.ref C)) (hb : Binds X.K fd ps []) (hx : ∀ σ, PassesAt CX X σ (E σ)) (ha : PA X (e :: es) t) (hdb : (x == ("__debug__" : Str)) = false := by decide)
    (he : starEach (e :: es) X.env = (false, eval e X.env) :: starEach es X.env := by rfl) (hpl : (backTo pos (starEach es X.env)).any (·.1) = false := by rfl) : PE X (.Call (.Name x p) (e :: es) [] pos) (tMakeO C sp E t) :=
  ⟨fun pins s σ H Q I h => wpAny_Call_Name_kw (ld_glob I hg hm (PySem.W.callWith_K (h₀ := X.base) I.ok.mod.kin M.kp (thn (ha.run pos pins s σ H _ I h) fun us s1 ⟨vs, H1, I1, r, q⟩ => ⟨I1.kIn, run_makeO M F hr hb (hx σ) I1 r q⟩) he hpl) hdb)⟩
/-- C() -/
theorem pe_makeO0 (M : Mk X.K C f) (F : FnOk X.prog X.w X.K X.mg X.base CX k f fd ps sp) (hr : Room (k + 1) X.A) (hg : Gl X x) (hm : X.mg x = some (.ref C)) (hb : Binds X.K fd ps []) (hx : ∀ σ, PassesAt CX X σ (E σ)) (hdb : (x == ("__debug__" : Str)) = false := by decide) :
    PE X (.Call (.Name x p) [] [] pos) (tMakeO C sp E tNil) :=
  ⟨fun pins s σ H Q I h => wpAny_Call_Name_kw (ld_glob I hg hm (PySem.W.callWith_K0 I.kIn M.kp (run_makeO (us := []) M F hr hb (hx σ) I .nil h)) hdb)⟩
end
end VS

set_option Elab.async false
set_option linter.all false
set_option maxRecDepth 100000
set_option maxHeartbeats 2000000
/-! VW27: instances as cells. -/
namespace VS
open PySem PySem.Spec PyProof.Rows L2
/-- the classes and the attributes of their instances -/
structure ObTab (K : PySem.W.Frag) (tab : List (Str × List Str)) : Prop where
  ex : ∀ p ∈ tab, ∀ C, GlbAt K p.1 C → Cls K C ∧ ∀ f ∈ p.2, NoAttr K C f
def inTab (tab : List (Str × List Str)) (x f : Str) : Bool := tab.any fun p => p.1 == x && p.2.contains f
theorem ObTab.at {K : PySem.W.Frag} {tab : List (Str × List Str)} {x f : Str} {C : Addr} (T : ObTab K tab) (h : inTab tab x f = true) (g : GlbAt K x C) : Cls K C ∧ NoAttr K C f := by
  obtain ⟨p, hp, h2⟩ := List.any_eq_true.mp h
  rw [Bool.and_eq_true] at h2
  obtain ⟨h3, h4⟩ := h2
  have e : p.1 = x := beq_iff_eq.mp h3
  obtain ⟨c, n⟩ := T.ex p hp C (by rw [e]; exact g)
  exact ⟨c, n f (by simpa using h4)⟩
def getF : List Str → List T → Str → Option T
  | k :: ks, t :: ts, f => if f = k then some t else getF ks ts f
  | _, _, _ => none
def putO {α : Type} : List Str → List α → Str → α → List Str × List α
  | k :: ks, t :: ts, f, y => if k = f then (k :: ks, y :: ts) else (k :: (putO ks ts f y).1, t :: (putO ks ts f y).2)
  | _, _, f, y => ([f], [y])
section
variable {K : KT} {hd φ : List Addr} {H : Hp}
theorem getF_at : ∀ {ks : List Str} {ts : List T} {vs : List V} {f : Str} {t : T}, Reps K hd φ H ts vs → getF ks ts f = some t → ∃ v, (ks.zip vs).lookup f = some v ∧ Rep K hd φ H t v
  | [], ts, vs, f, t, r, h => by cases h
  | k :: ks, [], vs, f, t, r, h => by cases h
  | k :: ks, u :: ts, vs, f, t, r, h => by
    unfold Reps at r
    obtain ⟨x, xs, rfl, r1, r2⟩ := r
    unfold getF at h
    rw [List.zip_cons_cons, List.lookup_cons]
    split at h
    · rename_i e
      cases h
      exact ⟨x, by simp [e], r1⟩
    · rename_i e
      obtain ⟨v, h1, h2⟩ := getF_at r2 h
      have : (f == k) = false := by simpa using e
      exact ⟨v, by rw [this]; exact h1, h2⟩
theorem no_lookup {α : Type} {m : Str} : ∀ {ks : List Str} {vs : List α}, m ∉ ks → (ks.zip vs).lookup m = none
  | [], vs, _ => rfl
  | k :: ks, [], _ => rfl
  | k :: ks, v :: vs, h => by
    have e : (m == k) = false := by
      have : ¬ m = k := fun e => h (by rw [e]; exact List.mem_cons_self)
      simpa using this
    rw [List.zip_cons_cons, List.lookup_cons, e]
    exact no_lookup fun z => h (List.mem_cons_of_mem _ z)
theorem putO_zip {f : Str} {v : V} : ∀ {ks : List Str} {vs : List V}, ks.length = vs.length → putF f v (ks.zip vs) = (putO ks vs f v).1.zip (putO ks vs f v).2
  | [], [], _ => rfl
  | k :: ks, x :: vs, h => by
    have ih := putO_zip (f := f) (v := v) (ks := ks) (vs := vs) (by simpa using h)
    rw [List.zip_cons_cons]
    unfold putF putO
    split
    · rfl
    · rw [List.zip_cons_cons, ih]
theorem putO_len {α : Type} {f : Str} {y : α} : ∀ {ks : List Str} {ts : List α}, ks.length = ts.length → (putO ks ts f y).1.length = (putO ks ts f y).2.length
  | [], [], _ => rfl
  | k :: ks, x :: vs, h => by
    have ih := putO_len (f := f) (y := y) (ks := ks) (ts := vs) (by simpa using h)
    unfold putO
    split
    · simpa using h
    · simp [ih]
theorem putO_reps {f : Str} {y : T} {v : V} (ry : Rep K hd φ H y v) : ∀ {ks : List Str} {ts : List T} {vs : List V}, ks.length = ts.length → Reps K hd φ H ts vs → (putO ks ts f y).1 = (putO ks vs f v).1 ∧ Reps K hd φ H (putO ks ts f y).2 (putO ks vs f v).2
  | [], [], vs, _, r => by unfold Reps at r; subst r; exact ⟨rfl, Reps.cons ry Reps.nil⟩
  | k :: ks, t :: ts, vs, h, r => by
    unfold Reps at r
    obtain ⟨x, xs, rfl, r1, r2⟩ := r
    obtain ⟨h1, h2⟩ := putO_reps (f := f) ry (ks := ks) (by simpa using h) r2
    unfold putO
    split
    · exact ⟨rfl, Reps.cons ry r2⟩
    · exact ⟨by rw [h1], Reps.cons r1 h2⟩
end
section
variable {X : Cx} {Z : List (Addr × Str)} {W : Option WX} {K : KT} {hd φ : List Addr} {H : Hp} {w : World} {e o : Expr} {es : List Expr} {x f m : Str} {p pos apos : Pos} {mo mv : ME} {ma : MF} {tab : List (Str × List Str)}
/-! ### o.f -/
def sFldT (tab : List (Str × List Str)) (f : Str) : T → World → R T := fun d w => match d with
  | .cell k => match w[k]? with
    | some (.obj x ks ts) => if inTab tab x f = true then match getF ks ts f with
      | some t => .ok t w
      | none => .no
      else .no
    | _ => .no
  | _ => .no
def mFld (tab : List (Str × List Str)) (f : Str) (a : ME) : ME := fun ρ w => (a ρ w).bind (sFldT tab f)
theorem de_fld (T : ObTab X.K tab) (he : PE X e (rdE (X.K, Z) W mo)) (hb : attributeBase e f X.env (eval e X.env) = eval e X.env := by rfl) : PE X (.Attribute e f pos) (rdE (X.K, Z) W (mFld tab f mo)) := PE_imp (pe_fld he hb) fun σ H Q => by
  rintro ⟨hd, φ, ρ, w, sr, wr, p⟩
  refine ⟨hd, φ, ρ, w, sr, wr, Pst.then isPst p fun d w1 φ1 H1 e1 wr1 p1 v rv => ?_⟩
  unfold sFldT at p1
  split at p1
  · rename_i k
    split at p1
    · rename_i x ks ts hk
      split at p1
      · rename_i hin
        split at p1
        · rename_i t hg
          obtain ⟨a, rfl, hφ, _, C, dx, vs, h1, h2, h3, h4, h5⟩ := cell_at wr1 rv hk
          obtain ⟨c, n⟩ := T.at hin h2
          obtain ⟨u, l, ru⟩ := getF_at h5 hg
          exact ⟨a, C, dx, _, u, rfl, h1, c, n, l, p1.ok wr1 _ ru⟩
        · exact p1.elim
      · exact p1.elim
    · exact p1.elim
  · exact p1.elim
/-! ### o.f = v -/
def mSetF (tab : List (Str × List Str)) (f : Str) (a b : ME) : MS := fun ρ w => (b ρ w).bind fun y w1 => (a ρ w1).bind fun d w2 => match d with
  | .cell k => match w2[k]? with
    | some (.obj x ks ts) => if inTab tab x f = true ∧ ks.length < 1000 then .ok (ρ, .nx) (w2.set k (.obj x (putO ks ts f y).1 (putO ks ts f y).2)) else .no
    | _ => .no
  | _ => .no
theorem ds_setF {pos' : Pos} {v : Expr} (T : ObTab X.K tab) (ho : PE X o (rdE (X.K, Z) W mo)) (hv : PE X v (rdE (X.K, Z) W mv)) (hs : swapsWith v (some (.Attribute o f pos')) pos.line X.env = pure false := by rfl) : PS X (.Assign [.Attribute o f pos'] v pos) (rdS (X.K, Z) W (mSetF tab f mo mv)) := PS_imp (ps_fld ho hv hs) fun D σ H => by
  rintro ⟨hd, φ, ρ, w, sr, wr, p⟩
  refine ⟨hd, φ, ρ, w, sr, wr, Pst.then isPst p fun y w1 φ1 H1 e1 wr1 p1 v rv => ?_⟩
  refine ⟨hd, φ1, ρ, w1, sr.mono e1, wr1, Pst.then isPst p1 fun d w2 φ2 H2 e2 wr2 p2 u ru => ?_⟩
  split at p2
  · rename_i k
    split at p2
    · rename_i x ks ts hk
      split at p2
      · rename_i hin
        obtain ⟨a, rfl, hφ, ha, C, dx, vs, h1, h2, h3, h4, h5⟩ := cell_at wr2 ru hk
        obtain ⟨c, n⟩ := T.at hin.1 h2
        have lv : ks.length = vs.length := h3.trans h5.len
        refine ⟨a, C, dx, _, rfl, h1, c, n, by rw [List.length_zip]; omega, ?_⟩
        rw [putO_zip lv]
        have eW : Ext hd φ2 H2 hd φ2 (upd H2 a (.ins C dx ((putO ks vs f v).1.zip (putO ks vs f v).2))) := Ext.write ha
        obtain ⟨q1, q2⟩ := putO_reps (f := f) (rv.mono e2) h3 h5
        have dn : dx ≠ a := fun z => by
          have := h4.1
          rw [z, h1] at this
          cases this
        have wr3 : WR (X.K, Z) hd φ2 (upd H2 a (.ins C dx ((putO ks vs f v).1.zip (putO ks vs f v).2))) (w2.set k (.obj x (putO ks ts f y).1 (putO ks ts f y).2)) := wr2.write hφ
          ⟨C, dx, (putO ks vs f v).2, by rw [q1]; exact upd_same, h2, putO_len h3, ⟨by rw [upd_ne dn]; exact h4.1, h4.2⟩, q2.mono eW⟩
        exact p2 _ φ2 eW wr3 _ (((sr.mono e1).mono e2).mono eW)
      · exact p2.elim
    · exact p2.elim
  · exact p2.elim
end
end VS

set_option Elab.async false
set_option linter.all false
set_option maxRecDepth 100000
set_option maxHeartbeats 2000000
/-! VW28: methods of instances, making an instance. -/
namespace VS
open PySem PySem.Spec PyProof.Rows L2
/-- a method as it stands behind the top, and what it is worth -/
structure MtD (P : Program) (w : PySem.World) (K : PySem.W.Frag) (Z : List (Addr × Str)) (mg : Str → Option Value) (base : Heap) (k : Nat) (x m : Str) (ps : List Str) (f : Sem) : Prop where
  ex : ∃ (C fa : Addr) (fd : FuncData), GlbAt K x C ∧ Cls K C ∧ Meth K C m fa ∧ FnOk P w K mg base (L2.CX P w) k fa fd ps (spOf (K, Z) ps.length f) ∧ Binds K fd ps []
/-- making an instance: its __init__ -/
structure MkD (P : Program) (w : PySem.World) (K : PySem.W.Frag) (Z : List (Addr × Str)) (mg : Str → Option Value) (base : Heap) (k : Nat) (x : Str) (ps : List Str) (f : Sem) : Prop where
  ex : ∃ (C fa : Addr) (fd : FuncData), GlbAt K x C ∧ mg x = some (.ref C) ∧ Mk K C fa ∧ FnOk P w K mg base (L2.CX P w) k fa fd ps (spOf (K, Z) ps.length f) ∧ Binds K fd ps []
/-- an instance of x without an attribute m -/
def isInst (x m : Str) (w : World) : T → Bool
  | .cell k => match w[k]? with
    | some (.obj y ks _) => y == x && !ks.contains m
    | _ => false
  | _ => false
def mMth (x m : Str) (n : Nat) (f : Sem) (a : ME) (r : MF) : ME := fun ρ w => (a ρ w).bind fun d w1 => if isInst x m w1 d = true then (r ρ w1).bind fun ds w2 => if ds.length + 1 = n then (f (d :: ds) w2).at ρ else .no else .no
def mMake (x : Str) (n : Nat) (f : Sem) (r : MF) : ME := fun ρ w => (r ρ w).bind fun ds w1 => if ds.length + 1 = n then ((f (.cell w1.length :: ds) (w1 ++ [.obj x [] []])).at ρ).bind fun t w2 => match t with
  | .non => .ok (.cell w1.length) w2
  | _ => .no else .no
section
variable {X : Cx} {Z : List (Addr × Str)} {W : Option WX} {K : KT} {hd φ : List Addr} {H : Hp} {w : World} {e o : Expr} {es : List Expr} {x m : Str} {p pos apos : Pos} {mo : ME} {ma : MF} {k n : Nat} {ps : List Str} {f : Sem}
theorem inst_at (wr : WR K hd φ H w) {d : T} {v : V} (r : Rep K hd φ H d v) (h : isInst x m w d = true) {C : Addr} (g : GlbAt K.1 x C) : ∃ a dx fs, v = .ref a ∧ H a = some (.ins C dx fs) ∧ fs.lookup m = none := by
  unfold isInst at h
  split at h
  · rename_i k
    split at h
    · rename_i y ks ts hk
      rw [Bool.and_eq_true] at h
      have e : y = x := beq_iff_eq.mp h.1
      subst e
      obtain ⟨a, rfl, _, _, C', dx, vs, h1, h2, _⟩ := cell_at wr r hk
      cases GlbAt.inj g h2
      exact ⟨a, dx, _, rfl, h1, no_lookup (by simpa using h.2)⟩
    · cases h
  · cases h
theorem mth_read {C : Addr} (g : GlbAt K.1 x C) : ∀ σ H Q, rdE K W (mMth x m n f mo ma) σ H Q → tMethO C m (spOf K n f) (wE W) (rdE K W mo) (rdA K W ma) σ H Q := fun σ H Q => by
  rintro ⟨hd, φ, ρ, w, sr, wr, q⟩
  refine ⟨hd, φ, ρ, w, sr, wr, Pst.then isPst q fun d w1 φ1 H1 e1 wr1 p1 v rv => ?_⟩
  split at p1
  · rename_i hi
    obtain ⟨a, dx, fs, rfl, h1, h2⟩ := inst_at wr1 rv hi g
    refine ⟨a, dx, fs, rfl, h1, h2, hd, φ1, ρ, w1, sr.mono e1, wr1, Pst.then isPst p1 fun ds w2 φ2 H2 e2 wr2 p2 vs rvs => ?_⟩
    split at p2
    · rename_i hl
      exact ⟨hd, φ2, w2, d :: ds, by simpa using hl, wr2, Reps.cons (rv.mono e2) rvs, p2.callee ((sr.mono e1).mono e2)⟩
    · exact p2.elim
  · exact p1.elim
theorem rdA_nil : ∀ σ H Q, rdA K W mNil σ H Q → tNil σ H Q := fun σ H Q => by
  rintro ⟨hd, φ, ρ, w, sr, wr, p⟩
  exact p.ok wr _ Reps.nil
theorem de_mth {pl : PySem.Sem Bool} (D : MtD X.prog X.w X.K Z X.mg X.base k x m ps f) (tk : TakesO X W) (hr : Room k X.A) (ho : PE X o (rdE (X.K, Z) W mo)) (ha : PA X (e :: es) (rdA (X.K, Z) W ma)) (hn : ps.length = n := by rfl)
    (hst : starEach (e :: es) X.env = (false, eval e X.env) :: starEach es X.env := by rfl) (hpl : (backTo pos (starEach es X.env)).any (·.1) = false := by rfl)
    (ht : eval (.Call (.Attribute o m apos) (e :: es) [] pos) X.env = (do
      let ov ← eval o X.env
      standAt apos.atName
      let (g, first) ← holding [ov] (getMethod ov m pl)
      callWith pos g first (backTo pos (starEach (e :: es) X.env)) (backToKw pos (keywordEach [] X.env))) := by rfl) : PE X (.Call (.Attribute o m apos) (e :: es) [] pos) (rdE (X.K, Z) W (mMth x m n f mo ma)) := by
  subst hn
  obtain ⟨C, fa, fd, g, c, me, ok, hb⟩ := D.ex
  exact PE_imp (pe_methO (E := wE W) ho c me ok hr hb (passO tk) ha hst hpl ht) (mth_read g)
theorem de_mth0 {pl : PySem.Sem Bool} (D : MtD X.prog X.w X.K Z X.mg X.base k x m ps f) (tk : TakesO X W) (hr : Room k X.A) (ho : PE X o (rdE (X.K, Z) W mo)) (hn : ps.length = n := by rfl)
    (ht : eval (.Call (.Attribute o m apos) [] [] pos) X.env = (do
      let ov ← eval o X.env
      standAt apos.atName
      let (g, first) ← holding [ov] (getMethod ov m pl)
      callWith pos g first (backTo pos (starEach [] X.env)) (backToKw pos (keywordEach [] X.env))) := by rfl) : PE X (.Call (.Attribute o m apos) [] [] pos) (rdE (X.K, Z) W (mMth x m n f mo mNil)) := by
  subst hn
  obtain ⟨C, fa, fd, g, c, me, ok, hb⟩ := D.ex
  refine PE_imp (pe_methO0 (E := wE W) ho c me ok hr hb (passO tk) ht) fun σ H Q q => ?_
  obtain ⟨hd, φ, ρ, w, sr, wr, q2⟩ := mth_read (K := (X.K, Z)) g σ H Q q
  refine ⟨hd, φ, ρ, w, sr, wr, q2.imp fun d φ1 H1 e1 h v rv => ?_⟩
  obtain ⟨a, dx, fs, h1, h2, h3, h4⟩ := h v rv
  exact ⟨a, dx, fs, h1, h2, h3, rdA_nil _ _ _ h4⟩
/-! ### C(e, ..) -/
theorem make_read {C : Addr} (g : GlbAt K.1 x C) : ∀ σ H Q, rdE K W (mMake x n f ma) σ H Q → tMakeO C (spOf K n f) (wE W) (rdA K W ma) σ H Q := fun σ H Q => by
  rintro ⟨hd, φ, ρ, w, sr, wr, q⟩
  refine ⟨hd, φ, ρ, w, sr, wr, Pst.then isPst q fun ds w1 φ1 H1 e1 wr1 p1 vs rvs => ?_⟩
  intro y dx hy hdx hne
  split at p1
  · rename_i hl
    have w2 : WR K hd φ1 (upd H1 dx (.own y)) w1 := wr1.new hdx
    have ey : Ext hd φ1 H1 hd φ1 (upd H1 dx (.own y)) := Ext.new hdx
    have hy2 : (upd H1 dx (.own y)) y = none := by rw [upd_ne (Ne.symm hne)]; exact hy
    have nin := wr1.nin hdx
    have nny := wr1.nin hy
    have hc : CellR K (y :: hd) φ1 (upd (upd H1 dx (.own y)) y (.ins C dx [])) (.obj x [] []) y := by
      refine ⟨C, dx, [], upd_same, g, rfl, ⟨by rw [upd_ne hne]; exact upd_same, nin.1, fun z => ?_⟩, Reps.nil⟩
      rcases List.mem_cons.mp z with z | z
      · exact hne z
      · exact nin.2 z
    have w3 := (w2.hold (o := .ins C dx []) hy2).cell nny.2 hc
    have e3 : Ext hd φ1 H1 hd (φ1 ++ [y]) (upd (upd H1 dx (.own y)) y (.ins C dx [])) := ey.trans ((Ext.hold hy2).cell (fr0_none hy2))
    have ry : Rep K hd (φ1 ++ [y]) (upd (upd H1 dx (.own y)) y (.ins C dx [])) (.cell w1.length) (.ref y) := by
      unfold Rep
      refine ⟨y, rfl, ?_⟩
      rw [← wr1.len, List.getElem?_append_right (Nat.le_refl _)]
      simp
    refine ⟨hd, φ1 ++ [y], w1 ++ [.obj x [] []], .cell w1.length :: ds, by simpa using hl, w3, Reps.cons ry (rvs.mono e3), ?_⟩
    have sr3 := (sr.mono e1).mono e3
    cases hf : f (.cell w1.length :: ds) (w1 ++ [.obj x [] []]) with
    | no => rw [hf] at p1; exact p1.elim
    | ex t ρ' w' =>
      rw [hf] at p1
      cases W with
      | none => exact p1.elim
      | some W => intro H' φ' σ' e wr' _ cls d rx; exact p1 H' φ' σ (e3.trans e) wr' (sr3.mono e) cls d rx
    | ok t w' =>
      rw [hf, at_ok, bind_ok] at p1
      intro H' φ' e wr' v rv
      split at p1
      · unfold Rep at rv
        subst rv
        exact ⟨rfl, p1 H' φ' (e3.trans e) wr' _ (ry.mono e)⟩
      · exact p1.elim
  · exact p1.elim
theorem de_make (D : MkD X.prog X.w X.K Z X.mg X.base k x ps f) (tk : TakesO X W) (hr : Room (k + 1) X.A) (ha : PA X (e :: es) (rdA (X.K, Z) W ma)) (hn : ps.length = n := by rfl) (hg : Gl X x := by rfl) (hdb : (x == ("__debug__" : Str)) = false := by decide)
    (he : starEach (e :: es) X.env = (false, eval e X.env) :: starEach es X.env := by rfl) (hpl : (backTo pos (starEach es X.env)).any (·.1) = false := by rfl) : PE X (.Call (.Name x p) (e :: es) [] pos) (rdE (X.K, Z) W (mMake x n f ma)) := by
  subst hn
  obtain ⟨C, fa, fd, g, hm, mk, ok, hb⟩ := D.ex
  exact PE_imp (pe_makeO (E := wE W) mk ok hr hg hm hb (passO tk) ha hdb he hpl) (make_read g)
theorem de_make0 (D : MkD X.prog X.w X.K Z X.mg X.base k x ps f) (tk : TakesO X W) (hr : Room (k + 1) X.A) (hn : ps.length = n := by rfl) (hg : Gl X x := by rfl) (hdb : (x == ("__debug__" : Str)) = false := by decide) : PE X (.Call (.Name x p) [] [] pos) (rdE (X.K, Z) W (mMake x n f mNil)) := by
  subst hn
  obtain ⟨C, fa, fd, g, hm, mk, ok, hb⟩ := D.ex
  exact PE_imp (pe_makeO0 (E := wE W) mk ok hr hg hm hb (passO tk) hdb) fun σ H Q q => rdA_nil _ _ _ (make_read (K := (X.K, Z)) g σ H Q q)
end
end VS

set_option Elab.async false
set_option linter.all false
set_option maxRecDepth 100000
set_option maxHeartbeats 2000000
/-! VW29: methods called with keywords; methods and makers by the written part. -/
namespace VS
open PySem PySem.Spec PyProof.Rows L2
structure MtP (P : Program) (w : PySem.World) (K : PySem.W.Frag) (Z : List (Addr × Str)) (mg : Str → Option Value) (base : Heap) (k : Nat) (x m : Str) (n np : Nat) (ks : List Str) (ix : List Nat) (f : Sem) : Prop where
  ex : ∃ (C fa : Addr) (fd : FuncData) (ps : List Str), ps.length = n ∧ GlbAt K x C ∧ Cls K C ∧ Meth K C m fa ∧ FnOk P w K mg base (L2.CX P w) k fa fd ps (spOf (K, Z) n f) ∧ KBinds K fd ps ks (gP np ks.length ix) (gP np ks.length ix)
def mMthP (x m : Str) (n np nk : Nat) (ix : List Nat) (f : Sem) (a : ME) (r rk : MF) : ME := fun ρ w => (a ρ w).bind fun d w1 => if isInst x m w1 d = true then (r ρ w1).bind fun ds w2 => (rk ρ w2).bind fun es w3 =>
  if ds.length + 1 = np ∧ es.length = nk ∧ (prm ix (d :: ds ++ es)).length = n then (f (prm ix (d :: ds ++ es)) w3).at ρ else .no else .no
section
variable {X : Cx} {Z : List (Addr × Str)} {W : Option WX} {K : KT} {e o : Expr} {es : List Expr} {kws : List Keyword} {x m : Str} {p pos apos : Pos} {mo : ME} {ma mk : MF} {k n np nk : Nat} {ps ks : List Str} {ix : List Nat} {f : Sem}
def tMethKO (C : Addr) (m : Str) (sp : Sp) (gV : List V → List V → List V) (E : L2.St → XK) (ta : TE) (t tk : TA) : TE := fun σ H Q => ta σ H fun x H1 => ∃ a dx fs, x = .ref a ∧ H1 a = some (.ins C dx fs) ∧ fs.lookup m = none ∧ t σ H1 fun vs H2 => tk σ H2 fun zs H3 => sp (gV (x :: vs) zs) H3 Q (E σ)
theorem mthP_read {C : Addr} (g : GlbAt K.1 x C) : ∀ σ H Q, rdE K W (mMthP x m n np nk ix f mo ma mk) σ H Q → tMethKO C m (spOf K n f) (gP np nk ix) (wE W) (rdE K W mo) (rdA K W ma) (rdA K W mk) σ H Q := fun σ H Q => by
  rintro ⟨hd, φ, ρ, w, sr, wr, q⟩
  refine ⟨hd, φ, ρ, w, sr, wr, Pst.then isPst q fun d w1 φ1 H1 e1 wr1 p1 v rv => ?_⟩
  split at p1
  · rename_i hi
    obtain ⟨a, dx, fs, rfl, h1, h2⟩ := inst_at wr1 rv hi g
    refine ⟨a, dx, fs, rfl, h1, h2, hd, φ1, ρ, w1, sr.mono e1, wr1, Pst.then isPst p1 fun ds w2 φ2 H2 e2 wr2 p2 vs rvs => ?_⟩
    refine ⟨hd, φ2, ρ, w2, (sr.mono e1).mono e2, wr2, Pst.then isPst p2 fun zs w3 φ3 H3 e3 wr3 p3 vz rz => ?_⟩
    split at p3
    · rename_i hc
      have e : gP np nk ix (.ref a :: vs) vz = prm ix (.ref a :: vs ++ vz) := by unfold gP; rw [if_pos ⟨by rw [List.length_cons, ← rvs.len]; exact hc.1, by rw [← rz.len]; exact hc.2.1⟩]
      rw [e]
      exact ⟨hd, φ3, w3, prm ix (d :: ds ++ zs), hc.2.2, wr3, prm_reps ((Reps.cons ((rv.mono e2).mono e3) (rvs.mono e3)).append rz) ix, p3.callee (((sr.mono e1).mono e2).mono e3)⟩
    · exact p3.elim
  · exact p1.elim
theorem de_mthP0 {pl : PySem.Sem Bool} (D : MtP X.prog X.w X.K Z X.mg X.base k x m n 1 ks ix f) (tk : TakesO X W) (hr : Room k X.A) (ho : PE X o (rdE (X.K, Z) W mo)) (hkw : PK X kws (rdA (X.K, Z) W mk))
    (hall : (backToKw pos (keywordEach kws X.env)).all (·.1.isSome) = true := by rfl) (hks : (backToKw pos (keywordEach kws X.env)).filterMap (·.1) = ks := by rfl)
    (hpl : ((backTo pos (starEach [] X.env)).any (·.1) || (backToKw pos (keywordEach kws X.env)).any (·.1.isNone)) = false := by rfl) (hnk : ks.length = nk := by rfl)
    (ht : eval (.Call (.Attribute o m apos) [] kws pos) X.env = (do
      let ov ← eval o X.env
      standAt apos.atName
      let (g, first) ← holding [ov] (getMethod ov m pl)
      callWith pos g first (backTo pos (starEach [] X.env)) (backToKw pos (keywordEach kws X.env))) := by rfl) : PE X (.Call (.Attribute o m apos) [] kws pos) (rdE (X.K, Z) W (mMthP x m n 1 nk ix f mo mNil mk)) := by
  subst hnk
  obtain ⟨C, fa, fd, ps, hn, g, c, me, ok, hb⟩ := D.ex
  refine PE_imp (t := tMethKO C m (spOf (X.K, Z) n f) (gP 1 ks.length ix) (wE W) (rdE (X.K, Z) W mo) (rdA (X.K, Z) W mNil) (rdA (X.K, Z) W mk)) ⟨fun pins s σ H Q I h => ?_⟩ (mthP_read g)
  refine PySem.W.methodCall_KW (pl := pl) (thn (ho.run pins s σ H _ I h) fun u s1 ⟨y, H1, I1, rx, a, dx, fs, ex, ea, l, q⟩ => ?_) ht
  subst ex
  obtain rfl : u = Value.ref a := rx
  have q := rdA_nil _ _ _ q
  refine getmeth_ok I1 ea c me l (PySem.W.callWith_KW0 (first := [.ref a]) (h₀ := X.base) I.ok.mod.kin me.kp hall (thn (hkw.run pos pins s1 σ H1 _ I1 q) fun ws s2 ⟨zs, H2, I2, rz, q2⟩ => ⟨I2.kIn, ?_⟩) hpl)
  rw [hks]
  exact run_fnkO (us := [.ref a]) (vs := [.ref a]) ok hr hb (passO tk σ) I2 (.cons rfl .nil) rz q2
theorem de_mthP {pl : PySem.Sem Bool} (D : MtP X.prog X.w X.K Z X.mg X.base k x m n np ks ix f) (tk : TakesO X W) (hr : Room k X.A) (ho : PE X o (rdE (X.K, Z) W mo)) (ha : PA X (e :: es) (rdA (X.K, Z) W ma)) (hkw : PK X kws (rdA (X.K, Z) W mk))
    (hall : (backToKw pos (keywordEach kws X.env)).all (·.1.isSome) = true := by rfl) (hks : (backToKw pos (keywordEach kws X.env)).filterMap (·.1) = ks := by rfl)
    (he : starEach (e :: es) X.env = (false, eval e X.env) :: starEach es X.env := by rfl)
    (hpl : ((backTo pos (starEach (e :: es) X.env)).any (·.1) || (backToKw pos (keywordEach kws X.env)).any (·.1.isNone)) = false := by rfl) (hnk : ks.length = nk := by rfl)
    (ht : eval (.Call (.Attribute o m apos) (e :: es) kws pos) X.env = (do
      let ov ← eval o X.env
      standAt apos.atName
      let (g, first) ← holding [ov] (getMethod ov m pl)
      callWith pos g first (backTo pos (starEach (e :: es) X.env)) (backToKw pos (keywordEach kws X.env))) := by rfl) : PE X (.Call (.Attribute o m apos) (e :: es) kws pos) (rdE (X.K, Z) W (mMthP x m n np nk ix f mo ma mk)) := by
  subst hnk
  obtain ⟨C, fa, fd, ps, hn, g, c, me, ok, hb⟩ := D.ex
  refine PE_imp (t := tMethKO C m (spOf (X.K, Z) n f) (gP np ks.length ix) (wE W) (rdE (X.K, Z) W mo) (rdA (X.K, Z) W ma) (rdA (X.K, Z) W mk)) ⟨fun pins s σ H Q I h => ?_⟩ (mthP_read g)
  refine PySem.W.methodCall_KW (pl := pl) (thn (ho.run pins s σ H _ I h) fun u s1 ⟨y, H1, I1, rx, a, dx, fs, ex, ea, l, q⟩ => ?_) ht
  subst ex
  obtain rfl : u = Value.ref a := rx
  refine getmeth_ok I1 ea c me l (PySem.W.callWith_KW (first := [.ref a]) (h₀ := X.base) I.ok.mod.kin me.kp hall (thn (ha.run pos pins s1 σ H1 _ I1 q) fun us s2 ⟨vs, H2, I2, r, q2⟩ => thn (hkw.run pos pins s2 σ H2 _ I2 q2) fun ws s3 ⟨zs, H3, I3, rz, q3⟩ => ⟨I3.kIn, ?_⟩) hpl he)
  rw [hks]
  exact run_fnkO (us := .ref a :: us) (vs := .ref a :: vs) ok hr hb (passO tk σ) I3 (.cons rfl r) rz q3
end
/-! ### by the written part -/
/-- a method's def: what the written part says -/
structure AtM (K : PySem.W.Frag) (x m qual : Str) (st : Stmt) (cd : Value) : Prop where
  ex : ∃ (C f : Addr) (oc : Value) (od an : Option Addr) (sl : Array (Option Value)) (kV dc pm ct : Value), GlbAt K x C ∧ PySem.W.findIn K (.ref C) m = some (some (.ref f)) ∧ PySem.W.isFn K (.ref f) = true ∧ PySem.W.keepIn K (.ref f) = true ∧
    K.lookup f = some ⟨oc, od, .func (PySem.W.fnOf m qual (defArgs st) (defBody st) (defScope st) .none kV dc pm an cd ct), sl⟩ ∧ PySem.W.codeIn K cd qual = true
/-- an own class -/
structure ClsO (K : PySem.W.Frag) (x : Str) (C : Addr) : Prop where
  c1 : PySem.W.nsIn K mainGlobals x = some (some (.ref C))
  c2 : PySem.W.plainGet K C Str.empty = true
  c3 : PySem.W.hasDictIn K C = true
  c4 : PySem.W.plainOver K C = true
  c5 : PySem.W.findIn K (.ref C) "__setattr__" = some (some (.builtin "object.__setattr__"))
  c6 : PySem.W.makesIn K C = true
  c7 : PySem.W.keepIn K (.ref C) = true
theorem ClsO.cls {K : PySem.W.Frag} {x : Str} {C : Addr} (q : ClsO K x C) : Cls K C := ⟨q.c2, q.c3, q.c4, q.c5⟩
theorem atM_mk {K : PySem.W.Frag} {x m qual : Str} {st : Stmt} {C f : Addr} {oc : Value} {od an : Option Addr} {sl : Array (Option Value)} {kV dc pm cd ct : Value} (q : ClsO K x C) (h1 : PySem.W.findIn K (.ref C) m = some (some (.ref f)))
    (h2 : K.lookup f = some ⟨oc, od, .func (PySem.W.fnOf m qual (defArgs st) (defBody st) (defScope st) .none kV dc pm an cd ct), sl⟩) (h3 : PySem.W.codeIn K cd qual = true) (h4 : PySem.W.keepIn K (.ref f) = true) (h5 : PySem.W.isFn K (.ref f) = true) : AtM K x m qual st cd :=
  ⟨C, f, oc, od, an, sl, kV, dc, pm, ct, q.c1, h1, h5, h4, h2, h3⟩
section
variable {P : Program} {w : PySem.World} {K : PySem.W.Frag} {Z : List (Addr × Str)} {mg : Str → Option Value} {base : Heap} {x m qual : Str} {st : Stmt} {cd : Value} {N ps ks : List Str} {k np : Nat} {ix : List Nat} {mm : MS} {h : Heap} {C : Addr}
theorem ok_ofM {f : Addr} {fd : FuncData} {cdv : Value} (F : FunC K m qual st f fd cdv) (S : FnScope N ps (defScope st)) (body : Bd P w K Z mg base N qual st cdv k mm) : FnOk P w K mg base (L2.CX P w) (k + 1) f fd ps (spOf (K, Z) ps.length (runB N.length mm)) := by
  obtain ⟨oc, od, kV, doc, pm, an, ct, osl, rfl, lk, hcd⟩ := F.ex
  refine fn_of lk hcd S spOf_len fun A outer s H vs Q E hr hsp => ⟨rdS (K, Z) (some fun cls d _ H' => E cls d H') mm, body f A outer s H E _ hr (show Takes _ _ from takes_of rfl rfl rfl rfl), ?_⟩
  obtain ⟨hd, φ, w, ds, l, wr, rs, p⟩ := hsp
  refine ⟨hd, φ, ds.map some ++ List.replicate (N.length - ds.length) none, w, ?_, wr, ?_⟩
  · unfold L2.start
    rw [← rs.len]
    exact SR.start rs _
  · unfold runB at p
    cases q : mm (ds.map some ++ List.replicate (N.length - ds.length) none) w with
    | no => rw [q] at p; exact p
    | ex t ρ w' =>
      rw [q] at p
      intro H' φ' σ' e wr' _ cls d rx
      exact p H' φ' [] e wr' sr_nil cls d rx
    | ok r w' =>
      rw [q] at p
      obtain ⟨ρ', fl⟩ := r
      cases fl with
      | nx => intro H' φ' e wr' σ' _; exact p H' φ' e wr' .non (by unfold Rep; rfl)
      | ret t => exact p
      | bk => exact p.elim
      | ct => exact p.elim
theorem AtM.mt (a : AtM K x m qual st cd) (q : ClsO K x C) (S : FnScope N ps (defScope st))
    (hb : ∀ (kV doc pm : Value) (an : Option Addr) (cdv ct : Value) (us : List Value), us.length = ps.length → bindArgs (PySem.W.fnOf m qual (defArgs st) (defBody st) (defScope st) .none kV doc pm an cdv ct) ⟨us, []⟩ = pure (ps.zip us))
    (body : Bd P w K Z mg base N qual st cd k mm) : MtD P w K Z mg base (k + 1) x m ps (runB N.length mm) := by
  obtain ⟨C', f, oc, od, an, sl, kV, dc, pm, ct, g, h1, h5, h4, h2, h3⟩ := a.ex
  cases GlbAt.inj g q.c1
  exact ⟨C, f, _, g, q.cls, ⟨h1, h5, h4⟩, ok_ofM ⟨_, _, _, _, _, _, _, _, rfl, h2, h3⟩ S body, Binds.all (hb _ _ _ _ _ _)⟩
theorem AtM.maker (a : AtM K x "__init__" qual st cd) (q : ClsO K x C) (X : K.In h) (G : h.Ns mainGlobals mg) (S : FnScope N ps (defScope st))
    (hb : ∀ (kV doc pm : Value) (an : Option Addr) (cdv ct : Value) (us : List Value), us.length = ps.length → bindArgs (PySem.W.fnOf "__init__" qual (defArgs st) (defBody st) (defScope st) .none kV doc pm an cdv ct) ⟨us, []⟩ = pure (ps.zip us))
    (body : Bd P w K Z mg base N qual st cd k mm) : MkD P w K Z mg base (k + 1) x ps (runB N.length mm) := by
  obtain ⟨C', f, oc, od, an, sl, kV, dc, pm, ct, g, h1, h5, h4, h2, h3⟩ := a.ex
  cases GlbAt.inj g q.c1
  exact ⟨C, f, _, g, PySem.W.mg_of X G q.c1, ⟨q.c6, h1, h5, q.c7⟩, ok_ofM ⟨_, _, _, _, _, _, _, _, rfl, h2, h3⟩ S body, Binds.all (hb _ _ _ _ _ _)⟩
theorem AtM.mtP (a : AtM K x m qual st cd) (q : ClsO K x C) (S : FnScope N ps (defScope st)) (hne : ps ≠ [])
    (hb : ∀ (kV doc pm : Value) (an : Option Addr) (cdv ct : Value) (us ws : List Value), us.length = np → ws.length = ks.length → bindArgs (PySem.W.fnOf m qual (defArgs st) (defBody st) (defScope st) .none kV doc pm an cdv ct) ⟨us, ks.zip ws⟩ = pure (ps.zip (prm ix (us ++ ws))))
    (body : Bd P w K Z mg base N qual st cd k mm) : MtP P w K Z mg base (k + 1) x m ps.length np ks ix (runB N.length mm) := by
  obtain ⟨C', f, oc, od, an, sl, kV, dc, pm, ct, g, h1, h5, h4, h2, h3⟩ := a.ex
  cases GlbAt.inj g q.c1
  refine ⟨C, f, _, ps, rfl, g, q.cls, ⟨h1, h5, h4⟩, ok_ofM ⟨_, _, _, _, _, _, _, _, rfl, h2, h3⟩ S body, ⟨fun s us ws _ hl => ?_, fun a b => gP_rel a b⟩⟩
  unfold gP at hl ⊢
  split at hl
  · rename_i hc
    rw [if_pos hc]
    exact .of_eq (hb _ _ _ _ _ _ us ws hc.1 hc.2)
  · exfalso
    exact hne (List.eq_nil_of_length_eq_zero (by simpa using hl.symm))
theorem obTab_cons {tab : List (Str × List Str)} {fs : List Str} (q : ClsO K x C) (n : ∀ f ∈ fs, NoAttr K C f) (r : ObTab K tab) : ObTab K ((x, fs) :: tab) := ⟨fun p hp C' g => by
  rcases List.mem_cons.mp hp with rfl | hp
  · cases GlbAt.inj q.c1 g
    exact ⟨q.cls, n⟩
  · exact r.ex p hp C' g⟩
theorem obTab_nil : ObTab K [] := ⟨fun p hp => by cases hp⟩
end
end VS

set_option Elab.async false
set_option linter.all false
set_option maxRecDepth 100000
set_option maxHeartbeats 4000000
/-! VW30: a tuple times 0 or 1. -/
namespace VS
open PySem PySem.Spec PyProof.Rows L2
theorem tuple_mul1 (l : Addr) (items : Array Value) (n : Nat) (dd : Option Addr) (sl : Array (Option Value)) (u : Tok) :
    Meets (Builtin.«tuple.__mul__» ⟨[.ref l, .int 1 u], []⟩) (fun _ R s => s.heap.get? l = some { cls := .type "tuple", dict := dd, data := .seq items n, slots := sl } ∧ R (.ok (.ret (.ref l))) s) :=
  .of_wp fun prog w A R s h => by
    obtain ⟨hp, g, d, tk, os⟩ := s
    obtain ⟨hl, h⟩ := h
    have f1 := AutoSeq1.idx_int
    have c1 : (items.isEmpty || (1 : Int) == 1) = true := by simp
    wp_walk using wpAny_loadPart' hl
    repeat (first
      | (refine wpAny_ite_true (decide_eq_true c1) ?_; wp_walk using wpAny_loadPart' hl)
      | (refine wpAny_ite_false (by decide) ?_; wp_walk using wpAny_loadPart' hl))
    exact ⟨_, rfl, h⟩
theorem tuple_mul0 (l : Addr) (items : Array Value) (n : Nat) (dd : Option Addr) (sl : Array (Option Value)) (u : Tok) (ne : items.isEmpty = false) :
    Meets (Builtin.«tuple.__mul__» ⟨[.ref l, .int 0 u], []⟩) (fun _ R s => s.heap.get? l = some { cls := .type "tuple", dict := dd, data := .seq items n, slots := sl } ∧
      R (.ok (.ret (Value.ref s.heap.objs.size))) { s with heap := s.heap.push { cls := Value.type "tuple", data := Data.seq #[] }, toks := s.toks }) :=
  .of_wp fun prog w A R s h => by
    obtain ⟨hp, g, d, tk, os⟩ := s
    obtain ⟨hl, h⟩ := h
    have f1 := AutoSeq1.idx_int
    have c1 : (items.isEmpty || (0 : Int) == 1) = false := by rw [ne]; rfl
    wp_walk using wpAny_loadPart' hl
    repeat (first
      | (refine wpAny_ite_false (decide_eq_false (by rw [c1]; exact Bool.false_ne_true)) ?_; wp_walk using wpAny_loadPart' hl)
      | (refine wpAny_ite_true (by simp) ?_; wp_walk using wpAny_loadPart' hl)
      | (refine wpAny_ite_false (by decide) ?_; wp_walk using wpAny_loadPart' hl))
    exact ⟨_, rfl, h⟩
def rRep01 (K : PySem.W.Frag) : R2 := fun x y H Q => ∃ l k xs, x = .ref l ∧ y = .int k ∧ SqT K H l xs ∧ xs ≠ [] ∧ ((k = 1 ∧ Q (.ref l) H) ∨ (k = 0 ∧ ∀ p, H p = none → Q (.ref p) (upd H p (.tup []))))
theorem op_rep01 {X : Cx} : OpR X (binaryOp .Mult) (rRep01 X.K) := by
  intro pins s σ H x y v u Q I rx ry h
  obtain ⟨l, k, xs, rfl, rfl, hT, hne, q⟩ := h
  cases (show v = Value.ref l from rx)
  obtain ⟨t, rfl⟩ := ry
  obtain ⟨its, r, ⟨⟨cls, dd, data, sl⟩, ho, hc, n, hd⟩, hs⟩ := I.tuple hT
  simp only at hc hd
  subst hc hd
  have hi : its.toArray.isEmpty = false := by
    have hl := r.length
    cases its with
    | nil => exact absurd (List.eq_nil_of_length_eq_zero hl) hne
    | cons a b => rfl
  rcases q with ⟨rfl, q⟩ | ⟨rfl, q⟩
  · refine wpAny_binaryOp_repeat_ref (T := "tuple") (U := "int") (by decide) ⟨_, ho, rfl⟩ (fun s' => typeIs_int s' 1 t) noFill_tuple_mul F.fills_int_mul F.slot_int_rmul repeat_tuple F.slot_int_index.lookup
      (call_meets F.slot_int_rmul (typeIs_int s 1 t) F.entry_int_rmul (F.args_int_rmul_2 _ _) (int_rmul_tuple 1 t l its.toArray n dd sl)
        ⟨ho, rfl, ⟨_, ho, rfl⟩, call_meets F.slot_tuple_mul ⟨_, ho, rfl⟩ F.entry_tuple_mul (F.args_tuple_mul_2 _ _) (tuple_mul1 l its.toArray n dd sl t) ⟨ho, ?_⟩⟩)
    exact ⟨.ref l, H, I, rfl, q⟩
  · refine wpAny_binaryOp_repeat_ref (T := "tuple") (U := "int") (by decide) ⟨_, ho, rfl⟩ (fun s' => typeIs_int s' 0 t) noFill_tuple_mul F.fills_int_mul F.slot_int_rmul repeat_tuple F.slot_int_index.lookup
      (call_meets F.slot_int_rmul (typeIs_int s 0 t) F.entry_int_rmul (F.args_int_rmul_2 _ _) (int_rmul_tuple 0 t l its.toArray n dd sl)
        ⟨ho, rfl, ⟨_, ho, rfl⟩, call_meets F.slot_tuple_mul ⟨_, ho, rfl⟩ F.entry_tuple_mul (F.args_tuple_mul_2 _ _) (tuple_mul0 l its.toArray n dd sl t hi) ⟨ho, ?_⟩⟩)
    refine ⟨.ref s.heap.objs.size, _, I.laid (t' := s.toks) (o := .tup []) (fun b ob q => Heap.get?_push_of_some _ q) (Nat.le_refl _) ?_, rfl, q _ (I.hok.fresh (Nat.le_refl _))⟩
    exact ⟨by rw [sizeLine_eq]; decide, [], .nil, IsTup.new _ _⟩
def sMulT : S2 := fun x y w => match x, y with
  | .tup ts, .int k => if ts ≠ [] ∧ 0 ≤ k ∧ k ≤ 1000 ∧ ts.length ≤ 1000 then .ok (.tup (List.replicate k.toNat ts).flatten) w else .no
  | _, _ => .no
section
variable {X : Cx} {a b : Expr} {pos : Pos} {ma mb : ME} {Z : List (Addr × Str)} {W : Option WX} {K : KT}
theorem opMulT : Op2 K sMulT (fun x y H Q => rRepT K.1 x y H Q ∨ rRep01 K.1 x y H Q) := fun W hd φ H w dx dy x y Q wr rx ry p => by
  unfold sMulT at p
  split at p
  · rename_i ts k
    split at p
    · rename_i hc
      obtain ⟨h1, h2, h3, h4⟩ := hc
      unfold Rep at rx ry
      obtain ⟨l, xs, rfl, n, rs⟩ := rx
      have hx : xs ≠ [] := fun e => by
        subst e
        have := rs.len
        exact h1 (List.eq_nil_of_length_eq_zero this)
      by_cases k2 : 2 ≤ k
      · exact .inl ⟨l, k, xs, rfl, ry, SqT.of n.1, hx, k2, h3, by rw [← rs.len]; exact h4, p.tup wr (rs.flat k.toNat)⟩
      · by_cases k1 : k = 1
        · subst k1
          refine .inr ⟨l, 1, xs, rfl, ry, SqT.of n.1, hx, .inl ⟨rfl, ?_⟩⟩
          refine p.ok wr _ ?_
          unfold Rep
          exact ⟨l, xs, rfl, n, by simpa using rs⟩
        · have k0 : k = 0 := by omega
          subst k0
          exact .inr ⟨l, 0, xs, rfl, ry, SqT.of n.1, hx, .inr ⟨rfl, p.tup wr Reps.nil⟩⟩
    · exact p.elim
  · exact p.elim
theorem de_mulT (ha : PE X a (rdE (X.K, Z) W ma)) (hb : PE X b (rdE (X.K, Z) W mb)) : PE X (.BinOp a .Mult b pos) (rdE (X.K, Z) W (mOp2 sMulT ma mb)) := de_op (op_repT.or op_rep01) opMulT ha hb
end
end VS

set_option Elab.async false
set_option linter.all false
set_option maxRecDepth 100000
set_option maxHeartbeats 4000000
/-! VW31: xs.index(i) of ints. -/
namespace VS
open PySem PySem.Spec PyProof.Rows L2
/-! ### xs.index(i), of ints -/
def sIndexL : SM := fun d ds w => match ds with
  | [.int i] => match lst? w d with
    | some ts => match intsT ts with
      | some ns => match ns.findIdx? (· == i) with
        | some j => .ok (.int (j : Nat)) w
        | none => .no
      | none => .no
    | none => .no
  | _ => .no
theorem flat_ints (ns : List Int) : (ns.map V.int).all flatV = true := by
  rw [List.all_eq_true]
  intro v hv
  obtain ⟨n, _, rfl⟩ := List.mem_map.mp hv
  rfl
section
variable {X : Cx} {o e : Expr} {pos : Pos} {mo : ME} {m : MF} {Z : List (Addr × Str)} {W : Option WX} {K : KT}
theorem opIndexL : OpM K sIndexL (rIndex K.1) := fun W hd φ H w d ds x xs Q wr rx rxs p => by
  unfold sIndexL at p
  split at p
  · rename_i i
    cases q : lst? w d with
    | none => rw [q] at p; exact p.elim
    | some ts =>
      rw [q] at p
      simp only at p
      cases q2 : intsT ts with
      | none => rw [q2] at p; exact p.elim
      | some ns =>
        rw [q2] at p
        simp only at p
        cases q3 : ns.findIdx? (· == i) with
        | none => rw [q3] at p; exact p.elim
        | some j =>
          rw [q3] at p
          simp only at p
          obtain ⟨l, ys, rfl, h1, h2⟩ := lst_at wr rx q
          obtain ⟨v, rfl, rt⟩ := reps1 rxs
          cases rep_int rt
          have hys := intV_at h2 q2
          subst hys
          obtain ⟨hj, hjt, hno⟩ := List.findIdx?_eq_some_iff_getElem.mp q3
          refine ⟨l, ns.map V.int, .int i, j, .int ns[j], rfl, rfl, SqL.of h1, rfl, flat_ints ns, by simp [hj], hjt, ?_, p.ok wr _ (by unfold Rep; rfl)⟩
          intro m z' hm hz
          rw [List.getElem?_map] at hz
          cases q4 : ns[m]? with
          | none => rw [q4] at hz; cases hz
          | some n =>
            rw [q4] at hz
            cases hz
            obtain ⟨hml, rfl⟩ := List.getElem?_eq_some_iff.mp q4
            have := hno m hm
            show (ns[m] == i) = false
            simpa using this
  · exact p.elim
theorem de_indexL {apos : Pos} (ho : PE X o (rdE (X.K, Z) W mo)) (ha : PA X [e] (rdA (X.K, Z) W m))
    (hbase : attributeBase o "index" X.env (eval o X.env) = eval o X.env := by rfl) (hline : (apos.endLine == pos.line) = true := by rfl)
    (hfew : ((backTo pos (starEach [e] X.env)).all (fun x => !x.1) && (backToKw pos (keywordEach [] X.env)).all (fun x => x.1.isSome)
      && decide (([e] : List Expr).length + ([] : List Keyword).length + (if ([] : List Keyword).isEmpty then 0 else 1) < 30)) = true := by rfl)
    (hs : starEach [e] X.env = (false, eval e X.env) :: starEach [] X.env := by rfl) (hplain : (backTo pos (starEach [] X.env)).any (·.1) = false := by rfl) :
    PE X (.Call (.Attribute o "index" apos) [e] [] pos) (rdE (X.K, Z) W (mMeth sIndexL mo m)) :=
  PE_imp (pe_bm PySem.F.plainAttrs_list PySem.F.slot_list_index PySem.F.type_list_index mt_index ho ha hbase hfew hline hs hplain) (meth_read opIndexL)
end
/-! ### name = [.. for .. for ..], both on one line -/
section
variable {X : Cx} {Z : List (Addr × Str)} {W : Option WX} {elt tg iter : Expr} {ifs : List Expr} {scope : Scope} {own : List (Str × Nat)} {pos : Pos}
theorem ds_setLc2 (i : Nat) (cell : Bool) {y : Str} {py spos : Pos} {tg1 iter1 : Expr} {ifs1 : List Expr} {vs1 : List Nat} {it it1 : MI} {g g1 : MG} {S S1 : List Nat} {mc mc1 : MT} {me : ME} (hc : X.calm = true) (hN : X.N.Nodup) (hi : PI X tg iter (rdI (X.K, Z) W it)) (ok : blkC X.N X.env.scope scope own = true)
    (hg : InBlk X scope fun Y => PG Y tg (rdG (X.K, Z) none g S)) (ht : InBlk X scope fun Y => PTs Y ifs (rdT (X.K, Z) none mc)) (hi1 : InBlk X scope fun Y => PI Y tg1 iter1 (rdI (X.K, Z) none it1)) (hg1 : InBlk X scope fun Y => PG Y tg1 (rdG (X.K, Z) none g1 S1)) (ht1 : InBlk X scope fun Y => PTs Y ifs1 (rdT (X.K, Z) none mc1)) (he : InBlk X scope fun Y => PE Y elt (rdE (X.K, Z) none me))
    (hsw : swapsWith (.ListComp elt [⟨tg, iter, ifs, 0⟩, ⟨tg1, iter1, ifs1, 0⟩] scope pos) (some (.Name y py)) spos.line X.env = pure true) (hy : X.N[i]? = some y := by rfl) (hyl : X.env.scope.names.lookup y = some .local := by rfl)
    (hv : ∀ i ∈ vs1, i ∈ own.map (·.2) := by decide) (hS : ∀ i ∈ S, i ∈ own.map (·.2) := by decide) (hS1 : ∀ i ∈ S1, i ∈ vs1 := by decide) (hs : ∀ x, foldedSetIterable iter X.env x = pure x := by intro _; rfl) (hs1 : ∀ env x, foldedSetIterable iter1 env x = pure x := by intro _ _; rfl) :
    PS X (.Assign [.Name y py] (.ListComp elt [⟨tg, iter, ifs, 0⟩, ⟨tg1, iter1, ifs1, 0⟩] scope pos) spos) (rdS (X.K, Z) W (mAsg (if cell = true then mCell (mComp2 (own.map (·.2)) it g mc it1 vs1 g1 mc1 me) else mVal (mComp2 (own.map (·.2)) it g mc it1 vs1 g1 mc1 me)) (mgName i))) :=
  PS_imp (ps_setLc2 hc hN hy hyl hsw hi (blkOk_by ok) hv hg ht hi1 hg1 ht1 he hs hs1) (setF_read (comp2_read hS hS1) cell)
end
/-! ### x[a:b], x a tuple or a list -/
def mSlQ (a : ME) (lo hi : MO) : ME := fun ρ w => (a ρ w).bind fun t w1 => (lo ρ w1).bind fun l w2 => (hi ρ w2).bind fun u w3 => match t with
  | .tup ts => .ok (.tup (cutT ts l u)) w3
  | t => match lst? w3 t with
    | some ts => .ok (.lst (cutT ts l u)) w3
    | none => .no
section
variable {X : Cx} {a : Expr} {pos : Pos} {ma : ME} {Z : List (Addr × Str)} {W : Option WX} {K : KT} {hd φ : List Addr} {H : Hp} {w' : World}
theorem Pst.lstN {Q : VK} {ts : List T} {xs : List V} (p : Pst K W hd (CE K hd Q) φ H (.ok (.lst ts) w')) (wr : WR K hd φ H w') (r : Reps K hd φ H ts xs) : ∀ q, H q = none → Q (.ref q) (upd H q (.lst xs)) := by
  have pF : PstF K W hd Q φ H (.ok ts w') := by
    intro a xs H' φ' e1 wr1 hn ha hx rs
    refine p H' φ' e1.free wr1.free _ ?_
    unfold Rep
    exact ⟨a, xs, rfl, ⟨hx, fun z => wr1.apart a z List.mem_cons_self, ha⟩, rs.free⟩
  exact pF.new wr r
theorem de_sliceQ {lo hi : Option Expr} {ml mh : MO} {p2 : Pos} (ha : PE X a (rdE (X.K, Z) W ma)) (hl : PO X lo (rdO (X.K, Z) W ml)) (hh : PO X hi (rdO (X.K, Z) W mh)) : PE X (.Subscript a (.Slice lo hi none p2) pos) (rdE (X.K, Z) W (mSlQ ma ml mh)) := PE_imp (pe_slice (sl_tupA.or sl_list) ha hl hh) fun σ H Q => by
  rintro ⟨hd, φ, ρ, w, sr, wr, p⟩
  refine ⟨hd, φ, ρ, w, sr, wr, Pst.then isPst p fun t w1 φ1 H1 e1 wr1 p1 v rv => ?_⟩
  refine ⟨hd, φ1, ρ, w1, sr.mono e1, wr1, Pst.then isPst p1 fun l w2 φ2 H2 e2 wr2 p2 => ?_⟩
  refine ⟨hd, φ2, ρ, w2, sr.mono (e1.trans e2), wr2, Pst.then isPst p2 fun u w3 φ3 H3 e3 wr3 p3 => ?_⟩
  have rv3 := (rv.mono e2).mono e3
  by_cases ht : ∃ ts, t = .tup ts
  · obtain ⟨ts, rfl⟩ := ht
    unfold Rep at rv3
    obtain ⟨q, xs, rfl, n, rs⟩ := rv3
    refine .inl ⟨q, xs, rfl, SqT.of n.1, fun e => ?_, fun _ => p3.tup wr3 (rs.cut l u)⟩
    have e4 : cutT ts l u = ts := by
      unfold cutT
      rw [rs.len, e.1, e.2, List.drop_zero, Nat.sub_zero, ← rs.len]
      exact List.take_length
    simp only at p3
    rw [e4] at p3
    exact p3.ok wr3 _ (by unfold Rep; exact ⟨q, xs, rfl, n, rs⟩)
  · have p4 : Pst (X.K, Z) W hd (CE (X.K, Z) hd Q) φ3 H3 (match lst? w3 t with
      | some ts => .ok (.lst (cutT ts l u)) w3
      | none => .no) := by
      cases t with
      | tup ts => exact (ht ⟨_, rfl⟩).elim
      | _ => exact p3
    cases q : lst? w3 t with
    | none => rw [q] at p4; exact p4.elim
    | some ts =>
      rw [q] at p4
      obtain ⟨l', xs, rfl, h1, h2⟩ := lst_at wr3 rv3 q
      exact .inr ⟨l', xs, rfl, SqL.of h1, p4.lstN wr3 (h2.cut l u)⟩
end
end VS

set_option Elab.async false
set_option linter.all false
set_option maxRecDepth 100000
set_option maxHeartbeats 2000000
/-! VX1: defs that may want to know that no repr is under way (guards are told); repr of data. -/
namespace VS
open PySem PySem.Spec PyProof.Rows L2
/-- room, and no guard stands -/
structure RoomG (k : Nat) (A : Around) : Prop where
  room : Room k A
  gd : A.guards = some []
theorem RoomG.mono {j k : Nat} {A : Around} (r : RoomG k A) (h : j ≤ k) : RoomG j A := ⟨r.room.mono h, r.gd⟩
theorem RoomG.units {k : Nat} {A : Around} (r : RoomG k A) : A.units + 64 < cLine := r.room.units
/-- a def's promise where no guard stands -/
structure FnG (P : Program) (w : PySem.World) (K : PySem.W.Frag) (mg : Str → Option Value) (base : Heap) (k : Nat) (f : Addr) (fd : FuncData) (ps : List Str) (sp : Sp) : Prop where
  many : ∀ {vs : List V} {H : Hp} {Q : VK} {E : XK}, sp vs H Q E → vs.length = ps.length
  runs : ∀ {A : Around} {fr : List PySem.Env} {s : Shared} {H : Hp} {as : Args} {us : List Value} {vs : List V} {Q : VK} {E : XK}, RoomG k A → Env0 P w K mg base A fr s H →
    BindsTo s fd as (ps.zip us) → Vals vs us → sp vs H Q E → codeAny (model P w) A (.call (.ref f) as) (CR (L2.CX P w) fr P w H s Q E) s
/-- a body, read wherever no guard stands -/
def BdG (P : Program) (w : PySem.World) (K : PySem.W.Frag) (Z : List (Addr × Str)) (mg : Str → Option Value) (base : Heap) (N : List Str) (qual : Str) (st : Stmt) (cdv : Value) (k : Nat) (m : MS) : Prop :=
  ∀ (f : Addr) (A : Around) (outer : List PySem.Env) (s : Shared) (H : Hp) (E : XK) (W : Option WX), RoomG k (A.deeper (envOfC qual (defScope st) s.heap.objs.size f cdv)) → TakesO (cxOf (L2.CX P w) P w K mg base N qual (defScope st) f cdv A outer s H E) W →
    PSs (cxOf (L2.CX P w) P w K mg base N qual (defScope st) f cdv A outer s H E) (defBody st) (rdS (K, Z) W m)
section
variable {P : Program} {w : PySem.World} {K : PySem.W.Frag} {Z : List (Addr × Str)} {mg : Str → Option Value} {base : Heap}
theorem Bd.g {N : List Str} {qual : Str} {st : Stmt} {cdv : Value} {k : Nat} {m : MS} (b : Bd P w K Z mg base N qual st cdv k m) : BdG P w K Z mg base N qual st cdv k m := fun f A outer s H E W hr tk => b f A outer s H E W hr.room tk
/-- what a def is worth, read off its body's reading -/
theorem start_reads {N : List Str} {n : Nat} {m : MS} {vs : List V} {H : Hp} {Q : VK} {E : XK} (h : spOf (K, Z) n (runB N.length m) vs H Q E) : rdS (K, Z) (some fun cls d _ H' => E cls d H') m { nx := fun _ H' => Q .non H', rt := Q } (L2.start N vs) H := by
  obtain ⟨hd, φ, w, ds, l, wr, rs, p⟩ := h
  refine ⟨hd, φ, ds.map some ++ List.replicate (N.length - ds.length) none, w, ?_, wr, ?_⟩
  · unfold L2.start
    rw [← rs.len]
    exact SR.start rs _
  · unfold runB at p
    cases q : m (ds.map some ++ List.replicate (N.length - ds.length) none) w with
    | no => rw [q] at p; exact p
    | ex t ρ w' =>
      rw [q] at p
      intro H' φ' σ' e wr' _ cls d rx
      exact p H' φ' [] e wr' sr_nil cls d rx
    | ok r w' =>
      rw [q] at p
      obtain ⟨ρ, fl⟩ := r
      cases fl with
      | nx => intro H' φ' e wr' σ' sr'; exact p H' φ' e wr' _ (by unfold Rep; rfl)
      | ret t => intro H' φ' e wr'; exact p H' φ' e wr'
      | bk => exact p.elim
      | ct => exact p.elim
theorem okG {x : Str} {st : Stmt} {f : Addr} {fd : FuncData} {cdv : Value} {N ps : List Str} {k : Nat} {m : MS} (F : FunC K x x st f fd cdv) (S : FnScope N ps (defScope st)) (body : BdG P w K Z mg base N x st cdv k m) : FnG P w K mg base (k + 1) f fd ps (spOf (K, Z) ps.length (runB N.length m)) := by
  obtain ⟨oc, od, kV, doc, pm, an, ct, osl, rfl, lk, hcd⟩ := F.ex
  refine ⟨fun h => spOf_len _ _ _ _ h, fun {A fr s H as us vs Q E} hr e0 hb r h => LamX.run_ofS lk hcd S hr.room e0 hb r (spOf_len _ _ _ _ h) fun hr' => ⟨_, body f A fr s H E (some fun cls d _ H' => E cls d H') ⟨hr', hr.gd⟩ (show Takes _ _ from takes_of rfl rfl rfl rfl), start_reads h⟩⟩
theorem FnG.imp {f : Addr} {fd : FuncData} {ps : List Str} {k : Nat} {sp sp' : Sp} (F : FnG P w K mg base k f fd ps sp) (h : ∀ {vs : List V} {H : Hp} {Q : VK} {E : XK}, sp' vs H Q E → sp vs H Q E) : FnG P w K mg base k f fd ps sp' :=
  ⟨fun q => F.many (h q), fun r e b v q => F.runs r e b v (h q)⟩
/-- a def that calls where no guard stands -/
structure DfG (P : Program) (w : PySem.World) (K : PySem.W.Frag) (Z : List (Addr × Str)) (mg : Str → Option Value) (base : Heap) (k : Nat) (x : Str) (ps : List Str) (f : Sem) : Prop where
  ex : ∃ (ad : Addr) (fd : FuncData), FnG P w K mg base k ad fd ps (spOf (K, Z) ps.length f) ∧ mg x = some (.ref ad) ∧ PySem.W.keepIn K (.ref ad) = true ∧ Binds K fd ps []
theorem dfG_gc {x : Str} {ps : List Str} {k : Nat} {g : Sem} (D : DfG P w K Z mg base k x ps g) : DfG P w K Z mg base k x ps (gc g) := by
  obtain ⟨f, fd, ok, hm, hk, hb⟩ := D.ex
  exact ⟨f, fd, ok.imp fun ⟨hd, φ, w, ds, l, wr, rs, p⟩ => ⟨hd, φ, w, ds, l, wr, rs, gc_read wr p⟩, hm, hk, hb⟩
theorem At.dfG {x : Str} {st : Stmt} {cd : Value} {N ps : List Str} {k : Nat} {m : MS} {h : Heap} (a : At K x st cd) (X : K.In h) (G : h.Ns mainGlobals mg) (S : FnScope N ps (defScope st))
    (hb : ∀ (kV doc pm : Value) (an : Option Addr) (cdv ct : Value) (us : List Value), us.length = ps.length → bindArgs (PySem.W.fnOf x x (defArgs st) (defBody st) (defScope st) .none kV doc pm an cdv ct) ⟨us, []⟩ = pure (ps.zip us))
    (body : BdG P w K Z mg base N x st cd k m) : DfG P w K Z mg base (k + 1) x ps (runB N.length m) := by
  obtain ⟨f, oc, od, an, sl, kV, dc, pm, ct, h1, h2, h3, h4⟩ := a.ex
  exact ⟨f, _, okG ⟨_, _, _, _, _, _, _, _, rfl, h2, h3⟩ S body, PySem.W.mg_of X G h1, h4, (fun_mk (st := st) h2 h3 h4).binds hb⟩
end
section
variable {X : Cx} {Z : List (Addr × Str)} {W : Option WX} {k n : Nat} {f : Addr} {fd : FuncData} {ps : List Str} {sp : Sp} {E : L2.St → XK} {x : Str} {p pos : Pos} {e : Expr} {es : List Expr} {t : TA} {m : MF} {g : Sem}
theorem run_g {pins : List (Addr × Obj)} {σ : L2.St} {H : Hp} {s : Shared} {Q : VK} {us : List Value} {vs : List V} (F : FnG X.prog X.w X.K X.mg X.base k f fd ps sp) (hr : RoomG k X.A) (hb : Binds X.K fd ps []) (hx : PassesAt (L2.CX X.prog X.w) X σ (E σ)) (I : Inv X pins σ H s) (r : Vals vs us) (q : sp vs H Q (E σ)) :
    wpAny (model X.prog X.w) X.A (call (.ref f) us) (EP X pins σ Q) X.xe s := by
  have b : BindsTo s fd ⟨us, []⟩ (ps.zip us) := by
    simpa using hb s us I.kIn (by rw [List.append_nil, ← r.length, F.many q])
  refine wpAny_call (codeAny_mono (F.runs hr I.env0 b r q) fun o s' z => ?_)
  match o, z with
  | .error c, z => exact hx pins H s c s' I z
  | .ok (.ret u), z => exact I.after z
theorem de_defG (F : DfG X.prog X.w X.K Z X.mg X.base k x ps g) (tk : TakesO X W) (hr : RoomG k X.A) (ha : PA X (e :: es) (rdA (X.K, Z) W m)) (hn : ps.length = n := by rfl) (hg : Gl X x := by rfl) (hdb : (x == ("__debug__" : Str)) = false := by decide)
    (he : starEach (e :: es) X.env = (false, eval e X.env) :: starEach es X.env := by rfl) (hpl : (backTo pos (starEach es X.env)).any (·.1) = false := by rfl) : PE X (.Call (.Name x p) (e :: es) [] pos) (rdE (X.K, Z) W (mDef n g m)) := by
  subst hn
  obtain ⟨ad, fd, ok, hm, hk, hb⟩ := F.ex
  have call : PE X (.Call (.Name x p) (e :: es) [] pos) (tCallS (spOf (X.K, Z) ps.length g) (wE W) (rdA (X.K, Z) W m)) :=
    ⟨fun pins s σ H Q I h => wpAny_Call_Name_kw (ld_glob I hg hm (PySem.W.callWith_K (h₀ := X.base) I.ok.mod.kin hk (thn (ha.run pos pins s σ H _ I h) fun us s1 ⟨vs, H1, I1, r, q⟩ => ⟨I1.kIn, run_g ok hr hb (passO tk σ) I1 r q⟩) he hpl) hdb)⟩
  exact PE_imp call def_read
/-! ### repr -/
def sRepr : SC := fun ds w => match ds with
  | [t] => match pd w t with
    | some (.list ts) => if (PyData.list ts).showable = true ∧ (PyData.list ts).hasDict = false ∧ (PyData.list ts).depth ≤ 50 ∧ (PyData.list ts).shown.length ≤ sizeLine then .ok (.str (PyData.list ts).shown) w else .no
    | some (.tuple ts) => if (PyData.tuple ts).showable = true ∧ (PyData.tuple ts).hasDict = false ∧ (PyData.tuple ts).depth ≤ 50 ∧ (PyData.tuple ts).shown.length ≤ sizeLine then .ok (.str (PyData.tuple ts).shown) w else .no
    | _ => .no
  | _ => .no
def isBox : PyData → Bool
  | .list _ => true
  | .tuple _ => true
  | _ => false
def rRepr (K : PySem.W.Frag) : List V → Hp → VK → Prop := fun xs H Q => ∃ (x : V) (d : PyData), xs = [x] ∧ Dp K H x d ∧ isBox d = true ∧ d.showable = true ∧ d.hasDict = false ∧ d.depth ≤ 50 ∧ d.shown.length ≤ sizeLine ∧ Q (.str d.shown) H
theorem cr_repr (hg : X.A.guards = some []) (hu : X.A.units + 64 < cLine) : CallR X (.builtin "repr") (rRepr X.K) := fun pins s σ H xs us Q I rv q => by
  obtain ⟨x, d, rfl, hd, hb, h1, h2, h3, h4, q⟩ := q
  cases rv with
  | cons r0 rest =>
    cases rest
    obtain ⟨as, rd⟩ := Dp.reads I d _ _ hd r0
    have ref : ∃ a, ‹Value› = Value.ref a := by
      cases rd <;> first | (cases hb; done) | exact ⟨_, rfl⟩
    obtain ⟨a, ha⟩ := ref
    subst ha
    exact repr_of_reads' rd h1 (fun z => by rw [h2] at z; cases z) hg (by omega) (fun _ _ z => z) (fun h' u tk hk => ⟨.str d.shown, H, I.kept (t' := tk) hk, ⟨u, rfl⟩, q⟩) h4
theorem opRepr {K : KT} : OpC K sRepr (rRepr K.1) := fun W hd φ H w ds xs Q wr rx p => by
  unfold sRepr at p
  split at p
  · rename_i t
    unfold Reps at rx
    obtain ⟨x, rest, rfl, r1, r2⟩ := rx
    unfold Reps at r2
    subst r2
    split at p
    · rename_i ts hp
      split at p
      · rename_i hc
        exact ⟨x, .list ts, rfl, dp wr r1 hp, rfl, hc.1, hc.2.1, hc.2.2.1, hc.2.2.2, p.ok wr _ (by unfold Rep; rfl)⟩
      · exact p.elim
    · rename_i ts hp
      split at p
      · rename_i hc
        exact ⟨x, .tuple ts, rfl, dp wr r1 hp, rfl, hc.1, hc.2.1, hc.2.2.1, hc.2.2.2, p.ok wr _ (by unfold Rep; rfl)⟩
      · exact p.elim
    · exact p.elim
  · exact p.elim
end
end VS

set_option Elab.async false
set_option linter.all false
set_option maxRecDepth 100000
set_option maxHeartbeats 2000000
/-! VX2: the law called by its caller: no guard stands there. -/
namespace VS
open PySem PySem.Spec PyProof.Rows L2
section
variable {P : Program} {w : PySem.World} {K : PySem.W.Frag} {mg mb : Str → Option Value} {a : Addr} {cs : List (Addr × Addr)} {s : Shared} {us : List Value} {ns : List Int} {H : Hp}
/-- the heap at the call -/
structure LawHeap (K : PySem.W.Frag) (mg mb : Str → Option Value) (cs : List (Addr × Addr)) (a : Addr) (us : List Value) (ns : List Int) (s : Shared) : Prop where
  kin : K.In s.heap
  glb : s.heap.Ns mainGlobals mg
  blt : s.heap.Ns builtinsNs mb
  boot : ∀ x : Str, x ≠ "__name__" → mb x = bootBuiltins x
  lim : s.heap.NoLimit
  gens : s.gens = #[]
  tab : ∀ p ∈ cs, s.heap.get? p.2 = some { cls := .none, data := .fields #[] }
  out : ∀ p ∈ cs, K.lookup p.2 = none
  code : ∀ p ∈ cs, PySem.W.CodeHd s.heap p.1 p.2
  bmod : ∃ (m : Addr) (ob : Obj), mg "__builtins__" = some (.ref m) ∧ m ≠ builtinsNs ∧ s.heap.get? m = some ob ∧ ob.cls = .type "module" ∧ ob.dict = some builtinsNs ∧ ob.data = .plain
  arg : s.heap.get? a = some { cls := .type "list", data := .seq us.toArray }
  nums : IntsAre us ns
  short : ns.length ≤ sizeLine
/-- what is tracked: the tables, and the script unless it is known -/
structure Tracked (P : Program) (w : PySem.World) (K : PySem.W.Frag) (cs : List (Addr × Addr)) (a : Addr) (ns : List Int) (s : Shared) (H : Hp) : Prop where
  tabs : ∀ p ∈ cs, H p.2 = some (.tbl #[])
  kind : ∀ b, H b = none ∨ b ∈ cs.map (·.2) ∨ ∃ o xs, H b = some (.frz o (.lst xs))
  only : ∀ b, H b ≠ none → b = a ∨ b ∈ cs.map (·.2)
  new : H a ≠ none → K.lookup a = none
  ok : HOk P w H s.heap
  seq : SqL K H a (ns.map V.int)
theorem LawHeap.at (L : LawHeap K mg mb cs a us ns s) {b : Addr} (h : b ∈ cs.map (·.2)) : s.heap.get? b = some { cls := .none, data := .fields #[] } := by
  obtain ⟨p, hp, rfl⟩ := List.mem_map.mp h
  exact L.tab p hp
theorem LawHeap.notab (L : LawHeap K mg mb cs a us ns s) : a ∉ cs.map (·.2) := fun h => by
  have e := L.at h
  rw [L.arg] at e
  have e2 := congrArg (fun o : Option Obj => o.map Obj.data) e
  simp at e2
variable (L : LawHeap K mg mb cs a us ns s) (T : Tracked P w K cs a ns s H)
include L T
/-- what is neither a sequence nor an empty table is not tracked -/
theorem untold {b : Addr} {o : Obj} (e : s.heap.get? b = some o) (h1 : ∀ xs n, o.data ≠ .seq xs n) (h2 : o.data ≠ .fields #[]) : H b = none := by
  by_cases n : H b = none
  · exact n
  · exfalso
    rcases T.only b n with rfl | q
    · rw [L.arg] at e; cases e; exact h1 _ _ rfl
    · rw [L.at q] at e; cases e; exact h2 rfl
theorem seen {b : Addr} {o : Obj} (e : s.heap.get? b = some o) (h1 : ∀ xs n, o.data ≠ .seq xs n) (h2 : o.data ≠ .fields #[]) : (hidT s.heap H).get? b = some o := hidT_get e (untold L T e h1 h2)
theorem seenNs {b : Addr} {m : Str → Option Value} (q : s.heap.Ns b m) : (hidT s.heap H).Ns b m := by
  obtain ⟨o, es, ep, e, d, r⟩ := q
  exact ⟨o, es, ep, seen L T e (fun _ _ z => by rw [d] at z; cases z) (fun z => by rw [d] at z; cases z), d, r⟩
theorem seenK : K.In (hidT s.heap H) := fun b o e => hidT_get (L.kin b o e) (by
  by_cases n : H b = none
  · exact n
  · exfalso
    rcases T.only b n with rfl | q
    · rw [T.new n] at e; cases e
    · obtain ⟨p, hp, rfl⟩ := List.mem_map.mp q
      rw [L.out p hp] at e; cases e)
theorem seenMod : L2.Mod K mg (hidT s.heap H) := by
  obtain ⟨mc, h1, h2⟩ := L.lim
  exact ⟨seenK L T, seenNs L T L.glb, ⟨mb, seenNs L T L.blt, L.boot⟩, mc, seenNs L T h1, h2⟩
theorem seenTab (p : Addr × Addr) (hp : p ∈ cs) : LamX.TabB (hidT s.heap H) mg p.1 p.2 := by
  have hTp := L.tab p hp
  obtain ⟨m, ob, b1, b2, b3, b4, b5, b6⟩ := L.bmod
  refine ⟨?_, ⟨m, ob, b1, b2, fun q => ?_, fun q => ?_, seen L T b3 (fun _ _ z => by rw [b6] at z; cases z) (fun z => by rw [b6] at z; cases z), b4, b5, b6⟩, fun z => ?_⟩
  · obtain ⟨o, fs, file, tf, flags, tg, inF, text, tt, e1, r1, r2, r3, rr⟩ := L.code p hp
    refine ⟨o, fs, file, tf, flags, tg, inF, text, tt, seen L T e1 (fun _ _ z => by rw [r2] at z; cases z) (fun z => ?_), r1, r2, r3, rr⟩
    rw [r2] at z
    cases z
    simp at r3
  · obtain ⟨o, es, ep, e, hd, _⟩ := L.glb
    rw [q, e] at b3
    cases b3
    rw [hd] at b6; cases b6
  · rw [q, hTp] at b3
    cases b3; cases b6
  · obtain ⟨o, es, ep, e, hd, _⟩ := L.glb
    rw [z, hTp] at e
    cases e; cases hd
theorem callEnv : Env0 P w K mg (hidT s.heap H) callerA [] s H :=
  ⟨rfl, seenMod L T, fun _ _ e => of_hidT e, Nat.le_of_eq (hidT_size _ _), trivial, fun _ hb => (List.not_mem_nil hb).elim, T.ok, .of_eq L.gens⟩
/-- behind the call -/
theorem behind_call {u : Value} {s' : Shared} (h : L2.CE [] P w H s (fun v _ => v = .bl true) u s') : u = .bool true ∧ OldK s.heap s'.heap ∧ s'.os = s.os ∧ AllBare s'.gens := by
  obtain ⟨v, H', os, bare, un, ok', r, rfl⟩ := h
  have key : ∀ b o, b ∉ cs.map (·.2) → s.heap.get? b = some o → s'.heap.get? b = some o := fun b o nb e => by
    rcases T.kind b with z | z | ⟨ob, xs, z⟩
    · exact un.keep b o e z (fun q => (List.not_mem_nil q).elim) (by simp)
    · exact absurd z nb
    · have e1 := (T.ok b _ z).1
      have e2 := (ok' b _ (un.frzs b ob _ z)).1
      rw [e] at e1
      cases e1
      exact e2
  have more : ∀ b ∈ cs.map (·.2), ∃ xs : Array Value, s'.heap.get? b = some { cls := .none, data := .fields xs } := fun b hb => by
    obtain ⟨p, hp, rfl⟩ := List.mem_map.mp hb
    obtain ⟨xs, z⟩ := un.tbls p.2 #[] (T.tabs p hp)
    exact ⟨_, ok' p.2 _ z⟩
  refine ⟨r, ⟨fun b o e => ?_, fun b o e => ?_⟩, os, bare⟩
  · by_cases hb : b ∈ cs.map (·.2)
    · obtain ⟨xs, hx⟩ := more b hb
      obtain ⟨p, hp, rfl⟩ := List.mem_map.mp hb
      rw [L.tab p hp] at e
      cases e
      exact .inr (.inl ⟨((L.code p hp).tab (L.tab p hp)).isCodeTable, rfl, #[], xs, rfl, by rw [Array.empty_append]; exact hx⟩)
    · exact .inl (key b o hb e)
  · by_cases hb : b ∈ cs.map (·.2)
    · obtain ⟨xs, hx⟩ := more b hb
      exact ⟨_, hx⟩
    · exact ⟨o, key b o hb e⟩
omit T
theorem track : ∃ H, Tracked P w K cs a ns s H := by
  have rv := vals_ints L.nums
  have na := L.notab
  cases hk : K.lookup a with
  | some o =>
    have e := L.kin a o hk
    rw [L.arg] at e
    cases e
    refine ⟨fun b => if b ∈ cs.map (·.2) then some (.tbl #[]) else none, fun p hp => if_pos (List.mem_map.mpr ⟨p, hp, rfl⟩), fun b => ?_, fun b z => ?_, fun z => absurd (if_neg na) z, fun b u z => ?_, .inr ⟨_, us.toArray, _, hk, rfl, rfl, rfl, by rw [List.size_toArray, L.nums.length]; exact L.short, by simpa using rv⟩⟩
    all_goals by_cases hb : b ∈ cs.map (·.2)
    · exact .inr (.inl hb)
    · exact .inl (if_neg hb)
    · exact .inr hb
    · exact absurd (if_neg hb) z
    · cases (if_pos hb).symm.trans z
      exact L.at hb
    · cases (if_neg hb).symm.trans z
  | none =>
    refine ⟨fun b => if b = a then some (.frz { cls := .type "list", data := .seq us.toArray } (.lst (ns.map V.int))) else if b ∈ cs.map (·.2) then some (.tbl #[]) else none, fun p hp => ?_, fun b => ?_, fun b z => ?_, fun _ => hk, fun b u z => ?_, .inl (.inr ⟨_, if_pos rfl⟩)⟩
    · have hm : p.2 ∈ cs.map (·.2) := List.mem_map.mpr ⟨p, hp, rfl⟩
      exact (if_neg fun q : p.2 = a => na (q ▸ hm)).trans (if_pos hm)
    all_goals by_cases ha : b = a
    · exact .inr (.inr ⟨_, _, if_pos ha⟩)
    · by_cases hb : b ∈ cs.map (·.2)
      · exact .inr (.inl hb)
      · exact .inl ((if_neg ha).trans (if_neg hb))
    · exact .inl ha
    · by_cases hb : b ∈ cs.map (·.2)
      · exact .inr hb
      · exact absurd ((if_neg ha).trans (if_neg hb)) z
    · cases (if_pos ha).symm.trans z
      subst ha
      exact ⟨L.arg, by rw [List.length_map]; exact L.short, us, _, rv, L.arg⟩
    · have z1 := (if_neg ha).symm.trans z
      by_cases hb : b ∈ cs.map (·.2)
      · cases (if_pos hb).symm.trans z1
        exact L.at hb
      · cases (if_neg hb).symm.trans z1
theorem law_callG {k : Nat} {fa : Addr} {fd : FuncData} {x : Str} {sp : Sp} (hr : Room k callerA)
    (F : ∀ base : Heap, K.In base → base.Ns mainGlobals mg → (∀ p ∈ cs, LamX.TabB base mg p.1 p.2) → FnG P w K mg base k fa fd [x] sp) (hb : ∀ (t : Shared) (u : Value), BindsTo t fd ⟨[u], []⟩ [(x, u)])
    (hsp : ∀ H : Hp, (∀ p ∈ cs, H p.2 = some (.tbl #[])) → SqL K H a (ns.map V.int) → sp [.ref a] H (fun v _ => v = .bl true) fun _ _ _ => False) :
    codeAny (model P w) callerA (.call (.ref fa) ⟨[.ref a], []⟩) (fun r s' => r = .ok (.ret (.bool true)) ∧ OldK s.heap s'.heap ∧ s'.os = s.os ∧ AllBare s'.gens) s := by
  obtain ⟨H, T⟩ := track (P := P) (w := w) L
  have G := F _ (seenK L T) (seenNs L T L.glb) (seenTab L T)
  refine codeAny_mono (G.runs (us := [.ref a]) (vs := [.ref a]) ⟨hr, rfl⟩ (callEnv L T) (hb s (.ref a)) (.cons rfl .nil) (hsp H T.tabs T.seq)) fun r s' z => ?_
  match r, z with
  | .error e, z => exact (law_cx z).elim
  | .ok (.ret u), z =>
    obtain ⟨rfl, y⟩ := behind_call L T z
    exact ⟨rfl, y⟩
end
/-- what is known of the law where no guard stands -/
def LawAtG (l : PySem.W.OpenLaw) (w : PySem.World) (K : PySem.W.Frag) (k n : Nat) (x : Str) (mg : Str → Option Value) (fa : Addr) (h : Heap) : Prop :=
  ∃ (fd : FuncData) (cs : List (Addr × Addr)) (sp : Sp), ((∀ p ∈ cs, h.get? p.2 = some { cls := .none, data := .fields #[] }) ∧ (∀ p ∈ cs, K.lookup p.2 = none) ∧ (∀ p ∈ cs, PySem.W.CodeHd h p.1 p.2)) ∧ (∀ (s : Shared) (u : Value), BindsTo s fd ⟨[u], []⟩ [(x, u)]) ∧
    (∀ (H : Hp) (a : Addr) (ns : List Int), ns.length ≤ n → (∀ p ∈ cs, H p.2 = some (.tbl #[])) → SqL K H a (ns.map V.int) → sp [.ref a] H (fun v _ => v = .bl true) fun _ _ _ => False) ∧
    ∀ base : Heap, K.In base → base.Ns mainGlobals mg → (∀ p ∈ cs, LamX.TabB base mg p.1 p.2) → FnG l.prog w K mg base k fa fd [x] sp
theorem walk_ofG {l : PySem.W.OpenLaw} {n k : Nat} {q : Program} {loose : List Str} {XP : (Str → Option Value) → Heap → Prop} {YP : PySem.World → Heap → Prop} {d : DefRec} {K : Params → PySem.W.Frag} {x : Str}
    (hn : l.most = some n) (hn2 : n ≤ sizeLine) (hdf : d.params.defaults = []) (hr : Room k callerA) (hY : ∀ (w : PySem.World) (h : Heap), YP w h → (K w.params).In h)
    (F : ∀ (w : PySem.World) (mg mb : Str → Option Value) (fa : Addr) (h : Heap) (lo : List Str) (mean : ExcName → Option Value), (K w.params).In h → Top q lo mean mg mb h → mg d.name = some (.ref fa) → LawAtG l w (K w.params) k n x mg fa h) :
    PySem.W.WalkO q loose XP YP l.row.toRowW d [] (fun f vs => PySem.call f vs) := by
  refine Att.attach_callB hn hdf fun w s₀ s₁ mg mb fa o pm cd doc a vs ns G Y ho hd hcd hmg hobj hints hlen hbits hg => ?_
  have KX := hY w _ Y
  obtain ⟨fd, cs, sp, ⟨hT, nT, C⟩, hb, hsp, hF⟩ := F w mg mb fa _ _ _ KX G.T hmg
  exact law_callG ⟨KX, G.T.g, G.T.b, G.T.builtins, G.T.nolimit, hg, hT, nT, C, G.T.bmain, hobj, hints, Nat.le_trans hlen hn2⟩ hr hF hb (fun H hH hS => hsp H a ns hlen hH hS)
end VS

set_option Elab.async false
set_option linter.all false
set_option maxRecDepth 100000
set_option maxHeartbeats 2000000
/-! VX3: the law, where no guard stands; repr(e). -/
namespace VS
open PySem PySem.Spec PyProof.Rows L2
section
variable {P : Program} {w : PySem.World} {K : PySem.W.Frag} {Z : List (Addr × Str)} {mg : Str → Option Value} {base : Heap}
theorem spL_of {sem : Sem} {vs : List V} {H : Hp} {Q : VK} {E : XK} (h : ∀ ns : List Int, ns.length ≤ 63 → ∃ w', sem [.frz (ns.map T.int)] [] = .ok (.bl true) w') (q : spL K Z vs H Q E) : spOf (K, Z) 1 sem vs H Q E := by
  obtain ⟨a, ns, rfl, hS, hl, hT, q⟩ := q
  obtain ⟨w', e⟩ := h ns hl
  refine ⟨[], [], [], [.frz (ns.map T.int)], rfl, ⟨rfl, List.nodup_nil, fun _ h => by simp at h, fun _ h => by simp at h, fun k c a h1 h2 => by simp at h1, hT⟩, Reps.cons ?_ Reps.nil, ?_⟩
  · unfold Rep
    refine ⟨a, ns.map V.int, rfl, ?_, reps_ints ns⟩
    rcases hS with (hS | ⟨o, hS⟩) | hS
    · exact .inl ⟨_, hS, .inl rfl, by simp, by simp⟩
    · exact .inl ⟨_, hS, .inr ⟨o, rfl⟩, by simp, by simp⟩
    · exact .inr (.inr hS)
  · rw [e]
    intro H' φ' _ _ v rv
    unfold Rep at rv
    subst rv
    exact q H'
theorem At.lawG {k : Nat} {m : MS} {N : List Str} {st : Stmt} {cd : Value} {h : Heap} {fa : Addr} (a : At K "law" st cd) (X : K.In h) (G : h.Ns mainGlobals mg) (hfa : mg "law" = some (.ref fa)) (S : FnScope N ["script"] (defScope st))
    (hb : ∀ (kV doc pm : Value) (an : Option Addr) (cdv ct : Value) (u : Value), bindArgs (PySem.W.fnOf "law" "law" (defArgs st) (defBody st) (defScope st) .none kV doc pm an cdv ct) ⟨[u], []⟩ = pure [(("script" : Str), u)])
    (C : Heap → Prop) (body : ∀ base : Heap, K.In base → base.Ns mainGlobals mg → C base → BdG P w K Z mg base N "law" st cd k m)
    (hl : ∀ ns : List Int, ns.length ≤ 63 → ∃ w', runB N.length m [.frz (ns.map T.int)] [] = .ok (.bl true) w') :
    ∃ fd : FuncData, (∀ (s : Shared) (u : Value), BindsTo s fd ⟨[u], []⟩ [("script", u)]) ∧ ∀ base : Heap, K.In base → base.Ns mainGlobals mg → C base → FnG P w K mg base (k + 1) fa fd ["script"] (spL K Z) := by
  obtain ⟨f, oc, od, an, sl, kV, dc, pm, ct, h1, h2, h3, h4⟩ := a.ex
  have e := hfa.symm.trans (PySem.W.mg_of X G h1)
  cases e
  exact ⟨_, fun s u => .of_eq (hb _ _ _ _ _ _ u), fun base b1 b2 b3 => (okG ⟨_, _, _, _, _, _, _, _, rfl, h2, h3⟩ S (body base b1 b2 b3)).imp (spL_of hl)⟩
end
theorem lawAt_ofG {l : PySem.W.OpenLaw} {w : PySem.World} {K : PySem.W.Frag} {k : Nat} {mg : Str → Option Value} {fa : Addr} {h : Heap} (tabs : List (Addr × Addr × Str)) (ht : ∀ t ∈ tabs, TabAt K h t)
    (top : ∃ fd : FuncData, (∀ (s : Shared) (u : Value), BindsTo s fd ⟨[u], []⟩ [("script", u)]) ∧ ∀ base : Heap, K.In base → base.Ns mainGlobals mg → (∀ p ∈ tabs.map (fun t => (t.1, t.2.1)), LamX.TabB base mg p.1 p.2) →
      FnG l.prog w K mg base k fa fd ["script"] (spL K (tabs.map fun t => (t.2.1, t.2.2)))) : LawAtG l w K k 63 "script" mg fa h := by
  obtain ⟨fd, hb, hF⟩ := top
  have mem : ∀ p ∈ tabs.map (fun t => (t.1, t.2.1)), ∃ t ∈ tabs, p = (t.1, t.2.1) := fun p hp => by
    obtain ⟨t, h1, h2⟩ := List.mem_map.mp hp
    exact ⟨t, h1, h2.symm⟩
  refine ⟨fd, tabs.map (fun t => (t.1, t.2.1)), spL K (tabs.map fun t => (t.2.1, t.2.2)), ⟨fun p hp => ?_, fun p hp => ?_, fun p hp => ?_⟩, hb, fun H a ns hl hH hS => ?_, hF⟩
  · obtain ⟨t, h1, rfl⟩ := mem p hp
    exact (ht t h1).ob
  · obtain ⟨t, h1, rfl⟩ := mem p hp
    exact (ht t h1).no
  · obtain ⟨t, h1, rfl⟩ := mem p hp
    exact (ht t h1).hd
  · refine ⟨a, ns, rfl, hS, hl, fun p hp => ?_, fun _ => rfl⟩
    obtain ⟨t, h1, rfl⟩ := List.mem_map.mp hp
    exact LamX.TabS.nil (hH (t.1, t.2.1) (List.mem_map.mpr ⟨t, h1, rfl⟩))
section
variable {X : Cx} {Z : List (Addr × Str)} {W : Option WX} {k : Nat} {p pos : Pos} {e : Expr} {es : List Expr} {m : MF}
theorem de_repr (hm : X.mg "repr" = none) (hr : RoomG k X.A) (ha : PA X (e :: es) (rdA (X.K, Z) W m)) (hg : Gl X "repr" := by rfl)
    (he : starEach (e :: es) X.env = (false, eval e X.env) :: starEach es X.env := by rfl) (hpl : (backTo pos (starEach es X.env)).any (·.1) = false := by rfl) : PE X (.Call (.Name "repr" p) (e :: es) [] pos) (rdE (X.K, Z) W (mCall sRepr m)) :=
  de_callB (cr_repr hr.gd hr.units) opRepr hm (by decide +kernel) ha hg (by decide) (by decide) he hpl
end
end VS

set_option Elab.async false
set_option linter.all false
set_option maxRecDepth 100000
set_option maxHeartbeats 2000000
/-! VX4: len(set(xs)) of a list or a tuple of ints. -/
namespace VS
open PySem PySem.Spec PyProof.Rows L2
theorem rise_nodup (ns : List Int) : (riseI ns).Nodup := (rise_rise ns).imp fun h e => by omega
theorem many_rise {l ns : List Int} (n1 : l.Nodup) (h : ∀ k, k ∈ l ↔ k ∈ ns) : l.length = (riseI ns).length := by
  have p : l.Perm (riseI ns) := List.perm_iff_count.mpr fun k => by
    rw [n1.count, (rise_nodup ns).count]
    have : (k ∈ l) = (k ∈ riseI ns) := propext ((h k).trans rise_mem.symm)
    simp only [this]
  exact p.length_eq
section
variable {X : Cx} {Z : List (Addr × Str)} {W : Option WX} {a : Expr} {p p2 pos q : Pos} {ma : ME}
def tLenSetQ (K : PySem.W.Frag) (ta : TE) : TE := fun σ H Q => ta σ H fun x H1 => ∃ (l : Addr) (ns : List Int), x = .ref l ∧ (SqL K H1 l (ns.map V.int) ∨ SqT K H1 l (ns.map V.int)) ∧ ns.length ≤ 4000 ∧ Q (.int ((riseI ns).length : Nat)) H1
theorem pe_lenSetQ {ta : TE} (hg : Gl X "len") (hm : X.mg "len" = none) (hg2 : Gl X "set") (hm2 : X.mg "set" = none) (ha : PE X a ta) (hc : X.calm = true := by rfl)
    (na : starEach [a] X.env = (false, eval a X.env) :: starEach [] X.env := by rfl) : PE X (.Call (.Name "len" p) [.Call (.Name "set" p2) [a] [] q] [] pos) (tLenSetQ X.K ta) := by
  refine ⟨fun pins s σ H Q I h => ?_⟩
  refine Call_ (ld_blt I hg hm boot_len ?_)
  refine PyProof.Rows.callWith_builtin1 (PyProof.Rows.args_cons ?_ rfl) rfl rfl
  refine Call_ (ld_blt I hg2 hm2 boot_set ?_)
  refine PyProof.Rows.callWith_type1 (PyProof.Rows.args_cons (thn (ha.run pins s σ H _ I h) fun v s1 ⟨x, H1, I1, r1, q1⟩ => PyProof.Rows.args_nil ?_) na) na rfl
  obtain ⟨l, ns, rfl, hq, hl, q1⟩ := q1
  cases r1
  have fin : ∀ (g : Heap) (tk c : Nat), SetR X.w g s1.heap.objs.size (fun j => decide (j ∈ ns)) c → (∀ b o, s1.heap.get? b = some o → g.get? b = some o) → wpAny (model X.prog X.w) X.A (call (.builtin "len") [.ref s1.heap.objs.size]) (EP X pins σ Q) X.xe { s1 with heap := g, toks := tk } := fun g tk c R hk => by
    have R' := R
    obtain ⟨o, es, ep, t, ho, hx, hd, _, nd, hm, hb, hf, hn, _⟩ := R'
    have e : es.size = (riseI ns).length := by
      have := many_rise (ns := ns) nd fun k => ((hm k).symm.trans (by simp))
      simpa using this
    have I2 : Inv X pins σ H1 { s1 with heap := g, toks := tk } := I1.kept hk
    exact call_len_set ho hx hd hf (by unfold scanBound at hb; omega) ⟨.int _, H1, I2.tok _, ⟨_, by rw [e] <;> rfl⟩, q1⟩
  rcases hq with hq | hq
  · obtain ⟨its, r, pl, hz⟩ := I1.list hq
    exact set_of_ints ns (I1.ok.hd hc) pl.isList (by simpa using RZ.intsAre_vals r) (by unfold scanBound; omega) fun g tk n R hn hk => PyProof.Rows.args_nil (fin g tk n R hk)
  · obtain ⟨its, r, pl, hz⟩ := I1.tuple hq
    exact call_set_tupI ns (I1.ok.hd hc) pl (by simpa using RZ.intsAre_vals r) (by unfold scanBound; omega) fun g tk n R hn hk => PyProof.Rows.args_nil (fin g tk n R hk)
def seqQ? (w : World) : T → Option (List T)
  | .tup ts => some ts
  | t => lst? w t
def mLenSetQ (a : ME) : ME := fun ρ w => (a ρ w).bind fun t w1 => match seqQ? w1 t with
  | some ts => match intsT ts with
    | some ns => if ns.length ≤ 4000 then .ok (.int ((riseI ns).length : Nat)) w1 else .no
    | none => .no
  | none => .no
theorem de_lensetQ (hm : X.mg "len" = none) (hm2 : X.mg "set" = none) (ha : PE X a (rdE (X.K, Z) W ma)) (hg : Gl X "len" := by rfl) (hg2 : Gl X "set" := by rfl) (hc : X.calm = true := by rfl)
    (na : starEach [a] X.env = (false, eval a X.env) :: starEach [] X.env := by rfl) : PE X (.Call (.Name "len" p) [.Call (.Name "set" p2) [a] [] q] [] pos) (rdE (X.K, Z) W (mLenSetQ ma)) := PE_imp (pe_lenSetQ hg hm hg2 hm2 ha hc na) fun σ H Q => by
  rintro ⟨hd, φ, ρ, w, sr, wr, p⟩
  refine ⟨hd, φ, ρ, w, sr, wr, Pst.then isPst p fun t w1 φ1 H1 e1 wr1 p1 x rx => ?_⟩
  have go : ∀ ts, (∀ ns, intsT ts = some ns → ∃ l, x = .ref l ∧ (SqL X.K H1 l (ns.map V.int) ∨ SqT X.K H1 l (ns.map V.int))) → seqQ? w1 t = some ts → ∃ (l : Addr) (ns : List Int), x = .ref l ∧ (SqL X.K H1 l (ns.map V.int) ∨ SqT X.K H1 l (ns.map V.int)) ∧ ns.length ≤ 4000 ∧ Q (.int ((riseI ns).length : Nat)) H1 := fun ts hts q1 => by
    rw [q1] at p1
    simp only at p1
    cases q2 : intsT ts with
    | none => rw [q2] at p1; exact p1.elim
    | some ns =>
      rw [q2] at p1
      simp only at p1
      split at p1
      · rename_i hl
        obtain ⟨l, rfl, hs⟩ := hts ns q2
        exact ⟨l, ns, rfl, hs, hl, p1.int wr1⟩
      · exact p1.elim
  cases t with
  | tup ts =>
    refine go ts (fun ns q2 => ?_) rfl
    unfold Rep at rx
    obtain ⟨l, xs, rfl, n, rs⟩ := rx
    cases intV_at rs q2
    exact ⟨l, rfl, .inr (SqT.of n.1)⟩
  | _ =>
    cases q1 : seqQ? w1 _ with
    | none => rw [q1] at p1; exact p1.elim
    | some ts =>
      refine go ts (fun ns q2 => ?_) q1
      obtain ⟨l, xs, rfl, h1, h2⟩ := lst_at wr1 rx q1
      cases intV_at h2 q2
      exact ⟨l, rfl, .inl (SqL.of h1)⟩
end
end VS

set_option Elab.async false
set_option linter.all false
set_option maxRecDepth 100000
set_option maxHeartbeats 4000000
namespace VS
open PySem PySem.Spec PyProof.Rows L2
/-! ### running by simp -/
section
variable {w w' : World} {ρ : Env} {i j : Nat} {t u : T} {a b c : ME} {s : S2}
@[simp] theorem bind_ok' {α β : Type} {x : α} {f : α → World → R β} : (R.ok x w).bind f = f x w := rfl
@[simp] theorem bind_ex' {α β : Type} {t : T} {f : α → World → R β} : (R.ex t ρ w : R α).bind f = .ex t ρ w := rfl
@[simp] theorem at_ok' {α : Type} {x : α} {ρ' : Env} : (R.ok x w).at ρ' = .ok x w := rfl
@[simp] theorem at_ex' {α : Type} {t : T} {ρ' : Env} : (R.ex t ρ w : R α).at ρ' = .ex t ρ' w := rfl
@[simp] theorem at_no' {α : Type} {ρ' : Env} : (R.no : R α).at ρ' = .no := rfl
@[simp] theorem noX_ok' {α : Type} {x : α} : noX (.ok x w) = .ok x w := rfl
@[simp] theorem bind_no' {α β : Type} {f : α → World → R β} : (R.no : R α).bind f = .no := rfl
@[simp] theorem mVar0 {o : Option T} {r : Env} : mVar 0 (some t :: r) w = .ok t w := rfl
@[simp] theorem mVarS {o : Option T} {r : Env} : mVar (i + 1) (o :: r) w = mVar i r w := by simp [mVar]
@[simp] theorem mC_ : mC t ρ w = .ok t w := rfl
@[simp] theorem mOp2_ : mOp2 s a b ρ w = (a ρ w).bind fun x w1 => (b ρ w1).bind fun y w2 => s x y w2 := rfl
@[simp] theorem mOp1_ {s : S1} : mOp1 s a ρ w = (a ρ w).bind s := rfl
@[simp] theorem asB_bl {k : Bool} : asB (.ok (.bl k) w) = .ok k w := rfl
@[simp] theorem mTest_ : mTest a ρ w = asB (a ρ w) := rfl
@[simp] theorem mTru_ : mTru a ρ w = (a ρ w).bind sTru := rfl
@[simp] theorem sTru_bl {k : Bool} : sTru (.bl k) w = .ok k w := rfl
@[simp] theorem sTru_int {k : Int} : sTru (.int k) w = .ok (k != 0) w := rfl
@[simp] theorem sTru_non : sTru .non w = .ok false w := rfl
@[simp] theorem mChain_ {s' : S2} : mChain s s' a b c ρ w = (a ρ w).bind fun x w1 => (b ρ w1).bind fun y w2 => (asB (s x y w2)).bind fun k w3 => if k = true then (c ρ w3).bind fun z w4 => s' y z w4 else .ok (.bl false) w3 := rfl
@[simp] theorem mAnd_ {a b : MT} : mAnd a b ρ w = (a ρ w).bind fun x w1 => if x = true then b ρ w1 else .ok false w1 := rfl
@[simp] theorem mOr_ {a b : MT} : mOr a b ρ w = (a ρ w).bind fun x w1 => if x = true then .ok true w1 else b ρ w1 := rfl
@[simp] theorem mNot_ {a : MT} : mNot a ρ w = (a ρ w).bind fun x w1 => .ok (!x) w1 := rfl
@[simp] theorem mAndV_ : mAndV a b ρ w = (a ρ w).bind fun x w1 => (sTru x w1).bind fun k w2 => if k = true then b ρ w2 else .ok x w2 := rfl
@[simp] theorem mOrV_ : mOrV a b ρ w = (a ρ w).bind fun x w1 => (sTru x w1).bind fun k w2 => if k = true then .ok x w2 else b ρ w2 := rfl
@[simp] theorem mNotV_ : mNotV a ρ w = (a ρ w).bind fun x w1 => (sTru x w1).bind fun k w2 => .ok (.bl (!k)) w2 := rfl
@[simp] theorem mIf_ {c : MT} : mIf c a b ρ w = (c ρ w).bind fun k w1 => if k = true then a ρ w1 else b ρ w1 := rfl
@[simp] theorem mNil_ : mNil ρ w = .ok [] w := rfl
@[simp] theorem mCons_ {r : MF} : mCons a r ρ w = (a ρ w).bind fun x w1 => (r ρ w1).bind fun xs w2 => .ok (x :: xs) w2 := rfl
@[simp] theorem mTup_ {m : MF} : mTup m ρ w = (m ρ w).bind fun ts w1 => if ts.length ≤ sizeLine then .ok (.tup ts) w1 else .no := rfl
@[simp] theorem mLst_ {m : MF} : mLst m ρ w = (m ρ w).bind fun ts w1 => if ts.length ≤ sizeLine then .ok ts w1 else .no := rfl
@[simp] theorem mVal_ {m : MF} : mVal m ρ w = (m ρ w).bind fun ts w1 => .ok (.lst ts) w1 := rfl
@[simp] theorem mCell_ {m : MF} : mCell m ρ w = (m ρ w).bind fun ts w1 => .ok (.cell w1.length) (w1 ++ [.lst ts]) := rfl
@[simp] theorem mCall_ {s : SC} {m : MF} : mCall s m ρ w = (m ρ w).bind s := rfl
@[simp] theorem mCallF_ {s : SCF} {m : MF} : mCallF s m ρ w = (m ρ w).bind s := rfl
@[simp] theorem mOp2F_ {s : S2F} : mOp2F s a b ρ w = (a ρ w).bind fun x w1 => (b ρ w1).bind fun y w2 => s x y w2 := rfl
@[simp] theorem mDef_ {n : Nat} {f : Sem} {m : MF} : mDef n f m ρ w = (m ρ w).bind fun ds w1 => if ds.length = n then (f ds w1).at ρ else .no := rfl
@[simp] theorem mSkip_ : mSkip ρ w = .ok (ρ, .nx) w := rfl
/-- what follows a statement -/
def andThen (r : R (Env × Fl)) (f : Env → World → R (Env × Fl)) : R (Env × Fl) := r.bind fun r w1 => match r.2 with
  | .nx => f r.1 w1
  | _ => .ok r w1
@[simp] theorem mSeq_ {m1 m2 : MS} : mSeq m1 m2 ρ w = andThen (m1 ρ w) m2 := rfl
@[simp] theorem then_nx {f : Env → World → R (Env × Fl)} : andThen (.ok (ρ, .nx) w) f = f ρ w := rfl
@[simp] theorem then_ret {f : Env → World → R (Env × Fl)} : andThen (.ok (ρ, .ret t) w) f = .ok (ρ, .ret t) w := rfl
@[simp] theorem then_bk {f : Env → World → R (Env × Fl)} : andThen (.ok (ρ, .bk) w) f = .ok (ρ, .bk) w := rfl
@[simp] theorem then_ct {f : Env → World → R (Env × Fl)} : andThen (.ok (ρ, .ct) w) f = .ok (ρ, .ct) w := rfl
@[simp] theorem then_ex {f : Env → World → R (Env × Fl)} : andThen (.ex t ρ w) f = .ex t ρ w := rfl
@[simp] theorem then_no {f : Env → World → R (Env × Fl)} : andThen .no f = .no := rfl
@[simp] theorem mRet_ : mRet a ρ w = (a ρ w).bind fun t w1 => .ok (ρ, .ret t) w1 := rfl
@[simp] theorem mDrop_ : mDrop a ρ w = (a ρ w).bind fun _ w1 => .ok (ρ, .nx) w1 := rfl
@[simp] theorem mIfS_ {c : MT} {x y : MS} : mIfS c x y ρ w = (c ρ w).bind fun k w1 => if k = true then x ρ w1 else y ρ w1 := rfl
@[simp] theorem mgName_ : mgName i t ρ w = .ok (ρ.set i (some t)) w := rfl
@[simp] theorem mAsg_ {g : MG} : mAsg a g ρ w = (a ρ w).bind fun t w1 => (g t ρ w1).bind fun ρ1 w2 => .ok (ρ1, .nx) w2 := rfl
@[simp] theorem mgSub_ {s : S3} : mgSub s a b t ρ w = (a ρ w).bind fun d1 w1 => (b ρ w1).bind fun d2 w2 => (s d1 d2 t w2).bind fun _ w3 => .ok ρ w3 := rfl
@[simp] theorem mgTup_ {n : Nat} {g : MGs} {ts : List T} : mgTup n g (.tup ts) ρ w = if ts.length = n then g ts ρ w else .no := rfl
@[simp] theorem mgNil_ : mgNil [] ρ w = .ok ρ w := rfl
@[simp] theorem mgCons_ {g : MG} {r : MGs} {ts : List T} : mgCons g r (t :: ts) ρ w = (g t ρ w).bind fun ρ1 w1 => r ts ρ1 w1 := rfl
@[simp] theorem mPar_ {m : MF} : mPar i j m ρ w = (m ρ w).bind fun ts w1 => match ts with
  | [t, u] => .ok ((ρ.set i (some t)).set j (some u), .nx) w1
  | _ => .no := rfl
@[simp] theorem mPar3_ {l : Nat} {m : MF} : mPar3 i j l m ρ w = (m ρ w).bind fun ts w1 => match ts with
  | [t, u, v] => .ok (((ρ.set i (some t)).set j (some u)).set l (some v), .nx) w1
  | _ => .no := rfl
@[simp] theorem mFor_ {it : MI} {g : MG} {m : MS} : mFor it g m ρ w = (it ρ w).bind fun r w1 => forL g m r.2 r.1 r.1 ρ w1 := rfl
@[simp] theorem mItems_ : mItems a ρ w = (a ρ w).bind sItems := rfl
@[simp] theorem sItems_lst {ts : List T} : sItems (.lst ts) w = .ok (ts, none) w := rfl
@[simp] theorem sItems_tup {ts : List T} : sItems (.tup ts) w = .ok (ts, none) w := rfl
@[simp] theorem sItems_frz {ts : List T} : sItems (.frz ts) w = .ok (ts, none) w := rfl
theorem sItems_cell {k : Nat} {ts : List T} (h : w[k]? = some (.lst ts)) : sItems (.cell k) w = .ok (ts, some (k, ts)) w := by simp [sItems, items, h]
@[simp] theorem mRange1_ {m : MF} : mRange1 m ρ w = (m ρ w).bind sRange1 := rfl
@[simp] theorem mRange2_ {m : MF} : mRange2 m ρ w = (m ρ w).bind sRange2 := rfl
theorem sRange1_ {n : Int} (h0 : 0 ≤ n) (h : n < 1000000000) : sRange1 [.int n] w = .ok (rgT 0 n.toNat, none) w := by
  have : RgOk 0 n := ⟨by decide, by decide, by omega, by omega⟩
  simp [sRange1, this]
@[simp] theorem mComp_ {vs : List Nat} {it : MI} {g : MG} {c : MT} {e : ME} : mComp vs it g c e ρ w = (it ρ w).bind fun r w1 => noX (compL g c e r.2 r.1 (wipeE ρ vs) r.1 [] w1) := rfl
@[simp] theorem mYes_ : mYes ρ w = .ok true w := rfl
@[simp] theorem mSlL_ {lo hi : MO} : mSlL a lo hi ρ w = (a ρ w).bind fun t w1 => (lo ρ w1).bind fun l w2 => (hi ρ w2).bind fun u w3 => match lst? w3 t with
  | some ts => .ok (cutT ts l u) w3
  | _ => .no := rfl
@[simp] theorem mSlT_ {lo hi : MO} : mSlT a lo hi ρ w = (a ρ w).bind fun t w1 => (lo ρ w1).bind fun l w2 => (hi ρ w2).bind fun u w3 => match t with
  | .tup ts => .ok (.tup (cutT ts l u)) w3
  | _ => .no := rfl
@[simp] theorem mNoPart_ : mNoPart ρ w = .ok none w := rfl
@[simp] theorem mPart_ : mPart a ρ w = (a ρ w).bind fun t w1 => match t with
  | .int i => .ok (some i) w1
  | _ => .no := rfl
@[simp] theorem mMeth_ {s : SM} {m : MF} : mMeth s a m ρ w = (a ρ w).bind fun d w1 => match lst? w1 d with
  | some _ => (m ρ w1).bind fun ds w2 => s d ds w2
  | none => .no := rfl
@[simp] theorem mDict_ {m : MPs} : mDict m ρ w = (m ρ w).bind fun kvs w1 => if kvs.length ≤ 15 ∧ (kvs.map (·.1)).Nodup then .ok (.cell w1.length) (w1 ++ [.dic kvs]) else .no := rfl
@[simp] theorem mpNil_ : mpNil ρ w = .ok [] w := rfl
@[simp] theorem mpCons_ {m : MPs} : mpCons a b m ρ w = (a ρ w).bind fun kt w1 => (b ρ w1).bind fun t w2 => (m ρ w2).bind fun ps w3 => match keyT kt with
  | some key => .ok ((key, t) :: ps) w3
  | none => .no := rfl
@[simp] theorem mLRg1_ : mLRg1 a ρ w = (a ρ w).bind fun t w1 => match t with
  | .int n => if L2.RgOk 0 n then .ok (rgT 0 n.toNat) w1 else .no
  | _ => .no := rfl
end
/-! ### operators -/
section
variable {w : World} {i j : Int}
@[simp] theorem sSub_ : sSub (.int i) (.int j) w = .ok (.int (i - j)) w := by simp [sSub, s2I]
@[simp] theorem sBor_ : sBor (.int i) (.int j) w = .ok (.int (Builtin.bitOr i j)) w := by simp [sBor, s2I]
@[simp] theorem sLt_ : sLt (.int i) (.int j) w = .ok (.bl (decide (i < j))) w := by simp [sLt, s2I]
@[simp] theorem sLe_ : sLe (.int i) (.int j) w = .ok (.bl (decide (i ≤ j))) w := by simp [sLe, s2I]
@[simp] theorem sGt_ : sGt (.int i) (.int j) w = .ok (.bl (decide (j < i))) w := by simp [sGt, s2I]
@[simp] theorem sGe_ : sGe (.int i) (.int j) w = .ok (.bl (decide (j ≤ i))) w := by simp [sGe, s2I]
@[simp] theorem sAdd_ : sAdd (.int i) (.int j) w = .ok (.int (i + j)) w := rfl
@[simp] theorem sNeg_ : sNeg (.int i) w = .ok (.int (-i)) w := rfl
theorem sMod_ (h : 0 < j) : sMod (.int i) (.int j) w = .ok (.int (i % j)) w := by simp [sMod, s2I, h]
theorem sFdiv_ (h : 0 < j) (h2 : j < 1073741824) : sFdiv (.int i) (.int j) w = .ok (.int (i / j)) w := by simp [sFdiv, s2I, CDiv, h, h2]
theorem sMul_l (h : -(2 ^ 64) < i ∧ i < 2 ^ 64) : sMul (.int i) (.int j) w = .ok (.int (i * j)) w := by simp only [sMul]; rw [if_pos (.inl h)]
theorem sMul_r (h : -(2 ^ 64) < j ∧ j < 2 ^ 64) : sMul (.int i) (.int j) w = .ok (.int (i * j)) w := by simp only [sMul]; rw [if_pos (.inr h)]
@[simp] theorem sInt_ : sInt [.int i] w = .ok (.int i) w := rfl
@[simp] theorem sAbs_ : sAbs [.int i] w = .ok (.int (if i < 0 then -i else i)) w := rfl
@[simp] theorem sMax2_ : sMax2 [.int i, .int j] w = .ok (.int (if j > i then j else i)) w := rfl
@[simp] theorem sMin2_ : sMin2 [.int i, .int j] w = .ok (.int (if j < i then j else i)) w := rfl
@[simp] theorem sLen_tup {ts : List T} : sLen [.tup ts] w = .ok (.int ts.length) w := rfl
@[simp] theorem sLen_lst {ts : List T} : sLen [.lst ts] w = .ok (.int ts.length) w := rfl
@[simp] theorem sLen_frz {ts : List T} : sLen [.frz ts] w = .ok (.int ts.length) w := rfl
theorem sLen_cell {k : Nat} {ts : List T} (h : w[k]? = some (.lst ts)) : sLen [.cell k] w = .ok (.int ts.length) w := by simp [sLen, h]
@[simp] theorem sTup_lst {ts : List T} : sTup [.lst ts] w = .ok (.tup ts) w := rfl
@[simp] theorem sTup_tup {ts : List T} : sTup [.tup ts] w = .ok (.tup ts) w := rfl
theorem sTup_cell {k : Nat} {ts : List T} (h : w[k]? = some (.lst ts)) : sTup [.cell k] w = .ok (.tup ts) w := by simp [sTup, seq?, h]
@[simp] theorem sList_lst {ts : List T} : sList [.lst ts] w = .ok ts w := rfl
@[simp] theorem sList_tup {ts : List T} : sList [.tup ts] w = .ok ts w := rfl
theorem sList_cell {k : Nat} {ts : List T} (h : w[k]? = some (.lst ts)) : sList [.cell k] w = .ok ts w := by simp [sList, seq?, h]
@[simp] theorem lst_lst {ts : List T} : lst? w (.lst ts) = some ts := rfl
theorem lst_cell {k : Nat} {ts : List T} (h : w[k]? = some (.lst ts)) : lst? w (.cell k) = some ts := by simp [lst?, h]
theorem sIx_tup {ts : List T} {t : T} (h : ts[i.toNat]? = some t) (h0 : 0 ≤ i) : sIx (.tup ts) (.int i) w = .ok t w := by
  have e : atI ts i = some t := by rw [show i = ((i.toNat : Nat) : Int) by omega]; exact atI_nat h
  simp [sIx, seq?, e]
theorem sIx_lst {ts : List T} {t : T} (h : ts[i.toNat]? = some t) (h0 : 0 ≤ i) : sIx (.lst ts) (.int i) w = .ok t w := by
  have e : atI ts i = some t := by rw [show i = ((i.toNat : Nat) : Int) by omega]; exact atI_nat h
  simp [sIx, seq?, e]
theorem sIx_cell {k : Nat} {ts : List T} {t : T} (hk : w[k]? = some (.lst ts)) (h : ts[i.toNat]? = some t) (h0 : 0 ≤ i) : sIx (.cell k) (.int i) w = .ok t w := by
  have e : atI ts i = some t := by rw [show i = ((i.toNat : Nat) : Int) by omega]; exact atI_nat h
  simp [sIx, hk, e]
@[simp] theorem sIx_0 {t : T} {ts : List T} : sIx (.tup (t :: ts)) (.int 0) w = .ok t w := sIx_tup rfl (by decide)
@[simp] theorem sIx_1 {t u : T} {ts : List T} : sIx (.tup (u :: t :: ts)) (.int 1) w = .ok t w := sIx_tup rfl (by decide)
theorem append_cell {k : Nat} {ts : List T} {t : T} (h : w[k]? = some (.lst ts)) (hl : ts.length < 16777216) : sAppend (.cell k) [t] w = .ok .non (w.set k (.lst (ts ++ [t]))) := by
  have : ts.length < sizeLine := by rw [sizeLine_eq]; exact hl
  simp [sAppend, h, this]
/-! equality -/
theorem eqT_of {x y : T} {d e : PyData} (hx : pd w x = some d) (hy : pd w y = some e) (sd : SeqAt.shaped d = true) (se : SeqAt.shaped e = true) : eqT w x y = some (PyData.eqv d e) := by simp [eqT, hx, hy, sd, se]
@[simp] theorem eqT_int : eqT w (.int i) (.int j) = some (decide (i = j)) := by
  rw [eqT_of (d := .int i) (e := .int j) (by simp [pd]) (by simp [pd]) rfl rfl]
  simp [PyData.eqv]
  rfl
@[simp] theorem sEq_int : sEq (.int i) (.int j) w = .ok (.bl (decide (i = j))) w := by simp [sEq]
@[simp] theorem sNe_int : sNe (.int i) (.int j) w = .ok (.bl (!decide (i = j))) w := by simp [sNe]
theorem pds0_ints : ∀ ns : List Int, pds0 (ns.map .int) = some (ns.map .int)
  | [] => rfl
  | n :: ns => by simp [pds0, pd0, pds0_ints ns]
theorem lay_ints : ∀ ns : List Int, PyData.canLayAll0 (ns.map .int) = true
  | [] => rfl
  | n :: ns => by simp [PyData.canLayAll0, PyData.canLay0, lay_ints ns]
theorem depth_ints : ∀ ns : List Int, PyData.depthAll (ns.map .int) ≤ 1
  | [] => by simp [PyData.depthAll]
  | n :: ns => by
    have := depth_ints ns
    simp [PyData.depthAll, PyData.depth]
    omega
theorem shaped_ints (ns : List Int) : SeqAt.shaped (.list (ns.map .int)) = true := by
  have h := depth_ints ns
  simp [SeqAt.shaped, PyData.canLay0, lay_ints, PyData.depth]
  omega
theorem eqv_ints : ∀ ns ms : List Int, PyData.eqvAll (ns.map .int) (ms.map .int) = decide (ns = ms)
  | [], [] => by simp [PyData.eqvAll]
  | [], m :: ms => by simp [PyData.eqvAll]
  | n :: ns, [] => by simp [PyData.eqvAll]
  | n :: ns, m :: ms => by
    simp [PyData.eqvAll, PyData.eqv, eqv_ints ns ms]
    by_cases h : n = m <;> simp [h]
theorem pd_cell {k : Nat} {ns : List Int} (h : w[k]? = some (.lst (ns.map .int))) : pd w (.cell k) = some (.list (ns.map .int)) := by simp [pd, h, pds0_ints]
end
/-! ### loops by an invariant -/
section
variable {g : MG} {b : MS} {oc : OC} {all : List T} {w : World} {ρ : Env}
theorem bind_eq {α β : Type} {r : R α} {a : α} {f : α → World → R β} (h : r = .ok a w) : r.bind f = f a w := by rw [h]; rfl
theorem forL_go (P : Nat → Env → World → Prop) (hk : ∀ i ρ w, P i ρ w → Kept oc all w)
    (h : ∀ i t ρ w, all[i]? = some t → P i ρ w → ∃ ρ1 w1, ((g t ρ w).bind fun ρ1 w1 => b ρ1 w1) = .ok (ρ1, .nx) w1 ∧ P (i + 1) ρ1 w1) :
    ∀ (n i : Nat) (ρ : Env) (w : World), n + i = all.length → P i ρ w → ∃ ρ' w', forL g b oc all (all.drop i) ρ w = .ok (ρ', .nx) w' ∧ P all.length ρ' w'
  | 0, i, ρ, w, hn, p => by
    have e : i = all.length := by omega
    subst e
    refine ⟨ρ, w, ?_, p⟩
    rw [List.drop_length]
    unfold forL
    rw [if_pos (hk _ _ _ p)]
  | n + 1, i, ρ, w, hn, p => by
    have hi : i < all.length := by omega
    obtain ⟨ρ1, w1, e1, p1⟩ := h i all[i] ρ w (by simp [hi]) p
    obtain ⟨ρ2, w2, e2, p2⟩ := forL_go P hk h n (i + 1) ρ1 w1 (by omega) p1
    refine ⟨ρ2, w2, ?_, p2⟩
    rw [List.drop_eq_getElem_cons hi]
    unfold forL
    rw [if_pos (hk _ _ _ p)]
    cases q : g all[i] ρ w with
    | no => rw [q] at e1; cases e1
    | ex _ _ _ => rw [q] at e1; cases e1
    | ok ρ0 w0 =>
      rw [q, bind_ok'] at e1
      rw [bind_ok', e1, bind_ok']
      exact e2
/-- a for over a value that stays, with an invariant over (turn, slots, world) -/
theorem forL_run (P : Nat → Env → World → Prop) (h0 : P 0 ρ w)
    (h : ∀ i t ρ w, all[i]? = some t → P i ρ w → ∃ ρ1 w1, ((g t ρ w).bind fun ρ1 w1 => b ρ1 w1) = .ok (ρ1, .nx) w1 ∧ P (i + 1) ρ1 w1) :
    ∃ ρ' w', forL g b none all all ρ w = .ok (ρ', .nx) w' ∧ P all.length ρ' w' := by
  have := forL_go P (fun _ _ _ _ => kept_none) h all.length 0 ρ w (by omega) h0
  rwa [List.drop_zero] at this
theorem forL_cell {k : Nat} (P : Nat → Env → World → Prop) (h0 : P 0 ρ w) (hk : ∀ i ρ w, P i ρ w → w[k]? = some (.lst all))
    (h : ∀ i t ρ w, all[i]? = some t → P i ρ w → ∃ ρ1 w1, ((g t ρ w).bind fun ρ1 w1 => b ρ1 w1) = .ok (ρ1, .nx) w1 ∧ P (i + 1) ρ1 w1) :
    ∃ ρ' w', forL g b (some (k, all)) all all ρ w = .ok (ρ', .nx) w' ∧ P all.length ρ' w' := by
  have := forL_go P (fun i ρ w p => kept_some (hk i ρ w p)) h all.length 0 ρ w (by omega) h0
  rwa [List.drop_zero] at this
/-- a comprehension over a value that stays: the items one by one, an invariant over what is made so far -/
theorem compL_go {c : MT} {e : ME} {ρ0 : Env} (P : Nat → List T → World → Prop)
    (h : ∀ i t out w, all[i]? = some t → P i out w → ∃ ρ1 w1, g t ρ0 w = .ok ρ1 w1 ∧ ((∃ w2 y w3, c ρ1 w1 = .ok true w2 ∧ e ρ1 w2 = .ok y w3 ∧ out.length < 16777216 ∧ P (i + 1) (out ++ [y]) w3) ∨ ∃ w2, c ρ1 w1 = .ok false w2 ∧ P (i + 1) out w2)) :
    ∀ (n i : Nat) (out : List T) (w : World), n + i = all.length → P i out w → ∃ out' w', compL g c e none all ρ0 (all.drop i) out w = .ok out' w' ∧ P all.length out' w'
  | 0, i, out, w, hn, p => by
    have e : i = all.length := by omega
    subst e
    refine ⟨out, w, ?_, p⟩
    rw [List.drop_length]
    unfold compL
    rw [if_pos kept_none]
  | n + 1, i, out, w, hn, p => by
    have hi : i < all.length := by omega
    obtain ⟨ρ1, w1, e1, q⟩ := h i all[i] out w (by simp [hi]) p
    rw [List.drop_eq_getElem_cons hi]
    unfold compL
    rw [if_pos kept_none, e1, bind_ok']
    rcases q with ⟨w2, y, w3, e2, e3, hl, p1⟩ | ⟨w2, e2, p1⟩
    · obtain ⟨out2, w4, e4, p2⟩ := compL_go P h n (i + 1) _ _ (by omega) p1
      refine ⟨out2, w4, ?_, p2⟩
      rw [e2, bind_ok', if_pos rfl, e3, bind_ok', if_pos (by rw [sizeLine_eq]; exact hl)]
      exact e4
    · obtain ⟨out2, w4, e4, p2⟩ := compL_go P h n (i + 1) _ _ (by omega) p1
      refine ⟨out2, w4, ?_, p2⟩
      rw [e2, bind_ok', if_neg Bool.false_ne_true]
      exact e4
theorem compL_run {c : MT} {e : ME} {ρ0 : Env} (P : Nat → List T → World → Prop) (h0 : P 0 [] w)
    (h : ∀ i t out w, all[i]? = some t → P i out w → ∃ ρ1 w1, g t ρ0 w = .ok ρ1 w1 ∧ ((∃ w2 y w3, c ρ1 w1 = .ok true w2 ∧ e ρ1 w2 = .ok y w3 ∧ out.length < 16777216 ∧ P (i + 1) (out ++ [y]) w3) ∨ ∃ w2, c ρ1 w1 = .ok false w2 ∧ P (i + 1) out w2)) :
    ∃ out' w', compL g c e none all ρ0 all [] w = .ok out' w' ∧ P all.length out' w' := by
  have := compL_go P h all.length 0 [] w (by omega) h0
  rwa [List.drop_zero] at this
/-- a comprehension whose items are worked out by a function, the world untouched, nothing left out -/
theorem compL_map {c : MT} {e : ME} {ρ0 : Env} (f : T → T) (hl : all.length < 16777216) (h : ∀ t ∈ all, ∃ ρ1, g t ρ0 w = .ok ρ1 w ∧ c ρ1 w = .ok true w ∧ e ρ1 w = .ok (f t) w) : compL g c e none all ρ0 all [] w = .ok (all.map f) w := by
  obtain ⟨out, w', e1, e2, e3⟩ := compL_run (w := w) (P := fun i out w' => w' = w ∧ out = (all.take i).map f) (g := g) (c := c) (e := e) (ρ0 := ρ0) (all := all) ⟨rfl, by simp⟩ (fun i t out w' ht p => by
    obtain ⟨rfl, rfl⟩ := p
    obtain ⟨hi, hx⟩ := List.getElem?_eq_some_iff.mp ht
    obtain ⟨ρ1, a, b, d⟩ := h t (List.mem_of_getElem? ht)
    refine ⟨ρ1, _, a, .inl ⟨_, _, _, b, d, by simp; omega, rfl, ?_⟩⟩
    rw [List.take_add_one, ht, List.map_append]
    rfl)
  rw [e1, e2, e3, List.take_length]
/-- .. some left out -/
theorem compL_filter {c : MT} {e : ME} {ρ0 : Env} (p : T → Bool) (f : T → T) (hl : all.length < 16777216) (h : ∀ t ∈ all, ∃ ρ1, g t ρ0 w = .ok ρ1 w ∧ c ρ1 w = .ok (p t) w ∧ (p t = true → e ρ1 w = .ok (f t) w)) : compL g c e none all ρ0 all [] w = .ok ((all.filter p).map f) w := by
  obtain ⟨out, w', e1, e2, e3⟩ := compL_run (w := w) (P := fun i out w' => w' = w ∧ out = ((all.take i).filter p).map f) (g := g) (c := c) (e := e) (ρ0 := ρ0) (all := all) ⟨rfl, by simp⟩ (fun i t out w' ht q => by
    obtain ⟨rfl, rfl⟩ := q
    obtain ⟨hi, hx⟩ := List.getElem?_eq_some_iff.mp ht
    obtain ⟨ρ1, a, b, d⟩ := h t (List.mem_of_getElem? ht)
    refine ⟨ρ1, _, a, ?_⟩
    cases hp : p t with
    | true =>
      refine .inl ⟨_, _, _, by rw [b, hp], d hp, ?_, rfl, ?_⟩
      · have h1 := List.length_filter_le p (all.take i)
        have h2 := List.length_take_le i all
        simp only [List.length_map]
        omega
      · rw [List.take_add_one, ht, List.filter_append, List.map_append]
        simp [hp]
    | false =>
      refine .inr ⟨_, by rw [b, hp], rfl, ?_⟩
      rw [List.take_add_one, ht, List.filter_append, List.map_append]
      simp [hp])
  rw [e1, e2, e3, List.take_length]
end
end VS

set_option Elab.async false
set_option linter.all false
set_option maxRecDepth 100000
set_option maxHeartbeats 2000000
/-! VX5: what repr of ints, texts, tuples is: its length, and that it can be shown. -/
namespace VS
open PySem PySem.Spec PyProof.Rows L2
theorem ofStr_len (s : String) : (Str.ofString s).length = s.length := by
  rw [Str.ofString_eq_toList]
  simp [Str.length, String.length_toList]
theorem int_shown {i : Int} (h : i.natAbs < 10 ^ 19) : (PyData.int i).shown.length ≤ 20 := by
  have e : (PyData.int i).shown = Str.ofString i.repr := by simp [PyData.shown]
  rw [e, ofStr_len]
  cases i with
  | ofNat n =>
    have := (Nat.length_repr_le_iff (n := n) (k := 19) (by decide)).mpr (by simpa using h)
    show n.repr.length ≤ 20
    omega
  | negSucc n =>
    have := (Nat.length_repr_le_iff (n := n + 1) (k := 19) (by decide)).mpr (by simpa using h)
    show ("-" ++ (n + 1).repr).length ≤ 20
    rw [String.length_append]
    show 1 + _ ≤ 20
    omega
theorem tuple_shown (ds : List PyData) : (PyData.tuple ds).shown.length ≤ piled (PyData.shownAll ds) + 3 := by
  have e : (PyData.tuple ds).shown = tupleText (PyData.shownAll ds) := by simp [PyData.shown]
  rw [e]
  unfold tupleText
  rw [strLen_append, strLen_append]
  have e1 : ((("(" : String) : Str)).length = 1 := rfl
  have e3 : (((if (PyData.shownAll ds).length == 1 then ",)" else ")" : String) : Str)).length ≤ 2 := by split <;> decide
  by_cases hn : PyData.shownAll ds = []
  · rw [hn] at e3 ⊢
    have : (Str.join ", " []).length = 0 := rfl
    omega
  · have := join_length_add _ hn
    omega
theorem piled_ints : ∀ ns : List Int, (∀ n ∈ ns, n.natAbs < 10 ^ 19) → piled (PyData.shownAll (ns.map .int)) ≤ 22 * ns.length
  | [], _ => by simp [PyData.shownAll, piled]
  | n :: ns, h => by
    have ih := piled_ints ns fun m hm => h m (.tail _ hm)
    have h1 := int_shown (h n (.head _))
    have e : PyData.shownAll ((n :: ns).map .int) = (PyData.int n).shown :: PyData.shownAll (ns.map .int) := by simp [PyData.shownAll]
    rw [e, piled_cons, List.length_cons]
    omega
theorem int_showable {i : Int} (h : i.natAbs < 10 ^ 19) : (PyData.int i).showable = true := by
  have : i.natAbs.log2 < 1920 := by
    by_cases z : i.natAbs = 0
    · rw [z]; decide
    · have h64 : i.natAbs.log2 < 64 := (Nat.log2_lt z).mpr (Nat.lt_trans h (by decide))
      omega
  simpa [PyData.showable] using this
theorem ints_showable : ∀ ns : List Int, (∀ n ∈ ns, n.natAbs < 10 ^ 19) → PyData.showableAll (ns.map .int) = true
  | [], _ => by simp [PyData.showableAll]
  | n :: ns, h => by
    have ih := ints_showable ns fun m hm => h m (.tail _ hm)
    have h1 := int_showable (h n (.head _))
    simp [PyData.showableAll, h1, ih]
theorem ints_nodict : ∀ ns : List Int, PyData.hasDictAll (ns.map .int) = false
  | [] => by simp [PyData.hasDictAll]
  | n :: ns => by simp [PyData.hasDictAll, PyData.hasDict, ints_nodict ns]
/-! its code points -/
theorem ok_of_string (s : String) : PyData.strOk (Str.ofString s) = true := by
  rw [Str.ofString_eq_toList]
  unfold PyData.strOk
  rw [Array.all_eq_true_iff_forall_mem]
  intro c hc
  simp only [List.mem_toArray, List.mem_map] at hc
  obtain ⟨ch, _, rfl⟩ := hc
  have := ch.valid
  show decide (ch.toNat < 0x110000) = true
  refine decide_eq_true ?_
  show ch.val.toNat < _
  rcases this with h | h
  · omega
  · exact h.2
theorem ok_app {a b : Str} (ha : PyData.strOk a = true) (hb : PyData.strOk b = true) : PyData.strOk (a ++ b) = true := by
  unfold PyData.strOk at *
  show (a.cps ++ b.cps).all _ = true
  rw [Array.all_append, ha, hb]
  rfl
theorem ok_join : ∀ ts : List Str, (∀ t ∈ ts, PyData.strOk t = true) → PyData.strOk (Str.join ", " ts) = true
  | [], _ => by decide +kernel
  | [x], h => h x (.head _)
  | x :: y :: r, h => by
    show PyData.strOk (x ++ ", " ++ Str.join ", " (y :: r)) = true
    exact ok_app (ok_app (h x (.head _)) (by decide +kernel)) (ok_join (y :: r) fun t ht => h t (.tail _ ht))
theorem ok_tuple {ds : List PyData} (h : ∀ t ∈ PyData.shownAll ds, PyData.strOk t = true) : PyData.strOk (PyData.tuple ds).shown = true := by
  have e : (PyData.tuple ds).shown = tupleText (PyData.shownAll ds) := by simp [PyData.shown]
  rw [e]
  unfold tupleText
  refine ok_app (ok_app (by decide +kernel) (ok_join _ h)) ?_
  split <;> decide +kernel
theorem ok_int {i : Int} : PyData.strOk (PyData.int i).shown = true := by
  have e : (PyData.int i).shown = Str.ofString i.repr := by simp [PyData.shown]
  rw [e]
  exact ok_of_string _
theorem ok_ints : ∀ ns : List Int, ∀ t ∈ PyData.shownAll (ns.map .int), PyData.strOk t = true
  | [], t, ht => by simp [PyData.shownAll] at ht
  | n :: ns, t, ht => by
    have e : PyData.shownAll ((n :: ns).map .int) = (PyData.int n).shown :: PyData.shownAll (ns.map .int) := by simp [PyData.shownAll]
    rw [e] at ht
    rcases List.mem_cons.mp ht with rfl | ht
    · exact ok_int
    · exact ok_ints ns t ht
/-- equal texts -/
theorem sNe_str {w : World} {x : Str} (h : PyData.strOk x = true) : sNe (.str x) (.str x) w = .ok (.bl false) w := by
  have hp : pd w (.str x) = some (.str x) := by simp [pd]
  have hs : SeqAt.shaped (.str x) = true := by
    unfold SeqAt.shaped
    have : PyData.canLay0 (.str x) = true := h
    rw [this]
    simp [PyData.depth]
  have e : eqT w (.str x) (.str x) = some true := by
    rw [eqT_of hp hp hs hs, SeqAt.eqv_refl (.str x) h]
  simp [sNe, e]
end VS

set_option Elab.async false
set_option linter.all false
set_option maxRecDepth 100000
set_option maxHeartbeats 4000000
namespace VS
open PySem PySem.Spec PyProof.Rows L2
def topS (i : Nat) : Stmt := PySem.Challenge.pw_seenatonce_k55_moments_for_a_sequence.main.body.getD i (.Pass ⟨0, 0, 0, 0⟩)
def isTab : List (Str × Str × Bool) := [("BadHistory", "BadHistory", true), ("BadHistory", "BadPlaces", false), ("BadHistory", "BadTable", false), ("BadPlaces", "BadHistory", false), ("BadPlaces", "BadPlaces", true), ("BadPlaces", "BadTable", false), ("BadTable", "BadHistory", false), ("BadTable", "BadPlaces", false), ("BadTable", "BadTable", true), ("", "BadHistory", false), ("", "BadPlaces", false), ("", "BadTable", false)]
def caughtL : List Str := ["BadHistory", "BadPlaces", "BadTable"]
structure Zs (K : PySem.W.Frag) (mg : Str → Option Value) : Prop where
  z_bool : mg "bool" = none
  z_isinstance : mg "isinstance" = none
  z_int : mg "int" = none
  z_tuple : mg "tuple" = none
  z_list : mg "list" = none
  z_len : mg "len" = none
  z_all : mg "all" = none
  z_set : mg "set" = none
  z_enumerate : mg "enumerate" = none
  z_max : mg "max" = none
  z_abs : mg "abs" = none
  z_range : mg "range" = none
  z_repr : mg "repr" = none
  c_GREATEST : ∃ t, mg "GREATEST" = some (.int 999999999999999999 t)
  c_MOST_CALLS : ∃ t, mg "MOST_CALLS" = some (.int 60 t)
  c_MOST_DEEDS : ∃ t, mg "MOST_DEEDS" = some (.int 12 t)
  c_MOST_HANDS : ∃ t, mg "MOST_HANDS" = some (.int 6 t)
  c_MOST_STATES : ∃ t, mg "MOST_STATES" = some (.int 30 t)
  e_BadHistory : ErrC K mg "BadHistory"
  e_BadPlaces : ErrC K mg "BadPlaces"
  e_BadTable : ErrC K mg "BadTable"
  g_BadHistory : GlbD K mg "BadHistory"
  g_BadPlaces : GlbD K mg "BadPlaces"
  g_BadTable : GlbD K mg "BadTable"
  isx : IsTab K isTab
  cg : CaughtD K mg caughtL
abbrev t__law_caught : Stmt := topS 38
theorem caught_t : CaughtT t__law_caught "SeenError" := ⟨⟨rfl, rfl, rfl, by decide +kernel, rfl, by decide +kernel, by decide +kernel⟩, rfl, rfl, rfl, rfl, by decide, ⟨_, _, _, _, _, _, _, _, _, _, _, _, _, _, _, rfl⟩⟩
section
variable {P : Program} {w : PySem.World} {K : PySem.W.Frag} {Z : List (Addr × Str)} {mg : Str → Option Value} {base : Heap}
/-! is_number -/
abbrev t_is_number : Stmt := topS 8
abbrev N_is_number : List Str := ["value"]
theorem sc_is_number : FnScope N_is_number ["value"] (defScope t_is_number) := ⟨rfl, rfl, rfl, by decide +kernel, rfl, by decide +kernel, by decide +kernel⟩
noncomputable def m_is_number : MS := (mRet (mAndV (mCall sIsi (mCons (mVar 0) (mCons (mC (.ty "int")) mNil))) (mAndV (mNotV (mCall sIsi (mCons (mVar 0) (mCons (mC (.ty "bool")) mNil)))) (mChain sLe sLe (mOp1 sNeg (mC (.int 999999999999999999))) (mVar 0) (mC (.int 999999999999999999))))))
noncomputable def s_is_number : Sem := runB 1 m_is_number
theorem b_is_number {cd : Value} (z : Zs K mg) : Bd P w K Z mg base N_is_number "is_number" t_is_number cd 0 m_is_number :=
 fun f A outer s H E W hr tk =>
 (ds_one (ds_ret (de_and (de_isi z.z_isinstance (da_cons (de_var 0) (da_cons (de_gty z.z_int (by decide +kernel)) da_nil))) (de_and (de_not (de_isi z.z_isinstance (da_cons (de_var 0) (da_cons (de_gty z.z_bool (by decide +kernel)) da_nil)))) (de_one (de_chain op_le op2B0 op_le op2B0 (de_neg (de_gint' z.c_GREATEST)) (de_var 0) (de_gint' z.c_GREATEST)))))))
/-! is_count -/
abbrev t_is_count : Stmt := topS 9
abbrev N_is_count : List Str := ["value"]
theorem sc_is_count : FnScope N_is_count ["value"] (defScope t_is_count) := ⟨rfl, rfl, rfl, by decide +kernel, rfl, by decide +kernel, by decide +kernel⟩
noncomputable def m_is_count : MS := (mRet (mAndV (mDef 1 s_is_number (mCons (mVar 0) mNil)) (mOp2 sGe (mVar 0) (mC (.int 0)))))
noncomputable def s_is_count : Sem := runB 1 m_is_count
theorem b_is_count {cd : Value} (z : Zs K mg) (D_is_number : Df P w K Z mg base 1 "is_number" ["value"] s_is_number) : Bd P w K Z mg base N_is_count "is_count" t_is_count cd 1 m_is_count :=
 fun f A outer s H E W hr tk =>
 (ds_one (ds_ret (de_and (de_def D_is_number tk (hr.mono (by decide)) (da_cons (de_var 0) da_nil)) (de_one (de_ge (de_var 0) de_int)))))
/-! is_list -/
abbrev t_is_list : Stmt := topS 10
abbrev N_is_list : List Str := ["value"]
theorem sc_is_list : FnScope N_is_list ["value"] (defScope t_is_list) := ⟨rfl, rfl, rfl, by decide +kernel, rfl, by decide +kernel, by decide +kernel⟩
noncomputable def m_is_list : MS := (mRet (mCall sIsi (mCons (mVar 0) (mCons (mTup (mCons (mC (.ty "list")) (mCons (mC (.ty "tuple")) mNil))) mNil))))
noncomputable def s_is_list : Sem := runB 1 m_is_list
theorem b_is_list {cd : Value} (z : Zs K mg) : Bd P w K Z mg base N_is_list "is_list" t_is_list cd 0 m_is_list :=
 fun f A outer s H E W hr tk =>
 (ds_one (ds_ret (de_isi z.z_isinstance (da_cons (de_var 0) (da_cons (de_tup (da_cons (de_gty z.z_list (by decide +kernel)) (da_cons (de_gty z.z_tuple (by decide +kernel)) da_nil))) da_nil)))))
/-! is_place -/
abbrev t_is_place : Stmt := topS 11
abbrev N_is_place : List Str := ["value", "many"]
theorem sc_is_place : FnScope N_is_place ["value", "many"] (defScope t_is_place) := ⟨rfl, rfl, rfl, by decide +kernel, rfl, by decide +kernel, by decide +kernel⟩
noncomputable def m_is_place : MS := (mRet (mAndV (mDef 1 s_is_count (mCons (mVar 0) mNil)) (mOp2 sLt (mVar 0) (mVar 1))))
noncomputable def s_is_place : Sem := runB 2 m_is_place
theorem b_is_place {cd : Value} (z : Zs K mg) (D_is_count : Df P w K Z mg base 2 "is_count" ["value"] s_is_count) : Bd P w K Z mg base N_is_place "is_place" t_is_place cd 2 m_is_place :=
 fun f A outer s H E W hr tk =>
 (ds_one (ds_ret (de_and (de_def D_is_count tk (hr.mono (by decide)) (da_cons (de_var 0) da_nil)) (de_one (de_lt (de_var 0) (de_var 1))))))
/-! is_tuple_of -/
abbrev t_is_tuple_of : Stmt := topS 12
abbrev N_is_tuple_of : List Str := ["value", "many"]
theorem sc_is_tuple_of : FnScope N_is_tuple_of ["value", "many"] (defScope t_is_tuple_of) := ⟨rfl, rfl, rfl, by decide +kernel, rfl, by decide +kernel, by decide +kernel⟩
noncomputable def m_is_tuple_of : MS := (mRet (mAndV (mCall sIsi (mCons (mVar 0) (mCons (mC (.ty "tuple")) mNil))) (mOp2 sEq (mCall sLen (mCons (mVar 0) mNil)) (mVar 1))))
noncomputable def s_is_tuple_of : Sem := runB 2 m_is_tuple_of
theorem b_is_tuple_of {cd : Value} (z : Zs K mg) : Bd P w K Z mg base N_is_tuple_of "is_tuple_of" t_is_tuple_of cd 0 m_is_tuple_of :=
 fun f A outer s H E W hr tk =>
 (ds_one (ds_ret (de_and (de_isi z.z_isinstance (da_cons (de_var 0) (da_cons (de_gty z.z_tuple (by decide +kernel)) da_nil))) (de_one (de_eq hr.units (de_len z.z_len (da_cons (de_var 0) da_nil)) (de_var 1))))))
/-! _is_step -/
abbrev t__is_step : Stmt := topS 16
abbrev N__is_step : List Str := ["value", "states"]
theorem sc__is_step : FnScope N__is_step ["value", "states"] (defScope t__is_step) := ⟨rfl, rfl, rfl, by decide +kernel, rfl, by decide +kernel, by decide +kernel⟩
noncomputable def m__is_step : MS := (mRet (mAndV (mDef 2 s_is_tuple_of (mCons (mVar 0) (mCons (mC (.int 2)) mNil))) (mAndV (mDef 2 s_is_place (mCons (mOp2 sIx (mVar 0) (mC (.int 0))) (mCons (mVar 1) mNil))) (mDef 1 s_is_count (mCons (mOp2 sIx (mVar 0) (mC (.int 1))) mNil)))))
noncomputable def s__is_step : Sem := runB 2 m__is_step
theorem b__is_step {cd : Value} (z : Zs K mg) (D_is_count : Df P w K Z mg base 2 "is_count" ["value"] s_is_count) (D_is_place : Df P w K Z mg base 3 "is_place" ["value", "many"] s_is_place) (D_is_tuple_of : Df P w K Z mg base 1 "is_tuple_of" ["value", "many"] s_is_tuple_of) : Bd P w K Z mg base N__is_step "_is_step" t__is_step cd 3 m__is_step :=
 fun f A outer s H E W hr tk =>
 (ds_one (ds_ret (de_and (de_def D_is_tuple_of tk (hr.mono (by decide)) (da_cons (de_var 0) (da_cons de_int da_nil))) (de_and (de_def D_is_place tk (hr.mono (by decide)) (da_cons (de_sub' (hu_of hr) (de_var 0) de_int) (da_cons (de_var 1) da_nil))) (de_one (de_def D_is_count tk (hr.mono (by decide)) (da_cons (de_sub' (hu_of hr) (de_var 0) de_int) da_nil)))))))
/-! is_table -/
abbrev t_is_table : Stmt := topS 17
abbrev N_is_table : List Str := ["value", "states", "deed", "step"]
theorem sc_is_table : FnScope N_is_table ["value"] (defScope t_is_table) := ⟨rfl, rfl, rfl, by decide +kernel, rfl, by decide +kernel, by decide +kernel⟩
noncomputable def m_is_table : MS := (mSeq (mIfS (mOr (mNot (mTru (mCall sIsi (mCons (mVar 0) (mCons (mC (.ty "tuple")) mNil))))) (mNot (mTest (mChain sLe sLe (mC (.int 1)) (mCall sLen (mCons (mVar 0) mNil)) (mC (.int 12))))))
 (mRet (mC (.bl false)))
 mSkip)
 (mSeq (mIfS (mOr (mNot (mTru (mCall sIsi (mCons (mOp2 sIx (mVar 0) (mC (.int 0))) (mCons (mC (.ty "tuple")) mNil))))) (mNot (mTest (mChain sLe sLe (mC (.int 1)) (mCall sLen (mCons (mOp2 sIx (mVar 0) (mC (.int 0))) mNil)) (mC (.int 30))))))
 (mRet (mC (.bl false)))
 mSkip)
 (mSeq (mAsg (mCall sLen (mCons (mOp2 sIx (mVar 0) (mC (.int 0))) mNil)) (mgName 1))
 (mSeq (mIfS (mNot (mTru (mCall sAll (mCons (mVal (mComp [2] (mItems (mVar 0)) (mgName 2) mYes (mDef 2 s_is_tuple_of (mCons (mVar 2) (mCons (mVar 1) mNil))))) mNil))))
 (mRet (mC (.bl false)))
 mSkip)
 (mRet (mCall sAll (mCons (mVal (mComp2 [2, 3] (mItems (mVar 0)) (mgName 2) mYes (mItems (mVar 2)) [3] (mgName 3) mYes (mDef 2 s__is_step (mCons (mVar 3) (mCons (mVar 1) mNil))))) mNil)))))))
noncomputable def s_is_table : Sem := runB 4 m_is_table
theorem b_is_table {cd : Value} (z : Zs K mg) (D_is_tuple_of : Df P w K Z mg base 1 "is_tuple_of" ["value", "many"] s_is_tuple_of) (D__is_step : Df P w K Z mg base 4 "_is_step" ["value", "states"] s__is_step) : Bd P w K Z mg base N_is_table "is_table" t_is_table cd 4 m_is_table :=
 fun f A outer s H E W hr tk =>
 (ds_cons (ds_if (dt_w (dw_or (dt_not (dt_tru (de_isi z.z_isinstance (da_cons (de_var 0) (da_cons (de_gty z.z_tuple (by decide +kernel)) da_nil))))) (dw_or1 (dt_not (dt_chain op_le op2B0 op_le op2B0 de_int (de_len z.z_len (da_cons (de_var 0) da_nil)) (de_gint' z.c_MOST_DEEDS))))))
 (ds_one (ds_ret de_bl))
 ds_nil)
 (ds_cons (ds_if (dt_w (dw_or (dt_not (dt_tru (de_isi z.z_isinstance (da_cons (de_sub' (hu_of hr) (de_var 0) de_int) (da_cons (de_gty z.z_tuple (by decide +kernel)) da_nil))))) (dw_or1 (dt_not (dt_chain op_le op2B0 op_le op2B0 de_int (de_len z.z_len (da_cons (de_sub' (hu_of hr) (de_var 0) de_int) da_nil)) (de_gint' z.c_MOST_STATES))))))
 (ds_one (ds_ret de_bl))
 ds_nil)
 (ds_cons (ds_set 1 sc_is_table.nd (de_len z.z_len (da_cons (de_sub' (hu_of hr) (de_var 0) de_int) da_nil)))
 (ds_cons (ds_if (dt_not (dt_tru (de_all rfl z.z_all (da_cons (de_val (df_comp (own := [("deed", 2)]) rfl sc_is_table.nd (di_seq (de_var 0)) (show blkC N_is_table (defScope t_is_table) _ [("deed", 2)] = true by decide +kernel) (fun _ _ _ _ _ => (dg_name 2 sc_is_table.nd)) (fun _ _ _ _ _ => dts_nil) (fun _ _ _ _ _ => (de_def D_is_tuple_of trivial (hr.mono (by decide)) (da_cons (de_var 2) (da_cons (de_var 1) da_nil)))))) da_nil))))
 (ds_one (ds_ret de_bl))
 ds_nil)
 (ds_one (ds_ret (de_all rfl z.z_all (da_cons (de_val (df_comp2 (own := [("deed", 2), ("step", 3)]) (vs1 := [3]) rfl sc_is_table.nd (di_seq (de_var 0)) (show blkC N_is_table (defScope t_is_table) _ [("deed", 2), ("step", 3)] = true by decide +kernel) (fun _ _ _ _ _ => (dg_name 2 sc_is_table.nd)) (fun _ _ _ _ _ => dts_nil) (fun _ _ _ _ _ => (di_seq (de_var 2))) (fun _ _ _ _ _ => (dg_name 3 sc_is_table.nd)) (fun _ _ _ _ _ => dts_nil) (fun _ _ _ _ _ => (de_def D__is_step trivial (hr.mono (by decide)) (da_cons (de_var 3) (da_cons (de_var 1) da_nil)))))) da_nil))))))))
/-! is_deed -/
abbrev t_is_deed : Stmt := topS 18
abbrev N_is_deed : List Str := ["table", "value"]
theorem sc_is_deed : FnScope N_is_deed ["table", "value"] (defScope t_is_deed) := ⟨rfl, rfl, rfl, by decide +kernel, rfl, by decide +kernel, by decide +kernel⟩
noncomputable def m_is_deed : MS := (mRet (mDef 2 s_is_place (mCons (mVar 1) (mCons (mCall sLen (mCons (mVar 0) mNil)) mNil))))
noncomputable def s_is_deed : Sem := runB 2 m_is_deed
theorem b_is_deed {cd : Value} (z : Zs K mg) (D_is_place : Df P w K Z mg base 3 "is_place" ["value", "many"] s_is_place) : Bd P w K Z mg base N_is_deed "is_deed" t_is_deed cd 3 m_is_deed :=
 fun f A outer s H E W hr tk =>
 (ds_one (ds_ret (de_def D_is_place tk (hr.mono (by decide)) (da_cons (de_var 1) (da_cons (de_len z.z_len (da_cons (de_var 0) da_nil)) da_nil)))))
/-! check_table -/
abbrev t_check_table : Stmt := topS 19
abbrev N_check_table : List Str := ["table"]
theorem sc_check_table : FnScope N_check_table ["table"] (defScope t_check_table) := ⟨rfl, rfl, rfl, by decide +kernel, rfl, by decide +kernel, by decide +kernel⟩
noncomputable def m_check_table : MS := (mIfS (mNot (mTru (mDef 1 s_is_table (mCons (mVar 0) mNil))))
 (mRaise "BadTable")
 mSkip)
noncomputable def s_check_table : Sem := runB 1 m_check_table
theorem b_check_table {cd : Value} (z : Zs K mg) (D_is_table : Df P w K Z mg base 5 "is_table" ["value"] s_is_table) : Bd P w K Z mg base N_check_table "check_table" t_check_table cd 5 m_check_table :=
 fun f A outer s H E W hr tk =>
 (ds_one (ds_if (dt_not (dt_tru (de_def D_is_table tk (hr.mono (by decide)) (da_cons (de_var 0) da_nil))))
 (ds_one (ds_raise z.e_BadTable rfl tk))
 ds_nil))
/-! _is_call -/
abbrev t__is_call : Stmt := topS 22
abbrev N__is_call : List Str := ["table", "value", "hand", "begin", "end", "deed", "answer"]
theorem sc__is_call : FnScope N__is_call ["table", "value"] (defScope t__is_call) := ⟨rfl, rfl, rfl, by decide +kernel, rfl, by decide +kernel, by decide +kernel⟩
noncomputable def m__is_call : MS := (mSeq (mIfS (mNot (mTru (mDef 2 s_is_tuple_of (mCons (mVar 1) (mCons (mC (.int 5)) mNil)))))
 (mRet (mC (.bl false)))
 mSkip)
 (mSeq (mAsg (mVar 1) (mgTup 5 (mgCons (mgName 2) (mgCons (mgName 3) (mgCons (mgName 4) (mgCons (mgName 5) (mgCons (mgName 6) mgNil)))))))
 (mSeq (mIfS (mOr (mNot (mTru (mDef 2 s_is_place (mCons (mVar 2) (mCons (mC (.int 6)) mNil))))) (mOr (mNot (mTru (mDef 1 s_is_count (mCons (mVar 3) mNil)))) (mNot (mTru (mDef 2 s_is_deed (mCons (mVar 0) (mCons (mVar 5) mNil)))))))
 (mRet (mC (.bl false)))
 mSkip)
 (mSeq (mIfS (mTest (mOp2 sIs (mVar 4) (mC .non)))
 (mRet (mOp2 sIs (mVar 6) (mC .non)))
 mSkip)
 (mRet (mAndV (mDef 1 s_is_count (mCons (mVar 4) mNil)) (mAndV (mOp2 sGt (mVar 4) (mVar 3)) (mDef 1 s_is_count (mCons (mVar 6) mNil)))))))))
noncomputable def s__is_call : Sem := runB 7 m__is_call
theorem b__is_call {cd : Value} (z : Zs K mg) (D_is_tuple_of : Df P w K Z mg base 1 "is_tuple_of" ["value", "many"] s_is_tuple_of) (D_is_deed : Df P w K Z mg base 4 "is_deed" ["table", "value"] s_is_deed) (D_is_count : Df P w K Z mg base 2 "is_count" ["value"] s_is_count) (D_is_place : Df P w K Z mg base 3 "is_place" ["value", "many"] s_is_place) : Bd P w K Z mg base N__is_call "_is_call" t__is_call cd 4 m__is_call :=
 fun f A outer s H E W hr tk =>
 (ds_cons (ds_if (dt_not (dt_tru (de_def D_is_tuple_of tk (hr.mono (by decide)) (da_cons (de_var 1) (da_cons de_int da_nil)))))
 (ds_one (ds_ret de_bl))
 ds_nil)
 (ds_cons (ds_asg (de_var 1) (dg_tup rfl (dgs_cons (dg_name 2 sc__is_call.nd) (dgs_cons (dg_name 3 sc__is_call.nd) (dgs_cons (dg_name 4 sc__is_call.nd) (dgs_cons (dg_name 5 sc__is_call.nd) (dgs_cons (dg_name 6 sc__is_call.nd) dgs_nil)))))))
 (ds_cons (ds_if (dt_w (dw_or (dt_not (dt_tru (de_def D_is_place tk (hr.mono (by decide)) (da_cons (de_var 2) (da_cons (de_gint' z.c_MOST_HANDS) da_nil))))) (dw_or (dt_not (dt_tru (de_def D_is_count tk (hr.mono (by decide)) (da_cons (de_var 3) da_nil)))) (dw_or1 (dt_not (dt_tru (de_def D_is_deed tk (hr.mono (by decide)) (da_cons (de_var 0) (da_cons (de_var 5) da_nil)))))))))
 (ds_one (ds_ret de_bl))
 ds_nil)
 (ds_cons (ds_if (dt_is (de_var 4) de_non)
 (ds_one (ds_ret (de_is (de_var 6) de_non)))
 ds_nil)
 (ds_one (ds_ret (de_and (de_def D_is_count tk (hr.mono (by decide)) (da_cons (de_var 4) da_nil)) (de_and (de_gt (de_var 4) (de_var 3)) (de_one (de_def D_is_count tk (hr.mono (by decide)) (da_cons (de_var 6) da_nil)))))))))))
/-! goes_ahead -/
abbrev t_goes_ahead : Stmt := topS 23
abbrev N_goes_ahead : List Str := ["one", "other"]
theorem sc_goes_ahead : FnScope N_goes_ahead ["one", "other"] (defScope t_goes_ahead) := ⟨rfl, rfl, rfl, by decide +kernel, rfl, by decide +kernel, by decide +kernel⟩
noncomputable def m_goes_ahead : MS := (mRet (mAndV (mOp2 sIsNot (mOp2 sIx (mVar 0) (mC (.int 2))) (mC .non)) (mOp2 sLt (mOp2 sIx (mVar 0) (mC (.int 2))) (mOp2 sIx (mVar 1) (mC (.int 1))))))
noncomputable def s_goes_ahead : Sem := runB 2 m_goes_ahead
theorem b_goes_ahead {cd : Value} (z : Zs K mg) : Bd P w K Z mg base N_goes_ahead "goes_ahead" t_goes_ahead cd 0 m_goes_ahead :=
 fun f A outer s H E W hr tk =>
 (ds_one (ds_ret (de_and (de_isnot (de_sub' (hu_of hr) (de_var 0) de_int) de_non) (de_one (de_lt (de_sub' (hu_of hr) (de_var 0) de_int) (de_sub' (hu_of hr) (de_var 1) de_int))))))
/-! _have_unlike_moments -/
abbrev t__have_unlike_moments : Stmt := topS 24
abbrev N__have_unlike_moments : List Str := ["calls", "moments", "call"]
theorem sc__have_unlike_moments : FnScope N__have_unlike_moments ["calls"] (defScope t__have_unlike_moments) := ⟨rfl, rfl, rfl, by decide +kernel, rfl, by decide +kernel, by decide +kernel⟩
noncomputable def m__have_unlike_moments : MS := (mSeq (mAsg (mVal (mOp2F sCat (mVal (mComp [2] (mItems (mVar 0)) (mgName 2) mYes (mOp2 sIx (mVar 2) (mC (.int 1))))) (mVal (mComp [2] (mItems (mVar 0)) (mgName 2) (mTest (mOp2 sIsNot (mOp2 sIx (mVar 2) (mC (.int 2))) (mC .non))) (mOp2 sIx (mVar 2) (mC (.int 2))))))) (mgName 1))
 (mRet (mOp2 sEq (mLenSet (mVar 1)) (mCall sLen (mCons (mVar 1) mNil)))))
noncomputable def s__have_unlike_moments : Sem := runB 3 m__have_unlike_moments
theorem b__have_unlike_moments {cd : Value} (z : Zs K mg) : Bd P w K Z mg base N__have_unlike_moments "_have_unlike_moments" t__have_unlike_moments cd 0 m__have_unlike_moments :=
 fun f A outer s H E W hr tk =>
 (ds_cons (ds_set 1 sc__have_unlike_moments.nd (de_val (df_add (de_val (df_comp (own := [("call", 2)]) rfl sc__have_unlike_moments.nd (di_seq (de_var 0)) (show blkC N__have_unlike_moments (defScope t__have_unlike_moments) _ [("call", 2)] = true by decide +kernel) (fun _ _ _ _ _ => (dg_name 2 sc__have_unlike_moments.nd)) (fun _ _ _ _ _ => dts_nil) (fun _ _ _ _ _ => (de_sub' (hu_of hr) (de_var 2) de_int)))) (de_val (df_comp (own := [("call", 2)]) rfl sc__have_unlike_moments.nd (di_seq (de_var 0)) (show blkC N__have_unlike_moments (defScope t__have_unlike_moments) _ [("call", 2)] = true by decide +kernel) (fun _ _ _ _ _ => (dg_name 2 sc__have_unlike_moments.nd)) (fun _ _ _ _ _ => (dts_one (dt_isnot (de_sub' (hu_of hr) (de_var 2) de_int) de_non))) (fun _ _ _ _ _ => (de_sub' (hu_of hr) (de_var 2) de_int)))))))
 (ds_one (ds_ret (de_eq hr.units (de_lenset z.z_len z.z_set (de_var 1)) (de_len z.z_len (da_cons (de_var 1) da_nil))))))
/-! _are_one_behind_another -/
abbrev t__are_one_behind_another : Stmt := topS 25
abbrev N__are_one_behind_another : List Str := ["calls", "pairs", "k", "one", "other"]
theorem sc__are_one_behind_another : FnScope N__are_one_behind_another ["calls"] (defScope t__are_one_behind_another) := ⟨rfl, rfl, rfl, by decide +kernel, rfl, by decide +kernel, by decide +kernel⟩
noncomputable def m__are_one_behind_another : MS := (mSeq (mAsg (if false = true then mCell (mComp2 [2, 3, 4] (mEnum (mCons (mVar 0) mNil)) (mgTup 2 (mgCons (mgName 2) (mgCons (mgName 3) mgNil))) mYes (mItems (mSlQ (mVar 0) mNoPart (mPart (mVar 2)))) [4] (mgName 4) (mTest (mOp2 sEq (mOp2 sIx (mVar 3) (mC (.int 0))) (mOp2 sIx (mVar 4) (mC (.int 0))))) (mTup (mCons (mVar 3) (mCons (mVar 4) mNil)))) else mVal (mComp2 [2, 3, 4] (mEnum (mCons (mVar 0) mNil)) (mgTup 2 (mgCons (mgName 2) (mgCons (mgName 3) mgNil))) mYes (mItems (mSlQ (mVar 0) mNoPart (mPart (mVar 2)))) [4] (mgName 4) (mTest (mOp2 sEq (mOp2 sIx (mVar 3) (mC (.int 0))) (mOp2 sIx (mVar 4) (mC (.int 0))))) (mTup (mCons (mVar 3) (mCons (mVar 4) mNil))))) (mgName 1))
 (mRet (mCall sAll (mCons (mVal (mComp [3, 4] (mItems (mVar 1)) (mgTup 2 (mgCons (mgName 3) (mgCons (mgName 4) mgNil))) mYes (mOrV (mDef 2 s_goes_ahead (mCons (mVar 3) (mCons (mVar 4) mNil))) (mDef 2 s_goes_ahead (mCons (mVar 4) (mCons (mVar 3) mNil)))))) mNil))))
noncomputable def s__are_one_behind_another : Sem := runB 5 m__are_one_behind_another
theorem b__are_one_behind_another {cd : Value} (z : Zs K mg) (D_goes_ahead : Df P w K Z mg base 1 "goes_ahead" ["one", "other"] s_goes_ahead) : Bd P w K Z mg base N__are_one_behind_another "_are_one_behind_another" t__are_one_behind_another cd 1 m__are_one_behind_another :=
 fun f A outer s H E W hr tk =>
 (ds_cons (ds_setLc2 (own := [("k", 2), ("one", 3), ("other", 4)]) (vs1 := [4]) 1 false rfl sc__are_one_behind_another.nd (di_enum z.z_enumerate (da_cons (de_var 0) da_nil)) (show blkC N__are_one_behind_another (defScope t__are_one_behind_another) _ [("k", 2), ("one", 3), ("other", 4)] = true by decide +kernel) (fun _ _ _ _ _ => (dg_tup rfl (dgs_cons (dg_name 2 sc__are_one_behind_another.nd) (dgs_cons (dg_name 3 sc__are_one_behind_another.nd) dgs_nil)))) (fun _ _ _ _ _ => dts_nil) (fun _ _ _ _ _ => (di_seq (de_sliceQ (de_var 0) do_none (do_some (de_var 2))))) (fun _ _ _ _ _ => (dg_name 4 sc__are_one_behind_another.nd)) (fun _ _ _ _ _ => (dts_one (dt_eq hr.units (de_sub' (hu_of hr) (de_var 3) de_int) (de_sub' (hu_of hr) (de_var 4) de_int)))) (fun _ _ _ _ _ => (de_tup (da_cons (de_var 3) (da_cons (de_var 4) da_nil)))) (sw_true rfl rfl rfl (by decide +kernel)))
 (ds_one (ds_ret (de_all rfl z.z_all (da_cons (de_val (df_comp (own := [("one", 3), ("other", 4)]) rfl sc__are_one_behind_another.nd (di_seq (de_var 1)) (show blkC N__are_one_behind_another (defScope t__are_one_behind_another) _ [("one", 3), ("other", 4)] = true by decide +kernel) (fun _ _ _ _ _ => (dg_tup rfl (dgs_cons (dg_name 3 sc__are_one_behind_another.nd) (dgs_cons (dg_name 4 sc__are_one_behind_another.nd) dgs_nil)))) (fun _ _ _ _ _ => dts_nil) (fun _ _ _ _ _ => (de_or (de_def D_goes_ahead trivial (hr.mono (by decide)) (da_cons (de_var 3) (da_cons (de_var 4) da_nil))) (de_one (de_def D_goes_ahead trivial (hr.mono (by decide)) (da_cons (de_var 4) (da_cons (de_var 3) da_nil)))))))) da_nil)))))
/-! is_history -/
abbrev t_is_history : Stmt := topS 26
abbrev N_is_history : List Str := ["table", "value", "call"]
theorem sc_is_history : FnScope N_is_history ["table", "value"] (defScope t_is_history) := ⟨rfl, rfl, rfl, by decide +kernel, rfl, by decide +kernel, by decide +kernel⟩
noncomputable def m_is_history : MS := (mSeq (mDrop (mDef 1 s_check_table (mCons (mVar 0) mNil)))
 (mSeq (mIfS (mOr (mNot (mTru (mDef 1 s_is_list (mCons (mVar 1) mNil)))) (mOr (mTest (mOp2 sGt (mCall sLen (mCons (mVar 1) mNil)) (mC (.int 60)))) (mNot (mTru (mCall sAll (mCons (mVal (mComp [2] (mItems (mVar 1)) (mgName 2) mYes (mDef 2 s__is_call (mCons (mVar 0) (mCons (mVar 2) mNil))))) mNil))))))
 (mRet (mC (.bl false)))
 mSkip)
 (mRet (mAndV (mDef 1 s__have_unlike_moments (mCons (mVar 1) mNil)) (mDef 1 s__are_one_behind_another (mCons (mVar 1) mNil))))))
noncomputable def s_is_history : Sem := runB 3 m_is_history
theorem b_is_history {cd : Value} (z : Zs K mg) (D_check_table : Df P w K Z mg base 6 "check_table" ["table"] s_check_table) (D__is_call : Df P w K Z mg base 5 "_is_call" ["table", "value"] s__is_call) (D_is_list : Df P w K Z mg base 1 "is_list" ["value"] s_is_list) (D__are_one_behind_another : Df P w K Z mg base 2 "_are_one_behind_another" ["calls"] s__are_one_behind_another) (D__have_unlike_moments : Df P w K Z mg base 1 "_have_unlike_moments" ["calls"] s__have_unlike_moments) : Bd P w K Z mg base N_is_history "is_history" t_is_history cd 6 m_is_history :=
 fun f A outer s H E W hr tk =>
 (ds_cons (ds_expr (de_def D_check_table tk (hr.mono (by decide)) (da_cons (de_var 0) da_nil)))
 (ds_cons (ds_if (dt_w (dw_or (dt_not (dt_tru (de_def D_is_list tk (hr.mono (by decide)) (da_cons (de_var 1) da_nil)))) (dw_or (dt_gt (de_len z.z_len (da_cons (de_var 1) da_nil)) (de_gint' z.c_MOST_CALLS)) (dw_or1 (dt_not (dt_tru (de_all rfl z.z_all (da_cons (de_val (df_comp (own := [("call", 2)]) rfl sc_is_history.nd (di_seq (de_var 1)) (show blkC N_is_history (defScope t_is_history) _ [("call", 2)] = true by decide +kernel) (fun _ _ _ _ _ => (dg_name 2 sc_is_history.nd)) (fun _ _ _ _ _ => dts_nil) (fun _ _ _ _ _ => (de_def D__is_call trivial (hr.mono (by decide)) (da_cons (de_var 0) (da_cons (de_var 2) da_nil)))))) da_nil))))))))
 (ds_one (ds_ret de_bl))
 ds_nil)
 (ds_one (ds_ret (de_and (de_def D__have_unlike_moments tk (hr.mono (by decide)) (da_cons (de_var 1) da_nil)) (de_one (de_def D__are_one_behind_another tk (hr.mono (by decide)) (da_cons (de_var 1) da_nil))))))))
/-! check_history -/
abbrev t_check_history : Stmt := topS 27
abbrev N_check_history : List Str := ["table", "history"]
theorem sc_check_history : FnScope N_check_history ["table", "history"] (defScope t_check_history) := ⟨rfl, rfl, rfl, by decide +kernel, rfl, by decide +kernel, by decide +kernel⟩
noncomputable def m_check_history : MS := (mIfS (mNot (mTru (mDef 2 s_is_history (mCons (mVar 0) (mCons (mVar 1) mNil)))))
 (mRaise "BadHistory")
 mSkip)
noncomputable def s_check_history : Sem := runB 2 m_check_history
theorem b_check_history {cd : Value} (z : Zs K mg) (D_is_history : Df P w K Z mg base 7 "is_history" ["table", "value"] s_is_history) : Bd P w K Z mg base N_check_history "check_history" t_check_history cd 7 m_check_history :=
 fun f A outer s H E W hr tk =>
 (ds_one (ds_if (dt_not (dt_tru (de_def D_is_history tk (hr.mono (by decide)) (da_cons (de_var 0) (da_cons (de_var 1) da_nil)))))
 (ds_one (ds_raise z.e_BadHistory rfl tk))
 ds_nil))
/-! are_places -/
abbrev t_are_places : Stmt := topS 28
abbrev N_are_places : List Str := ["history", "value", "place", "_", "end"]
theorem sc_are_places : FnScope N_are_places ["history", "value"] (defScope t_are_places) := ⟨rfl, rfl, rfl, by decide +kernel, rfl, by decide +kernel, by decide +kernel⟩
noncomputable def m_are_places : MS := (mSeq (mIfS (mOr (mNot (mTru (mDef 1 s_is_list (mCons (mVar 1) mNil)))) (mNot (mTru (mCall sAll (mCons (mVal (mComp [2] (mItems (mVar 1)) (mgName 2) mYes (mDef 2 s_is_place (mCons (mVar 2) (mCons (mCall sLen (mCons (mVar 0) mNil)) mNil))))) mNil)))))
 (mRet (mC (.bl false)))
 mSkip)
 (mSeq (mIfS (mTest (mOp2 sNe (mLenSetQ (mVar 1)) (mCall sLen (mCons (mVar 1) mNil))))
 (mRet (mC (.bl false)))
 mSkip)
 (mRet (mCall sAll (mCons (mVal (mComp [2, 3, 4] (mEnum (mCons (mVar 0) mNil)) (mgTup 2 (mgCons (mgName 2) (mgCons (mgTup 5 (mgCons (mgName 3) (mgCons (mgName 3) (mgCons (mgName 4) (mgCons (mgName 3) (mgCons (mgName 3) mgNil)))))) mgNil))) mYes (mOrV (mOp2 sIs (mVar 4) (mC .non)) (mOp2 sInQ (mVar 2) (mVar 1))))) mNil)))))
noncomputable def s_are_places : Sem := runB 5 m_are_places
theorem b_are_places {cd : Value} (z : Zs K mg) (D_is_place : Df P w K Z mg base 3 "is_place" ["value", "many"] s_is_place) (D_is_list : Df P w K Z mg base 1 "is_list" ["value"] s_is_list) : Bd P w K Z mg base N_are_places "are_places" t_are_places cd 3 m_are_places :=
 fun f A outer s H E W hr tk =>
 (ds_cons (ds_if (dt_w (dw_or (dt_not (dt_tru (de_def D_is_list tk (hr.mono (by decide)) (da_cons (de_var 1) da_nil)))) (dw_or1 (dt_not (dt_tru (de_all rfl z.z_all (da_cons (de_val (df_comp (own := [("place", 2)]) rfl sc_are_places.nd (di_seq (de_var 1)) (show blkC N_are_places (defScope t_are_places) _ [("place", 2)] = true by decide +kernel) (fun _ _ _ _ _ => (dg_name 2 sc_are_places.nd)) (fun _ _ _ _ _ => dts_nil) (fun _ _ _ _ _ => (de_def D_is_place trivial (hr.mono (by decide)) (da_cons (de_var 2) (da_cons (de_len z.z_len (da_cons (de_var 0) da_nil)) da_nil)))))) da_nil)))))))
 (ds_one (ds_ret de_bl))
 ds_nil)
 (ds_cons (ds_if (dt_ne hr.units (de_lensetQ z.z_len z.z_set (de_var 1)) (de_len z.z_len (da_cons (de_var 1) da_nil)))
 (ds_one (ds_ret de_bl))
 ds_nil)
 (ds_one (ds_ret (de_all rfl z.z_all (da_cons (de_val (df_comp (own := [("place", 2), ("_", 3), ("end", 4)]) rfl sc_are_places.nd (di_enum z.z_enumerate (da_cons (de_var 0) da_nil)) (show blkC N_are_places (defScope t_are_places) _ [("place", 2), ("_", 3), ("end", 4)] = true by decide +kernel) (fun _ _ _ _ _ => (dg_tup rfl (dgs_cons (dg_name 2 sc_are_places.nd) (dgs_cons (dg_tup rfl (dgs_cons (dg_name 3 sc_are_places.nd) (dgs_cons (dg_name 3 sc_are_places.nd) (dgs_cons (dg_name 4 sc_are_places.nd) (dgs_cons (dg_name 3 sc_are_places.nd) (dgs_cons (dg_name 3 sc_are_places.nd) dgs_nil)))))) dgs_nil)))) (fun _ _ _ _ _ => dts_nil) (fun _ _ _ _ _ => (de_or (de_is (de_var 4) de_non) (de_one (de_inq (hu65 hr) (de_var 2) (de_var 1))))))) da_nil))))))
/-! _against -/
abbrev t__against : Stmt := topS 30
abbrev N__against : List Str := ["history", "places", "k", "other", "wrong", "one"]
theorem sc__against : FnScope N__against ["history", "places", "k"] (defScope t__against) := ⟨rfl, rfl, rfl, by decide +kernel, rfl, by decide +kernel, by decide +kernel⟩
noncomputable def m__against : MS := (mSeq (mAsg (mOp2 sIx (mVar 1) (mVar 2)) (mgName 3))
 (mSeq (mAsg (if false = true then mCell (mComp [5] (mItems (mSlQ (mVar 1) mNoPart (mPart (mVar 2)))) (mgName 5) (mTru (mDef 2 s_goes_ahead (mCons (mOp2 sIx (mVar 0) (mVar 3)) (mCons (mOp2 sIx (mVar 0) (mVar 5)) mNil)))) (mVar 5)) else mVal (mComp [5] (mItems (mSlQ (mVar 1) mNoPart (mPart (mVar 2)))) (mgName 5) (mTru (mDef 2 s_goes_ahead (mCons (mOp2 sIx (mVar 0) (mVar 3)) (mCons (mOp2 sIx (mVar 0) (mVar 5)) mNil)))) (mVar 5))) (mgName 4))
 (mRet (mIf (mTru (mVar 4)) (mOp2 sIx (mVar 4) (mC (.int 0))) (mC .non)))))
noncomputable def s__against : Sem := runB 6 m__against
theorem b__against {cd : Value} (z : Zs K mg) (D_goes_ahead : Df P w K Z mg base 1 "goes_ahead" ["one", "other"] s_goes_ahead) : Bd P w K Z mg base N__against "_against" t__against cd 1 m__against :=
 fun f A outer s H E W hr tk =>
 (ds_cons (ds_set 3 sc__against.nd (de_sub' (hu_of hr) (de_var 1) (de_var 2)))
 (ds_cons (ds_setLc (own := [("one", 5)]) 4 false rfl sc__against.nd (di_seq (de_sliceQ (de_var 1) do_none (do_some (de_var 2)))) (show blkC N__against (defScope t__against) _ [("one", 5)] = true by decide +kernel) (fun _ _ _ _ _ => (dg_name 5 sc__against.nd)) (fun _ _ _ _ _ => (dts_one (dt_tru (de_def D_goes_ahead trivial (hr.mono (by decide)) (da_cons (de_sub' (hu_of hr) (de_var 0) (de_var 3)) (da_cons (de_sub' (hu_of hr) (de_var 0) (de_var 5)) da_nil)))))) (fun _ _ _ _ _ => (de_var 5)) (sw_true rfl rfl rfl (by decide +kernel)))
 (ds_one (ds_ret (de_if (dt_tru (de_var 4)) (de_sub' (hu_of hr) (de_var 4) de_int) de_non)))))
/-! points_of -/
abbrev t_points_of : Stmt := topS 31
abbrev N_points_of : List Str := ["table", "history", "places", "moments", "k", "place", "one"]
theorem sc_points_of : FnScope N_points_of ["table", "history", "places"] (defScope t_points_of) := ⟨rfl, rfl, rfl, by decide +kernel, rfl, by decide +kernel, by decide +kernel⟩
noncomputable def m_points_of : MS := (mSeq (mDrop (mDef 2 s_check_history (mCons (mVar 0) (mCons (mVar 1) mNil))))
 (mSeq (mIfS (mNot (mTru (mDef 2 s_are_places (mCons (mVar 1) (mCons (mVar 2) mNil)))))
 (mRaise "BadPlaces")
 mSkip)
 (mSeq (mAsg (mCell (mLst mNil)) (mgName 3))
 (mSeq (mFor (mEnum (mCons (mVar 2) mNil)) (mgTup 2 (mgCons (mgName 4) (mgCons (mgName 5) mgNil)))
 (mSeq (mAsg (mDef 3 s__against (mCons (mVar 1) (mCons (mVar 2) (mCons (mVar 4) mNil)))) (mgName 6))
 (mSeq (mIfS (mTest (mOp2 sIsNot (mVar 6) (mC .non)))
 (mRet (mTup (mCons (mC (.str "against")) (mCons (mVar 6) (mCons (mVar 5) mNil)))))
 mSkip)
 (mDrop (mMeth sAppend (mVar 3) (mCons (mCall (sInts fMax) (mCons (mVal (mOp2F sCat (mVal (mLst (mCons (mOp2 sIx (mOp2 sIx (mVar 1) (mVar 5)) (mC (.int 1))) mNil))) (mVal (mSlL (mVar 3) (mPart (mOp1 sNeg (mC (.int 1)))) mNoPart)))) mNil)) mNil))))))
 (mRet (mTup (mCons (mC (.str "points")) (mCons (mCall sTup (mCons (mVar 3) mNil)) mNil))))))))
noncomputable def s_points_of : Sem := gc (runB 7 m_points_of)
theorem b_points_of {cd : Value} (z : Zs K mg) (D_check_history : Df P w K Z mg base 8 "check_history" ["table", "history"] s_check_history) (D_are_places : Df P w K Z mg base 4 "are_places" ["history", "value"] s_are_places) (D__against : Df P w K Z mg base 2 "_against" ["history", "places", "k"] s__against) : Bd P w K Z mg base N_points_of "points_of" t_points_of cd 8 m_points_of :=
 fun f A outer s H E W hr tk =>
 (ds_cons (ds_expr (de_def D_check_history tk (hr.mono (by decide)) (da_cons (de_var 0) (da_cons (de_var 1) da_nil))))
 (ds_cons (ds_if (dt_not (dt_tru (de_def D_are_places tk (hr.mono (by decide)) (da_cons (de_var 1) (da_cons (de_var 2) da_nil)))))
 (ds_one (ds_raise z.e_BadPlaces rfl tk))
 ds_nil)
 (ds_cons (ds_set 3 sc_points_of.nd (de_cell (df_lst da_nil)))
 (ds_cons (ds_for (passes_of rfl) rfl (di_enum z.z_enumerate (da_cons (de_var 2) da_nil)) (dg_tup rfl (dgs_cons (dg_name 4 sc_points_of.nd) (dgs_cons (dg_name 5 sc_points_of.nd) dgs_nil)))
 (ds_cons (ds_set 6 sc_points_of.nd (de_def D__against tk (hr.mono (by decide)) (da_cons (de_var 1) (da_cons (de_var 2) (da_cons (de_var 4) da_nil)))))
 (ds_cons (ds_if (dt_isnot (de_var 6) de_non)
 (ds_one (ds_ret (de_tup (da_cons de_str (da_cons (de_var 6) (da_cons (de_var 5) da_nil))))))
 ds_nil)
 (ds_one (ds_expr (de_append (de_var 3) (da_cons (de_maxL rfl z.z_max (da_cons (de_val (df_add (de_val (df_lst (da_cons (de_sub' (hu_of hr) (de_sub' (hu_of hr) (de_var 1) (de_var 5)) de_int) da_nil))) (de_val (df_slice (de_var 3) (do_some (de_neg de_int)) do_none)))) da_nil)) da_nil)))))))
 (ds_one (ds_ret (de_tup (da_cons de_str (da_cons (de_tuple z.z_tuple (da_cons (de_var 3) da_nil)) da_nil)))))))))
/-! _law_begun -/
abbrev t__law_begun : Stmt := topS 33
abbrev N__law_begun : List Str := ["script", "great", "cell"]
theorem sc__law_begun : FnScope N__law_begun ["script"] (defScope t__law_begun) := ⟨rfl, rfl, rfl, by decide +kernel, rfl, by decide +kernel, by decide +kernel⟩
noncomputable def m__law_begun : MS := (mSeq (mAsg (if true = true then mCell (mComp [2] (mItems (mVar 0)) (mgName 2) (mTest (mOp2 sGe (mCall sAbs (mCons (mVar 2) mNil)) (mOp2 sPow (mC (.int 10)) (mC (.int 18))))) (mOp2 sSub (mCall sAbs (mCons (mVar 2) mNil)) (mOp2 sPow (mC (.int 10)) (mC (.int 18))))) else mVal (mComp [2] (mItems (mVar 0)) (mgName 2) (mTest (mOp2 sGe (mCall sAbs (mCons (mVar 2) mNil)) (mOp2 sPow (mC (.int 10)) (mC (.int 18))))) (mOp2 sSub (mCall sAbs (mCons (mVar 2) mNil)) (mOp2 sPow (mC (.int 10)) (mC (.int 18)))))) (mgName 1))
 (mRet (mDict (mpCons (mC (.str "great")) (mVar 1) (mpCons (mC (.str "cells")) (mVal (mComp [2] (mItems (mVar 0)) (mgName 2) mYes (mCall sAbs (mCons (mVar 2) mNil)))) (mpCons (mC (.str "left")) (mC (.int 0)) (mpCons (mC (.str "turn")) (mC (.int 0)) mpNil)))))))
noncomputable def s__law_begun : Sem := runB 3 m__law_begun
theorem b__law_begun {cd : Value} (z : Zs K mg) : Bd P w K Z mg base N__law_begun "_law_begun" t__law_begun cd 0 m__law_begun :=
 fun f A outer s H E W hr tk =>
 (ds_cons (ds_setLc (own := [("cell", 2)]) 1 true rfl sc__law_begun.nd (di_seq (de_var 0)) (show blkC N__law_begun (defScope t__law_begun) _ [("cell", 2)] = true by decide +kernel) (fun _ _ _ _ _ => (dg_name 2 sc__law_begun.nd)) (fun _ _ _ _ _ => (dts_one (dt_ge (de_abs z.z_abs (da_cons (de_var 2) da_nil)) (de_pow de_int de_int)))) (fun _ _ _ _ _ => (de_sub (de_abs z.z_abs (da_cons (de_var 2) da_nil)) (de_pow de_int de_int))) (sw_true rfl rfl rfl (by decide +kernel)))
 (ds_one (ds_ret (de_dict (dp_cons de_str (de_var 1) (dp_cons de_str (de_val (df_comp (own := [("cell", 2)]) rfl sc__law_begun.nd (di_seq (de_var 0)) (show blkC N__law_begun (defScope t__law_begun) _ [("cell", 2)] = true by decide +kernel) (fun _ _ _ _ _ => (dg_name 2 sc__law_begun.nd)) (fun _ _ _ _ _ => dts_nil) (fun _ _ _ _ _ => (de_abs z.z_abs (da_cons (de_var 2) da_nil))))) (dp_cons de_str de_int (dp_cons de_str de_int dp_nil))))))))
/-! _law_blended -/
abbrev t__law_blended : Stmt := topS 34
abbrev N__law_blended : List Str := ["state", "turn", "prime", "found", "blend", "cell"]
theorem sc__law_blended : FnScope N__law_blended ["state"] (defScope t__law_blended) := ⟨rfl, rfl, rfl, by decide +kernel, rfl, by decide +kernel, by decide +kernel⟩
noncomputable def m__law_blended : MS := (mSeq (mPar 1 3 (mCons (mOp2 sAdd (mOp2 sIx (mVar 0) (mC (.str "turn"))) (mC (.int 1))) (mCons (mC (.int 0)) mNil)))
 (mSeq (mAsg (mVar 1) (mgSub sSet (mVar 0) (mC (.str "turn"))))
 (mSeq (mFor (mItems (mVal (mLst (mCons (mC (.int 2147483477)) (mCons (mC (.int 2147483423)) (mCons (mC (.int 2147483399)) mNil)))))) (mgName 2)
 (mSeq (mAsg (mOp2 sAdd (mOp2 sMul (mC (.int 40014)) (mVar 1)) (mOp2 sFdiv (mVar 2) (mC (.int 67)))) (mgName 4))
 (mSeq (mFor (mItems (mOp2 sIx (mVar 0) (mC (.str "cells")))) (mgName 5)
 (mAsg (mOp2 sMod (mCall sInt (mCons (mOp2 sAdd (mOp2 sAdd (mOp2 sMul (mVar 4) (mC (.int 69621))) (mVar 5)) (mVar 1)) mNil)) (mVar 2)) (mgName 4)))
 (mAsg (mOp2 sAdd (mOp2 sMul (mVar 3) (mC (.int 2147483647))) (mOp2 sMod (mCall sInt (mCons (mOp2 sPow (mVar 4) (mC (.int 5))) mNil)) (mVar 2))) (mgName 3)))))
 (mRet (mVar 3)))))
noncomputable def s__law_blended : Sem := runB 6 m__law_blended
theorem b__law_blended {cd : Value} (z : Zs K mg) : Bd P w K Z mg base N__law_blended "_law_blended" t__law_blended cd 0 m__law_blended :=
 fun f A outer s H E W hr tk =>
 (ds_cons (ds_par 1 3 rfl sc__law_blended.nd (da_cons (de_add (de_sub' (hu_of hr) (de_var 0) de_str) de_int) (da_cons de_int da_nil)))
 (ds_cons (ds_asg (de_var 1) (dg_item (hu_of hr) (de_var 0) de_str))
 (ds_cons (ds_for (passes_of rfl) rfl (di_seq (de_val (df_lst (da_cons de_int (da_cons de_int (da_cons de_int da_nil)))))) (dg_name 2 sc__law_blended.nd)
 (ds_cons (ds_set 4 sc__law_blended.nd (de_add (de_mul de_int (de_var 1)) (de_fdiv (de_var 2) de_int)))
 (ds_cons (ds_for (passes_of rfl) rfl (di_seq (de_sub' (hu_of hr) (de_var 0) de_str)) (dg_name 5 sc__law_blended.nd)
 (ds_one (ds_set 4 sc__law_blended.nd (de_mod (de_int1 z.z_int (da_cons (de_add (de_add (de_mul (de_var 4) de_int) (de_var 5)) (de_var 1)) da_nil)) (de_var 2)))))
 (ds_one (ds_set 3 sc__law_blended.nd (de_add (de_mul (de_var 3) de_int) (de_mod (de_int1 z.z_int (da_cons (de_pow (de_var 4) de_int) da_nil)) (de_var 2))))))))
 (ds_one (ds_ret (de_var 3))))))
/-! _law_draw -/
abbrev t__law_draw : Stmt := topS 35
abbrev N__law_draw : List Str := ["state", "size_here", "found"]
theorem sc__law_draw : FnScope N__law_draw ["state", "size_here"] (defScope t__law_draw) := ⟨rfl, rfl, rfl, by decide +kernel, rfl, by decide +kernel, by decide +kernel⟩
noncomputable def m__law_draw : MS := (mSeq (mIfS (mTest (mOp2 sEq (mOp2 sIx (mVar 0) (mC (.str "left"))) (mC (.int 0))))
 (mAsg (mIf (mTest (mOp2 sNe (mOp2 sIx (mVar 0) (mC (.str "great"))) (mVal (mLst mNil)))) (mMeth sPopAt (mOp2 sIx (mVar 0) (mC (.str "great"))) (mCons (mC (.int 0)) mNil)) (mDef 1 s__law_blended (mCons (mVar 0) mNil))) (mgSub sSet (mVar 0) (mC (.str "left"))))
 mSkip)
 (mSeq (mAsg (mOp2 sMod (mCall sInt (mCons (mOp2 sIx (mVar 0) (mC (.str "left"))) mNil)) (mVar 1)) (mgName 2))
 (mSeq (mAsg (mOp2 sFdiv (mOp2 sIx (mVar 0) (mC (.str "left"))) (mVar 1)) (mgSub sSet (mVar 0) (mC (.str "left"))))
 (mRet (mVar 2)))))
noncomputable def s__law_draw : Sem := runB 3 m__law_draw
theorem b__law_draw {cd : Value} (z : Zs K mg) (D__law_blended : Df P w K Z mg base 1 "_law_blended" ["state"] s__law_blended) : Bd P w K Z mg base N__law_draw "_law_draw" t__law_draw cd 1 m__law_draw :=
 fun f A outer s H E W hr tk =>
 (ds_cons (ds_if (dt_eq hr.units (de_sub' (hu_of hr) (de_var 0) de_str) de_int)
 (ds_one (ds_asg (de_if (dt_ne hr.units (de_sub' (hu_of hr) (de_var 0) de_str) (de_val (df_lst da_nil))) (de_popAt (de_sub' (hu_of hr) (de_var 0) de_str) (da_cons de_int da_nil)) (de_def D__law_blended tk (hr.mono (by decide)) (da_cons (de_var 0) da_nil))) (dg_item (hu_of hr) (de_var 0) de_str)))
 ds_nil)
 (ds_cons (ds_set 2 sc__law_draw.nd (de_mod (de_int1 z.z_int (da_cons (de_sub' (hu_of hr) (de_var 0) de_str) da_nil)) (de_var 1)))
 (ds_cons (ds_asg (de_fdiv (de_sub' (hu_of hr) (de_var 0) de_str) (de_var 1)) (dg_item (hu_of hr) (de_var 0) de_str))
 (ds_one (ds_ret (de_var 2))))))
/-! _law_pick -/
abbrev t__law_pick : Stmt := topS 36
abbrev N__law_pick : List Str := ["state", "several"]
theorem sc__law_pick : FnScope N__law_pick ["state", "several"] (defScope t__law_pick) := ⟨rfl, rfl, rfl, by decide +kernel, rfl, by decide +kernel, by decide +kernel⟩
noncomputable def m__law_pick : MS := (mRet (mOp2 sIx (mVar 1) (mDef 2 s__law_draw (mCons (mVar 0) (mCons (mCall sLen (mCons (mVar 1) mNil)) mNil)))))
noncomputable def s__law_pick : Sem := runB 2 m__law_pick
theorem b__law_pick {cd : Value} (z : Zs K mg) (D__law_draw : Df P w K Z mg base 2 "_law_draw" ["state", "size_here"] s__law_draw) : Bd P w K Z mg base N__law_pick "_law_pick" t__law_pick cd 2 m__law_pick :=
 fun f A outer s H E W hr tk =>
 (ds_one (ds_ret (de_sub' (hu_of hr) (de_var 1) (de_def D__law_draw tk (hr.mono (by decide)) (da_cons (de_var 0) (da_cons (de_len z.z_len (da_cons (de_var 1) da_nil)) da_nil))))))
/-! _law_mixed -/
abbrev t__law_mixed : Stmt := topS 37
abbrev N__law_mixed : List Str := ["state", "several", "found", "left"]
theorem sc__law_mixed : FnScope N__law_mixed ["state", "several"] (defScope t__law_mixed) := ⟨rfl, rfl, rfl, by decide +kernel, rfl, by decide +kernel, by decide +kernel⟩
noncomputable def m__law_mixed : MS := (mSeq (mPar 3 2 (mCons (mCell (mCallF sList (mCons (mVar 1) mNil))) (mCons (mCell (mLst mNil)) mNil)))
 (mSeq (mWhile 1000000 (mTest (mOp2 sNe (mVar 3) (mVal (mLst mNil))))
 (mDrop (mMeth sAppend (mVar 2) (mCons (mMeth sPopAt (mVar 3) (mCons (mDef 2 s__law_draw (mCons (mVar 0) (mCons (mCall sLen (mCons (mVar 3) mNil)) mNil))) mNil)) mNil))))
 (mRet (mVar 2))))
noncomputable def s__law_mixed : Sem := gc (runB 4 m__law_mixed)
theorem b__law_mixed {cd : Value} (z : Zs K mg) (D__law_draw : Df P w K Z mg base 2 "_law_draw" ["state", "size_here"] s__law_draw) : Bd P w K Z mg base N__law_mixed "_law_mixed" t__law_mixed cd 2 m__law_mixed :=
 fun f A outer s H E W hr tk =>
 (ds_cons (ds_par 3 2 rfl sc__law_mixed.nd (da_cons (de_cell (df_list z.z_list (da_cons (de_var 1) da_nil))) (da_cons (de_cell (df_lst da_nil)) da_nil)))
 (ds_cons (ds_while 1000000 (passes_of rfl) (dt_ne hr.units (de_var 3) (de_val (df_lst da_nil)))
 (ds_one (ds_expr (de_append (de_var 2) (da_cons (de_popAt (de_var 3) (da_cons (de_def D__law_draw tk (hr.mono (by decide)) (da_cons (de_var 0) (da_cons (de_len z.z_len (da_cons (de_var 3) da_nil)) da_nil))) da_nil)) da_nil)))))
 (ds_one (ds_ret (de_var 2)))))
/-! _law_hi_table -/
abbrev t__law_hi_table : Stmt := topS 39
abbrev N__law_hi_table : List Str := ["state", "found", "turn", "deeds_here", "states_here", "each"]
theorem sc__law_hi_table : FnScope N__law_hi_table ["state"] (defScope t__law_hi_table) := ⟨rfl, rfl, rfl, by decide +kernel, rfl, by decide +kernel, by decide +kernel⟩
noncomputable def m__law_hi_table : MS := (mSeq (mAsg (mTup (mCons (mOp2 sAdd (mC (.int 1)) (mDef 2 s__law_draw (mCons (mVar 0) (mCons (mC (.int 4)) mNil)))) (mCons (mOp2 sAdd (mC (.int 1)) (mDef 2 s__law_draw (mCons (mVar 0) (mCons (mC (.int 4)) mNil)))) mNil))) (mgTup 2 (mgCons (mgName 3) (mgCons (mgName 4) mgNil))))
 (mSeq (mAsg (mCell (mLst mNil)) (mgName 1))
 (mSeq (mFor (mRange1 (mCons (mVar 3) mNil)) (mgName 2)
 (mDrop (mMeth sAppend (mVar 1) (mCons (mCall sTup (mCons (mVal (mComp [5] (mRange1 (mCons (mVar 4) mNil)) (mgName 5) mYes (mTup (mCons (mDef 2 s__law_draw (mCons (mVar 0) (mCons (mVar 4) mNil))) (mCons (mDef 2 s__law_draw (mCons (mVar 0) (mCons (mC (.int 4)) mNil))) mNil))))) mNil)) mNil))))
 (mRet (mCall sTup (mCons (mVar 1) mNil))))))
noncomputable def s__law_hi_table : Sem := gc (runB 6 m__law_hi_table)
theorem b__law_hi_table {cd : Value} (z : Zs K mg) (D__law_draw : Df P w K Z mg base 2 "_law_draw" ["state", "size_here"] s__law_draw) : Bd P w K Z mg base N__law_hi_table "_law_hi_table" t__law_hi_table cd 2 m__law_hi_table :=
 fun f A outer s H E W hr tk =>
 (ds_cons (ds_asg (de_tup (da_cons (de_add de_int (de_def D__law_draw tk (hr.mono (by decide)) (da_cons (de_var 0) (da_cons de_int da_nil)))) (da_cons (de_add de_int (de_def D__law_draw tk (hr.mono (by decide)) (da_cons (de_var 0) (da_cons de_int da_nil)))) da_nil))) (dg_tup rfl (dgs_cons (dg_name 3 sc__law_hi_table.nd) (dgs_cons (dg_name 4 sc__law_hi_table.nd) dgs_nil))))
 (ds_cons (ds_set 1 sc__law_hi_table.nd (de_cell (df_lst da_nil)))
 (ds_cons (ds_for (passes_of rfl) rfl (di_range1 z.z_range (da_cons (de_var 3) da_nil)) (dg_name 2 sc__law_hi_table.nd)
 (ds_one (ds_expr (de_append (de_var 1) (da_cons (de_tuple z.z_tuple (da_cons (de_val (df_comp (own := [("each", 5)]) rfl sc__law_hi_table.nd (di_range1 z.z_range (da_cons (de_var 4) da_nil)) (show blkC N__law_hi_table (defScope t__law_hi_table) _ [("each", 5)] = true by decide +kernel) (fun _ _ _ _ _ => (dg_name 5 sc__law_hi_table.nd)) (fun _ _ _ _ _ => dts_nil) (fun _ _ _ _ _ => (de_tup (da_cons (de_def D__law_draw trivial (hr.mono (by decide)) (da_cons (de_var 0) (da_cons (de_var 4) da_nil))) (da_cons (de_def D__law_draw trivial (hr.mono (by decide)) (da_cons (de_var 0) (da_cons de_int da_nil))) da_nil)))))) da_nil)) da_nil)))))
 (ds_one (ds_ret (de_tuple z.z_tuple (da_cons (de_var 1) da_nil)))))))
/-! _law_hi_step -/
abbrev t__law_hi_step : Stmt := topS 40
abbrev N__law_hi_step : List Str := ["state", "held", "now", "many", "idle", "waiting", "told_here", "way", "calls_here", "busy", "at", "deed", "call", "hand"]
theorem sc__law_hi_step : FnScope N__law_hi_step ["state", "held", "now", "many"] (defScope t__law_hi_step) := ⟨rfl, rfl, rfl, by decide +kernel, rfl, by decide +kernel, by decide +kernel⟩
noncomputable def m__law_hi_step : MS := (mSeq (mAsg (mTup (mCons (mOp2 sIx (mVar 1) (mC (.str "calls"))) (mCons (mVal (mComp [12] (mItems (mOp2 sIx (mVar 1) (mC (.str "calls")))) (mgName 12) (mTest (mOp2 sIs (mOp2 sIx (mVar 12) (mC (.str "end"))) (mC .non))) (mOp2 sIx (mVar 12) (mC (.str "hand"))))) mNil))) (mgTup 2 (mgCons (mgName 8) (mgCons (mgName 9) mgNil))))
 (mSeq (mAsg (if false = true then mCell (mComp [13] (mRange1 (mCons (mOp2 sIx (mVar 1) (mC (.str "hands"))) mNil)) (mgName 13) (mTest (mOp2 sNotInQ (mVar 13) (mVar 9))) (mVar 13)) else mVal (mComp [13] (mRange1 (mCons (mOp2 sIx (mVar 1) (mC (.str "hands"))) mNil)) (mgName 13) (mTest (mOp2 sNotInQ (mVar 13) (mVar 9))) (mVar 13))) (mgName 4))
 (mSeq (mAsg (if false = true then mCell (mComp [10, 12] (mEnum (mCons (mVar 8) mNil)) (mgTup 2 (mgCons (mgName 10) (mgCons (mgName 12) mgNil))) (mTest (mOp2 sIs (mOp2 sIx (mVar 12) (mC (.str "answer"))) (mC .non))) (mVar 10)) else mVal (mComp [10, 12] (mEnum (mCons (mVar 8) mNil)) (mgTup 2 (mgCons (mgName 10) (mgCons (mgName 12) mgNil))) (mTest (mOp2 sIs (mOp2 sIx (mVar 12) (mC (.str "answer"))) (mC .non))) (mVar 10))) (mgName 5))
 (mSeq (mAsg (if false = true then mCell (mComp [10, 12] (mEnum (mCons (mVar 8) mNil)) (mgTup 2 (mgCons (mgName 10) (mgCons (mgName 12) mgNil))) (mAnd (mTest (mOp2 sIsNot (mOp2 sIx (mVar 12) (mC (.str "answer"))) (mC .non))) (mTest (mOp2 sIs (mOp2 sIx (mVar 12) (mC (.str "end"))) (mC .non)))) (mVar 10)) else mVal (mComp [10, 12] (mEnum (mCons (mVar 8) mNil)) (mgTup 2 (mgCons (mgName 10) (mgCons (mgName 12) mgNil))) (mAnd (mTest (mOp2 sIsNot (mOp2 sIx (mVar 12) (mC (.str "answer"))) (mC .non))) (mTest (mOp2 sIs (mOp2 sIx (mVar 12) (mC (.str "end"))) (mC .non)))) (mVar 10))) (mgName 6))
 (mSeq (mAsg (mDef 2 s__law_draw (mCons (mVar 0) (mCons (mC (.int 3)) mNil))) (mgName 7))
 (mSeq (mIfS (mAnd (mTest (mOp2 sEq (mVar 7) (mC (.int 0)))) (mAnd (mTest (mOp2 sNe (mVar 4) (mVal (mLst mNil)))) (mAnd (mTest (mOp2 sLt (mCall sLen (mCons (mVar 8) mNil)) (mVar 3))) (mTest (mOp2 sNe (mOp2 sIx (mVar 1) (mC (.str "deeds"))) (mVal (mLst mNil)))))))
 (mSeq (mAsg (mMeth sPopAt (mOp2 sIx (mVar 1) (mC (.str "deeds"))) (mCons (mC (.int 0)) mNil)) (mgName 11))
 (mDrop (mMeth sAppend (mVar 8) (mCons (mDict (mpCons (mC (.str "hand")) (mDef 2 s__law_pick (mCons (mVar 0) (mCons (mVar 4) mNil))) (mpCons (mC (.str "begin")) (mVar 2) (mpCons (mC (.str "end")) (mC .non) (mpCons (mC (.str "deed")) (mVar 11) (mpCons (mC (.str "answer")) (mC .non) mpNil)))))) mNil))))
 (mIfS (mAnd (mTest (mOp2 sEq (mVar 7) (mC (.int 1)))) (mTest (mOp2 sNe (mVar 5) (mVal (mLst mNil)))))
 (mSeq (mAsg (mDef 2 s__law_pick (mCons (mVar 0) (mCons (mVar 5) mNil))) (mgName 10))
 (mSeq (mAsg (mOp2 sIx (mVar 8) (mVar 10)) (mgName 12))
 (mSeq (mAsg (mOp2 sIx (mOp2 sIx (mOp2 sIx (mVar 1) (mC (.str "table"))) (mOp2 sIx (mVar 12) (mC (.str "deed")))) (mOp2 sIx (mVar 1) (mC (.str "state")))) (mgTup 2 (mgCons (mgSub sSet (mVar 1) (mC (.str "state"))) (mgCons (mgSub sSet (mVar 12) (mC (.str "answer"))) mgNil))))
 (mDrop (mMeth sAppend (mOp2 sIx (mVar 1) (mC (.str "order"))) (mCons (mVar 10) mNil))))))
 (mIfS (mTest (mOp2 sNe (mVar 6) (mVal (mLst mNil))))
 (mSeq (mAsg (mOp2 sIx (mVar 8) (mDef 2 s__law_pick (mCons (mVar 0) (mCons (mVar 6) mNil)))) (mgName 12))
 (mAsg (mVar 2) (mgSub sSet (mVar 12) (mC (.str "end")))))
 mSkip)))
 (mRet (mVar 1))))))))
noncomputable def s__law_hi_step : Sem := runB 14 m__law_hi_step
theorem b__law_hi_step {cd : Value} (z : Zs K mg) (D__law_draw : Df P w K Z mg base 2 "_law_draw" ["state", "size_here"] s__law_draw) (D__law_pick : Df P w K Z mg base 3 "_law_pick" ["state", "several"] s__law_pick) : Bd P w K Z mg base N__law_hi_step "_law_hi_step" t__law_hi_step cd 3 m__law_hi_step :=
 fun f A outer s H E W hr tk =>
 (ds_cons (ds_asg (de_tup (da_cons (de_sub' (hu_of hr) (de_var 1) de_str) (da_cons (de_val (df_comp (own := [("call", 12)]) rfl sc__law_hi_step.nd (di_seq (de_sub' (hu_of hr) (de_var 1) de_str)) (show blkC N__law_hi_step (defScope t__law_hi_step) _ [("call", 12)] = true by decide +kernel) (fun _ _ _ _ _ => (dg_name 12 sc__law_hi_step.nd)) (fun _ _ _ _ _ => (dts_one (dt_is (de_sub' (hu_of hr) (de_var 12) de_str) de_non))) (fun _ _ _ _ _ => (de_sub' (hu_of hr) (de_var 12) de_str)))) da_nil))) (dg_tup rfl (dgs_cons (dg_name 8 sc__law_hi_step.nd) (dgs_cons (dg_name 9 sc__law_hi_step.nd) dgs_nil))))
 (ds_cons (ds_setLc (own := [("hand", 13)]) 4 false rfl sc__law_hi_step.nd (di_range1 z.z_range (da_cons (de_sub' (hu_of hr) (de_var 1) de_str) da_nil)) (show blkC N__law_hi_step (defScope t__law_hi_step) _ [("hand", 13)] = true by decide +kernel) (fun _ _ _ _ _ => (dg_name 13 sc__law_hi_step.nd)) (fun _ _ _ _ _ => (dts_one (dt_notinq (hu65 hr) (de_var 13) (de_var 9)))) (fun _ _ _ _ _ => (de_var 13)) (sw_true rfl rfl rfl (by decide +kernel)))
 (ds_cons (ds_setLc (own := [("at", 10), ("call", 12)]) 5 false rfl sc__law_hi_step.nd (di_enum z.z_enumerate (da_cons (de_var 8) da_nil)) (show blkC N__law_hi_step (defScope t__law_hi_step) _ [("at", 10), ("call", 12)] = true by decide +kernel) (fun _ _ _ _ _ => (dg_tup rfl (dgs_cons (dg_name 10 sc__law_hi_step.nd) (dgs_cons (dg_name 12 sc__law_hi_step.nd) dgs_nil)))) (fun _ _ _ _ _ => (dts_one (dt_is (de_sub' (hu_of hr) (de_var 12) de_str) de_non))) (fun _ _ _ _ _ => (de_var 10)) (sw_true rfl rfl rfl (by decide +kernel)))
 (ds_cons (ds_setLc (own := [("at", 10), ("call", 12)]) 6 false rfl sc__law_hi_step.nd (di_enum z.z_enumerate (da_cons (de_var 8) da_nil)) (show blkC N__law_hi_step (defScope t__law_hi_step) _ [("at", 10), ("call", 12)] = true by decide +kernel) (fun _ _ _ _ _ => (dg_tup rfl (dgs_cons (dg_name 10 sc__law_hi_step.nd) (dgs_cons (dg_name 12 sc__law_hi_step.nd) dgs_nil)))) (fun _ _ _ _ _ => (dts_one (dt_w (dw_and (dt_isnot (de_sub' (hu_of hr) (de_var 12) de_str) de_non) (dw_and1 (dt_is (de_sub' (hu_of hr) (de_var 12) de_str) de_non)))))) (fun _ _ _ _ _ => (de_var 10)) (sw_true rfl rfl rfl (by decide +kernel)))
 (ds_cons (ds_set 7 sc__law_hi_step.nd (de_def D__law_draw tk (hr.mono (by decide)) (da_cons (de_var 0) (da_cons de_int da_nil))))
 (ds_cons (ds_if (dt_w (dw_and (dt_eq hr.units (de_var 7) de_int) (dw_and (dt_ne hr.units (de_var 4) (de_val (df_lst da_nil))) (dw_and (dt_lt (de_len z.z_len (da_cons (de_var 8) da_nil)) (de_var 3)) (dw_and1 (dt_ne hr.units (de_sub' (hu_of hr) (de_var 1) de_str) (de_val (df_lst da_nil))))))))
 (ds_cons (ds_set 11 sc__law_hi_step.nd (de_popAt (de_sub' (hu_of hr) (de_var 1) de_str) (da_cons de_int da_nil)))
 (ds_one (ds_expr (de_append (de_var 8) (da_cons (de_dict (dp_cons de_str (de_def D__law_pick tk (hr.mono (by decide)) (da_cons (de_var 0) (da_cons (de_var 4) da_nil))) (dp_cons de_str (de_var 2) (dp_cons de_str de_non (dp_cons de_str (de_var 11) (dp_cons de_str de_non dp_nil)))))) da_nil)))))
 (ds_one (ds_if (dt_w (dw_and (dt_eq hr.units (de_var 7) de_int) (dw_and1 (dt_ne hr.units (de_var 5) (de_val (df_lst da_nil))))))
 (ds_cons (ds_set 10 sc__law_hi_step.nd (de_def D__law_pick tk (hr.mono (by decide)) (da_cons (de_var 0) (da_cons (de_var 5) da_nil))))
 (ds_cons (ds_set 12 sc__law_hi_step.nd (de_sub' (hu_of hr) (de_var 8) (de_var 10)))
 (ds_cons (ds_asg (de_sub' (hu_of hr) (de_sub' (hu_of hr) (de_sub' (hu_of hr) (de_var 1) de_str) (de_sub' (hu_of hr) (de_var 12) de_str)) (de_sub' (hu_of hr) (de_var 1) de_str)) (dg_tup rfl (dgs_cons (dg_item (hu_of hr) (de_var 1) de_str) (dgs_cons (dg_item (hu_of hr) (de_var 12) de_str) dgs_nil))))
 (ds_one (ds_expr (de_append (de_sub' (hu_of hr) (de_var 1) de_str) (da_cons (de_var 10) da_nil)))))))
 (ds_one (ds_if (dt_ne hr.units (de_var 6) (de_val (df_lst da_nil)))
 (ds_cons (ds_set 12 sc__law_hi_step.nd (de_sub' (hu_of hr) (de_var 8) (de_def D__law_pick tk (hr.mono (by decide)) (da_cons (de_var 0) (da_cons (de_var 6) da_nil)))))
 (ds_one (ds_asg (de_var 2) (dg_item (hu_of hr) (de_var 12) de_str))))
 ds_nil)))))
 (ds_one (ds_ret (de_var 1)))))))))
/-! _law_hi_run -/
abbrev t__law_hi_run : Stmt := topS 41
abbrev N__law_hi_run : List Str := ["state", "table", "begin", "deeds_here", "turns", "held", "now", "turn", "places", "at", "order", "history", "call", "answer"]
theorem sc__law_hi_run : FnScope N__law_hi_run ["state", "table", "begin", "deeds_here", "turns"] (defScope t__law_hi_run) := ⟨rfl, rfl, rfl, by decide +kernel, rfl, by decide +kernel, by decide +kernel⟩
noncomputable def m__law_hi_run : MS := (mSeq (mAsg (mDict (mpCons (mC (.str "calls")) (mCell (mLst mNil)) (mpCons (mC (.str "order")) (mCell (mLst mNil)) (mpCons (mC (.str "state")) (mVar 2) (mpCons (mC (.str "table")) (mVar 1) (mpCons (mC (.str "hands")) (mOp2 sAdd (mC (.int 1)) (mDef 2 s__law_draw (mCons (mVar 0) (mCons (mC (.int 6)) mNil)))) mpNil)))))) (mgName 5))
 (mSeq (mAsg (mCell (mCallF sList (mCons (mVar 3) mNil))) (mgSub sSet (mVar 5) (mC (.str "deeds"))))
 (mSeq (mAsg (mDef 2 s__law_draw (mCons (mVar 0) (mCons (mC (.int 3)) mNil))) (mgName 6))
 (mSeq (mFor (mRange1 (mCons (mVar 4) mNil)) (mgName 7)
 (mSeq (mAsg (mOp2 sAdd (mOp2 sAdd (mVar 6) (mC (.int 1))) (mDef 2 s__law_draw (mCons (mVar 0) (mCons (mC (.int 3)) mNil)))) (mgName 6))
 (mAsg (mDef 4 s__law_hi_step (mCons (mVar 0) (mCons (mVar 5) (mCons (mVar 6) (mCons (mCall sLen (mCons (mVar 3) mNil)) mNil))))) (mgName 5))))
 (mSeq (mPar 10 11 (mCons (mVal (mCallF sList (mCons (mOp2 sIx (mVar 5) (mC (.str "order"))) mNil))) (mCons (mCell (mLst mNil)) mNil)))
 (mSeq (mAsg (mDef 2 s__law_mixed (mCons (mVar 0) (mCons (mVal (mLRg1 (mCall sLen (mCons (mOp2 sIx (mVar 5) (mC (.str "calls"))) mNil)))) mNil))) (mgName 8))
 (mSeq (mFor (mItems (mVar 8)) (mgName 9)
 (mSeq (mAsg (mOp2 sIx (mOp2 sIx (mVar 5) (mC (.str "calls"))) (mVar 9)) (mgName 12))
 (mSeq (mAsg (mIf (mTest (mOp2 sIsNot (mOp2 sIx (mVar 12) (mC (.str "end"))) (mC .non))) (mOp2 sIx (mVar 12) (mC (.str "answer"))) (mC .non)) (mgName 13))
 (mDrop (mMeth sAppend (mVar 11) (mCons (mTup (mCons (mOp2 sIx (mVar 12) (mC (.str "hand"))) (mCons (mOp2 sIx (mVar 12) (mC (.str "begin"))) (mCons (mOp2 sIx (mVar 12) (mC (.str "end"))) (mCons (mOp2 sIx (mVar 12) (mC (.str "deed"))) (mCons (mVar 13) mNil)))))) mNil))))))
 (mRet (mTup (mCons (mVar 11) (mCons (mVal (mComp [9] (mItems (mVar 10)) (mgName 9) mYes (mMeth sIndexL (mVar 8) (mCons (mVar 9) mNil)))) (mCons (mOp2 sIx (mVar 5) (mC (.str "state"))) mNil))))))))))))
noncomputable def s__law_hi_run : Sem := gc (runB 14 m__law_hi_run)
theorem b__law_hi_run {cd : Value} (z : Zs K mg) (D__law_draw : Df P w K Z mg base 2 "_law_draw" ["state", "size_here"] s__law_draw) (D__law_hi_step : Df P w K Z mg base 4 "_law_hi_step" ["state", "held", "now", "many"] s__law_hi_step) (D__law_mixed : Df P w K Z mg base 3 "_law_mixed" ["state", "several"] s__law_mixed) : Bd P w K Z mg base N__law_hi_run "_law_hi_run" t__law_hi_run cd 4 m__law_hi_run :=
 fun f A outer s H E W hr tk =>
 (ds_cons (ds_set 5 sc__law_hi_run.nd (de_dict (dp_cons de_str (de_cell (df_lst da_nil)) (dp_cons de_str (de_cell (df_lst da_nil)) (dp_cons de_str (de_var 2) (dp_cons de_str (de_var 1) (dp_cons de_str (de_add de_int (de_def D__law_draw tk (hr.mono (by decide)) (da_cons (de_var 0) (da_cons de_int da_nil)))) dp_nil)))))))
 (ds_cons (ds_asg (de_cell (df_list z.z_list (da_cons (de_var 3) da_nil))) (dg_item (hu_of hr) (de_var 5) de_str))
 (ds_cons (ds_set 6 sc__law_hi_run.nd (de_def D__law_draw tk (hr.mono (by decide)) (da_cons (de_var 0) (da_cons de_int da_nil))))
 (ds_cons (ds_for (passes_of rfl) rfl (di_range1 z.z_range (da_cons (de_var 4) da_nil)) (dg_name 7 sc__law_hi_run.nd)
 (ds_cons (ds_set 6 sc__law_hi_run.nd (de_add (de_add (de_var 6) de_int) (de_def D__law_draw tk (hr.mono (by decide)) (da_cons (de_var 0) (da_cons de_int da_nil)))))
 (ds_one (ds_set 5 sc__law_hi_run.nd (de_def D__law_hi_step tk (hr.mono (by decide)) (da_cons (de_var 0) (da_cons (de_var 5) (da_cons (de_var 6) (da_cons (de_len z.z_len (da_cons (de_var 3) da_nil)) da_nil)))))))))
 (ds_cons (ds_par 10 11 rfl sc__law_hi_run.nd (da_cons (de_val (df_list z.z_list (da_cons (de_sub' (hu_of hr) (de_var 5) de_str) da_nil))) (da_cons (de_cell (df_lst da_nil)) da_nil)))
 (ds_cons (ds_set 8 sc__law_hi_run.nd (de_def D__law_mixed tk (hr.mono (by decide)) (da_cons (de_var 0) (da_cons (de_val (df_listRg1 rfl z.z_list z.z_range (de_len z.z_len (da_cons (de_sub' (hu_of hr) (de_var 5) de_str) da_nil)))) da_nil))))
 (ds_cons (ds_for (passes_of rfl) rfl (di_seq (de_var 8)) (dg_name 9 sc__law_hi_run.nd)
 (ds_cons (ds_set 12 sc__law_hi_run.nd (de_sub' (hu_of hr) (de_sub' (hu_of hr) (de_var 5) de_str) (de_var 9)))
 (ds_cons (ds_set 13 sc__law_hi_run.nd (de_if (dt_isnot (de_sub' (hu_of hr) (de_var 12) de_str) de_non) (de_sub' (hu_of hr) (de_var 12) de_str) de_non))
 (ds_one (ds_expr (de_append (de_var 11) (da_cons (de_tup (da_cons (de_sub' (hu_of hr) (de_var 12) de_str) (da_cons (de_sub' (hu_of hr) (de_var 12) de_str) (da_cons (de_sub' (hu_of hr) (de_var 12) de_str) (da_cons (de_sub' (hu_of hr) (de_var 12) de_str) (da_cons (de_var 13) da_nil)))))) da_nil)))))))
 (ds_one (ds_ret (de_tup (da_cons (de_var 11) (da_cons (de_val (df_comp (own := [("at", 9)]) rfl sc__law_hi_run.nd (di_seq (de_var 10)) (show blkC N__law_hi_run (defScope t__law_hi_run) _ [("at", 9)] = true by decide +kernel) (fun _ _ _ _ _ => (dg_name 9 sc__law_hi_run.nd)) (fun _ _ _ _ _ => dts_nil) (fun _ _ _ _ _ => (de_indexL (de_var 8) (da_cons (de_var 9) da_nil))))) (da_cons (de_sub' (hu_of hr) (de_var 5) de_str) da_nil)))))))))))))
/-! _law_hi_deeds -/
abbrev t__law_hi_deeds : Stmt := topS 42
abbrev N__law_hi_deeds : List Str := ["state", "table", "many", "turn"]
theorem sc__law_hi_deeds : FnScope N__law_hi_deeds ["state", "table", "many"] (defScope t__law_hi_deeds) := ⟨rfl, rfl, rfl, by decide +kernel, rfl, by decide +kernel, by decide +kernel⟩
noncomputable def m__law_hi_deeds : MS := (mRet (mVal (mComp [3] (mRange1 (mCons (mVar 2) mNil)) (mgName 3) mYes (mDef 2 s__law_draw (mCons (mVar 0) (mCons (mCall sLen (mCons (mVar 1) mNil)) mNil))))))
noncomputable def s__law_hi_deeds : Sem := runB 4 m__law_hi_deeds
theorem b__law_hi_deeds {cd : Value} (z : Zs K mg) (D__law_draw : Df P w K Z mg base 2 "_law_draw" ["state", "size_here"] s__law_draw) : Bd P w K Z mg base N__law_hi_deeds "_law_hi_deeds" t__law_hi_deeds cd 2 m__law_hi_deeds :=
 fun f A outer s H E W hr tk =>
 (ds_one (ds_ret (de_val (df_comp (own := [("turn", 3)]) rfl sc__law_hi_deeds.nd (di_range1 z.z_range (da_cons (de_var 2) da_nil)) (show blkC N__law_hi_deeds (defScope t__law_hi_deeds) _ [("turn", 3)] = true by decide +kernel) (fun _ _ _ _ _ => (dg_name 3 sc__law_hi_deeds.nd)) (fun _ _ _ _ _ => dts_nil) (fun _ _ _ _ _ => (de_def D__law_draw trivial (hr.mono (by decide)) (da_cons (de_var 0) (da_cons (de_len z.z_len (da_cons (de_var 1) da_nil)) da_nil))))))))
/-! _law_hi_ahead -/
abbrev t__law_hi_ahead : Stmt := topS 43
abbrev N__law_hi_ahead : List Str := ["one", "other"]
theorem sc__law_hi_ahead : FnScope N__law_hi_ahead ["one", "other"] (defScope t__law_hi_ahead) := ⟨rfl, rfl, rfl, by decide +kernel, rfl, by decide +kernel, by decide +kernel⟩
noncomputable def m__law_hi_ahead : MS := (mRet (mAndV (mOp2 sIsNot (mOp2 sIx (mVar 0) (mC (.int 2))) (mC .non)) (mOp2 sLt (mOp2 sIx (mVar 0) (mC (.int 2))) (mOp2 sIx (mVar 1) (mC (.int 1))))))
noncomputable def s__law_hi_ahead : Sem := runB 2 m__law_hi_ahead
theorem b__law_hi_ahead {cd : Value} (z : Zs K mg) : Bd P w K Z mg base N__law_hi_ahead "_law_hi_ahead" t__law_hi_ahead cd 0 m__law_hi_ahead :=
 fun f A outer s H E W hr tk =>
 (ds_one (ds_ret (de_and (de_isnot (de_sub' (hu_of hr) (de_var 0) de_int) de_non) (de_one (de_lt (de_sub' (hu_of hr) (de_var 0) de_int) (de_sub' (hu_of hr) (de_var 1) de_int))))))
/-! _law_px_least -/
abbrev t__law_px_least : Stmt := topS 44
abbrev N__law_px_least : List Str := ["history", "places", "place", "found", "low"]
theorem sc__law_px_least : FnScope N__law_px_least ["history", "places"] (defScope t__law_px_least) := ⟨rfl, rfl, rfl, by decide +kernel, rfl, by decide +kernel, by decide +kernel⟩
noncomputable def m__law_px_least : MS := (mSeq (mPar 3 4 (mCons (mCell (mLst mNil)) (mCons (mC (.int 0)) mNil)))
 (mSeq (mFor (mItems (mVar 1)) (mgName 2)
 (mSeq (mAsg (mCall sMax2 (mCons (mVar 4) (mCons (mOp2 sIx (mOp2 sIx (mVar 0) (mVar 2)) (mC (.int 1))) mNil))) (mgName 4))
 (mSeq (mIfS (mAnd (mTest (mOp2 sIsNot (mOp2 sIx (mOp2 sIx (mVar 0) (mVar 2)) (mC (.int 2))) (mC .non))) (mTest (mOp2 sGe (mVar 4) (mOp2 sIx (mOp2 sIx (mVar 0) (mVar 2)) (mC (.int 2))))))
 (mRet (mC .non))
 mSkip)
 (mDrop (mMeth sAppend (mVar 3) (mCons (mVar 4) mNil))))))
 (mRet (mCall sTup (mCons (mVar 3) mNil)))))
noncomputable def s__law_px_least : Sem := gc (runB 5 m__law_px_least)
theorem b__law_px_least {cd : Value} (z : Zs K mg) : Bd P w K Z mg base N__law_px_least "_law_px_least" t__law_px_least cd 0 m__law_px_least :=
 fun f A outer s H E W hr tk =>
 (ds_cons (ds_par 3 4 rfl sc__law_px_least.nd (da_cons (de_cell (df_lst da_nil)) (da_cons de_int da_nil)))
 (ds_cons (ds_for (passes_of rfl) rfl (di_seq (de_var 1)) (dg_name 2 sc__law_px_least.nd)
 (ds_cons (ds_set 4 sc__law_px_least.nd (de_max2 rfl z.z_max (da_cons (de_var 4) (da_cons (de_sub' (hu_of hr) (de_sub' (hu_of hr) (de_var 0) (de_var 2)) de_int) da_nil))))
 (ds_cons (ds_if (dt_w (dw_and (dt_isnot (de_sub' (hu_of hr) (de_sub' (hu_of hr) (de_var 0) (de_var 2)) de_int) de_non) (dw_and1 (dt_ge (de_var 4) (de_sub' (hu_of hr) (de_sub' (hu_of hr) (de_var 0) (de_var 2)) de_int)))))
 (ds_one (ds_ret de_non))
 ds_nil)
 (ds_one (ds_expr (de_append (de_var 3) (da_cons (de_var 4) da_nil)))))))
 (ds_one (ds_ret (de_tuple z.z_tuple (da_cons (de_var 3) da_nil))))))
/-! _law_px_against -/
abbrev t__law_px_against : Stmt := topS 45
abbrev N__law_px_against : List Str := ["history", "places", "at", "place", "other"]
theorem sc__law_px_against : FnScope N__law_px_against ["history", "places"] (defScope t__law_px_against) := ⟨rfl, rfl, rfl, by decide +kernel, rfl, by decide +kernel, by decide +kernel⟩
noncomputable def m__law_px_against : MS := (mSeq (mFor (mEnum (mCons (mVar 1) mNil)) (mgTup 2 (mgCons (mgName 2) (mgCons (mgName 3) mgNil)))
 (mFor (mItems (mSlQ (mVar 1) mNoPart (mPart (mVar 2)))) (mgName 4)
 (mIfS (mTru (mDef 2 s__law_hi_ahead (mCons (mOp2 sIx (mVar 0) (mVar 3)) (mCons (mOp2 sIx (mVar 0) (mVar 4)) mNil))))
 (mRet (mTup (mCons (mVar 4) (mCons (mVar 3) mNil))))
 mSkip)))
 (mRet (mC .non)))
noncomputable def s__law_px_against : Sem := runB 5 m__law_px_against
theorem b__law_px_against {cd : Value} (z : Zs K mg) (D__law_hi_ahead : Df P w K Z mg base 1 "_law_hi_ahead" ["one", "other"] s__law_hi_ahead) : Bd P w K Z mg base N__law_px_against "_law_px_against" t__law_px_against cd 1 m__law_px_against :=
 fun f A outer s H E W hr tk =>
 (ds_cons (ds_for (passes_of rfl) rfl (di_enum z.z_enumerate (da_cons (de_var 1) da_nil)) (dg_tup rfl (dgs_cons (dg_name 2 sc__law_px_against.nd) (dgs_cons (dg_name 3 sc__law_px_against.nd) dgs_nil)))
 (ds_one (ds_for (passes_of rfl) rfl (di_seq (de_sliceQ (de_var 1) do_none (do_some (de_var 2)))) (dg_name 4 sc__law_px_against.nd)
 (ds_one (ds_if (dt_tru (de_def D__law_hi_ahead tk (hr.mono (by decide)) (da_cons (de_sub' (hu_of hr) (de_var 0) (de_var 3)) (da_cons (de_sub' (hu_of hr) (de_var 0) (de_var 4)) da_nil))))
 (ds_one (ds_ret (de_tup (da_cons (de_var 4) (da_cons (de_var 3) da_nil)))))
 ds_nil)))))
 (ds_one (ds_ret de_non)))
/-! law -/
abbrev t_law : Stmt := topS 46
abbrev N_law : List Str := ["script", "state", "table", "wanted", "more", "near", "some", "wrong", "value", "history", "places", "last", "at", "due", "known", "moments_here", "pair", "found", "call"]
theorem sc_law : FnScope N_law ["script"] (defScope t_law) := ⟨rfl, rfl, rfl, by decide +kernel, rfl, by decide +kernel, by decide +kernel⟩
noncomputable def m_law : MS := (mSeq (mAsg (mDef 1 s__law_begun (mCons (mVar 0) mNil)) (mgName 1))
 (mSeq (mAsg (mDef 1 s__law_hi_table (mCons (mVar 1) mNil)) (mgName 2))
 (mSeq (mAsg (mDef 5 s__law_hi_run (mCons (mVar 1) (mCons (mVar 2) (mCons (mC (.int 0)) (mCons (mDef 3 s__law_hi_deeds (mCons (mVar 1) (mCons (mVar 2) (mCons (mOp2 sAdd (mC (.int 1)) (mDef 2 s__law_draw (mCons (mVar 1) (mCons (mC (.int 9)) mNil)))) mNil)))) (mCons (mC (.int 30)) mNil)))))) (mgTup 3 (mgCons (mgName 9) (mgCons (mgName 10) (mgCons (mgName 11) mgNil)))))
 (mSeq (mAsg (if false = true then mCell (mComp [12, 18] (mEnum (mCons (mVar 9) mNil)) (mgTup 2 (mgCons (mgName 12) (mgCons (mgName 18) mgNil))) (mTest (mOp2 sIsNot (mOp2 sIx (mVar 18) (mC (.int 2))) (mC .non))) (mVar 12)) else mVal (mComp [12, 18] (mEnum (mCons (mVar 9) mNil)) (mgTup 2 (mgCons (mgName 12) (mgCons (mgName 18) mgNil))) (mTest (mOp2 sIsNot (mOp2 sIx (mVar 18) (mC (.int 2))) (mC .non))) (mVar 12))) (mgName 3))
 (mSeq (mAsg (if false = true then mCell (mComp [12, 18] (mEnum (mCons (mVar 9) mNil)) (mgTup 2 (mgCons (mgName 12) (mgCons (mgName 18) mgNil))) (mAnd (mTest (mOp2 sIs (mOp2 sIx (mVar 18) (mC (.int 2))) (mC .non))) (mTest (mOp2 sEq (mDef 2 s__law_draw (mCons (mVar 1) (mCons (mC (.int 2)) mNil))) (mC (.int 0))))) (mVar 12)) else mVal (mComp [12, 18] (mEnum (mCons (mVar 9) mNil)) (mgTup 2 (mgCons (mgName 12) (mgCons (mgName 18) mgNil))) (mAnd (mTest (mOp2 sIs (mOp2 sIx (mVar 18) (mC (.int 2))) (mC .non))) (mTest (mOp2 sEq (mDef 2 s__law_draw (mCons (mVar 1) (mCons (mC (.int 2)) mNil))) (mC (.int 0))))) (mVar 12))) (mgName 4))
 (mSeq (mAsg (mVal (mCallF sList (mCons (mVar 10) mNil))) (mgName 5))
 (mSeq (mIfS (mTest (mOp2 sGt (mCall sLen (mCons (mVar 5) mNil)) (mC (.int 1))))
 (mSeq (mAsg (mDef 2 s__law_draw (mCons (mVar 1) (mCons (mOp2 sSub (mCall sLen (mCons (mVar 5) mNil)) (mC (.int 1))) mNil))) (mgName 12))
 (mAsg (mVal (mOp2F sCat (mVal (mOp2F sCat (mVal (mSlL (mVar 5) mNoPart (mPart (mVar 12)))) (mVal (mLst (mCons (mOp2 sIx (mVar 5) (mOp2 sAdd (mVar 12) (mC (.int 1)))) (mCons (mOp2 sIx (mVar 5) (mVar 12)) mNil)))))) (mVal (mSlL (mVar 5) (mPart (mOp2 sAdd (mVar 12) (mC (.int 2)))) mNoPart)))) (mgName 5)))
 mSkip)
 (mSeq (mFor (mItems (mVal (mLst (mCons (mVar 10) (mCons (mVar 5) (mCons (mDef 2 s__law_mixed (mCons (mVar 1) (mCons (mVal (mOp2F sCat (mVar 3) (mVar 4))) mNil))) (mCons (mCall sTup (mCons (mDef 2 s__law_mixed (mCons (mVar 1) (mCons (mVar 3) mNil))) mNil)) mNil))))))) (mgName 6)
 (mSeq (mPar 15 16 (mCons (mDef 2 s__law_px_least (mCons (mVar 9) (mCons (mVar 6) mNil))) (mCons (mDef 2 s__law_px_against (mCons (mVar 9) (mCons (mVar 6) mNil))) mNil)))
 (mSeq (mIfS (mTest (mOp2 sNe (mOp2 sIs (mVar 15) (mC .non)) (mOp2 sIsNot (mVar 16) (mC .non))))
 (mRet (mC (.bl false)))
 mSkip)
 (mSeq (mAsg (mIf (mTest (mOp2 sIs (mVar 16) (mC .non))) (mTup (mCons (mC (.str "points")) (mCons (mVar 15) mNil))) (mTup (mCons (mC (.str "against")) (mCons (mOp2 sIx (mVar 16) (mC (.int 0))) (mCons (mOp2 sIx (mVar 16) (mC (.int 1))) mNil))))) (mgName 13))
 (mFor (mItems (mVal (mLst (mCons (mVar 9) (mCons (mCall sTup (mCons (mVar 9) mNil)) mNil))))) (mgName 14)
 (mSeq (mAsg (mDef 3 s_points_of (mCons (mVar 2) (mCons (mVar 14) (mCons (mVar 6) mNil)))) (mgName 17))
 (mIfS (mOr (mNot (mTru (mCall sIsi (mCons (mVar 17) (mCons (mC (.ty "tuple")) mNil))))) (mOr (mTest (mOp2 sNe (mVar 17) (mVar 13))) (mTest (mOp2 sNe (mCall sRepr (mCons (mVar 17) mNil)) (mCall sRepr (mCons (mVar 13) mNil))))))
 (mRet (mC (.bl false)))
 mSkip)))))))
 (mSeq (mAsg (mVal (mLst (mCons (mC .non) (mCons (mC (.int 5)) (mCons (mC (.str "0")) (mCons (mVal (mOp2F sCat (mVar 3) (mVal (mLst (mCons (mCall sLen (mCons (mVar 9) mNil)) mNil))))) (mCons (mVal (mOp2F sCat (mVar 3) (mVal (mLst (mCons (mOp1 sNeg (mC (.int 1))) mNil))))) (mCons (mVal (mOp2F sCat (mVar 3) (mVal (mLst (mCons (mC (.bl true)) mNil))))) (mCons mC0 (mCons (mVal (mLst (mCons (mVal (mLst mNil)) mNil))) mNil)))))))))) (mgName 7))
 (mSeq (mAsg (mVal (mOp2F sCat (mVar 7) (mIf (mTest (mOp2 sNe (mVar 3) (mVal (mLst mNil)))) (mVal (mLst (mCons (mVal (mSlL (mVar 3) (mPart (mC (.int 1))) mNoPart)) (mCons (mVal (mOp2F sCat (mVar 3) (mVal (mSlL (mVar 3) mNoPart (mPart (mC (.int 1))))))) mNil)))) (mVal (mLst mNil))))) (mgName 7))
 (mSeq (mAsg (mDef 2 s__law_pick (mCons (mVar 1) (mCons (mVar 7) mNil))) (mgName 8))
 (mSeq (mIfS (mNot (mTru (mCall (sIsX isTab) (mCons (mCaught caughtL (mDef 3 s_points_of (mCons (mVar 2) (mCons (mVar 9) (mCons (mVar 8) mNil))))) (mCons (mC (.glb "BadPlaces")) mNil)))))
 (mRet (mC (.bl false)))
 mSkip)
 (mSeq (mIfS (mNot (mTru (mCall (sIsX isTab) (mCons (mCaught caughtL (mDef 3 s_points_of (mCons (mTup mNil) (mCons (mVal (mLst (mCons (mC .non) mNil))) (mCons (mVar 8) mNil))))) (mCons (mC (.glb "BadTable")) mNil)))))
 (mRet (mC (.bl false)))
 mSkip)
 (mRet (mCall (sIsX isTab) (mCons (mCaught caughtL (mDefP 3 0 3 [2, 1, 0] s_points_of mNil (mCons (mVar 8) (mCons (mVal (mLst (mCons (mC .non) mNil))) (mCons (mVar 2) mNil))))) (mCons (mC (.glb "BadHistory")) mNil)))))))))))))))))
noncomputable def s_law : Sem := runB 19 m_law
theorem b_law {cd : Value} (z : Zs K mg) (LT : LamAt Z base mg cd ((envOfC "law" (defScope t_law) 0 0 .none).qual ++ "<lambda>")) (D__law_begun : Df P w K Z mg base 1 "_law_begun" ["script"] s__law_begun) (D__law_hi_table : Df P w K Z mg base 3 "_law_hi_table" ["state"] s__law_hi_table) (D__law_draw : Df P w K Z mg base 2 "_law_draw" ["state", "size_here"] s__law_draw) (D__law_hi_deeds : Df P w K Z mg base 3 "_law_hi_deeds" ["state", "table", "many"] s__law_hi_deeds) (D__law_hi_run : Df P w K Z mg base 5 "_law_hi_run" ["state", "table", "begin", "deeds_here", "turns"] s__law_hi_run) (D__law_mixed : Df P w K Z mg base 3 "_law_mixed" ["state", "several"] s__law_mixed) (D__law_px_against : Df P w K Z mg base 2 "_law_px_against" ["history", "places"] s__law_px_against) (D__law_px_least : Df P w K Z mg base 1 "_law_px_least" ["history", "places"] s__law_px_least) (D_points_of : Df P w K Z mg base 9 "points_of" ["table", "history", "places"] s_points_of) (D__law_pick : Df P w K Z mg base 3 "_law_pick" ["state", "several"] s__law_pick) (PD_points_of_0 : DfP P w K Z mg base 9 "points_of" 3 0 ["places", "history", "table"] [2, 1, 0] s_points_of) : BdG P w K Z mg base N_law "law" t_law cd 11 m_law :=
 fun f A outer s H E W hg tk => have hr := hg.room
 (ds_cons (ds_set 1 sc_law.nd (de_def D__law_begun tk (hr.mono (by decide)) (da_cons (de_var 0) da_nil)))
 (ds_cons (ds_set 2 sc_law.nd (de_def D__law_hi_table tk (hr.mono (by decide)) (da_cons (de_var 1) da_nil)))
 (ds_cons (ds_asg (de_def D__law_hi_run tk (hr.mono (by decide)) (da_cons (de_var 1) (da_cons (de_var 2) (da_cons de_int (da_cons (de_def D__law_hi_deeds tk (hr.mono (by decide)) (da_cons (de_var 1) (da_cons (de_var 2) (da_cons (de_add de_int (de_def D__law_draw tk (hr.mono (by decide)) (da_cons (de_var 1) (da_cons de_int da_nil)))) da_nil)))) (da_cons de_int da_nil)))))) (dg_tup rfl (dgs_cons (dg_name 9 sc_law.nd) (dgs_cons (dg_name 10 sc_law.nd) (dgs_cons (dg_name 11 sc_law.nd) dgs_nil)))))
 (ds_cons (ds_setLc (own := [("at", 12), ("call", 18)]) 3 false rfl sc_law.nd (di_enum z.z_enumerate (da_cons (de_var 9) da_nil)) (show blkC N_law (defScope t_law) _ [("at", 12), ("call", 18)] = true by decide +kernel) (fun _ _ _ _ _ => (dg_tup rfl (dgs_cons (dg_name 12 sc_law.nd) (dgs_cons (dg_name 18 sc_law.nd) dgs_nil)))) (fun _ _ _ _ _ => (dts_one (dt_isnot (de_sub' (hu_of hr) (de_var 18) de_int) de_non))) (fun _ _ _ _ _ => (de_var 12)) (sw_true rfl rfl rfl (by decide +kernel)))
 (ds_cons (ds_setLc (own := [("at", 12), ("call", 18)]) 4 false rfl sc_law.nd (di_enum z.z_enumerate (da_cons (de_var 9) da_nil)) (show blkC N_law (defScope t_law) _ [("at", 12), ("call", 18)] = true by decide +kernel) (fun _ _ _ _ _ => (dg_tup rfl (dgs_cons (dg_name 12 sc_law.nd) (dgs_cons (dg_name 18 sc_law.nd) dgs_nil)))) (fun _ _ _ _ _ => (dts_one (dt_w (dw_and (dt_is (de_sub' (hu_of hr) (de_var 18) de_int) de_non) (dw_and1 (dt_eq hr.units (de_def D__law_draw trivial (hr.mono (by decide)) (da_cons (de_var 1) (da_cons de_int da_nil))) de_int)))))) (fun _ _ _ _ _ => (de_var 12)) (sw_true rfl rfl rfl (by decide +kernel)))
 (ds_cons (ds_set 5 sc_law.nd (de_val (df_list z.z_list (da_cons (de_var 10) da_nil))))
 (ds_cons (ds_if (dt_gt (de_len z.z_len (da_cons (de_var 5) da_nil)) de_int)
 (ds_cons (ds_set 12 sc_law.nd (de_def D__law_draw tk (hr.mono (by decide)) (da_cons (de_var 1) (da_cons (de_sub (de_len z.z_len (da_cons (de_var 5) da_nil)) de_int) da_nil))))
 (ds_one (ds_set 5 sc_law.nd (de_val (df_add (de_val (df_add (de_val (df_slice (de_var 5) do_none (do_some (de_var 12)))) (de_val (df_lst (da_cons (de_sub' (hu_of hr) (de_var 5) (de_add (de_var 12) de_int)) (da_cons (de_sub' (hu_of hr) (de_var 5) (de_var 12)) da_nil)))))) (de_val (df_slice (de_var 5) (do_some (de_add (de_var 12) de_int)) do_none)))))))
 ds_nil)
 (ds_cons (ds_for (passes_of rfl) rfl (di_seq (de_val (df_lst (da_cons (de_var 10) (da_cons (de_var 5) (da_cons (de_def D__law_mixed tk (hr.mono (by decide)) (da_cons (de_var 1) (da_cons (de_val (df_add (de_var 3) (de_var 4))) da_nil))) (da_cons (de_tuple z.z_tuple (da_cons (de_def D__law_mixed tk (hr.mono (by decide)) (da_cons (de_var 1) (da_cons (de_var 3) da_nil))) da_nil)) da_nil))))))) (dg_name 6 sc_law.nd)
 (ds_cons (ds_par 15 16 rfl sc_law.nd (da_cons (de_def D__law_px_least tk (hr.mono (by decide)) (da_cons (de_var 9) (da_cons (de_var 6) da_nil))) (da_cons (de_def D__law_px_against tk (hr.mono (by decide)) (da_cons (de_var 9) (da_cons (de_var 6) da_nil))) da_nil)))
 (ds_cons (ds_if (dt_ne hr.units (de_is (de_var 15) de_non) (de_isnot (de_var 16) de_non))
 (ds_one (ds_ret de_bl))
 ds_nil)
 (ds_cons (ds_set 13 sc_law.nd (de_if (dt_is (de_var 16) de_non) (de_tup (da_cons de_str (da_cons (de_var 15) da_nil))) (de_tup (da_cons de_str (da_cons (de_sub' (hu_of hr) (de_var 16) de_int) (da_cons (de_sub' (hu_of hr) (de_var 16) de_int) da_nil))))))
 (ds_one (ds_for (passes_of rfl) rfl (di_seq (de_val (df_lst (da_cons (de_var 9) (da_cons (de_tuple z.z_tuple (da_cons (de_var 9) da_nil)) da_nil))))) (dg_name 14 sc_law.nd)
 (ds_cons (ds_set 17 sc_law.nd (de_def D_points_of tk (hr.mono (by decide)) (da_cons (de_var 2) (da_cons (de_var 14) (da_cons (de_var 6) da_nil)))))
 (ds_one (ds_if (dt_w (dw_or (dt_not (dt_tru (de_isi z.z_isinstance (da_cons (de_var 17) (da_cons (de_gty z.z_tuple (by decide +kernel)) da_nil))))) (dw_or (dt_ne hr.units (de_var 17) (de_var 13)) (dw_or1 (dt_ne hr.units (de_repr z.z_repr hg (da_cons (de_var 17) da_nil)) (de_repr z.z_repr hg (da_cons (de_var 13) da_nil)))))))
 (ds_one (ds_ret de_bl))
 ds_nil)))))))))
 (ds_cons (ds_set 7 sc_law.nd (de_val (df_lst (da_cons de_non (da_cons de_int (da_cons de_str (da_cons (de_val (df_add (de_var 3) (de_val (df_lst (da_cons (de_len z.z_len (da_cons (de_var 9) da_nil)) da_nil))))) (da_cons (de_val (df_add (de_var 3) (de_val (df_lst (da_cons (de_neg de_int) da_nil))))) (da_cons (de_val (df_add (de_var 3) (de_val (df_lst (da_cons de_bl da_nil))))) (da_cons de_dct0 (da_cons (de_val (df_lst (da_cons (de_val (df_lst da_nil)) da_nil))) da_nil)))))))))))
 (ds_cons (ds_set 7 sc_law.nd (de_val (df_add (de_var 7) (de_if (dt_ne hr.units (de_var 3) (de_val (df_lst da_nil))) (de_val (df_lst (da_cons (de_val (df_slice (de_var 3) (do_some de_int) do_none)) (da_cons (de_val (df_add (de_var 3) (de_val (df_slice (de_var 3) do_none (do_some de_int))))) da_nil)))) (de_val (df_lst da_nil))))))
 (ds_cons (ds_set 8 sc_law.nd (de_def D__law_pick tk (hr.mono (by decide)) (da_cons (de_var 1) (da_cons (de_var 7) da_nil))))
 (ds_cons (ds_if (dt_not (dt_tru (de_isX z.isx z.z_isinstance (da_cons (de_caught (k := 9) z.cg LT (hr.mono (by decide)) (fun A outer s H E f c' hr tk => (de_def D_points_of tk (hr.mono (by decide)) (da_cons (de_var 2) (da_cons (de_var 9) (da_cons (de_var 8) da_nil))))) (LS := show LamX.lamSB (defScope t_law) _ = true by decide +kernel)) (da_cons (de_glb z.g_BadPlaces) da_nil)))))
 (ds_one (ds_ret de_bl))
 ds_nil)
 (ds_cons (ds_if (dt_not (dt_tru (de_isX z.isx z.z_isinstance (da_cons (de_caught (k := 9) z.cg LT (hr.mono (by decide)) (fun A outer s H E f c' hr tk => (de_def D_points_of tk (hr.mono (by decide)) (da_cons (de_tup da_nil) (da_cons (de_val (df_lst (da_cons de_non da_nil))) (da_cons (de_var 8) da_nil))))) (LS := show LamX.lamSB (defScope t_law) _ = true by decide +kernel)) (da_cons (de_glb z.g_BadTable) da_nil)))))
 (ds_one (ds_ret de_bl))
 ds_nil)
 (ds_one (ds_ret (de_isX z.isx z.z_isinstance (da_cons (de_caught (k := 9) z.cg LT (hr.mono (by decide)) (fun A outer s H E f c' hr tk => (de_defP0 PD_points_of_0 tk (hr.mono (by decide)) (dk_cons (de_var 8) (dk_cons (de_val (df_lst (da_cons de_non da_nil))) (dk_cons (de_var 2) dk_nil))))) (LS := show LamX.lamSB (defScope t_law) _ = true by decide +kernel)) (da_cons (de_glb z.g_BadHistory) da_nil))))))))))))))))))
end
end VS

set_option Elab.async false
set_option linter.all false
set_option maxRecDepth 100000
set_option maxHeartbeats 4000000
namespace VS
open PySem PySem.Spec PyProof.Rows L2
/-! ### draws -/
structure Rng where
  great : List Int
  cells : List Int
  left : Int
  turn : Int
abbrev kG : Key := .inr "great"
abbrev kC : Key := .inr "cells"
abbrev kL : Key := .inr "left"
abbrev kT : Key := .inr "turn"
theorem kGC : (("great" : Str) = "cells") = False := eq_false (by decide +kernel)
theorem kGL : (("great" : Str) = "left") = False := eq_false (by decide +kernel)
theorem kGT : (("great" : Str) = "turn") = False := eq_false (by decide +kernel)
theorem kCG : (("cells" : Str) = "great") = False := eq_false (by decide +kernel)
theorem kCL : (("cells" : Str) = "left") = False := eq_false (by decide +kernel)
theorem kCT : (("cells" : Str) = "turn") = False := eq_false (by decide +kernel)
theorem kLG : (("left" : Str) = "great") = False := eq_false (by decide +kernel)
theorem kLC : (("left" : Str) = "cells") = False := eq_false (by decide +kernel)
theorem kLT : (("left" : Str) = "turn") = False := eq_false (by decide +kernel)
theorem kTG : (("turn" : Str) = "great") = False := eq_false (by decide +kernel)
theorem kTC : (("turn" : Str) = "cells") = False := eq_false (by decide +kernel)
theorem kTL : (("turn" : Str) = "left") = False := eq_false (by decide +kernel)
def rdic (r : Rng) : List (Key × T) := [(kG, .cell 0), (kC, .lst (r.cells.map .int)), (kL, .int r.left), (kT, .int r.turn)]
def WD (r : Rng) (rest : World) : World := .lst (r.great.map .int) :: .dic (rdic r) :: rest
section
variable {r : Rng} {rest : World} {i : Int}
theorem val_G : valT (rdic r) kG = some (.cell 0) := by simp [valT, rdic, List.find?_cons]
theorem val_C : valT (rdic r) kC = some (.lst (r.cells.map .int)) := by simp [valT, rdic, List.find?_cons, kGC]
theorem val_L : valT (rdic r) kL = some (.int r.left) := by simp [valT, rdic, List.find?_cons, kGL, kCL]
theorem val_T : valT (rdic r) kT = some (.int r.turn) := by simp [valT, rdic, List.find?_cons, kGT, kCT, kLT]
theorem put_L : putT (rdic r) kL (.int i) = rdic { r with left := i } := by simp [putT, rdic, kGL, kCL, kLT, kTL]
theorem put_T : putT (rdic r) kT (.int i) = rdic { r with turn := i } := by simp [putT, rdic, kGT, kCT, kLT]
theorem rlen : (rdic r).length < sizeLine := by show 4 < sizeLine; rw [sizeLine_eq]; decide
@[simp] theorem ix_G : sIx (.cell 1) (.str "great") (WD r rest) = .ok (.cell 0) (WD r rest) := by
  have := val_G (r := r); simp [sIx, WD, keyT, this]
@[simp] theorem ix_C : sIx (.cell 1) (.str "cells") (WD r rest) = .ok (.lst (r.cells.map .int)) (WD r rest) := by
  have := val_C (r := r); simp [sIx, WD, keyT, this]
@[simp] theorem ix_L : sIx (.cell 1) (.str "left") (WD r rest) = .ok (.int r.left) (WD r rest) := by
  have := val_L (r := r); simp [sIx, WD, keyT, this]
@[simp] theorem ix_T : sIx (.cell 1) (.str "turn") (WD r rest) = .ok (.int r.turn) (WD r rest) := by
  have := val_T (r := r); simp [sIx, WD, keyT, this]
@[simp] theorem set_L : sSet (.cell 1) (.str "left") (.int i) (WD r rest) = .ok () (WD { r with left := i } rest) := by
  have := put_L (r := r) (i := i); simp [sSet, WD, keyT, this, rlen]
@[simp] theorem set_T : sSet (.cell 1) (.str "turn") (.int i) (WD r rest) = .ok () (WD { r with turn := i } rest) := by
  have := put_T (r := r) (i := i); simp [sSet, WD, keyT, this, rlen]
@[simp] theorem at_0 : (WD r rest)[0]? = some (.lst (r.great.map .int)) := rfl
end
/-- r' is r some turns on -/
structure Adv (c : Int) (r r' : Rng) : Prop where
  lo : r.turn ≤ r'.turn
  hi : r'.turn ≤ r.turn + c
def Ok (c : Int) (r : Rng) : Prop := 0 ≤ r.turn ∧ r.turn + c ≤ 35184372088832
theorem Adv.refl {r : Rng} : Adv 0 r r := ⟨by omega, by omega⟩
theorem Adv.trans {c d : Int} {r s t : Rng} (a : Adv c r s) (b : Adv d s t) : Adv (c + d) r t := ⟨by have := a.lo; have := b.lo; omega, by have := a.hi; have := b.hi; omega⟩
theorem Adv.mono {c d : Int} {r s : Rng} (a : Adv c r s) (h : c ≤ d) : Adv d r s := ⟨a.lo, by have := a.hi; omega⟩
theorem Ok.on {c d : Int} {r s : Rng} (o : Ok c r) (a : Adv d r s) (e : Int) (h : d + e ≤ c) : Ok e s := ⟨by have := o.1; have := a.lo; omega, by have := o.2; have := a.hi; omega⟩

theorem shaped_int (i : Int) : SeqAt.shaped (.int i) = true := rfl
@[simp] theorem ne_great {r : Rng} {rest : World} : sNe (.cell 0) (.lst []) (WD r rest) = .ok (.bl (!decide (r.great = []))) (WD r rest) := by
  have e : eqT (WD r rest) (.cell 0) (.lst []) = some (decide (r.great = [])) := by
    rw [eqT_of (pd_cell (at_0 (r := r) (rest := rest))) (by simp [pd, pds]; rfl) (shaped_ints _) rfl]
    show some (PyData.eqvAll (r.great.map .int) (([] : List Int).map .int)) = _
    rw [eqv_ints]
  simp [sNe, e]
theorem pow5 {i : Int} {w : World} (h : i.natAbs < 2 ^ 64) : sPow (.int i) (.int 5) w = .ok (.int (i ^ 5)) w := by
  have : CPow i 5 := ⟨by decide, by decide, h⟩
  simp [sPow, s2I, this]
theorem int3 {P : Int → Prop} {a b c : Int} {i : Nat} {t : T} (ht : ([.int a, .int b, .int c] : List T)[i]? = some t) (ha : P a) (hb : P b) (hc : P c) : ∃ x : Int, t = .int x ∧ P x := by
  match i, ht with
  | 0, ht => cases ht; exact ⟨_, rfl, ha⟩
  | 1, ht => cases ht; exact ⟨_, rfl, hb⟩
  | 2, ht => cases ht; exact ⟨_, rfl, hc⟩
theorem ints_at {ns : List Int} {i : Nat} {t : T} (ht : (ns.map T.int)[i]? = some t) : ∃ x : Int, t = .int x ∧ ns[i]? = some x := by
  rw [List.getElem?_map] at ht
  cases q : ns[i]? with
  | none => rw [q] at ht; cases ht
  | some x => rw [q] at ht; cases ht; exact ⟨x, rfl, rfl⟩
theorem blended_ok {r : Rng} {rest : World} (o : Ok 1 r) : ∃ q, s__law_blended [.cell 1] (WD r rest) = .ok (.int q) (WD { r with turn := r.turn + 1 } rest) := by
  obtain ⟨o1, o2⟩ := o
  unfold s__law_blended m__law_blended runB
  have h3 : (3 : Nat) ≤ sizeLine := by rw [sizeLine_eq]; decide
  simp [h3]
  generalize hL : forL (mgName 2) _ _ _ _ _ _ = L
  obtain ⟨ρ', w', e, rfl, a, f, c, d, rfl⟩ : ∃ ρ' w', L = .ok (ρ', .nx) w' ∧ w' = WD { r with turn := r.turn + 1 } rest ∧ ∃ a f c d, ρ' = [some (.cell 1), some (.int (r.turn + 1)), a, some (.int f), c, d] := by
    rw [← hL]
    refine forL_run (P := fun i ρ w => w = WD { r with turn := r.turn + 1 } rest ∧ ∃ a f c d, ρ = [some (.cell 1), some (.int (r.turn + 1)), a, some (.int f), c, d]) ⟨rfl, _, _, _, _, rfl⟩ (fun i t ρ w ht p => ?_)
    obtain ⟨rfl, a, f, c, d, rfl⟩ := p
    obtain ⟨pr, rfl, p0, p1⟩ := int3 (P := fun x => 0 < x ∧ x < 2147483648) ht (by decide) (by decide) (by decide)
    simp [sMul_l (i := 40014) ⟨by decide, by decide⟩, sFdiv_ (j := 67) (by decide) (by decide)]
    generalize hM : forL (mgName 5) _ _ _ _ _ _ = M
    obtain ⟨ρ', w', e, rfl, x, d', hx, rfl⟩ : ∃ ρ' w', M = .ok (ρ', .nx) w' ∧ w' = WD { r with turn := r.turn + 1 } rest ∧ ∃ x d, x.natAbs < 2 ^ 64 ∧ ρ' = [some (.cell 1), some (.int (r.turn + 1)), some (.int pr), some (.int f), some (.int x), d] := by
      rw [← hM]
      have hdiv : 0 ≤ pr / 67 ∧ pr / 67 < 2147483648 := by omega
      refine forL_run (P := fun i ρ w => w = WD { r with turn := r.turn + 1 } rest ∧ ∃ x d, x.natAbs < 2 ^ 64 ∧ ρ = [some (.cell 1), some (.int (r.turn + 1)), some (.int pr), some (.int f), some (.int x), d]) ⟨rfl, 40014 * (r.turn + 1) + pr / 67, _, by omega, rfl⟩ (fun i t ρ w ht p => ?_)
      obtain ⟨rfl, x, d, hx, rfl⟩ := p
      obtain ⟨y, rfl, _⟩ := ints_at ht
      simp [sMul_r (j := 69621) ⟨by decide, by decide⟩, sMod_ p0]
      have h1 := Int.emod_nonneg (x * 69621 + y + (r.turn + 1)) (show pr ≠ 0 by omega)
      have h2 := Int.emod_lt_of_pos (x * 69621 + y + (r.turn + 1)) p0
      exact ⟨_, _, ⟨rfl, rfl⟩, rfl, (x * 69621 + y + (r.turn + 1)) % pr, by omega, _, rfl⟩
    rw [e]
    simp [pow5 hx, sMod_ p0, sMul_r (j := 2147483647) ⟨by decide, by decide⟩]
    exact ⟨_, _, ⟨rfl, rfl⟩, rfl, _, _, _, _, rfl⟩
  rw [e]
  simp
theorem draw_ok {r : Rng} {rest : World} {n : Int} (h0 : 0 < n) (h1 : n < 1073741824) (o : Ok 1 r) : ∃ q r', s__law_draw [.cell 1, .int n] (WD r rest) = .ok (.int q) (WD r' rest) ∧ 0 ≤ q ∧ q < n ∧ Adv 1 r r' := by
  -- the world behind the first statement
  have go : ∀ r1 : Rng, Adv 1 r r1 → ∃ q r', (match ((andThen (.ok ([some (T.cell 1), some (T.int n), none], .nx) (WD r1 rest))
            (mSeq (mAsg (mOp2 sMod (mCall sInt (mCons (mOp2 sIx (mVar 0) (mC (.str "left"))) mNil)) (mVar 1)) (mgName 2))
              (mSeq (mAsg (mOp2 sFdiv (mOp2 sIx (mVar 0) (mC (.str "left"))) (mVar 1)) (mgSub sSet (mVar 0) (mC (.str "left")))) (mRet (mVar 2))))) : R (Env × Fl)) with
        | R.ok (fst, Fl.ret t) w' => R.ok t w'
        | R.ok (fst, Fl.nx) w' => R.ok T.non w'
        | x => R.no) = R.ok (T.int q) (WD r' rest) ∧ 0 ≤ q ∧ q < n ∧ Adv 1 r r' := fun r1 a => by
    simp [sMod_ h0, sFdiv_ h0 h1]
    refine ⟨r1.left % n, { r1 with left := r1.left / n }, ⟨rfl, rfl⟩, Int.emod_nonneg _ (by omega), Int.emod_lt_of_pos _ h0, a.lo, a.hi⟩
  unfold s__law_draw m__law_draw runB
  simp
  by_cases hl : r.left = 0
  · rw [if_pos hl]
    by_cases hg : r.great = []
    · rw [if_pos hg]
      obtain ⟨q, e⟩ := blended_ok (rest := rest) o
      rw [e]
      simp
      have := go { r with turn := r.turn + 1, left := q } ⟨by show r.turn ≤ r.turn + 1; omega, by show r.turn + 1 ≤ r.turn + 1; omega⟩
      simpa [sMod_ h0, sFdiv_ h0 h1] using this
    · rw [if_neg hg]
      obtain ⟨x, gs, hgs⟩ : ∃ x gs, r.great = x :: gs := by
        cases h : r.great with
        | nil => exact absurd h hg
        | cons x gs => exact ⟨x, gs, rfl⟩
      have e1 : lst? (WD r rest) (.cell 0) = some (r.great.map .int) := rfl
      have e2 : sPopAt (.cell 0) [.int 0] (WD r rest) = .ok (.int x) (WD { r with great := gs } rest) := by
        simp [sPopAt, WD, hgs, seqIndex?, rdic]
      rw [e1]
      simp [e2]
      have := go { r with great := gs, left := x } ⟨by show r.turn ≤ r.turn; omega, by show r.turn ≤ r.turn + 1; omega⟩
      simpa [sMod_ h0, sFdiv_ h0 h1] using this
  · rw [if_neg hl]
    have := go r ⟨by omega, by omega⟩
    simpa [sMod_ h0, sFdiv_ h0 h1] using this
end VS

set_option Elab.async false
set_option linter.all false
set_option maxRecDepth 100000
set_option maxHeartbeats 4000000
namespace VS
open PySem PySem.Spec PyProof.Rows L2
/-! ### tables as values -/
def Step (n : Int) (t : T) : Prop := ∃ s a : Int, t = .tup [.int s, .int a] ∧ 0 ≤ s ∧ s < n ∧ 0 ≤ a ∧ a ≤ 999999999999999999
def Row (n : Int) (t : T) : Prop := ∃ ss, t = .tup ss ∧ (ss.length : Int) = n ∧ ∀ s ∈ ss, Step n s
def Rows (m n : Int) (rs : List T) : Prop := (rs.length : Int) = m ∧ ∀ r ∈ rs, Row n r
theorem step_mono {n n' : Int} {t : T} (h : Step n t) (e : n ≤ n') : Step n' t := by
  obtain ⟨s, a, rfl, h1, h2, h3, h4⟩ := h
  exact ⟨s, a, rfl, h1, by omega, h3, h4⟩
section
variable {w : World} {i j n m : Int} {ts rs : List T} {t : T}
@[simp] theorem isi_int : sIsi [.int i, .ty "int"] w = .ok (.bl true) w := by simp [sIsi, kindT, kinds, isiB]
@[simp] theorem isi_int_bool : sIsi [.int i, .ty "bool"] w = .ok (.bl false) w := by simp [sIsi, kindT, kinds, isiB]
@[simp] theorem isi_tup : sIsi [.tup ts, .ty "tuple"] w = .ok (.bl true) w := by simp [sIsi, kindT, kinds, isiB]
@[simp] theorem isi_lst_lt : sIsi [.lst ts, .tup [.ty "list", .ty "tuple"]] w = .ok (.bl true) w := by simp [sIsi, kindT, kinds, isiB, tysT]
@[simp] theorem isi_tup_lt : sIsi [.tup ts, .tup [.ty "list", .ty "tuple"]] w = .ok (.bl true) w := by simp [sIsi, kindT, kinds, isiB, tysT]
theorem isi_cell {k : Nat} (h : w[k]? = some (.lst ts)) : sIsi [.cell k, .ty "list"] w = .ok (.bl true) w := by simp [sIsi, kindT, kinds, isiB, h]
theorem two_le : (2 : Nat) ≤ sizeLine := by rw [sizeLine_eq]; decide
theorem zero_le : (0 : Nat) ≤ sizeLine := by omega
theorem one_le : (1 : Nat) ≤ sizeLine := by rw [sizeLine_eq]; decide
theorem le_size {n : Nat} (h : n ≤ 16777216) : n ≤ sizeLine := by rw [sizeLine_eq]; exact h
theorem lt_size {n : Nat} (h : n < 16777216) : n < sizeLine := by rw [sizeLine_eq]; exact h
theorem bls_all : ∀ n : Nat, blsT (List.replicate n (.bl true)) = some (List.replicate n true)
  | 0 => rfl
  | n + 1 => by simp [List.replicate_succ, blsT, bls_all n]
theorem all_true {n : Nat} : sAll [.lst (List.replicate n (.bl true))] w = .ok (.bl true) w := by
  simp [sAll, bls_all]
@[simp] theorem is_number_ok (h1 : -999999999999999999 ≤ i) (h2 : i ≤ 999999999999999999) : s_is_number [.int i] w = .ok (.bl true) w := by
  unfold s_is_number m_is_number runB
  simp [h1, h2]
theorem is_count_ok (h1 : 0 ≤ i) (h2 : i ≤ 999999999999999999) : s_is_count [.int i] w = .ok (.bl true) w := by
  unfold s_is_count m_is_count runB
  have := is_number_ok (w := w) (i := i) (by omega) h2
  simp [this, h1]
theorem is_place_ok (h1 : 0 ≤ i) (h2 : i ≤ 999999999999999999) (h3 : i < n) : s_is_place [.int i, .int n] w = .ok (.bl true) w := by
  unfold s_is_place m_is_place runB
  have := is_count_ok (w := w) h1 h2
  simp [this, h3]
theorem is_tuple_ok (h : (ts.length : Int) = n) : s_is_tuple_of [.tup ts, .int n] w = .ok (.bl true) w := by
  unfold s_is_tuple_of m_is_tuple_of runB
  simp [h]
theorem is_step_ok (h : Step n t) (hn : n ≤ 1000) : s__is_step [t, .int n] w = .ok (.bl true) w := by
  obtain ⟨s, a, rfl, h1, h2, h3, h4⟩ := h
  unfold s__is_step m__is_step runB
  have e1 := is_tuple_ok (w := w) (ts := [.int s, .int a]) (n := 2) rfl
  have e2 := is_place_ok (w := w) h1 (by omega) h2
  have e3 := is_count_ok (w := w) h3 h4
  simp [e1, e2, e3]
theorem compL_true {all out : List T} {g : MG} {c : MT} {e : ME} {ρ0 : Env} (hl : out.length + all.length < 16777216) (h : ∀ t ∈ all, ∃ ρ1, g t ρ0 w = .ok ρ1 w ∧ c ρ1 w = .ok true w ∧ e ρ1 w = .ok (.bl true) w) : ∀ whole : List T, compL g c e none whole ρ0 all out w = .ok (out ++ List.replicate all.length (.bl true)) w := by
  induction all generalizing out with
  | nil => intro whole; unfold compL; rw [if_pos kept_none]; simp
  | cons t ts ih =>
    intro whole
    obtain ⟨ρ1, e1, e2, e3⟩ := h t (.head _)
    unfold compL
    rw [if_pos kept_none, e1, bind_ok', e2, bind_ok', if_pos rfl, e3, bind_ok', if_pos (by rw [sizeLine_eq]; simp at hl; omega)]
    rw [ih (by simp at hl ⊢; omega) (fun t ht => h t (.tail _ ht))]
    simp [List.replicate_succ]
theorem rows_first (h : Rows m n rs) (hm : 1 ≤ m) : ∃ ss rest, rs = .tup ss :: rest ∧ (ss.length : Int) = n ∧ ∀ s ∈ ss, Step n s := by
  obtain ⟨h1, h2⟩ := h
  cases rs with
  | nil => simp at h1; omega
  | cons r rs =>
    obtain ⟨ss, rfl, h3, h4⟩ := h2 r (.head _)
    exact ⟨ss, rs, rfl, h3, h4⟩
theorem comp2_steps {rs out : List T} {ρ0 : Env} {a : T} (hρ : ρ0 = [some a, some (.int n), none, none]) (hn : n ≤ 1000) (hl : out.length + rs.length * 1000 < 16777216) (h : ∀ r ∈ rs, Row n r) : ∀ whole : List T, ∃ k, compL2 (mgName 2) mYes (mItems (mVar 2)) [3] (mgName 3) mYes (mDef 2 s__is_step (mCons (mVar 3) (mCons (mVar 1) mNil))) none whole ρ0 rs out w = .ok (out ++ List.replicate k (.bl true)) w := by
  induction rs generalizing out with
  | nil => intro whole; refine ⟨0, ?_⟩; unfold compL2; rw [if_pos kept_none]; simp
  | cons r rs ih =>
    intro whole
    obtain ⟨ss, rfl, h1, h2⟩ := h r (.head _)
    subst hρ
    simp only [List.length_cons] at hl
    have hs : ss.length ≤ 1000 := by omega
    have e := compL_true (w := w) (all := ss) (out := out) (g := mgName 3) (c := mYes) (e := mDef 2 s__is_step (mCons (mVar 3) (mCons (mVar 1) mNil))) (ρ0 := [some a, some (.int n), some (.tup ss), none]) (by omega) (fun t ht => ⟨[some a, some (.int n), some (.tup ss), some t], by simp, rfl, by
      have := is_step_ok (w := w) (h2 t ht) hn
      simp [this]⟩) ss
    obtain ⟨k, ek⟩ := ih (out := out ++ List.replicate ss.length (.bl true)) (by simp; omega) (fun r hr => h r (.tail _ hr)) whole
    refine ⟨ss.length + k, ?_⟩
    unfold compL2
    rw [if_pos kept_none]
    simp [wipeE]
    rw [e, bind_ok', ek]
    rw [List.append_assoc, List.replicate_append_replicate]
theorem is_table_ok (h : Rows m n rs) (hm : 1 ≤ m) (hm' : m ≤ 12) (hn : 1 ≤ n) (hn' : n ≤ 30) : s_is_table [.tup rs] w = .ok (.bl true) w := by
  obtain ⟨ss, rest, er, h1, h2⟩ := rows_first h hm
  obtain ⟨h3, h4⟩ := h
  unfold s_is_table m_is_table runB
  have hf : (rs[(0 : Int).toNat]?) = some (.tup ss) := by rw [er]; rfl
  have ix := sIx_tup (w := w) hf (by decide)
  have e1 := compL_true (w := w) (all := rs) (out := []) (g := mgName 2) (c := mYes) (e := mDef 2 s_is_tuple_of (mCons (mVar 2) (mCons (mVar 1) mNil))) (ρ0 := [some (.tup rs), some (.int n), none, none]) (by simp; omega) (fun t ht => by
    obtain ⟨us, rfl, h5, h6⟩ := h4 t ht
    exact ⟨[some (.tup rs), some (.int n), some (.tup us), none], by simp, rfl, by
      have := is_tuple_ok (w := w) h5
      simp [this]⟩) rs
  obtain ⟨k, e2⟩ := comp2_steps (w := w) (rs := rs) (out := []) (a := .tup rs) (n := n) rfl (by omega) (by simp; omega) h4 rs
  have c1 : 1 ≤ (rs.length : Int) := by omega
  have c2 : (rs.length : Int) ≤ 12 := by omega
  simp [ix, h1, h3, hm, hm', hn, hn', wipeE]
  rw [e1]
  simp [all_true, mComp2, wipeE]
  rw [e2]
  simp [all_true]
theorem check_table_ok (h : Rows m n rs) (hm : 1 ≤ m) (hm' : m ≤ 12) (hn : 1 ≤ n) (hn' : n ≤ 30) : s_check_table [.tup rs] w = .ok .non w := by
  unfold s_check_table m_check_table runB
  have := is_table_ok (w := w) h hm hm' hn hn'
  simp [this]
theorem is_deed_ok (h : Rows m n rs) (hm' : m ≤ 12) (h0 : 0 ≤ i) (hi : i < m) : s_is_deed [.tup rs, .int i] w = .ok (.bl true) w := by
  unfold s_is_deed m_is_deed runB
  have := is_place_ok (w := w) (n := m) h0 (by omega) hi
  simp [h.1, this]
/-! one deed -/
def stepAt (rs : List T) (d s : Int) : Int × Int := match rs[d.toNat]? with
  | some (.tup ss) => match ss[s.toNat]? with
    | some (.tup [.int s', .int a]) => (s', a)
    | _ => (0, 0)
  | _ => (0, 0)
theorem stepAt_ok {d s : Int} (h : Rows m n rs) (h0 : 0 ≤ d) (h1 : d < m) (h2 : 0 ≤ s) (h3 : s < n) : ∃ ss, (∀ w : World, sIx (.tup rs) (.int d) w = .ok (.tup ss) w ∧ sIx (.tup ss) (.int s) w = .ok (.tup [.int (stepAt rs d s).1, .int (stepAt rs d s).2]) w) ∧ 0 ≤ (stepAt rs d s).1 ∧ (stepAt rs d s).1 < n ∧ 0 ≤ (stepAt rs d s).2 ∧ (stepAt rs d s).2 ≤ 999999999999999999 := by
  obtain ⟨h4, h5⟩ := h
  have hd : d.toNat < rs.length := by omega
  have e1 : rs[d.toNat]? = some rs[d.toNat] := by simp [hd]
  obtain ⟨ss, e2, h6, h7⟩ := h5 rs[d.toNat] (by simp)
  have hs : s.toNat < ss.length := by omega
  have e3 : ss[s.toNat]? = some ss[s.toNat] := by simp [hs]
  obtain ⟨s', a, e4, q⟩ := h7 ss[s.toNat] (by simp)
  have e : stepAt rs d s = (s', a) := by
    unfold stepAt
    rw [e1, e2]
    simp only
    rw [e3, e4]
  rw [e]
  refine ⟨ss, fun w => ⟨sIx_tup (by rw [e1, e2]) h0, sIx_tup (by rw [e3, e4]) h2⟩, q⟩
def runAll (rs : List T) : Int → List Int → Int
  | s, [] => s
  | s, d :: ds => runAll rs (stepAt rs d s).1 ds
def answers (rs : List T) : Int → List Int → List Int
  | _, [] => []
  | s, d :: ds => (stepAt rs d s).2 :: answers rs (stepAt rs d s).1 ds
def Deeds (m : Int) (ds : List Int) : Prop := ds.length ≤ 1000 ∧ ∀ d ∈ ds, 0 ≤ d ∧ d < m
theorem run_snoc (rs : List T) : ∀ (ds : List Int) (s d : Int), runAll rs s (ds ++ [d]) = (stepAt rs d (runAll rs s ds)).1
  | [], s, d => rfl
  | e :: ds, s, d => by simp [runAll, run_snoc rs ds]
theorem ans_snoc (rs : List T) : ∀ (ds : List Int) (s d : Int), answers rs s (ds ++ [d]) = answers rs s ds ++ [(stepAt rs d (runAll rs s ds)).2]
  | [], s, d => rfl
  | e :: ds, s, d => by simp [runAll, answers, ans_snoc rs ds]
theorem run_append (rs : List T) : ∀ (ds es : List Int) (s : Int), runAll rs s (ds ++ es) = runAll rs (runAll rs s ds) es
  | [], es, s => rfl
  | d :: ds, es, s => by simp [runAll, run_append rs ds es]
theorem ans_append (rs : List T) : ∀ (ds es : List Int) (s : Int), answers rs s (ds ++ es) = answers rs s ds ++ answers rs (runAll rs s ds) es
  | [], es, s => rfl
  | d :: ds, es, s => by simp [runAll, answers, ans_append rs ds es]
theorem ans_len (rs : List T) : ∀ (ds : List Int) (s : Int), (answers rs s ds).length = ds.length
  | [], s => rfl
  | d :: ds, s => by simp [answers, ans_len rs ds]
theorem run_in (h : Rows m n rs) : ∀ (ds : List Int) (s : Int), (∀ d ∈ ds, 0 ≤ d ∧ d < m) → 0 ≤ s → s < n → 0 ≤ runAll rs s ds ∧ runAll rs s ds < n
  | [], s, _, h1, h2 => ⟨h1, h2⟩
  | d :: ds, s, hd, h1, h2 => by
    obtain ⟨_, _, h3, h4, _⟩ := stepAt_ok h (hd d (.head _)).1 (hd d (.head _)).2 h1 h2
    exact run_in h ds _ (fun d hx => hd d (.tail _ hx)) h3 h4
end
end VS

set_option Elab.async false
set_option linter.all false
set_option maxRecDepth 100000
set_option maxHeartbeats 4000000
namespace VS
open PySem PySem.Spec PyProof.Rows L2
/-! ### values that hold no cell -/
def PlainT (k : Nat) (t : T) : Prop := ∃ d, pd0 t = some d ∧ (∀ w, pd w t = some d) ∧ d.canLay0 = true ∧ d.depth ≤ k
def PlainsT (k : Nat) (ts : List T) : Prop := ∃ ds, pds0 ts = some ds ∧ (∀ w, pds w ts = some ds) ∧ PyData.canLayAll0 ds = true ∧ PyData.depthAll ds ≤ k
theorem plain_int {i : Int} : PlainT 1 (.int i) := ⟨.int i, by simp [pd0], fun w => by simp [pd], rfl, by simp [PyData.depth]⟩
theorem plains_of {k : Nat} : ∀ {ts : List T}, (∀ t ∈ ts, PlainT k t) → PlainsT k ts
  | [], _ => ⟨[], rfl, fun w => by simp [pds], rfl, by simp [PyData.depthAll]⟩
  | t :: ts, h => by
    obtain ⟨d, h1, h2, h3, h4⟩ := h t (.head _)
    obtain ⟨ds, g1, g2, g3, g4⟩ := plains_of (fun s hs => h s (.tail _ hs))
    refine ⟨d :: ds, by simp [pds0, h1, g1], fun w => by simp [pds, h2 w, g2 w], by simp [PyData.canLayAll0, h3, g3], ?_⟩
    simp [PyData.depthAll]
    omega
theorem plain_tup {k : Nat} {ts : List T} (h : ∀ t ∈ ts, PlainT k t) : PlainT (k + 1) (.tup ts) := by
  obtain ⟨ds, g1, g2, g3, g4⟩ := plains_of h
  refine ⟨.tuple ds, by simp [pd0, g1], fun w => by simp [pd, g2 w], by simp [PyData.canLay0, g3], ?_⟩
  simp [PyData.depth]
  omega
theorem plain_mono {k l : Nat} {t : T} (h : PlainT k t) (e : k ≤ l) : PlainT l t := by
  obtain ⟨d, h1, h2, h3, h4⟩ := h
  exact ⟨d, h1, h2, h3, by omega⟩
theorem step_plain {n : Int} {t : T} (h : Step n t) : PlainT 2 t := by
  obtain ⟨s, a, rfl, _⟩ := h
  exact plain_tup (fun t ht => by simp at ht; rcases ht with rfl | rfl <;> exact plain_int)
theorem row_plain {n : Int} {t : T} (h : Row n t) : PlainT 3 t := by
  obtain ⟨ss, rfl, _, h⟩ := h
  exact plain_tup (fun t ht => step_plain (h t ht))
theorem eqvAll_nil : ∀ ds : List PyData, PyData.eqvAll ds [] = decide (ds = [])
  | [] => by simp [PyData.eqvAll]
  | d :: ds => by simp [PyData.eqvAll]
theorem pds0_nil : ∀ {ts : List T} {ds : List PyData}, pds0 ts = some ds → (ds = [] ↔ ts = [])
  | [], ds, h => by cases h; simp
  | t :: ts, ds, h => by
    obtain ⟨d, r, rfl, _, _⟩ := pds0_cons h
    simp
theorem ne_nil {w : World} {k : Nat} {ts : List T} (hk : w[k]? = some (.lst ts)) (h : ∀ t ∈ ts, PlainT 50 t) : sNe (.cell k) (.lst []) w = .ok (.bl (!decide (ts = []))) w := by
  obtain ⟨ds, g1, g2, g3, g4⟩ := plains_of h
  have e : eqT w (.cell k) (.lst []) = some (decide (ts = [])) := by
    rw [eqT_of (d := .list ds) (e := .list []) (by simp [pd, hk, g1]) (by simp [pd, pds]) (by simp [SeqAt.shaped, PyData.canLay0, g3, PyData.depth]; omega) rfl]
    show some (PyData.eqvAll ds []) = _
    rw [eqvAll_nil]
    congr 1
    exact decide_eq_decide.mpr (pds0_nil g1)
  simp [sNe, e]
/-! no cells -/
mutual
theorem flat_of : ∀ {t : T} {d : PyData}, pd0 t = some d → ∀ n, NoRef n t
  | .non, _, _, n => by unfold NoRef; trivial
  | .bl _, _, _, n => by unfold NoRef; trivial
  | .int _, _, _, n => by unfold NoRef; trivial
  | .str _, _, _, n => by unfold NoRef; trivial
  | .ty _, _, _, n => by unfold NoRef; trivial
  | .tup ts, d, h, n => by unfold pd0 at h; obtain ⟨ds, h, _⟩ := map_some h; unfold NoRef; exact flats_of h n
  | .lst ts, d, h, n => by unfold pd0 at h; obtain ⟨ds, h, _⟩ := map_some h; unfold NoRef; exact flats_of h n
  | .frz ts, d, h, n => by unfold pd0 at h; obtain ⟨ds, h, _⟩ := map_some h; unfold NoRef; exact flats_of h n
  | .rng _, d, h, n => by cases h
  | .cell k, d, h, n => by cases h
theorem flats_of : ∀ {ts : List T} {ds : List PyData}, pds0 ts = some ds → ∀ n, NoRefs n ts
  | [], _, _, n => by unfold NoRefs; trivial
  | t :: ts, ds, h, n => by
    obtain ⟨d, r, rfl, h1, h2⟩ := pds0_cons h
    unfold NoRefs
    exact ⟨flat_of h1 n, flats_of h2 n⟩
end
mutual
theorem mapC_id {g : Nat → T} : ∀ {t : T}, NoRef 0 t → mapC g t = t
  | .non, _ => rfl
  | .bl _, _ => rfl
  | .int _, _ => rfl
  | .str _, _ => rfl
  | .ty _, _ => rfl
  | .tup ts, h => by unfold NoRef at h; unfold mapC; rw [mapCs_id h]
  | .lst ts, h => by unfold NoRef at h; unfold mapC; rw [mapCs_id h]
  | .frz ts, h => by unfold NoRef at h; unfold mapC; rw [mapCs_id h]
  | .glb _, _ => rfl
  | .exc _ _ ts, h => by unfold NoRef at h; unfold mapC; rw [mapCs_id h]
  | .dct _ ts, h => by unfold NoRef at h; unfold mapC; rw [mapCs_id h]
  | .rng _, _ => rfl
  | .cell k, h => by unfold NoRef at h; omega
theorem mapCs_id {g : Nat → T} : ∀ {ts : List T}, NoRefs 0 ts → mapCs g ts = ts
  | [], _ => rfl
  | t :: ts, h => by unfold NoRefs at h; unfold mapCs; rw [mapC_id h.1, mapCs_id h.2]
end
theorem fz_id {n : Nat} {w : World} : ∀ (f : Nat) {t : T}, NoRef 0 t → fz n w f t = t
  | 0, t, h => rfl
  | f + 1, t, h => by unfold fz; exact mapC_id h
theorem plain_flat {k : Nat} {t : T} (h : PlainT k t) (n : Nat) : NoRef n t := by obtain ⟨d, h1, _⟩ := h; exact flat_of h1 n
theorem plains_flat {k : Nat} : ∀ {ts : List T}, (∀ t ∈ ts, PlainT k t) → ∀ n, NoRefs n ts
  | [], _, n => by unfold NoRefs; trivial
  | t :: ts, h, n => by unfold NoRefs; exact ⟨plain_flat (h t (.head _)) n, plains_flat (fun s hs => h s (.tail _ hs)) n⟩
theorem ints_flat : ∀ (ns : List Int) (n : Nat), NoRefs n (ns.map T.int)
  | [], n => by unfold NoRefs; trivial
  | i :: ns, n => by simp only [List.map_cons]; unfold NoRefs; exact ⟨by unfold NoRef; trivial, ints_flat ns n⟩
theorem gcok_app {w ex : World} : GcOk w (w ++ ex) := ⟨by simp, fun k c hk h => .inl (by rw [List.getElem?_append_left hk] at h; exact h)⟩
theorem gcok_WD {r r' : Rng} {rest ex : World} : GcOk (WD r rest) (WD r' (rest ++ ex)) := by
  refine ⟨by simp [WD], fun k c hk h => ?_⟩
  match k with
  | 0 =>
    right
    cases h
    exact ints_flat _ _
  | 1 =>
    right
    cases h
    show NoRefs _ [T.cell 0, .lst (r'.cells.map .int), .int r'.left, .int r'.turn]
    unfold NoRefs
    refine ⟨by unfold NoRef; simp [WD], ?_⟩
    unfold NoRefs
    refine ⟨by unfold NoRef; exact ints_flat _ _, ?_⟩
    unfold NoRefs
    refine ⟨by unfold NoRef; trivial, ?_⟩
    unfold NoRefs
    refine ⟨by unfold NoRef; trivial, by unfold NoRefs; trivial⟩
  | k + 2 =>
    left
    have e : (WD r' (rest ++ ex))[k + 2]? = (rest ++ ex)[k]? := rfl
    rw [e] at h
    show rest[k]? = some c
    have hk' : k < rest.length := by simp [WD] at hk; exact hk
    rw [List.getElem?_append_left hk'] at h
    exact h
theorem gc_of {f : Sem} {ds : List T} {w w' w0 : World} {t t' : T} (e : f ds w = .ok t w') (g : GcOk w w') (ht : fz w.length w' 3 t = t') (hn : NoRef w.length t') (hw : w'.take w.length = w0) : gc f ds w = .ok t' w0 := by
  unfold gc
  rw [e]
  unfold gcR
  simp only
  rw [if_pos ⟨g, by rw [ht]; exact hn⟩, ht, hw]
theorem take_WD {r r' : Rng} {rest ex : World} : (WD r' (rest ++ ex)).take (WD r rest).length = WD r' rest := by
  simp [WD]
theorem WD_len {r : Rng} {rest : World} : (WD r rest).length = rest.length + 2 := rfl
/-- a value without cells comes back -/
theorem gc_flat {f : Sem} {ds : List T} {r r' : Rng} {rest ex : World} {t : T} {k : Nat} (e : f ds (WD r rest) = .ok t (WD r' (rest ++ ex))) (h : PlainT k t) : gc f ds (WD r rest) = .ok t (WD r' rest) :=
  gc_of e gcok_WD (fz_id 3 (plain_flat h 0)) (plain_flat h _) take_WD
theorem gc_flat0 {f : Sem} {ds : List T} {w ex : World} {t : T} {k : Nat} (e : f ds w = .ok t (w ++ ex)) (h : PlainT k t) : gc f ds w = .ok t w :=
  gc_of e gcok_app (fz_id 3 (plain_flat h 0)) (plain_flat h _) (by simp)
/-- a list that was made here comes back as it is -/
theorem gc_list {f : Sem} {ds : List T} {r r' : Rng} {rest ex : World} {ts : List T} {k j : Nat} (e : f ds (WD r rest) = .ok (.cell (rest.length + 2 + j)) (WD r' (rest ++ ex))) (hj : ex[j]? = some (.lst ts)) (h : ∀ t ∈ ts, PlainT k t) : gc f ds (WD r rest) = .ok (.lst ts) (WD r' rest) := by
  have hw : (WD r' (rest ++ ex))[rest.length + 2 + j]? = some (.lst ts) := by
    have : rest.length + 2 + j = (rest.length + j) + 2 := by omega
    rw [this]
    show (rest ++ ex)[rest.length + j]? = _
    rw [List.getElem?_append_right (by omega)]
    simpa using hj
  refine gc_of e gcok_WD ?_ (t' := .lst ts) (by unfold NoRef; exact plains_flat h _) take_WD
  unfold fz
  unfold mapC
  rw [if_neg (by rw [WD_len]; omega), hw]
  simp only
  congr 1
  have : ∀ us : List T, (∀ t ∈ us, PlainT k t) → us.map (fz (WD r rest).length (WD r' (rest ++ ex)) 2) = us := fun us => by
    induction us with
    | nil => intro _; rfl
    | cons u us ih =>
      intro h
      rw [List.map_cons, fz_id 2 (plain_flat (h u (.head _)) 0), ih (fun s hs => h s (.tail _ hs))]
  exact this ts h
/-! ### one of several -/
section
variable {r : Rng} {rest : World} {ts : List T} {n : Int}
theorem at_draw {q : Int} (h0 : 0 ≤ q) (h1 : q < (ts.length : Int)) : ∃ t, ts[q.toNat]? = some t ∧ t ∈ ts := by
  have : q.toNat < ts.length := by omega
  exact ⟨ts[q.toNat], by simp [this], List.getElem_mem this⟩
theorem pick_lst (h0 : 0 < ts.length) (h1 : ts.length < 1073741824) (o : Ok 1 r) : ∃ t r', s__law_pick [.cell 1, .lst ts] (WD r rest) = .ok t (WD r' rest) ∧ t ∈ ts ∧ Adv 1 r r' := by
  obtain ⟨q, r', e, q0, q1, a⟩ := draw_ok (rest := rest) (n := ts.length) (by omega) (by omega) o
  obtain ⟨t, ht, hm⟩ := at_draw q0 q1
  refine ⟨t, r', ?_, hm, a⟩
  unfold s__law_pick m__law_pick runB
  simp [e, sIx_lst ht q0]
theorem pick_tup (h0 : 0 < ts.length) (h1 : ts.length < 1073741824) (o : Ok 1 r) : ∃ t r', s__law_pick [.cell 1, .tup ts] (WD r rest) = .ok t (WD r' rest) ∧ t ∈ ts ∧ Adv 1 r r' := by
  obtain ⟨q, r', e, q0, q1, a⟩ := draw_ok (rest := rest) (n := ts.length) (by omega) (by omega) o
  obtain ⟨t, ht, hm⟩ := at_draw q0 q1
  refine ⟨t, r', ?_, hm, a⟩
  unfold s__law_pick m__law_pick runB
  simp [e, sIx_tup ht q0]
end
end VS

set_option Elab.async false
set_option linter.all false
set_option maxRecDepth 100000
set_option maxHeartbeats 4000000
namespace VS
open PySem PySem.Spec PyProof.Rows L2
section
variable {r : Rng} {rest ex : World} {ts : List T} {n : Int} {c : Cell} {j : Nat}
theorem at_WD : (WD r rest)[j + 2]? = rest[j]? := rfl
theorem set_WD : (WD r rest).set (j + 2) c = WD r (rest.set j c) := rfl
theorem at_app : (rest ++ ex)[rest.length + j]? = ex[j]? := by
  rw [List.getElem?_append_right (by omega)]; congr 1; omega
theorem set_app : (rest ++ ex).set (rest.length + j) c = rest ++ ex.set j c := by
  rw [List.set_append_right (s := rest) (h := by omega)]
  congr 2
  omega
theorem wd2 : (WD r (rest ++ ex))[rest.length + 2]? = ex[0]? := (at_WD (j := rest.length)).trans (at_app (j := 0))
theorem wd3 : (WD r (rest ++ ex))[rest.length + 3]? = ex[1]? := (at_WD (j := rest.length + 1)).trans (at_app (j := 1))
theorem ws2 : (WD r (rest ++ ex)).set (rest.length + 2) c = WD r (rest ++ ex.set 0 c) := (set_WD (j := rest.length)).trans (congrArg (WD r) (set_app (j := 0)))
theorem ws3 : (WD r (rest ++ ex)).set (rest.length + 3) c = WD r (rest ++ ex.set 1 c) := (set_WD (j := rest.length + 1)).trans (congrArg (WD r) (set_app (j := 1)))
theorem erase_perm : ∀ {l : List T} {i : Nat} {t : T}, l[i]? = some t → (t :: l.eraseIdx i).Perm l
  | a :: l, 0, t, h => by cases h; exact .refl _
  | a :: l, i + 1, t, h => by
    have := erase_perm (l := l) (i := i) h
    exact (List.Perm.swap a t _).trans (this.cons a)
  | [], i, t, h => by cases h
theorem seq_index {q : Int} {m : Nat} (h0 : 0 ≤ q) (h1 : q < (m : Int)) : seqIndex? q m = some q.toNat := by
  unfold seqIndex?
  have h2 : ¬ q < 0 := by omega
  simp [h0, h1, h2]
abbrev mixEnv (rest : World) (sv : T) : Env := [some (.cell 1), some sv, some (.cell (rest.length + 3)), some (.cell (rest.length + 2))]
theorem mixed_loop {sv : T} {k : Nat} (hk : k ≤ 50) (hp : ∀ t ∈ ts, PlainT k t) (hs : ts.length < 1000000) : ∀ (m : Nat) (left found : List T) (r : Rng) (fuel : Nat), left.length = m → (found ++ left).Perm ts → m < fuel → Ok m r →
    ∃ out r', whl (mTest (mOp2 sNe (mVar 3) (mVal (mLst mNil)))) (mDrop (mMeth sAppend (mVar 2) (mCons (mMeth sPopAt (mVar 3) (mCons (mDef 2 s__law_draw (mCons (mVar 0) (mCons (mCall sLen (mCons (mVar 3) mNil)) mNil))) mNil)) mNil))) fuel (mixEnv rest sv) (WD r (rest ++ [.lst left, .lst found])) = .ok (mixEnv rest sv, .nx) (WD r' (rest ++ [.lst [], .lst out])) ∧ out.Perm ts ∧ Adv m r r'
  | m, left, found, r, 0, hl, pm, hf, o => absurd hf (by omega)
  | 0, left, found, r, fuel + 1, hl, pm, hf, o => by
    have : left = [] := List.eq_nil_of_length_eq_zero hl
    subst this
    have e := ne_nil (w := WD r (rest ++ [.lst [], .lst found])) (k := rest.length + 2) (ts := []) wd2 (fun t ht => nomatch ht)
    refine ⟨found, r, ?_, by simpa using pm, Adv.refl⟩
    unfold whl
    simp [e]
  | m + 1, left, found, r, fuel + 1, hl, pm, hf, o => by
    have hm : ∀ t ∈ left, t ∈ ts := fun t ht => pm.mem_iff.mp (List.mem_append_right _ ht)
    have hlen : found.length + left.length = ts.length := by rw [← List.length_append]; exact pm.length_eq
    have e := ne_nil (w := WD r (rest ++ [.lst left, .lst found])) (k := rest.length + 2) (ts := left) wd2 (fun t ht => plain_mono (hp t (hm t ht)) hk)
    have el := sLen_cell (w := WD r (rest ++ [.lst left, .lst found])) (k := rest.length + 2) (ts := left) wd2
    have hne : left ≠ [] := fun h => by rw [h] at hl; cases hl
    obtain ⟨q, r1, e1, q0, q1, a⟩ := draw_ok (rest := rest ++ [.lst left, .lst found]) (r := r) (n := left.length) (by omega) (by omega) ⟨o.1, by have := o.2; omega⟩
    obtain ⟨t, ht, htm⟩ := at_draw q0 q1
    have e2 : sPopAt (.cell (rest.length + 2)) [.int q] (WD r1 (rest ++ [.lst left, .lst found])) = .ok t (WD r1 (rest ++ [.lst (left.eraseIdx q.toNat), .lst found])) := by
      unfold sPopAt
      simp only [wd2]
      simp only [List.getElem?_cons_zero]
      rw [if_pos ⟨by omega, by omega⟩, seq_index q0 q1]
      simp only [ht, ws2]
      rfl
    have e3 : sAppend (.cell (rest.length + 3)) [t] (WD r1 (rest ++ [.lst (left.eraseIdx q.toNat), .lst found])) = .ok .non (WD r1 (rest ++ [.lst (left.eraseIdx q.toNat), .lst (found ++ [t])])) := by
      rw [append_cell wd3 (by omega), ws3]
      rfl
    have l1 := lst_cell (w := WD r (rest ++ [.lst left, .lst found])) (k := rest.length + 3) (ts := found) wd3
    have l2 := lst_cell (w := WD r (rest ++ [.lst left, .lst found])) (k := rest.length + 2) (ts := left) wd2
    have pe := erase_perm ht
    obtain ⟨out, r2, e4, p4, a4⟩ := mixed_loop hk hp hs m (left.eraseIdx q.toNat) (found ++ [t]) r1 fuel (by have := pe.length_eq; simp at this; omega) (by
      rw [List.append_assoc]
      exact (List.Perm.append_left found pe).trans pm) (by omega) (o.on a m (by omega))
    refine ⟨out, r2, ?_, p4, (a.trans a4).mono (by omega)⟩
    unfold whl
    simp [e, hne, el, l1, l2, e1, e2, e3]
    exact e4
theorem mixed_ok {sv : T} {k : Nat} (hsv : sv = .lst ts ∨ sv = .tup ts) (hk : k ≤ 50) (hp : ∀ t ∈ ts, PlainT k t) (hs : ts.length < 1000000) (o : Ok ts.length r) : ∃ out r', s__law_mixed [.cell 1, sv] (WD r rest) = .ok (.lst out) (WD r' rest) ∧ out.Perm ts ∧ Adv ts.length r r' := by
  obtain ⟨out, r', e, p, a⟩ := mixed_loop (rest := rest) (sv := sv) hk hp hs ts.length ts [] r 1000000 rfl (.refl _) hs o
  refine ⟨out, r', gc_list (ex := [.lst [], .lst out]) (j := 1) ?_ rfl (fun t ht => hp t (p.mem_iff.mp ht)), p, a⟩
  unfold m__law_mixed runB mWhile
  rcases hsv with rfl | rfl
  · simp [WD_len]
    rw [show WD r rest ++ [Cell.lst ts, .lst []] = WD r (rest ++ [Cell.lst ts, .lst []]) from rfl, e]
    simp
  · simp [WD_len]
    rw [show WD r rest ++ [Cell.lst ts, .lst []] = WD r (rest ++ [Cell.lst ts, .lst []]) from rfl, e]
    simp
end
end VS

set_option Elab.async false
set_option linter.all false
set_option maxRecDepth 100000
set_option maxHeartbeats 4000000
namespace VS
open PySem PySem.Spec PyProof.Rows L2
section
variable {r : Rng} {rest : World} {w : World} {all ts : List T} {n m : Int} {g : MG} {c : MT} {e : ME} {b : MS} {ρ0 : Env}
theorem comp_go {P : T → Prop} (h : ∀ t ∈ all, ∃ ρ1 y, g t ρ0 w = .ok ρ1 w ∧ c ρ1 w = .ok true w ∧ e ρ1 w = .ok y w ∧ P y) : ∀ (whole out : List T), out.length + all.length < 16777216 → (∀ y ∈ out, P y) → ∃ out', compL g c e none whole ρ0 all out w = .ok out' w ∧ out'.length = out.length + all.length ∧ ∀ y ∈ out', P y := by
  induction all with
  | nil => intro whole out hl hp; refine ⟨out, ?_, by simp, hp⟩; unfold compL; rw [if_pos kept_none]
  | cons t ts ih =>
    intro whole out hl hp
    obtain ⟨ρ1, y, e1, e2, e3, py⟩ := h t (.head _)
    obtain ⟨out', e4, l4, p4⟩ := ih (fun t ht => h t (.tail _ ht)) whole (out ++ [y]) (by simp at hl ⊢; omega) (fun x hx => by
      rcases List.mem_append.mp hx with hx | hx
      · exact hp x hx
      · simp at hx; subst hx; exact py)
    refine ⟨out', ?_, by simp at l4 ⊢; omega, p4⟩
    unfold compL
    rw [if_pos kept_none, e1, bind_ok', e2, bind_ok', if_pos rfl, e3, bind_ok', if_pos (by rw [sizeLine_eq]; simp at hl; omega), e4]
theorem comp_ex (P : T → Prop) (hl : all.length < 16777216) (h : ∀ t ∈ all, ∃ ρ1 y, g t ρ0 w = .ok ρ1 w ∧ c ρ1 w = .ok true w ∧ e ρ1 w = .ok y w ∧ P y) : ∃ out, compL g c e none all ρ0 all [] w = .ok out w ∧ out.length = all.length ∧ ∀ y ∈ out, P y := by
  obtain ⟨out, e1, l1, p1⟩ := comp_go h all [] (by simpa using hl) (fun _ h => nomatch h)
  exact ⟨out, e1, by simpa using l1, p1⟩
theorem comp_adv_go {P : T → Prop} {k : Int} (hk : 0 ≤ k) (h : ∀ t ∈ all, ∀ r', Ok k r' → ∃ ρ1 y r'', g t ρ0 (WD r' rest) = .ok ρ1 (WD r' rest) ∧ c ρ1 (WD r' rest) = .ok true (WD r' rest) ∧ e ρ1 (WD r' rest) = .ok y (WD r'' rest) ∧ P y ∧ Adv k r' r'') : ∀ (whole out : List T) (r : Rng), out.length + all.length < 16777216 → (∀ y ∈ out, P y) → Ok (k * all.length) r → ∃ out' r', compL g c e none whole ρ0 all out (WD r rest) = .ok out' (WD r' rest) ∧ out'.length = out.length + all.length ∧ (∀ y ∈ out', P y) ∧ Adv (k * all.length) r r' := by
  induction all with
  | nil => intro whole out r hl hp o; refine ⟨out, r, ?_, by simp, hp, Adv.refl.mono (by simp)⟩; unfold compL; rw [if_pos kept_none]
  | cons t ts ih =>
    intro whole out r hl hp o
    have hmul : k * ((t :: ts).length : Int) = k + k * ts.length := by rw [List.length_cons]; push_cast; rw [Int.mul_add]; omega
    have hnn : 0 ≤ k * (ts.length : Int) := Int.mul_nonneg hk (by omega)
    rw [hmul] at o ⊢
    obtain ⟨ρ1, y, r1, e1, e2, e3, py, a1⟩ := h t (.head _) r ⟨o.1, by have := o.2; omega⟩
    obtain ⟨out', r2, e4, l4, p4, a4⟩ := ih (fun t ht => h t (.tail _ ht)) whole (out ++ [y]) r1 (by simp at hl ⊢; omega) (fun x hx => by
      rcases List.mem_append.mp hx with hx | hx
      · exact hp x hx
      · simp at hx; subst hx; exact py) (o.on a1 _ (by omega))
    refine ⟨out', r2, ?_, by simp at l4 ⊢; omega, p4, a1.trans a4⟩
    unfold compL
    rw [if_pos kept_none, e1, bind_ok', e2, bind_ok', if_pos rfl, e3, bind_ok', if_pos (by rw [sizeLine_eq]; simp at hl; omega), e4]
theorem comp_adv (P : T → Prop) (k : Int) (hk : 0 ≤ k) (hl : all.length < 16777216) (o : Ok (k * all.length) r) (h : ∀ t ∈ all, ∀ r', Ok k r' → ∃ ρ1 y r'', g t ρ0 (WD r' rest) = .ok ρ1 (WD r' rest) ∧ c ρ1 (WD r' rest) = .ok true (WD r' rest) ∧ e ρ1 (WD r' rest) = .ok y (WD r'' rest) ∧ P y ∧ Adv k r' r'') : ∃ out r', compL g c e none all ρ0 all [] (WD r rest) = .ok out (WD r' rest) ∧ out.length = all.length ∧ (∀ y ∈ out, P y) ∧ Adv (k * all.length) r r' := by
  obtain ⟨out, r', e1, l1, p1, a⟩ := comp_adv_go hk h all [] r (by simpa using hl) (fun _ h => nomatch h) o
  exact ⟨out, r', e1, by simpa using l1, p1, a⟩
theorem rgT_mem {k : Nat} {t : T} (h : t ∈ rgT 0 k) : ∃ i : Int, t = .int i ∧ 0 ≤ i ∧ i < k := by
  unfold rgT at h
  obtain ⟨i, hi, rfl⟩ := List.mem_map.mp h
  exact ⟨0 + (i : Int), rfl, by omega, by have := List.mem_range.mp hi; omega⟩
/-- a list of states -/
def IRow (n : Int) (t : T) : Prop := ∃ us, t = .lst us ∧ (us.length : Int) = n ∧ ∀ u ∈ us, ∃ x : Int, u = .int x ∧ 0 ≤ x ∧ x < n
theorem rows_snoc {t : T} (h : Rows m n ts) (ht : Row n t) : Rows (m + 1) n (ts ++ [t]) := ⟨by have := h.1; simp; omega, fun x hx => by
  rcases List.mem_append.mp hx with hx | hx
  · exact h.2 x hx
  · simp at hx; subst hx; exact ht⟩
end
end VS

set_option Elab.async false
set_option linter.all false
set_option maxRecDepth 100000
set_option maxHeartbeats 4000000
namespace VS
open PySem PySem.Spec PyProof.Rows L2
section
variable {r : Rng} {rest : World} {m n : Int} {ts rs : List T}
theorem snocAll {α : Type} {P : α → Prop} {l : List α} {x : α} (h : ∀ y ∈ l, P y) (hx : P x) : ∀ y ∈ l ++ [x], P y := fun y hy => by
  rcases List.mem_append.mp hy with hy | hy
  · exact h y hy
  · simp at hy; subst hy; exact hx
theorem rgTat {k i : Nat} {t : T} (h : (rgT 0 k)[i]? = some t) : t = .int (i : Int) ∧ i < k := by
  unfold rgT at h
  rw [List.getElem?_map] at h
  cases q : (List.range k)[i]? with
  | none => rw [q] at h; cases h
  | some j =>
    rw [q] at h
    have hi := (List.getElem?_eq_some_iff.mp q).1
    rw [List.getElem?_range (by simpa using hi)] at q
    cases q
    cases h
    exact ⟨by simp, by simpa using hi⟩
/-- a step drawn -/
theorem step_drawn {x1 x2 x3 x5 : Option T} (hn : 1 ≤ n) (hn' : n ≤ 4) (o : Ok 2 r) : ∃ y r', (mTup (mCons (mDef 2 s__law_draw (mCons (mVar 0) (mCons (mVar 4) mNil))) (mCons (mDef 2 s__law_draw (mCons (mVar 0) (mCons (mC (.int 4)) mNil))) mNil))) [some (.cell 1), x1, x2, x3, some (.int n), x5] (WD r rest) = .ok y (WD r' rest) ∧ Step n y ∧ Adv 2 r r' := by
  obtain ⟨a, r1, e1, a0, a1, b1⟩ := draw_ok (rest := rest) (r := r) (n := n) (by omega) (by omega) (o.on Adv.refl 1 (by omega))
  obtain ⟨b, r2, e2, c0, c1, b2⟩ := draw_ok (rest := rest) (r := r1) (n := 4) (by decide) (by decide) (o.on b1 1 (by omega))
  exact ⟨.tup [.int a, .int b], r2, by simp [e1, e2, two_le], ⟨a, b, rfl, a0, a1, c0, by omega⟩, b1.trans b2⟩
theorem rows_drawn {x2 x5 : Option T} (hn : 1 ≤ n) (hn' : n ≤ 4) (hm0 : 0 ≤ m) (hm : m ≤ 4) (o : Ok 32 r) :
    ∃ ρ' w', forL (mgName 2) (mDrop (mMeth sAppend (mVar 1) (mCons (mCall sTup (mCons (mVal (mComp [5] (mRange1 (mCons (mVar 4) mNil)) (mgName 5) mYes (mTup (mCons (mDef 2 s__law_draw (mCons (mVar 0) (mCons (mVar 4) mNil))) (mCons (mDef 2 s__law_draw (mCons (mVar 0) (mCons (mC (.int 4)) mNil))) mNil))))) mNil)) mNil))) none (rgT 0 m.toNat) (rgT 0 m.toNat) [some (.cell 1), some (.cell (rest.length + 2)), x2, some (.int m), some (.int n), x5] (WD r (rest ++ [.lst []])) = .ok (ρ', .nx) w' ∧ ∃ out r', w' = WD r' (rest ++ [.lst out]) ∧ Rows m n out ∧ Adv 32 r r' ∧ ∃ x2 x5, ρ' = [some (.cell 1), some (.cell (rest.length + 2)), x2, some (.int m), some (.int n), x5] := by
  obtain ⟨ρ', w', e, out, r', rfl, lo, po, a, y2, y5, rfl⟩ := forL_run (P := fun i ρ w' => ∃ out r', w' = WD r' (rest ++ [.lst out]) ∧ out.length = i ∧ (∀ u ∈ out, Row n u) ∧ Adv (8 * (i : Int)) r r' ∧ ∃ x2 x5, ρ = [some (.cell 1), some (.cell (rest.length + 2)), x2, some (.int m), some (.int n), x5]) (g := mgName 2)
    (b := mDrop (mMeth sAppend (mVar 1) (mCons (mCall sTup (mCons (mVal (mComp [5] (mRange1 (mCons (mVar 4) mNil)) (mgName 5) mYes (mTup (mCons (mDef 2 s__law_draw (mCons (mVar 0) (mCons (mVar 4) mNil))) (mCons (mDef 2 s__law_draw (mCons (mVar 0) (mCons (mC (.int 4)) mNil))) mNil))))) mNil)) mNil))) (all := rgT 0 m.toNat) (w := WD r (rest ++ [.lst []])) (ρ := [some (.cell 1), some (.cell (rest.length + 2)), x2, some (.int m), some (.int n), x5])
    ⟨[], r, rfl, rfl, (fun _ h => nomatch h), Adv.refl.mono (by omega), _, _, rfl⟩ (fun i t ρ w' ht p => by
      obtain ⟨out, r', rfl, lo, po, a, y2, y5, rfl⟩ := p
      obtain ⟨rfl, hi⟩ := rgTat ht
      obtain ⟨vs, r2, e3, l3, p3, a3⟩ := comp_adv (r := r') (rest := rest ++ [.lst out]) (all := rgT 0 n.toNat) (g := mgName 5) (c := mYes) (e := mTup (mCons (mDef 2 s__law_draw (mCons (mVar 0) (mCons (mVar 4) mNil))) (mCons (mDef 2 s__law_draw (mCons (mVar 0) (mCons (mC (.int 4)) mNil))) mNil))) (ρ0 := [some (.cell 1), some (.cell (rest.length + 2)), some (.int (i : Int)), some (.int m), some (.int n), none]) (Step n) 2 (by decide) (by rw [rgT_length]; omega) (by rw [rgT_length]; exact o.on a _ (by omega)) (fun t ht r' o' => by
        obtain ⟨y, r'', e, s, a⟩ := step_drawn (rest := rest ++ [.lst out]) (n := n) (x1 := some (.cell (rest.length + 2))) (x2 := some (.int (i : Int))) (x3 := some (.int m)) (x5 := some t) hn hn' o'
        exact ⟨[some (.cell 1), some (.cell (rest.length + 2)), some (.int (i : Int)), some (.int m), some (.int n), some t], y, r'', by simp, rfl, e, s, a⟩)
      rw [rgT_length] at l3 a3
      have hf1 : (WD r' (rest ++ [.lst out]))[rest.length + 2]? = some (.lst out) := wd2
      have hf : (WD r2 (rest ++ [.lst out]))[rest.length + 2]? = some (.lst out) := wd2
      have hap := append_cell (t := .tup vs) hf (by omega)
      rw [ws2] at hap
      simp only [mVal_, mComp_, mRange1_, mCons_, mNil_, mVar0, mVarS, bind_ok', mgName_, List.set_cons_zero, List.set_cons_succ, sRange1_ (n := n) (by omega) (by omega), wipeE, e3, noX_ok, mDrop_, mMeth_, lst_cell hf1, mCall_, sTup_lst, hap]
      exact ⟨_, _, rfl, out ++ [.tup vs], r2, rfl, by simp; omega, snocAll po ⟨vs, rfl, by omega, p3⟩, (a.trans a3).mono (by omega), _, _, rfl⟩)
  rw [rgT_length] at lo a
  exact ⟨_, _, e, out, r', rfl, ⟨by omega, po⟩, a.mono (by omega), _, _, rfl⟩
theorem table_drawn (o : Ok 34 r) : ∃ rs m n r', s__law_hi_table [.cell 1] (WD r rest) = .ok (.tup rs) (WD r' rest) ∧ Rows m n rs ∧ 1 ≤ m ∧ m ≤ 4 ∧ 1 ≤ n ∧ n ≤ 4 ∧ Adv 34 r r' := by
  obtain ⟨a, r1, e1, a0, a1, b1⟩ := draw_ok (rest := rest) (r := r) (n := 4) (by omega) (by omega) (o.on Adv.refl 1 (by omega))
  obtain ⟨b, r2, e2, c0, c1, b2⟩ := draw_ok (rest := rest) (r := r1) (n := 4) (by decide) (by decide) (o.on b1 1 (by omega))
  obtain ⟨ρ', w', e3, out, r3, rfl, R, a3, y2, y5, rfl⟩ := rows_drawn (r := r2) (rest := rest) (m := 1 + a) (n := 1 + b) (x2 := none) (x5 := none) (by omega) (by omega) (by omega) (by omega) (o.on (b1.trans b2) 32 (by omega))
  refine ⟨out, 1 + a, 1 + b, r3, gc_flat (ex := [.lst out]) (k := 4) ?_ (plain_tup fun t ht => row_plain (R.2 t ht)), R, by omega, by omega, by omega, by omega, ((b1.trans b2).trans a3).mono (by omega)⟩
  unfold m__law_hi_table runB
  have l0 : lst? (WD r3 (rest ++ [.lst out])) (.cell (rest.length + 2)) = some out := lst_cell wd2
  simp [e1, e2, two_le, WD_len, sRange1_ (n := 1 + a) (w := WD r2 (rest ++ [.lst []])) (by omega) (by omega)]
  rw [show WD r2 rest ++ [Cell.lst []] = WD r2 (rest ++ [Cell.lst []]) from rfl, sRange1_ (n := 1 + a) (by omega) (by omega)]
  simp [e3]
  rw [sTup_cell wd2]
  rfl
end
end VS

set_option Elab.async false
set_option linter.all false
set_option maxRecDepth 100000
set_option maxHeartbeats 4000000
namespace VS
open PySem PySem.Spec PyProof.Rows L2
/-! ### calls -/
structure Cl where
  hand : Int
  beg : Int
  fin : Option Int
  deed : Int
  ans : Option Int
def optT : Option Int → T | none => .non | some i => .int i
def clT (c : Cl) : T := .tup [.int c.hand, .int c.beg, optT c.fin, .int c.deed, optT c.ans]
def ahead (c d : Cl) : Bool := match c.fin with | none => false | some e => decide (e < d.beg)
structure ClOk (m : Int) (c : Cl) : Prop where
  h0 : 0 ≤ c.hand
  h1 : c.hand < 6
  b0 : 0 ≤ c.beg
  b1 : c.beg ≤ 999999999999999999
  d0 : 0 ≤ c.deed
  d1 : c.deed < m
  open_ : c.fin = none → c.ans = none
  over : ∀ e, c.fin = some e → c.beg < e ∧ e ≤ 999999999999999999 ∧ ∃ a, c.ans = some a ∧ 0 ≤ a ∧ a ≤ 999999999999999999
section
variable {w : World} {c d : Cl} {m n i : Int} {rs ts : List T}
theorem ahead_ok : s_goes_ahead [clT c, clT d] w = .ok (.bl (ahead c d)) w := by
  unfold s_goes_ahead m_goes_ahead runB
  have i2 : sIx (clT c) (.int 2) w = .ok (optT c.fin) w := sIx_tup rfl (by decide)
  have i1 : sIx (clT d) (.int 1) w = .ok (.int d.beg) w := sIx_tup rfl (by decide)
  cases h : c.fin with
  | none => rw [h] at i2; simp [show sIx (clT c) (.int 2) w = .ok .non w from i2, i1, ahead, h, sIsNot, isNon]
  | some e => rw [h] at i2; simp [show sIx (clT c) (.int 2) w = .ok (.int e) w from i2, i1, ahead, h, sIsNot, isNon]
theorem lahead_ok : s__law_hi_ahead [clT c, clT d] w = .ok (.bl (ahead c d)) w := by
  unfold s__law_hi_ahead m__law_hi_ahead runB
  have i2 : sIx (clT c) (.int 2) w = .ok (optT c.fin) w := sIx_tup rfl (by decide)
  have i1 : sIx (clT d) (.int 1) w = .ok (.int d.beg) w := sIx_tup rfl (by decide)
  cases h : c.fin with
  | none => rw [h] at i2; simp [show sIx (clT c) (.int 2) w = .ok .non w from i2, i1, ahead, h, sIsNot, isNon]
  | some e => rw [h] at i2; simp [show sIx (clT c) (.int 2) w = .ok (.int e) w from i2, i1, ahead, h, sIsNot, isNon]
theorem is_call_ok (R : Rows m n rs) (hm : m ≤ 12) (h : ClOk m c) : s__is_call [.tup rs, clT c] w = .ok (.bl true) w := by
  unfold s__is_call m__is_call runB
  have e1 := is_tuple_ok (w := w) (ts := [.int c.hand, .int c.beg, optT c.fin, .int c.deed, optT c.ans]) (n := 5) rfl
  have e2 := is_place_ok (w := w) h.h0 (by have := h.h1; omega) h.h1
  have e3 := is_count_ok (w := w) h.b0 h.b1
  have e4 := is_deed_ok (w := w) R hm h.d0 h.d1
  cases hf : c.fin with
  | none =>
    have := h.open_ hf
    rw [hf, this] at e1
    simp only [optT] at e1
    simp [sIs, isNon, clT, e1, e2, e3, e4, hf, this, optT]
  | some e =>
    obtain ⟨f1, f2, a, ha, a0, a1⟩ := h.over e hf
    have e5 := is_count_ok (w := w) (i := e) (by have := h.b0; omega) f2
    have e6 := is_count_ok (w := w) a0 a1
    rw [hf, ha] at e1
    simp only [optT] at e1
    simp [sIs, isNon, clT, e1, e2, e3, e4, hf, ha, optT, e5, e6, f1]
end
end VS

set_option Elab.async false
set_option linter.all false
set_option maxRecDepth 100000
set_option maxHeartbeats 4000000
namespace VS
open PySem PySem.Spec PyProof.Rows L2
/-! ### the moments of a history -/
def moms (cs : List Cl) : List Int := cs.map (·.beg) ++ (cs.filter (·.fin.isSome)).map fun c => c.fin.getD 0
def itB : T → T | .tup (_ :: b :: _) => b | _ => .non
def itE : T → T | .tup (_ :: _ :: e :: _) => e | _ => .non
def opn : T → Bool | .non => false | _ => true
theorem map_begs (cs : List Cl) : (cs.map clT).map itB = (cs.map (·.beg)).map T.int := by simp [Function.comp_def, itB, clT]
theorem map_ends : ∀ cs : List Cl, ((cs.map clT).filter fun t => opn (itE t)).map itE = ((cs.filter (·.fin.isSome)).map fun c => c.fin.getD 0).map T.int
  | [] => rfl
  | c :: cs => by
    have ih := map_ends cs
    cases h : c.fin with
    | none => simpa [List.filter_cons, h, itE, clT, opn, optT] using ih
    | some e => simpa [List.filter_cons, h, itE, clT, opn, optT] using ih
theorem map_moms (cs : List Cl) : (cs.map clT).map itB ++ ((cs.map clT).filter fun t => opn (itE t)).map itE = (moms cs).map T.int := by
  rw [map_begs, map_ends, moms, List.map_append]
theorem moms_len (cs : List Cl) : (moms cs).length ≤ 2 * cs.length := by
  unfold moms
  have := List.length_filter_le (fun c : Cl => c.fin.isSome) cs
  simp
  omega
theorem intsOf : ∀ ns : List Int, intsT (ns.map T.int) = some ns
  | [] => rfl
  | n :: ns => by show (intsT (ns.map T.int)).map _ = _; rw [intsOf ns]; rfl
section
variable {w : World} {cs : List Cl}
theorem begs_comp {x y : Option T} (hl : cs.length ≤ 100) : compL (mgName 2) mYes (mOp2 sIx (mVar 2) (mC (.int 1))) none (cs.map clT) [x, y, none] (cs.map clT) [] w = .ok ((cs.map clT).map itB) w :=
  compL_map itB (by simp; omega) fun t ht => by
    obtain ⟨c, _, rfl⟩ := List.mem_map.mp ht
    refine ⟨[x, y, some (clT c)], by simp, rfl, ?_⟩
    have : sIx (clT c) (.int 1) w = .ok (.int c.beg) w := sIx_tup rfl (by decide)
    rw [show itB (clT c) = .int c.beg from rfl]; simp [this]
theorem ends_comp {x y : Option T} (hl : cs.length ≤ 100) : compL (mgName 2) (mTest (mOp2 sIsNot (mOp2 sIx (mVar 2) (mC (.int 2))) (mC .non))) (mOp2 sIx (mVar 2) (mC (.int 2))) none (cs.map clT) [x, y, none] (cs.map clT) [] w = .ok (((cs.map clT).filter fun t => opn (itE t)).map itE) w :=
  compL_filter (fun t => opn (itE t)) itE (by simp; omega) fun t ht => by
    obtain ⟨c, _, rfl⟩ := List.mem_map.mp ht
    have : sIx (clT c) (.int 2) w = .ok (optT c.fin) w := sIx_tup rfl (by decide)
    refine ⟨[x, y, some (clT c)], by simp, ?_, fun _ => ?_⟩
    · cases h : c.fin with
      | none => rw [h] at this; simp only [optT] at this; rw [show itE (clT c) = optT c.fin from rfl, h]; simp [this, opn, optT, sIsNot, isNon]
      | some e => rw [h] at this; simp only [optT] at this; rw [show itE (clT c) = optT c.fin from rfl, h]; simp [this, opn, optT, sIsNot, isNon]
    · rw [show itE (clT c) = optT c.fin from rfl]; simp [this]
theorem moms_ok {L : T} (hL : L = .lst (cs.map clT) ∨ L = .tup (cs.map clT)) (hl : cs.length ≤ 100) : s__have_unlike_moments [L] w = .ok (.bl (decide (unlike (moms cs) = (moms cs).length))) w := by
  have e1 := begs_comp (w := w) (x := some L) (y := none) hl
  have e2 := ends_comp (w := w) (x := some L) (y := none) hl
  have e3 := map_moms cs
  have h4 : (moms cs).length ≤ 4000 := by have := moms_len cs; omega
  have h5 : ((cs.map clT).map itB ++ ((cs.map clT).filter fun t => opn (itE t)).map itE).length ≤ sizeLine := by
    rw [e3, List.length_map, sizeLine_eq]; omega
  obtain ⟨A, eA⟩ : ∃ A, A = (cs.map clT).map itB := ⟨_, rfl⟩
  obtain ⟨B, eB⟩ : ∃ B, B = ((cs.map clT).filter fun t => opn (itE t)).map itE := ⟨_, rfl⟩
  rw [← eA] at e1 e3 h5
  rw [← eB] at e2 e3 h5
  unfold s__have_unlike_moments m__have_unlike_moments runB
  have h6 : A.length + B.length ≤ sizeLine := by rw [← List.length_append]; exact h5
  rcases hL with rfl | rfl
  all_goals
    simp only [List.map_cons, List.map_nil, List.length_cons, List.length_nil, Nat.reduceAdd, Nat.reduceSub, List.replicate_succ, List.replicate_zero, List.cons_append, List.nil_append, mSeq_, mAsg_, mVal_, mOp2F_, mComp_, mItems_, mVar0, mVarS, bind_ok', wipeE, e1, e2, noX_ok]
    simp [e1, e2, sCat, lst?, h6, e3, mLenSet, intsOf, h4, wipeE]
    omega
end
end VS

set_option Elab.async false
set_option linter.all false
set_option maxRecDepth 100000
set_option maxHeartbeats 4000000
namespace VS
open PySem PySem.Spec PyProof.Rows L2
section
variable {w : World} {all out : List T} {g g1 : MG} {c c1 : MT} {e : ME} {it1 : MI} {vs1 : List Nat} {ρ0 : Env}
theorem compL_filter_from (p : T → Bool) (f : T → T) (hl : out.length + all.length < 16777216) (h : ∀ t ∈ all, ∃ ρ1, g t ρ0 w = .ok ρ1 w ∧ c ρ1 w = .ok (p t) w ∧ (p t = true → e ρ1 w = .ok (f t) w)) : ∀ whole : List T, compL g c e none whole ρ0 all out w = .ok (out ++ (all.filter p).map f) w := by
  induction all generalizing out with
  | nil => intro whole; unfold compL; rw [if_pos kept_none]; simp
  | cons t ts ih =>
    intro whole
    obtain ⟨ρ1, e1, e2, e3⟩ := h t (.head _)
    have h' : ∀ t ∈ ts, ∃ ρ1, g t ρ0 w = .ok ρ1 w ∧ c ρ1 w = .ok (p t) w ∧ (p t = true → e ρ1 w = .ok (f t) w) := fun t ht => h t (.tail _ ht)
    unfold compL
    rw [if_pos kept_none, e1, bind_ok', e2, bind_ok']
    cases hp : p t with
    | true =>
      rw [if_pos rfl, e3 hp, bind_ok', if_pos (by rw [sizeLine_eq]; simp at hl; omega), ih (by simp at hl ⊢; omega) h']
      simp [List.filter_cons, hp]
    | false =>
      rw [if_neg Bool.false_ne_true, ih (by simp at hl ⊢; omega) h']
      simp [List.filter_cons, hp]
theorem compL2_flat (F : T → List T) (N : Nat) (hl : out.length + all.length * N < 16777216)
    (h : ∀ t ∈ all, ∃ ρ1 us, g t ρ0 w = .ok ρ1 w ∧ c ρ1 w = .ok true w ∧ it1 ρ1 w = .ok (us, none) w ∧ (F t).length ≤ N ∧ ∀ out : List T, out.length + N < 16777216 → compL g1 c1 e none us (wipeE ρ1 vs1) us out w = .ok (out ++ F t) w) : ∀ whole : List T, compL2 g c it1 vs1 g1 c1 e none whole ρ0 all out w = .ok (out ++ all.flatMap F) w := by
  induction all generalizing out with
  | nil => intro whole; unfold compL2; rw [if_pos kept_none]; simp
  | cons t ts ih =>
    intro whole
    obtain ⟨ρ1, us, e1, e2, e3, hn, e4⟩ := h t (.head _)
    simp only [List.length_cons, Nat.add_mul, Nat.one_mul] at hl
    have hlt : out.length + N < 16777216 := by
      have := Nat.zero_le (ts.length * N)
      omega
    unfold compL2
    rw [if_pos kept_none, e1, bind_ok', e2, bind_ok', if_pos rfl, e3, bind_ok']
    simp only
    rw [e4 out hlt, bind_ok', ih (by simp; omega) (fun t ht => h t (.tail _ ht))]
    simp
end
end VS

set_option Elab.async false
set_option linter.all false
set_option maxRecDepth 100000
set_option maxHeartbeats 4000000
namespace VS
open PySem PySem.Spec PyProof.Rows L2
/-! ### calls of one hand, one behind another -/
@[simp] theorem mSlQ_ {a : ME} {lo hi : MO} {ρ : Env} {w : World} : mSlQ a lo hi ρ w = (a ρ w).bind fun t w1 => (lo ρ w1).bind fun l w2 => (hi ρ w2).bind fun u w3 => match t with
  | .tup ts => .ok (.tup (cutT ts l u)) w3
  | t => match lst? w3 t with
    | some ts => .ok (.lst (cutT ts l u)) w3
    | none => .no := rfl
def toOpt : T → Option Int | .int i => some i | _ => none
def toCl : T → Cl | .tup [.int h, .int b, e, .int d, a] => ⟨h, b, toOpt e, d, toOpt a⟩ | _ => ⟨0, 0, none, 0, none⟩
theorem toOpt_opt (o : Option Int) : toOpt (optT o) = o := by cases o <;> rfl
theorem toCl_cl (c : Cl) : toCl (clT c) = c := by simp [toCl, clT, toOpt_opt]
def okP : T → Bool | .tup [x, y] => ahead (toCl x) (toCl y) || ahead (toCl y) (toCl x) | _ => true
def prF (ts : List T) : T → List T
  | .tup [.int k, x] => ((ts.take k.toNat).filter fun y => decide ((toCl x).hand = (toCl y).hand)).map fun y => .tup [x, y]
  | _ => []
def prs (cs : List Cl) : List T := (enT 0 (cs.map clT)).flatMap (prF (cs.map clT))
def behind (cs : List Cl) : Bool := (prs cs).all okP
theorem enT_in : ∀ (ts : List T) (i : Nat) (t : T), t ∈ enT i ts → ∃ (k : Nat) (x : T), t = .tup [.int ((k : Nat) : Int), x] ∧ i ≤ k ∧ k < i + ts.length ∧ x ∈ ts
  | [], i, t, h => nomatch h
  | u :: ts, i, t, h => by
    unfold enT at h
    rcases List.mem_cons.mp h with rfl | h
    · exact ⟨i, u, rfl, Nat.le_refl _, by simp, .head _⟩
    · obtain ⟨k, x, rfl, h1, h2, h3⟩ := enT_in ts (i + 1) t h
      exact ⟨k, x, rfl, by omega, by simp; omega, .tail _ h3⟩
theorem cut_to {ts : List T} {k : Nat} (h : k ≤ ts.length) : cutT ts none (some (k : Int)) = ts.take k := by
  unfold cutT
  have e1 : HT.sIx ts.length 0 none = 0 := rfl
  have e2 : HT.sIx ts.length ts.length (some (k : Int)) = k := by rw [HT.sIx_nat]; omega
  rw [e1, e2]
  simp
theorem blsMap (f : T → Bool) : ∀ ts : List T, blsT (ts.map fun t => .bl (f t)) = some (ts.map f)
  | [] => rfl
  | t :: ts => by simp [blsT, blsMap f ts]
theorem prF_len (ts : List T) (t : T) (h : ts.length ≤ 100) : (prF ts t).length ≤ 100 := by
  unfold prF
  split
  · rename_i k x
    rw [List.length_map]
    have h1 := List.length_filter_le (fun y => decide ((toCl x).hand = (toCl y).hand)) (ts.take k.toNat)
    have h2 := List.length_take_le k.toNat ts
    have h3 := List.length_take_le' k.toNat ts
    omega
  · simp
section
variable {w : World} {cs : List Cl}
theorem pairs_comp {L : T} (hL : L = .lst (cs.map clT) ∨ L = .tup (cs.map clT)) (hl : cs.length ≤ 100) {y1 : Option T} :
    compL2 (mgTup 2 (mgCons (mgName 2) (mgCons (mgName 3) mgNil))) mYes (mItems (mSlQ (mVar 0) mNoPart (mPart (mVar 2)))) [4] (mgName 4) (mTest (mOp2 sEq (mOp2 sIx (mVar 3) (mC (.int 0))) (mOp2 sIx (mVar 4) (mC (.int 0))))) (mTup (mCons (mVar 3) (mCons (mVar 4) mNil))) none (enT 0 (cs.map clT)) [some L, y1, none, none, none] (enT 0 (cs.map clT)) [] w = .ok (prs cs) w := by
  have := compL2_flat (w := w) (all := enT 0 (cs.map clT)) (out := []) (g := mgTup 2 (mgCons (mgName 2) (mgCons (mgName 3) mgNil))) (c := mYes) (it1 := mItems (mSlQ (mVar 0) mNoPart (mPart (mVar 2)))) (vs1 := [4]) (g1 := mgName 4) (c1 := mTest (mOp2 sEq (mOp2 sIx (mVar 3) (mC (.int 0))) (mOp2 sIx (mVar 4) (mC (.int 0))))) (e := mTup (mCons (mVar 3) (mCons (mVar 4) mNil))) (ρ0 := [some L, y1, none, none, none]) (prF (cs.map clT)) 100 (by rw [enT_len]; simp; omega) (fun t ht => by
    obtain ⟨k, x, rfl, _, hk, hx⟩ := enT_in _ _ _ ht
    obtain ⟨c, hc, rfl⟩ := List.mem_map.mp hx
    have hk' : k ≤ (cs.map clT).length := by omega
    refine ⟨[some L, y1, some (.int k), some (clT c), none], (cs.map clT).take k, by simp, rfl, ?_, prF_len _ _ (by simpa using hl), fun out ho => ?_⟩
    · rcases hL with rfl | rfl
      · simp [lst?, cut_to hk', sItems, items]
      · simp [cut_to hk', sItems, items]
    · have e := compL_filter_from (w := w) (all := (cs.map clT).take k) (out := out) (g := mgName 4) (c := mTest (mOp2 sEq (mOp2 sIx (mVar 3) (mC (.int 0))) (mOp2 sIx (mVar 4) (mC (.int 0))))) (e := mTup (mCons (mVar 3) (mCons (mVar 4) mNil))) (ρ0 := [some L, y1, some (.int k), some (clT c), none]) (fun y => decide ((toCl (clT c)).hand = (toCl y).hand)) (fun y => .tup [clT c, y]) (by
          have := List.length_take_le' k (cs.map clT)
          have := List.length_take_le k (cs.map clT)
          simp at *; omega) (fun t ht => by
        obtain ⟨d, hd, rfl⟩ := List.mem_map.mp (List.mem_of_mem_take ht)
        have i1 : sIx (clT c) (.int 0) w = .ok (.int c.hand) w := sIx_tup rfl (by decide)
        have i2 : sIx (clT d) (.int 0) w = .ok (.int d.hand) w := sIx_tup rfl (by decide)
        refine ⟨[some L, y1, some (.int k), some (clT c), some (clT d)], by simp, ?_, fun _ => by simp [two_le]⟩
        rw [toCl_cl, toCl_cl]
        simp [i1, i2]) ((cs.map clT).take k)
      have ew : wipeE [some L, y1, some (.int k), some (clT c), none] [4] = [some L, y1, some (.int k), some (clT c), none] := rfl
      rw [ew, e]
      simp [prF]) (enT 0 (cs.map clT))
  simpa [prs] using this
end
end VS

set_option Elab.async false
set_option linter.all false
set_option maxRecDepth 100000
set_option maxHeartbeats 4000000
namespace VS
open PySem PySem.Spec PyProof.Rows L2
theorem prs_in {cs : List Cl} {t : T} (h : t ∈ prs cs) : ∃ c d, c ∈ cs ∧ d ∈ cs ∧ t = .tup [clT c, clT d] := by
  unfold prs at h
  obtain ⟨u, hu, ht⟩ := List.mem_flatMap.mp h
  obtain ⟨k, x, rfl, _, _, hx⟩ := enT_in _ _ _ hu
  obtain ⟨c, hc, rfl⟩ := List.mem_map.mp hx
  unfold prF at ht
  obtain ⟨y, hy, rfl⟩ := List.mem_map.mp ht
  obtain ⟨d, hd, rfl⟩ := List.mem_map.mp (List.mem_of_mem_take ((List.mem_filter.mp hy).1))
  exact ⟨c, d, hc, hd, rfl⟩
theorem flat_len (F : T → List T) (N : Nat) (h : ∀ t, (F t).length ≤ N) : ∀ ts : List T, (ts.flatMap F).length ≤ ts.length * N
  | [] => by simp
  | t :: ts => by
    rw [List.flatMap_cons, List.length_append, List.length_cons, Nat.add_mul, Nat.one_mul]
    have := flat_len F N h ts
    have := h t
    omega
theorem prs_len {cs : List Cl} (h : cs.length ≤ 100) : (prs cs).length ≤ 10000 := by
  have := flat_len (prF (cs.map clT)) 100 (fun t => prF_len _ _ (by simpa using h)) (enT 0 (cs.map clT))
  rw [enT_len] at this
  unfold prs
  simp at this ⊢
  omega
section
variable {w : World} {cs : List Cl} {m n : Int} {rs : List T}
theorem okP_comp {ρ0 : Env} {x0 x1 x2 : Option T} (hl : cs.length ≤ 100) : compL (mgTup 2 (mgCons (mgName 3) (mgCons (mgName 4) mgNil))) mYes (mOrV (mDef 2 s_goes_ahead (mCons (mVar 3) (mCons (mVar 4) mNil))) (mDef 2 s_goes_ahead (mCons (mVar 4) (mCons (mVar 3) mNil)))) none (prs cs) [x0, x1, x2, none, none] (prs cs) [] w = .ok ((prs cs).map fun t => .bl (okP t)) w :=
  compL_map (fun t => .bl (okP t)) (by have := prs_len hl; omega) fun t ht => by
    obtain ⟨c, d, _, _, rfl⟩ := prs_in ht
    refine ⟨[x0, x1, x2, some (clT c), some (clT d)], by simp, rfl, ?_⟩
    have e1 := ahead_ok (w := w) (c := c) (d := d)
    have e2 := ahead_ok (w := w) (c := d) (d := c)
    have e3 : okP (.tup [clT c, clT d]) = (ahead c d || ahead d c) := by simp [okP, toCl_cl]
    rw [e3]
    cases h : ahead c d <;> simp [e1, e2, h]
theorem behind_ok {L : T} (hL : L = .lst (cs.map clT) ∨ L = .tup (cs.map clT)) (hl : cs.length ≤ 100) : s__are_one_behind_another [L] w = .ok (.bl (behind cs)) w := by
  have e1 := pairs_comp (w := w) hL hl (y1 := none)
  have e2 := okP_comp (w := w) (cs := cs) (ρ0 := []) (x0 := some L) (x1 := some (.lst (prs cs))) (x2 := none) hl
  have e3 : sEnum [L] w = .ok (enT 0 (cs.map clT), none) w := by rcases hL with rfl | rfl <;> simp [sEnum, items]
  have e4 : blsT ((prs cs).map fun t => .bl (okP t)) = some ((prs cs).map okP) := blsMap okP _
  unfold s__are_one_behind_another m__are_one_behind_another runB
  simp [mComp2, mEnum, e3, wipeE, e1, e2, sAll, lst?, e4, behind, Function.comp_def, sItems, items]
end
end VS

set_option Elab.async false
set_option linter.all false
set_option maxRecDepth 100000
set_option maxHeartbeats 4000000
namespace VS
open PySem PySem.Spec PyProof.Rows L2
def histB (cs : List Cl) : Bool := decide (unlike (moms cs) = (moms cs).length) && behind cs
section
variable {w : World} {cs : List Cl} {m n : Int} {rs : List T}
theorem calls_comp (R : Rows m n rs) (hm : m ≤ 12) (h : ∀ c ∈ cs, ClOk m c) (hl : cs.length ≤ 100) {L : T} : compL (mgName 2) mYes (mDef 2 s__is_call (mCons (mVar 0) (mCons (mVar 2) mNil))) none (cs.map clT) [some (.tup rs), some L, none] (cs.map clT) [] w = .ok ((cs.map clT).map fun t => .bl true) w :=
  compL_map (fun _ => .bl true) (by simp; omega) fun t ht => by
    obtain ⟨c, hc, rfl⟩ := List.mem_map.mp ht
    exact ⟨[some (.tup rs), some L, some (clT c)], by simp, rfl, by simp [is_call_ok (w := w) R hm (h c hc)]⟩
theorem is_list_ok {L : T} {ts : List T} (hL : L = .lst ts ∨ L = .tup ts) : s_is_list [L] w = .ok (.bl true) w := by
  unfold s_is_list m_is_list runB
  rcases hL with rfl | rfl <;> simp [two_le]
theorem history_ok (R : Rows m n rs) (hm : 1 ≤ m) (hm' : m ≤ 12) (hn : 1 ≤ n) (hn' : n ≤ 30) (h : ∀ c ∈ cs, ClOk m c) (hl : cs.length ≤ 60) {L : T} (hL : L = .lst (cs.map clT) ∨ L = .tup (cs.map clT)) : s_is_history [.tup rs, L] w = .ok (.bl (histB cs)) w := by
  have e1 := check_table_ok (w := w) R hm hm' hn hn'
  have e2 := is_list_ok (w := w) hL
  have e3 := calls_comp (w := w) R hm' h (by omega) (L := L)
  have e4 := moms_ok (w := w) hL (by omega)
  have e5 := behind_ok (w := w) hL (by omega)
  have e6 := blsMap (fun _ => true) (cs.map clT)
  obtain ⟨A, eA⟩ : ∃ A, A = (cs.map clT).map fun _ => T.bl true := ⟨_, rfl⟩
  obtain ⟨bs, eb, hb⟩ : ∃ bs : List Bool, bs = (cs.map clT).map (fun _ => true) ∧ bs.all id = true := ⟨_, rfl, by simp⟩
  rw [← eA, ← eb] at e6
  rw [← eA] at e3
  have hb' : ∀ x ∈ bs, x = true := by simpa using hb
  have e8 : sAll [.lst A] w = .ok (.bl true) w := by simp only [sAll, lst?, e6, hb]
  have e7 : ¬ (60 : Int) < (cs.length : Int) := by omega
  unfold s_is_history m_is_history runB
  rcases hL with rfl | rfl
  all_goals
    cases hq : decide (unlike (moms cs) = (moms cs).length)
    all_goals
      rw [hq] at e4
      simp [e1, e2, wipeE, e3, e8, e7, e4, e5, sItems, items, histB, hq]
end
end VS

set_option Elab.async false
set_option linter.all false
set_option maxRecDepth 100000
set_option maxHeartbeats 4000000
namespace VS
open PySem PySem.Spec PyProof.Rows L2
section
variable {w : World} {cs : List Cl} {m n : Int} {rs : List T} {c : Cl} {k : Int}
theorem check_history_ok (R : Rows m n rs) (hm : 1 ≤ m) (hm' : m ≤ 12) (hn : 1 ≤ n) (hn' : n ≤ 30) (h : ∀ c ∈ cs, ClOk m c) (hl : cs.length ≤ 60) {L : T} (hL : L = .lst (cs.map clT) ∨ L = .tup (cs.map clT)) (hB : histB cs = true) : s_check_history [.tup rs, L] w = .ok .non w := by
  have e := history_ok (w := w) R hm hm' hn hn' h hl hL
  rw [hB] at e
  unfold s_check_history m_check_history runB
  simp [e]
end
end VS

set_option Elab.async false
set_option linter.all false
set_option maxRecDepth 100000
set_option maxHeartbeats 4000000
namespace VS
open PySem PySem.Spec PyProof.Rows L2
section
variable {w rest : World} {r : Rng} {ns : List Int} {cs : List Cl} {m n : Int} {rs : List T}
@[simp] theorem pow18 : sPow (.int 10) (.int 18) w = .ok (.int 1000000000000000000) w := by
  have c : CPow 10 18 := ⟨by decide, by decide, by decide⟩
  simp [sPow, s2I, c]
theorem p18 : sPow (.int 10) (.int 18) w = .ok (.int 1000000000000000000) w := pow18
theorem begun_ok (hl : ns.length ≤ 63) : ∃ r, s__law_begun [.frz (ns.map T.int)] [] = .ok (.cell 1) (WD r []) ∧ r.turn = 0 := by
  obtain ⟨out, w', e1, rfl, gs, rfl, hgl⟩ := compL_run (w := []) (P := fun i out w' => w' = ([] : World) ∧ ∃ gs : List Int, out = gs.map T.int ∧ gs.length ≤ i) (all := ns.map T.int) (g := mgName 2) (c := mTest (mOp2 sGe (mCall sAbs (mCons (mVar 2) mNil)) (mOp2 sPow (mC (.int 10)) (mC (.int 18))))) (e := mOp2 sSub (mCall sAbs (mCons (mVar 2) mNil)) (mOp2 sPow (mC (.int 10)) (mC (.int 18)))) (ρ0 := [some (.frz (ns.map T.int)), none, none]) ⟨rfl, [], rfl, by simp⟩ (fun i t out w ht p => by
    obtain ⟨rfl, gs, rfl, hg⟩ := p
    obtain ⟨v, rfl, hi⟩ := ints_at ht
    have hi' : i < ns.length := (List.getElem?_eq_some_iff.mp hi).1
    refine ⟨[some (.frz (ns.map T.int)), none, some (.int v)], [], by simp, ?_⟩
    by_cases hv : 1000000000000000000 ≤ (if v < 0 then -v else v)
    · refine .inl ⟨[], .int ((if v < 0 then -v else v) - 1000000000000000000), [], by simp [p18, hv], by simp [p18], by simp; omega, rfl, gs ++ [(if v < 0 then -v else v) - 1000000000000000000], by simp, by simp; omega⟩
    · exact .inr ⟨[], by simp [p18]; omega, rfl, gs, rfl, by omega⟩)
  obtain ⟨out2, w2, e2, rfl, cs, rfl, _⟩ := compL_run (w := [Cell.lst (gs.map T.int)]) (P := fun i out w' => w' = [Cell.lst (gs.map T.int)] ∧ ∃ cs : List Int, out = cs.map T.int ∧ cs.length = i) (all := ns.map T.int) (g := mgName 2) (c := mYes) (e := mCall sAbs (mCons (mVar 2) mNil)) (ρ0 := [some (.frz (ns.map T.int)), some (.cell 0), none]) ⟨rfl, [], rfl, rfl⟩ (fun i t out w ht p => by
    obtain ⟨rfl, cs, rfl, hc⟩ := p
    obtain ⟨v, rfl, hi⟩ := ints_at ht
    have hi' : i < ns.length := (List.getElem?_eq_some_iff.mp hi).1
    exact ⟨[some (.frz (ns.map T.int)), some (.cell 0), some (.int v)], [Cell.lst (gs.map T.int)], by simp, .inl ⟨[Cell.lst (gs.map T.int)], .int (if v < 0 then -v else v), [Cell.lst (gs.map T.int)], rfl, by simp, by simp; omega, rfl, cs ++ [if v < 0 then -v else v], by simp, by simp; omega⟩⟩)
  refine ⟨⟨gs, cs, 0, 0⟩, ?_, rfl⟩
  unfold s__law_begun m__law_begun runB
  have hnd : ([kG, kC, kL, kT] : List Key).Nodup := by decide +kernel
  simp [wipeE, e1, e2, keyT, hnd]
  rfl
@[simp] theorem mRaise_ {x : Str} {ρ : Env} : mRaise x ρ w = .ex (.exc x [] []) ρ w := rfl
def IDeed (m : Int) (t : T) : Prop := ∃ i : Int, t = .int i ∧ 0 ≤ i ∧ i < m
theorem deeds_ok {k : Int} (R : Rows m n rs) (hm : 1 ≤ m) (hm' : m ≤ 12) (hk : 0 ≤ k) (hk' : k ≤ 100) (o : Ok 100 r) : ∃ ds r', s__law_hi_deeds [.cell 1, .tup rs, .int k] (WD r rest) = .ok (.lst ds) (WD r' rest) ∧ (ds.length : Int) = k ∧ (∀ t ∈ ds, IDeed m t) ∧ Adv 100 r r' := by
  have hl := R.1
  obtain ⟨out, r', e, l, p, a⟩ := comp_adv (r := r) (rest := rest) (all := rgT 0 k.toNat) (g := mgName 3) (c := mYes) (e := mDef 2 s__law_draw (mCons (mVar 0) (mCons (mCall sLen (mCons (mVar 1) mNil)) mNil))) (ρ0 := [some (.cell 1), some (.tup rs), some (.int k), none]) (IDeed m) 1 (by decide) (by rw [rgT_length]; omega) (by rw [rgT_length]; exact ⟨o.1, by have := o.2; omega⟩) (fun t ht r1 o1 => by
    obtain ⟨q, r2, e1, q0, q1, a1⟩ := draw_ok (rest := rest) (r := r1) (n := (rs.length : Int)) (by omega) (by omega) o1
    exact ⟨[some (.cell 1), some (.tup rs), some (.int k), some t], .int q, r2, by simp, rfl, by simp [e1], ⟨q, rfl, q0, by omega⟩, a1⟩)
  rw [rgT_length] at l a
  refine ⟨out, r', ?_, by omega, p, a.mono (by omega)⟩
  unfold s__law_hi_deeds m__law_hi_deeds runB
  simp [sRange1_ (n := k) (w := WD r rest) hk (by omega), wipeE, e]
end
end VS

set_option Elab.async false
set_option linter.all false
set_option maxRecDepth 100000
set_option maxHeartbeats 4000000
namespace VS
open PySem PySem.Spec PyProof.Rows L2
theorem range_getD (ns : List Int) : (List.range ns.length).map (fun i => ns.getD i 0) = ns := by
  apply List.ext_getElem (by simp)
  intro i h1 h2
  simp at h1
  simp [h1]
theorem dedup_nodup : ∀ (ns acc : List Int), (acc ++ ns).Nodup → ns.foldl step_dedup acc = acc ++ ns
  | [], acc, h => by simp
  | n :: ns, acc, h => by
    have hn : n ∉ acc := fun hm => by
      rw [List.nodup_append] at h
      exact h.2.2 n hm n (.head _) rfl
    have e : step_dedup acc n = acc ++ [n] := by
      simp [step_dedup, hn]
    rw [List.foldl_cons, e, dedup_nodup ns (acc ++ [n]) (by simpa using h)]
    simp
theorem unlike_nodup {ns : List Int} (h : ns.Nodup) : unlike ns = ns.length := by
  unfold unlike firstMet
  rw [range_getD, dedup_nodup ns [] (by simpa using h)]
  simp
end VS

set_option Elab.async false
set_option linter.all false
set_option maxRecDepth 100000
set_option maxHeartbeats 4000000
namespace VS
open PySem PySem.Spec PyProof.Rows L2
def Apart (c d : Cl) : Prop := c.hand = d.hand → (ahead c d || ahead d c) = true
theorem apart_symm {c d : Cl} (h : Apart c d) : Apart d c := fun e => by
  have := h e.symm
  rw [Bool.or_comm] at this
  exact this
theorem behind_of {cs : List Cl} (h : cs.Pairwise Apart) : behind cs = true := by
  unfold behind
  rw [List.all_eq_true]
  intro t ht
  unfold prs at ht
  obtain ⟨u, hu, ht⟩ := List.mem_flatMap.mp ht
  obtain ⟨i, hi⟩ := List.mem_iff_getElem?.mp hu
  obtain ⟨x, hx, rfl⟩ := enT_at hi
  rw [List.getElem?_map] at hx
  cases q : cs[i]? with
  | none => rw [q] at hx; cases hx
  | some c =>
    rw [q] at hx
    cases hx
    unfold prF at ht
    obtain ⟨y, hy, rfl⟩ := List.mem_map.mp ht
    obtain ⟨hy1, hy2⟩ := List.mem_filter.mp hy
    rw [← List.map_take] at hy1
    obtain ⟨d, hd, rfl⟩ := List.mem_map.mp hy1
    rw [toCl_cl, toCl_cl] at hy2
    obtain ⟨hil, hic⟩ := List.getElem?_eq_some_iff.mp q
    obtain ⟨j, hj, hjd⟩ := List.mem_iff_getElem.mp hd
    rw [List.getElem_take] at hjd
    have hji : j < i := by simp at hj; omega
    have := List.pairwise_iff_getElem.mp h j i (by omega) hil hji
    rw [hjd, hic] at this
    have e := this (of_decide_eq_true hy2).symm
    rw [Bool.or_comm] at e
    simp only [okP, toCl_cl]
    exact e
theorem histB_of {cs : List Cl} (h1 : (moms cs).Nodup) (h2 : cs.Pairwise Apart) : histB cs = true := by
  unfold histB
  rw [unlike_nodup h1, behind_of h2]
  simp
theorem moms_perm {cs ds : List Cl} (h : cs.Perm ds) : (moms cs).Perm (moms ds) := by
  unfold moms
  exact (h.map _).append ((h.filter _).map _)
theorem histB_perm {cs ds : List Cl} (p : cs.Perm ds) (h1 : (moms ds).Nodup) (h2 : ds.Pairwise Apart) : histB cs = true :=
  histB_of ((moms_perm p).nodup_iff.mpr h1) ((p.pairwise_iff (fun h => apart_symm h)).mpr h2)
end VS

set_option Elab.async false
set_option linter.all false
set_option maxRecDepth 100000
set_option maxHeartbeats 4000000
namespace VS
open PySem PySem.Spec PyProof.Rows L2
/-! ### a call under way: a dict -/
def cdic (c : Cl) : List (Key × T) := [(.inr "hand", .int c.hand), (.inr "begin", .int c.beg), (.inr "end", optT c.fin), (.inr "deed", .int c.deed), (.inr "answer", optT c.ans)]
theorem cHB : (("hand" : Str) = "begin") = False := eq_false (by decide +kernel)
theorem cHE : (("hand" : Str) = "end") = False := eq_false (by decide +kernel)
theorem cHD : (("hand" : Str) = "deed") = False := eq_false (by decide +kernel)
theorem cHA : (("hand" : Str) = "answer") = False := eq_false (by decide +kernel)
theorem cBE : (("begin" : Str) = "end") = False := eq_false (by decide +kernel)
theorem cBD : (("begin" : Str) = "deed") = False := eq_false (by decide +kernel)
theorem cBA : (("begin" : Str) = "answer") = False := eq_false (by decide +kernel)
theorem cED : (("end" : Str) = "deed") = False := eq_false (by decide +kernel)
theorem cEA : (("end" : Str) = "answer") = False := eq_false (by decide +kernel)
theorem cDA : (("deed" : Str) = "answer") = False := eq_false (by decide +kernel)
theorem cDE : (("deed" : Str) = "end") = False := eq_false (by decide +kernel)
theorem cAE : (("answer" : Str) = "end") = False := eq_false (by decide +kernel)
section
variable {c : Cl} {w : World} {k : Nat}
theorem c_hand : valT (cdic c) (.inr "hand") = some (.int c.hand) := by simp [valT, cdic, List.find?_cons]
theorem c_beg : valT (cdic c) (.inr "begin") = some (.int c.beg) := by simp [valT, cdic, List.find?_cons, cHB]
theorem c_end : valT (cdic c) (.inr "end") = some (optT c.fin) := by simp [valT, cdic, List.find?_cons, cHE, cBE]
theorem c_deed : valT (cdic c) (.inr "deed") = some (.int c.deed) := by simp [valT, cdic, List.find?_cons, cHD, cBD, cED]
theorem c_ans : valT (cdic c) (.inr "answer") = some (optT c.ans) := by simp [valT, cdic, List.find?_cons, cHA, cBA, cEA, cDA]
theorem put_end {i : Int} : putT (cdic c) (.inr "end") (.int i) = cdic { c with fin := some i } := by simp [putT, cdic, cHE, cBE, cDE, cAE, optT]
theorem put_ans {i : Int} : putT (cdic c) (.inr "answer") (.int i) = cdic { c with ans := some i } := by simp [putT, cdic, cHA, cBA, cEA, cDA, optT]
theorem ixc (h : w[k]? = some (.dic (cdic c))) : sIx (.cell k) (.str "hand") w = .ok (.int c.hand) w ∧ sIx (.cell k) (.str "begin") w = .ok (.int c.beg) w ∧ sIx (.cell k) (.str "end") w = .ok (optT c.fin) w ∧ sIx (.cell k) (.str "deed") w = .ok (.int c.deed) w ∧ sIx (.cell k) (.str "answer") w = .ok (optT c.ans) w := by
  have h1 := c_hand (c := c)
  have h2 := c_beg (c := c)
  have h3 := c_end (c := c)
  have h4 := c_deed (c := c)
  have h5 := c_ans (c := c)
  refine ⟨?_, ?_, ?_, ?_, ?_⟩ <;> simp [sIx, h, keyT, h1, h2, h3, h4, h5]
theorem setc_end {i : Int} (h : w[k]? = some (.dic (cdic c))) : sSet (.cell k) (.str "end") (.int i) w = .ok () (w.set k (.dic (cdic { c with fin := some i }))) := by
  have hl : (cdic c).length < sizeLine := by show 5 < sizeLine; rw [sizeLine_eq]; decide
  simp [sSet, h, keyT, put_end, hl]
theorem setc_ans {i : Int} (h : w[k]? = some (.dic (cdic c))) : sSet (.cell k) (.str "answer") (.int i) w = .ok () (w.set k (.dic (cdic { c with ans := some i }))) := by
  have hl : (cdic c).length < sizeLine := by show 5 < sizeLine; rw [sizeLine_eq]; decide
  simp [sSet, h, keyT, put_ans, hl]
end
end VS

set_option Elab.async false
set_option linter.all false
set_option maxRecDepth 100000
set_option maxHeartbeats 4000000
namespace VS
open PySem PySem.Spec PyProof.Rows L2
section
variable {w w' : World} {cs : List Cl} {m n : Int} {rs : List T} {ρ ρ' : Env}
theorem caught_ex {x : Str} {M : ME} (hm : M ρ w = .ex (.exc x [] []) ρ' w') (hx : x ∈ caughtL) : mCaught caughtL M ρ w = .ok (.exc x [] []) w' := by
  unfold mCaught
  rw [hm]
  simp only [if_pos hx]
theorem in_table : ("BadTable" : Str) ∈ caughtL := by decide +kernel
theorem in_history : ("BadHistory" : Str) ∈ caughtL := by decide +kernel
theorem in_places : ("BadPlaces" : Str) ∈ caughtL := by decide +kernel
/-- what is no table is told so, whatever the history -/
theorem check_table_bad {t : T} (h : s_is_table [t] w = .ok (.bl false) w) : ∃ ρ, s_check_table [t] w = .ex (.exc "BadTable" [] []) ρ w := by
  unfold s_check_table m_check_table runB
  simp [h]
theorem is_history_table {t v : T} (h : s_is_table [t] w = .ok (.bl false) w) : ∃ ρ, s_is_history [t, v] w = .ex (.exc "BadTable" [] []) ρ w := by
  obtain ⟨ρ, e⟩ := check_table_bad h
  unfold s_is_history m_is_history runB
  simp [e]
theorem check_history_table {t v : T} (h : s_is_table [t] w = .ok (.bl false) w) : ∃ ρ, s_check_history [t, v] w = .ex (.exc "BadTable" [] []) ρ w := by
  obtain ⟨ρ, e⟩ := is_history_table (v := v) h
  unfold s_check_history m_check_history runB
  simp [e]
theorem check_history_bad {t v : T} (h : s_is_history [t, v] w = .ok (.bl false) w) : ∃ ρ, s_check_history [t, v] w = .ex (.exc "BadHistory" [] []) ρ w := by
  unfold s_check_history m_check_history runB
  simp [h]
end
end VS

set_option Elab.async false
set_option linter.all false
set_option maxRecDepth 100000
set_option maxHeartbeats 4000000
namespace VS
open PySem PySem.Spec PyProof.Rows L2
/-! ### what a drawn run holds -/
abbrev hkC : Key := .inr "calls"
abbrev hkO : Key := .inr "order"
abbrev hkS : Key := .inr "state"
abbrev hkT : Key := .inr "table"
abbrev hkH : Key := .inr "hands"
abbrev hkD : Key := .inr "deeds"
theorem qCO : (("calls" : Str) = "order") = False := eq_false (by decide +kernel)
theorem qCS : (("calls" : Str) = "state") = False := eq_false (by decide +kernel)
theorem qCT : (("calls" : Str) = "table") = False := eq_false (by decide +kernel)
theorem qCH : (("calls" : Str) = "hands") = False := eq_false (by decide +kernel)
theorem qCD : (("calls" : Str) = "deeds") = False := eq_false (by decide +kernel)
theorem qOC : (("order" : Str) = "calls") = False := eq_false (by decide +kernel)
theorem qOS : (("order" : Str) = "state") = False := eq_false (by decide +kernel)
theorem qOT : (("order" : Str) = "table") = False := eq_false (by decide +kernel)
theorem qOH : (("order" : Str) = "hands") = False := eq_false (by decide +kernel)
theorem qOD : (("order" : Str) = "deeds") = False := eq_false (by decide +kernel)
theorem qSC : (("state" : Str) = "calls") = False := eq_false (by decide +kernel)
theorem qSO : (("state" : Str) = "order") = False := eq_false (by decide +kernel)
theorem qST : (("state" : Str) = "table") = False := eq_false (by decide +kernel)
theorem qSH : (("state" : Str) = "hands") = False := eq_false (by decide +kernel)
theorem qSD : (("state" : Str) = "deeds") = False := eq_false (by decide +kernel)
theorem qTC : (("table" : Str) = "calls") = False := eq_false (by decide +kernel)
theorem qTO : (("table" : Str) = "order") = False := eq_false (by decide +kernel)
theorem qTS : (("table" : Str) = "state") = False := eq_false (by decide +kernel)
theorem qTH : (("table" : Str) = "hands") = False := eq_false (by decide +kernel)
theorem qTD : (("table" : Str) = "deeds") = False := eq_false (by decide +kernel)
theorem qHC : (("hands" : Str) = "calls") = False := eq_false (by decide +kernel)
theorem qHO : (("hands" : Str) = "order") = False := eq_false (by decide +kernel)
theorem qHS : (("hands" : Str) = "state") = False := eq_false (by decide +kernel)
theorem qHT : (("hands" : Str) = "table") = False := eq_false (by decide +kernel)
theorem qHD : (("hands" : Str) = "deeds") = False := eq_false (by decide +kernel)
theorem qDC : (("deeds" : Str) = "calls") = False := eq_false (by decide +kernel)
theorem qDO : (("deeds" : Str) = "order") = False := eq_false (by decide +kernel)
theorem qDS : (("deeds" : Str) = "state") = False := eq_false (by decide +kernel)
theorem qDT : (("deeds" : Str) = "table") = False := eq_false (by decide +kernel)
theorem qDH : (("deeds" : Str) = "hands") = False := eq_false (by decide +kernel)
def hdic0 (st hands : Int) (rs : List T) : List (Key × T) := [(hkC, .cell 2), (hkO, .cell 3), (hkS, .int st), (hkT, .tup rs), (hkH, .int hands)]
def hdic (st hands : Int) (rs : List T) : List (Key × T) := [(hkC, .cell 2), (hkO, .cell 3), (hkS, .int st), (hkT, .tup rs), (hkH, .int hands), (hkD, .cell 5)]
def cks (n : Nat) : List T := (List.range n).map fun i => T.cell (i + 6)
theorem cks_snoc (n : Nat) : cks (n + 1) = cks n ++ [.cell (n + 6)] := by simp [cks, List.range_succ]
theorem cks_len (n : Nat) : (cks n).length = n := by simp [cks]
structure Hd where
  cs : List Cl
  od : List Int
  st : Int
  ds : List Int
def hrest (hands : Int) (rs : List T) (h : Hd) : World := .lst (cks h.cs.length) :: .lst (h.od.map T.int) :: .dic (hdic h.st hands rs) :: .lst (h.ds.map T.int) :: h.cs.map fun c => .dic (cdic c)
abbrev WH (r : Rng) (hands : Int) (rs : List T) (h : Hd) : World := WD r (hrest hands rs h)
def cAt (cs : List Cl) (i : Nat) : Cl := cs.getD i ⟨0, 0, none, 0, none⟩
theorem cAt_some {cs : List Cl} {i : Nat} (h : i < cs.length) : cs[i]? = some (cAt cs i) := by simp [cAt, h]
theorem cAt_mem {cs : List Cl} {i : Nat} (h : i < cs.length) : cAt cs i ∈ cs := List.mem_of_getElem? (cAt_some h)
section
variable {r : Rng} {H s e a : Int} {rs : List T} {h : Hd} {i : Nat} {t : T}
theorem wh2 : (WH r H rs h)[2]? = some (.lst (cks h.cs.length)) := rfl
theorem wh3 : (WH r H rs h)[3]? = some (.lst (h.od.map T.int)) := rfl
theorem wh4 : (WH r H rs h)[4]? = some (.dic (hdic h.st H rs)) := rfl
theorem wh5 : (WH r H rs h)[5]? = some (.lst (h.ds.map T.int)) := rfl
theorem wh6 (hi : i < h.cs.length) : (WH r H rs h)[i + 6]? = some (.dic (cdic (cAt h.cs i))) := by
  show (h.cs.map fun c => Cell.dic (cdic c))[i]? = _
  rw [List.getElem?_map, cAt_some hi]; rfl
theorem hC : valT (hdic s H rs) hkC = some (.cell 2) := by simp [valT, hdic, List.find?_cons, qCO, qCS, qCT, qCH, qCD, qOC, qOS, qOT, qOH, qOD, qSC, qSO, qST, qSH, qSD, qTC, qTO, qTS, qTH, qTD, qHC, qHO, qHS, qHT, qHD, qDC, qDO, qDS, qDT, qDH]
theorem hO : valT (hdic s H rs) hkO = some (.cell 3) := by simp [valT, hdic, List.find?_cons, qCO, qCS, qCT, qCH, qCD, qOC, qOS, qOT, qOH, qOD, qSC, qSO, qST, qSH, qSD, qTC, qTO, qTS, qTH, qTD, qHC, qHO, qHS, qHT, qHD, qDC, qDO, qDS, qDT, qDH]
theorem hS : valT (hdic s H rs) hkS = some (.int s) := by simp [valT, hdic, List.find?_cons, qCO, qCS, qCT, qCH, qCD, qOC, qOS, qOT, qOH, qOD, qSC, qSO, qST, qSH, qSD, qTC, qTO, qTS, qTH, qTD, qHC, qHO, qHS, qHT, qHD, qDC, qDO, qDS, qDT, qDH]
theorem hT : valT (hdic s H rs) hkT = some (.tup rs) := by simp [valT, hdic, List.find?_cons, qCO, qCS, qCT, qCH, qCD, qOC, qOS, qOT, qOH, qOD, qSC, qSO, qST, qSH, qSD, qTC, qTO, qTS, qTH, qTD, qHC, qHO, qHS, qHT, qHD, qDC, qDO, qDS, qDT, qDH]
theorem hH : valT (hdic s H rs) hkH = some (.int H) := by simp [valT, hdic, List.find?_cons, qCO, qCS, qCT, qCH, qCD, qOC, qOS, qOT, qOH, qOD, qSC, qSO, qST, qSH, qSD, qTC, qTO, qTS, qTH, qTD, qHC, qHO, qHS, qHT, qHD, qDC, qDO, qDS, qDT, qDH]
theorem hD : valT (hdic s H rs) hkD = some (.cell 5) := by simp [valT, hdic, List.find?_cons, qCO, qCS, qCT, qCH, qCD, qOC, qOS, qOT, qOH, qOD, qSC, qSO, qST, qSH, qSD, qTC, qTO, qTS, qTH, qTD, qHC, qHO, qHS, qHT, qHD, qDC, qDO, qDS, qDT, qDH]
theorem putS : putT (hdic s H rs) hkS (.int a) = hdic a H rs := by simp [putT, hdic, qCO, qCS, qCT, qCH, qCD, qOC, qOS, qOT, qOH, qOD, qSC, qSO, qST, qSH, qSD, qTC, qTO, qTS, qTH, qTD, qHC, qHO, qHS, qHT, qHD, qDC, qDO, qDS, qDT, qDH]
theorem putD : putT (hdic0 s H rs) hkD (.cell 5) = hdic s H rs := by simp [putT, hdic0, hdic, qCO, qCS, qCT, qCH, qCD, qOC, qOS, qOT, qOH, qOD, qSC, qSO, qST, qSH, qSD, qTC, qTO, qTS, qTH, qTD, qHC, qHO, qHS, qHT, qHD, qDC, qDO, qDS, qDT, qDH]
theorem hx_C : sIx (.cell 4) (.str "calls") (WH r H rs h) = .ok (.cell 2) (WH r H rs h) := by
  have := hC (s := h.st) (H := H) (rs := rs); simp [sIx, wh4, keyT, this]
theorem hx_O : sIx (.cell 4) (.str "order") (WH r H rs h) = .ok (.cell 3) (WH r H rs h) := by
  have := hO (s := h.st) (H := H) (rs := rs); simp [sIx, wh4, keyT, this]
theorem hx_S : sIx (.cell 4) (.str "state") (WH r H rs h) = .ok (.int h.st) (WH r H rs h) := by
  have := hS (s := h.st) (H := H) (rs := rs); simp [sIx, wh4, keyT, this]
theorem hx_T : sIx (.cell 4) (.str "table") (WH r H rs h) = .ok (.tup rs) (WH r H rs h) := by
  have := hT (s := h.st) (H := H) (rs := rs); simp [sIx, wh4, keyT, this]
theorem hx_H : sIx (.cell 4) (.str "hands") (WH r H rs h) = .ok (.int H) (WH r H rs h) := by
  have := hH (s := h.st) (H := H) (rs := rs); simp [sIx, wh4, keyT, this]
theorem hx_D : sIx (.cell 4) (.str "deeds") (WH r H rs h) = .ok (.cell 5) (WH r H rs h) := by
  have := hD (s := h.st) (H := H) (rs := rs); simp [sIx, wh4, keyT, this]
theorem h6le : (hdic s H rs).length < sizeLine := by show 6 < sizeLine; rw [sizeLine_eq]; decide
theorem hset_S : sSet (.cell 4) (.str "state") (.int a) (WH r H rs h) = .ok () (WH r H rs { h with st := a }) := by
  have e := putS (s := h.st) (H := H) (rs := rs) (a := a)
  have e2 := h6le (s := h.st) (H := H) (rs := rs)
  simp [sSet, wh4, keyT, e, e2]
  rfl
theorem hset_end (hi : i < h.cs.length) : sSet (.cell (i + 6)) (.str "end") (.int e) (WH r H rs h) = .ok () (WH r H rs { h with cs := h.cs.set i { cAt h.cs i with fin := some e } }) := by
  rw [setc_end (wh6 hi)]
  congr 1
  show WD r ((hrest H rs h).set (i + 4) _) = WD r _
  congr 1
  simp [hrest, List.map_set]
theorem hset_ans (hi : i < h.cs.length) : sSet (.cell (i + 6)) (.str "answer") (.int e) (WH r H rs h) = .ok () (WH r H rs { h with cs := h.cs.set i { cAt h.cs i with ans := some e } }) := by
  rw [setc_ans (wh6 hi)]
  congr 1
  show WD r ((hrest H rs h).set (i + 4) _) = WD r _
  congr 1
  simp [hrest, List.map_set]
theorem happ_order (hl : h.od.length < 16777216) : sAppend (.cell 3) [.int e] (WH r H rs h) = .ok .non (WH r H rs { h with od := h.od ++ [e] }) := by
  rw [append_cell wh3 (by simpa using hl)]
  congr 1
  show WD r ((hrest H rs h).set 1 _) = WD r _
  congr 1
  simp [hrest]
theorem hpop {d : Int} {ds : List Int} (hd : h.ds = d :: ds) : sPopAt (.cell 5) [.int 0] (WH r H rs h) = .ok (.int d) (WH r H rs { h with ds := ds }) := by
  have w5 : (WH r H rs h)[5]? = some (.lst (.int d :: ds.map T.int)) := by rw [wh5, hd]; rfl
  simp [sPopAt, w5, seqIndex?]
  rfl
theorem hlen : (WH r H rs h).length = h.cs.length + 6 := by simp [WD, hrest]
theorem happ_call {c : Cl} (hl : h.cs.length < 1000000) : sAppend (.cell 2) [.cell (h.cs.length + 6)] (WH r H rs h ++ [.dic (cdic c)]) = .ok .non (WH r H rs { h with cs := h.cs ++ [c] }) := by
  have w2 : (WH r H rs h ++ [Cell.dic (cdic c)])[2]? = some (.lst (cks h.cs.length)) := rfl
  rw [append_cell w2 (by rw [cks_len]; omega), ← cks_snoc]
  congr 1
  show WD r ((hrest H rs h ++ [Cell.dic (cdic c)]).set 0 _) = WD r _
  congr 1
  simp [hrest]
end
end VS

set_option Elab.async false
set_option linter.all false
set_option maxRecDepth 100000
set_option maxHeartbeats 4000000
namespace VS
open PySem PySem.Spec PyProof.Rows L2
section
variable {w : World} {g : MG} {c : MT} {e : ME} {ρ0 : Env} {oc : OC}
theorem compL_filter_m {α : Type} (F : α → T) (p : α → Bool) (f : α → T) (hk : ∀ ts, Kept oc ts w) : ∀ (as : List α) (out : List T), out.length + as.length < 16777216 → (∀ a ∈ as, ∃ ρ1, g (F a) ρ0 w = .ok ρ1 w ∧ c ρ1 w = .ok (p a) w ∧ (p a = true → e ρ1 w = .ok (f a) w)) → ∀ whole : List T, compL g c e oc whole ρ0 (as.map F) out w = .ok (out ++ (as.filter p).map f) w
  | [], out, hl, h, whole => by rw [List.map_nil]; unfold compL; rw [if_pos (hk _)]; simp
  | a :: as, out, hl, h, whole => by
    obtain ⟨ρ1, e1, e2, e3⟩ := h a (.head _)
    have h' := fun b hb => h b (.tail a hb)
    rw [List.map_cons]
    unfold compL
    rw [if_pos (hk _), e1, bind_ok', e2, bind_ok']
    cases hp : p a with
    | true =>
      rw [if_pos rfl, e3 hp, bind_ok', if_pos (by rw [sizeLine_eq]; simp at hl; omega), compL_filter_m F p f hk as _ (by simp at hl ⊢; omega) h']
      simp [List.filter_cons, hp]
    | false =>
      rw [if_neg Bool.false_ne_true, compL_filter_m F p f hk as _ (by simp at hl ⊢; omega) h']
      simp [List.filter_cons, hp]
theorem enT_map (F : Nat → T) (n : Nat) : ∀ (k i : Nat), enT i ((List.range' k n).map F) = (List.range' k n).map fun j => .tup [.int ((j - k + i : Nat) : Int), F j] := by
  induction n with
  | zero => intro k i; rfl
  | succ n ih =>
    intro k i
    rw [List.range'_succ, List.map_cons, List.map_cons]
    unfold enT
    rw [ih (k + 1) (i + 1)]
    congr 1
    · simp
    · apply List.map_congr_left
      intro j hj
      have := (List.mem_range'_1.mp hj).1
      congr 3
      omega
theorem enT_cks (n : Nat) : enT 0 (cks n) = (List.range n).map fun j => .tup [.int (j : Int), .cell (j + 6)] := by
  unfold cks
  rw [List.range_eq_range', enT_map]
  apply List.map_congr_left
  intro j _
  simp
/-! an int in a list of ints -/
theorem any_ints (i : Int) : ∀ ns : List Int, ((ns.map PyData.int).any fun z => PyData.eqv z (.int i)) = decide (i ∈ ns)
  | [] => by simp
  | n :: ns => by
    have ih := any_ints i ns
    rw [List.map_cons, List.any_cons, ih]
    have : PyData.eqv (.int n) (.int i) = decide (n = i) := by simp [PyData.eqv]; rfl
    rw [this]
    by_cases h : n = i
    · simp [h]
    · have : ¬ i = n := fun e => h e.symm
      simp [h, this]
theorem in_ints {i : Int} {ns : List Int} : inT w (.int i) (.lst (ns.map T.int)) = some (decide (i ∈ ns)) := by
  have e1 : pd w (.lst (ns.map T.int)) = some (.list (ns.map .int)) := by
    have : ∀ ns : List Int, pds w (ns.map T.int) = some (ns.map .int) := fun ns => by
      induction ns with
      | nil => simp [pds]
      | cons n ns ih => simp [pds, pd, ih]
    simp [pd, this ns]
  have e0 : pd w (.int i) = some (.int i) := by simp [pd]
  unfold inT
  simp only [e1, e0, shaped_int, shaped_ints, and_self, if_true, any_ints]
end
end VS

set_option Elab.async false
set_option linter.all false
set_option maxRecDepth 100000
set_option maxHeartbeats 4000000
namespace VS
open PySem PySem.Spec PyProof.Rows L2
def busyB (cs : List Cl) : List Int := ((List.range cs.length).filter fun i => (cAt cs i).fin.isNone).map fun i => (cAt cs i).hand
def idleB (H : Int) (cs : List Cl) : List Int := ((List.range H.toNat).filter fun i => decide (((i : Nat) : Int) ∉ busyB cs)).map fun i => ((i : Nat) : Int)
def waitB (cs : List Cl) : List Int := ((List.range cs.length).filter fun i => (cAt cs i).ans.isNone).map fun i => ((i : Nat) : Int)
def toldB (cs : List Cl) : List Int := ((List.range cs.length).filter fun i => (cAt cs i).ans.isSome && (cAt cs i).fin.isNone).map fun i => ((i : Nat) : Int)
theorem optT_is {o : Option Int} {w : World} : sIs (optT o) .non w = .ok (.bl o.isNone) w := by cases o <;> rfl
theorem optT_isnot {o : Option Int} {w : World} : sIsNot (optT o) .non w = .ok (.bl o.isSome) w := by cases o <;> rfl
section
variable {r : Rng} {H : Int} {rs : List T} {h : Hd} {x0 x1 x2 x3 x4 x5 x6 x7 x8 x9 x10 x11 x12 x13 : Option T}
theorem busy_comp (hl : h.cs.length ≤ 1000) : compL (mgName 12) (mTest (mOp2 sIs (mOp2 sIx (mVar 12) (mC (.str "end"))) (mC .non))) (mOp2 sIx (mVar 12) (mC (.str "hand"))) (some (2, cks h.cs.length)) (cks h.cs.length) [x0, x1, x2, x3, x4, x5, x6, x7, x8, x9, x10, x11, x12, x13] (cks h.cs.length) [] (WH r H rs h) = .ok ((busyB h.cs).map T.int) (WH r H rs h) := by
  have := compL_filter_m (w := WH r H rs h) (oc := some (2, cks h.cs.length)) (g := mgName 12) (c := mTest (mOp2 sIs (mOp2 sIx (mVar 12) (mC (.str "end"))) (mC .non))) (e := mOp2 sIx (mVar 12) (mC (.str "hand"))) (ρ0 := [x0, x1, x2, x3, x4, x5, x6, x7, x8, x9, x10, x11, x12, x13]) (fun i => T.cell (i + 6)) (fun i => (cAt h.cs i).fin.isNone) (fun i => .int (cAt h.cs i).hand) (fun ts => kept_some wh2) (List.range h.cs.length) [] (by simp; omega) (fun i hi => by
    have hi := List.mem_range.mp hi
    obtain ⟨i1, i2, i3, i4, i5⟩ := ixc (wh6 (r := r) (H := H) (rs := rs) (h := h) hi)
    exact ⟨_, rfl, by simp [i3, optT_is], fun _ => by simp [i1]⟩)
  rw [show cks h.cs.length = (List.range h.cs.length).map (fun i => T.cell (i + 6)) from rfl] at *
  rw [this]
  simp [busyB]
theorem idle_comp (h0 : 0 ≤ H) (hH : H ≤ 1000) : compL (mgName 13) (mTest (mOp2 sNotInQ (mVar 13) (mVar 9))) (mVar 13) none (rgT 0 H.toNat) [x0, x1, x2, x3, x4, x5, x6, x7, x8, some (.lst ((busyB h.cs).map T.int)), x10, x11, x12, x13] (rgT 0 H.toNat) [] (WH r H rs h) = .ok ((idleB H h.cs).map T.int) (WH r H rs h) := by
  have := compL_filter_m (w := WH r H rs h) (oc := none) (g := mgName 13) (c := mTest (mOp2 sNotInQ (mVar 13) (mVar 9))) (e := mVar 13) (ρ0 := [x0, x1, x2, x3, x4, x5, x6, x7, x8, some (.lst ((busyB h.cs).map T.int)), x10, x11, x12, x13]) (fun (i : Nat) => T.int (0 + (i : Int))) (fun i => decide (((i : Nat) : Int) ∉ busyB h.cs)) (fun i => .int ((i : Nat) : Int)) (fun ts => kept_none) (List.range H.toNat) [] (by simp; omega) (fun i hi => by
    refine ⟨_, rfl, ?_, fun _ => by simp⟩
    have e := in_ints (w := WH r H rs h) (i := (i : Int)) (ns := busyB h.cs)
    simp [sNotInQ, e])
  rw [show rgT 0 H.toNat = (List.range H.toNat).map (fun (i : Nat) => T.int (0 + (i : Int))) from rfl]
  rw [this]
  simp [idleB]
theorem wait_comp (hl : h.cs.length ≤ 1000) : compL (mgTup 2 (mgCons (mgName 10) (mgCons (mgName 12) mgNil))) (mTest (mOp2 sIs (mOp2 sIx (mVar 12) (mC (.str "answer"))) (mC .non))) (mVar 10) (some (2, cks h.cs.length)) (enT 0 (cks h.cs.length)) [x0, x1, x2, x3, x4, x5, x6, x7, x8, x9, x10, x11, x12, x13] (enT 0 (cks h.cs.length)) [] (WH r H rs h) = .ok ((waitB h.cs).map T.int) (WH r H rs h) := by
  have := compL_filter_m (w := WH r H rs h) (oc := some (2, cks h.cs.length)) (g := mgTup 2 (mgCons (mgName 10) (mgCons (mgName 12) mgNil))) (c := mTest (mOp2 sIs (mOp2 sIx (mVar 12) (mC (.str "answer"))) (mC .non))) (e := mVar 10) (ρ0 := [x0, x1, x2, x3, x4, x5, x6, x7, x8, x9, x10, x11, x12, x13]) (fun (j : Nat) => T.tup [.int (j : Int), .cell (j + 6)]) (fun i => (cAt h.cs i).ans.isNone) (fun i => .int ((i : Nat) : Int)) (fun ts => kept_some wh2) (List.range h.cs.length) [] (by simp; omega) (fun i hi => by
    have hi := List.mem_range.mp hi
    obtain ⟨i1, i2, i3, i4, i5⟩ := ixc (wh6 (r := r) (H := H) (rs := rs) (h := h) hi)
    exact ⟨_, by simp; rfl, by simp [i5, optT_is], fun _ => by simp⟩)
  rw [enT_cks, this]
  simp [waitB]
theorem told_comp (hl : h.cs.length ≤ 1000) : compL (mgTup 2 (mgCons (mgName 10) (mgCons (mgName 12) mgNil))) (mAnd (mTest (mOp2 sIsNot (mOp2 sIx (mVar 12) (mC (.str "answer"))) (mC .non))) (mTest (mOp2 sIs (mOp2 sIx (mVar 12) (mC (.str "end"))) (mC .non)))) (mVar 10) (some (2, cks h.cs.length)) (enT 0 (cks h.cs.length)) [x0, x1, x2, x3, x4, x5, x6, x7, x8, x9, x10, x11, x12, x13] (enT 0 (cks h.cs.length)) [] (WH r H rs h) = .ok ((toldB h.cs).map T.int) (WH r H rs h) := by
  have := compL_filter_m (w := WH r H rs h) (oc := some (2, cks h.cs.length)) (g := mgTup 2 (mgCons (mgName 10) (mgCons (mgName 12) mgNil))) (c := mAnd (mTest (mOp2 sIsNot (mOp2 sIx (mVar 12) (mC (.str "answer"))) (mC .non))) (mTest (mOp2 sIs (mOp2 sIx (mVar 12) (mC (.str "end"))) (mC .non)))) (e := mVar 10) (ρ0 := [x0, x1, x2, x3, x4, x5, x6, x7, x8, x9, x10, x11, x12, x13]) (fun (j : Nat) => T.tup [.int (j : Int), .cell (j + 6)]) (fun i => (cAt h.cs i).ans.isSome && (cAt h.cs i).fin.isNone) (fun i => .int ((i : Nat) : Int)) (fun ts => kept_some wh2) (List.range h.cs.length) [] (by simp; omega) (fun i hi => by
    have hi := List.mem_range.mp hi
    obtain ⟨i1, i2, i3, i4, i5⟩ := ixc (wh6 (r := r) (H := H) (rs := rs) (h := h) hi)
    refine ⟨_, by simp; rfl, ?_, fun _ => by simp⟩
    cases hh : (cAt h.cs i).ans.isSome <;> simp [i5, i3, optT_is, optT_isnot, hh])
  rw [enT_cks, this]
  simp [toldB]
theorem lsts_plain (ns : List Int) : ∀ t ∈ ns.map T.int, PlainT 1 t := fun t ht => by
  obtain ⟨n, _, rfl⟩ := List.mem_map.mp ht
  exact plain_int
theorem ne_ints {w : World} (ns : List Int) : sNe (.lst (ns.map T.int)) (.lst []) w = .ok (.bl (!decide (ns = []))) w := by
  have e1 : pd w (.lst (ns.map T.int)) = some (.list (ns.map .int)) := by
    have : ∀ ns : List Int, pds w (ns.map T.int) = some (ns.map .int) := fun ns => by
      induction ns with
      | nil => simp [pds]
      | cons n ns ih => simp [pds, pd, ih]
    simp [pd, this ns]
  have e : eqT w (.lst (ns.map T.int)) (.lst []) = some (decide (ns = [])) := by
    rw [eqT_of e1 (by simp [pd, pds]; rfl) (shaped_ints _) rfl]
    show some (PyData.eqvAll (ns.map .int) (([] : List Int).map .int)) = _
    rw [eqv_ints]
  simp [sNe, e]
theorem ne_intc {w : World} {k : Nat} {ns : List Int} (hk : w[k]? = some (.lst (ns.map T.int))) : sNe (.cell k) (.lst []) w = .ok (.bl (!decide (ns = []))) w := by
  have e : eqT w (.cell k) (.lst []) = some (decide (ns = [])) := by
    rw [eqT_of (pd_cell hk) (by simp [pd, pds]; rfl) (shaped_ints _) rfl]
    show some (PyData.eqvAll (ns.map .int) (([] : List Int).map .int)) = _
    rw [eqv_ints]
  simp [sNe, e]
end
end VS

set_option Elab.async false
set_option linter.all false
set_option maxRecDepth 100000
set_option maxHeartbeats 4000000
namespace VS
open PySem PySem.Spec PyProof.Rows L2
/-! ### a step of a drawn run -/
theorem seq_ok {m1 m2 : MS} {ρ ρ1 : Env} {w w1 : World} (e : m1 ρ w = .ok (ρ1, .nx) w1) : mSeq m1 m2 ρ w = m2 ρ1 w1 := by rw [mSeq_, e, then_nx]
noncomputable def st1 : MS := (mAsg (mTup (mCons (mOp2 sIx (mVar 1) (mC (.str "calls"))) (mCons (mVal (mComp [12] (mItems (mOp2 sIx (mVar 1) (mC (.str "calls")))) (mgName 12) (mTest (mOp2 sIs (mOp2 sIx (mVar 12) (mC (.str "end"))) (mC .non))) (mOp2 sIx (mVar 12) (mC (.str "hand"))))) mNil))) (mgTup 2 (mgCons (mgName 8) (mgCons (mgName 9) mgNil))))
noncomputable def st2 : MS := (mAsg (if false = true then mCell (mComp [13] (mRange1 (mCons (mOp2 sIx (mVar 1) (mC (.str "hands"))) mNil)) (mgName 13) (mTest (mOp2 sNotInQ (mVar 13) (mVar 9))) (mVar 13)) else mVal (mComp [13] (mRange1 (mCons (mOp2 sIx (mVar 1) (mC (.str "hands"))) mNil)) (mgName 13) (mTest (mOp2 sNotInQ (mVar 13) (mVar 9))) (mVar 13))) (mgName 4))
noncomputable def st3 : MS := (mAsg (if false = true then mCell (mComp [10, 12] (mEnum (mCons (mVar 8) mNil)) (mgTup 2 (mgCons (mgName 10) (mgCons (mgName 12) mgNil))) (mTest (mOp2 sIs (mOp2 sIx (mVar 12) (mC (.str "answer"))) (mC .non))) (mVar 10)) else mVal (mComp [10, 12] (mEnum (mCons (mVar 8) mNil)) (mgTup 2 (mgCons (mgName 10) (mgCons (mgName 12) mgNil))) (mTest (mOp2 sIs (mOp2 sIx (mVar 12) (mC (.str "answer"))) (mC .non))) (mVar 10))) (mgName 5))
noncomputable def st4 : MS := (mAsg (if false = true then mCell (mComp [10, 12] (mEnum (mCons (mVar 8) mNil)) (mgTup 2 (mgCons (mgName 10) (mgCons (mgName 12) mgNil))) (mAnd (mTest (mOp2 sIsNot (mOp2 sIx (mVar 12) (mC (.str "answer"))) (mC .non))) (mTest (mOp2 sIs (mOp2 sIx (mVar 12) (mC (.str "end"))) (mC .non)))) (mVar 10)) else mVal (mComp [10, 12] (mEnum (mCons (mVar 8) mNil)) (mgTup 2 (mgCons (mgName 10) (mgCons (mgName 12) mgNil))) (mAnd (mTest (mOp2 sIsNot (mOp2 sIx (mVar 12) (mC (.str "answer"))) (mC .non))) (mTest (mOp2 sIs (mOp2 sIx (mVar 12) (mC (.str "end"))) (mC .non)))) (mVar 10))) (mgName 6))
noncomputable def st5 : MS := (mAsg (mDef 2 s__law_draw (mCons (mVar 0) (mCons (mC (.int 3)) mNil))) (mgName 7))
noncomputable def stA : MT := (mAnd (mTest (mOp2 sEq (mVar 7) (mC (.int 0)))) (mAnd (mTest (mOp2 sNe (mVar 4) (mVal (mLst mNil)))) (mAnd (mTest (mOp2 sLt (mCall sLen (mCons (mVar 8) mNil)) (mVar 3))) (mTest (mOp2 sNe (mOp2 sIx (mVar 1) (mC (.str "deeds"))) (mVal (mLst mNil)))))))
noncomputable def stB : MS := (mSeq (mAsg (mMeth sPopAt (mOp2 sIx (mVar 1) (mC (.str "deeds"))) (mCons (mC (.int 0)) mNil)) (mgName 11)) (mDrop (mMeth sAppend (mVar 8) (mCons (mDict (mpCons (mC (.str "hand")) (mDef 2 s__law_pick (mCons (mVar 0) (mCons (mVar 4) mNil))) (mpCons (mC (.str "begin")) (mVar 2) (mpCons (mC (.str "end")) (mC .non) (mpCons (mC (.str "deed")) (mVar 11) (mpCons (mC (.str "answer")) (mC .non) mpNil)))))) mNil))))
noncomputable def stC : MT := (mAnd (mTest (mOp2 sEq (mVar 7) (mC (.int 1)))) (mTest (mOp2 sNe (mVar 5) (mVal (mLst mNil)))))
noncomputable def stD : MS := (mSeq (mAsg (mDef 2 s__law_pick (mCons (mVar 0) (mCons (mVar 5) mNil))) (mgName 10)) (mSeq (mAsg (mOp2 sIx (mVar 8) (mVar 10)) (mgName 12)) (mSeq (mAsg (mOp2 sIx (mOp2 sIx (mOp2 sIx (mVar 1) (mC (.str "table"))) (mOp2 sIx (mVar 12) (mC (.str "deed")))) (mOp2 sIx (mVar 1) (mC (.str "state")))) (mgTup 2 (mgCons (mgSub sSet (mVar 1) (mC (.str "state"))) (mgCons (mgSub sSet (mVar 12) (mC (.str "answer"))) mgNil)))) (mDrop (mMeth sAppend (mOp2 sIx (mVar 1) (mC (.str "order"))) (mCons (mVar 10) mNil))))))
noncomputable def stE : MS := (mIfS (mTest (mOp2 sNe (mVar 6) (mVal (mLst mNil)))) (mSeq (mAsg (mOp2 sIx (mVar 8) (mDef 2 s__law_pick (mCons (mVar 0) (mCons (mVar 6) mNil)))) (mgName 12)) (mAsg (mVar 2) (mgSub sSet (mVar 12) (mC (.str "end"))))) mSkip)
noncomputable def st6 : MS := mIfS stA stB (mIfS stC stD stE)
noncomputable def st7 : MS := (mRet (mVar 1))
theorem _law_hi_step_parts : m__law_hi_step = (mSeq st1 (mSeq st2 (mSeq st3 (mSeq st4 (mSeq st5 (mSeq st6 st7)))))) := rfl
inductive Nx (H now many : Int) (rs : List T) (h : Hd) : Hd → Prop
  | stay : Nx H now many rs h h
  | beg (hand d : Int) (ds : List Int) : hand ∈ idleB H h.cs → h.ds = d :: ds → (h.cs.length : Int) < many → Nx H now many rs h { h with ds := ds, cs := h.cs ++ [⟨hand, now, none, d, none⟩] }
  | tell (i : Nat) : i < h.cs.length → (cAt h.cs i).ans = none → Nx H now many rs h { h with st := (stepAt rs (cAt h.cs i).deed h.st).1, cs := h.cs.set i { cAt h.cs i with ans := some (stepAt rs (cAt h.cs i).deed h.st).2 }, od := h.od ++ [(i : Int)] }
  | over (i : Nat) : i < h.cs.length → (cAt h.cs i).ans.isSome = true → (cAt h.cs i).fin = none → Nx H now many rs h { h with cs := h.cs.set i { cAt h.cs i with fin := some now } }
section
variable {r : Rng} {H now many way m n : Int} {rs : List T} {h : Hd} {x4 x5 x6 x7 x8 x9 x10 x11 x12 x13 : Option T}
theorem st1_ok (hl : h.cs.length ≤ 1000) : st1 [some (.cell 1), some (.cell 4), some (.int now), some (.int many), none, none, none, none, none, none, none, none, none, none] (WH r H rs h) = .ok ([some (.cell 1), some (.cell 4), some (.int now), some (.int many), none, none, none, none, some (.cell 2), some (.lst ((busyB h.cs).map T.int)), none, none, none, none], .nx) (WH r H rs h) := by
  unfold st1
  have e := busy_comp (r := r) (H := H) (rs := rs) (h := h) (x0 := some (.cell 1)) (x1 := some (.cell 4)) (x2 := some (.int now)) (x3 := some (.int many)) (x4 := none) (x5 := none) (x6 := none) (x7 := none) (x8 := none) (x9 := none) (x10 := none) (x11 := none) (x12 := none) (x13 := none) hl
  have i1 := sItems_cell (wh2 (r := r) (H := H) (rs := rs) (h := h))
  simp [hx_C, i1, wipeE, e, two_le]
theorem st2_ok (h0 : 0 ≤ H) (hH : H ≤ 1000) : st2 [some (.cell 1), some (.cell 4), some (.int now), some (.int many), none, none, none, none, some (.cell 2), some (.lst ((busyB h.cs).map T.int)), none, none, none, none] (WH r H rs h) = .ok ([some (.cell 1), some (.cell 4), some (.int now), some (.int many), some (.lst ((idleB H h.cs).map T.int)), none, none, none, some (.cell 2), some (.lst ((busyB h.cs).map T.int)), none, none, none, none], .nx) (WH r H rs h) := by
  unfold st2
  have e := idle_comp (r := r) (H := H) (rs := rs) (h := h) (x0 := some (.cell 1)) (x1 := some (.cell 4)) (x2 := some (.int now)) (x3 := some (.int many)) (x4 := none) (x5 := none) (x6 := none) (x7 := none) (x8 := some (.cell 2)) (x10 := none) (x11 := none) (x12 := none) (x13 := none) h0 hH
  have i1 := sRange1_ (n := H) (w := WH r H rs h) h0 (by omega)
  simp [hx_H, i1, wipeE, e]
theorem st3_ok (hl : h.cs.length ≤ 1000) : st3 [some (.cell 1), some (.cell 4), some (.int now), some (.int many), x4, none, none, none, some (.cell 2), x9, none, none, none, none] (WH r H rs h) = .ok ([some (.cell 1), some (.cell 4), some (.int now), some (.int many), x4, some (.lst ((waitB h.cs).map T.int)), none, none, some (.cell 2), x9, none, none, none, none], .nx) (WH r H rs h) := by
  unfold st3
  have e := wait_comp (r := r) (H := H) (rs := rs) (h := h) (x0 := some (.cell 1)) (x1 := some (.cell 4)) (x2 := some (.int now)) (x3 := some (.int many)) (x4 := x4) (x5 := none) (x6 := none) (x7 := none) (x8 := some (.cell 2)) (x9 := x9) (x10 := none) (x11 := none) (x12 := none) (x13 := none) hl
  have i1 : sEnum [.cell 2] (WH r H rs h) = .ok (enT 0 (cks h.cs.length), some (2, cks h.cs.length)) (WH r H rs h) := by simp [sEnum, items, wh2]
  simp [mEnum, i1, wipeE, e]
theorem st4_ok (hl : h.cs.length ≤ 1000) : st4 [some (.cell 1), some (.cell 4), some (.int now), some (.int many), x4, x5, none, none, some (.cell 2), x9, none, none, none, none] (WH r H rs h) = .ok ([some (.cell 1), some (.cell 4), some (.int now), some (.int many), x4, x5, some (.lst ((toldB h.cs).map T.int)), none, some (.cell 2), x9, none, none, none, none], .nx) (WH r H rs h) := by
  unfold st4
  have e := told_comp (r := r) (H := H) (rs := rs) (h := h) (x0 := some (.cell 1)) (x1 := some (.cell 4)) (x2 := some (.int now)) (x3 := some (.int many)) (x4 := x4) (x5 := x5) (x6 := none) (x7 := none) (x8 := some (.cell 2)) (x9 := x9) (x10 := none) (x11 := none) (x12 := none) (x13 := none) hl
  have i1 : sEnum [.cell 2] (WH r H rs h) = .ok (enT 0 (cks h.cs.length), some (2, cks h.cs.length)) (WH r H rs h) := by simp [sEnum, items, wh2]
  simp [mEnum, i1, wipeE, e]
end
end VS

set_option Elab.async false
set_option linter.all false
set_option maxRecDepth 100000
set_option maxHeartbeats 4000000
namespace VS
open PySem PySem.Spec PyProof.Rows L2
/-! ### what the calls of a run keep -/
structure ClP (m H now : Int) (c : Cl) : Prop where
  h0 : 0 ≤ c.hand
  h1 : c.hand < H
  b0 : 0 ≤ c.beg
  b1 : c.beg ≤ now
  d0 : 0 ≤ c.deed
  d1 : c.deed < m
  over : ∀ e, c.fin = some e → c.beg < e ∧ e ≤ now ∧ c.ans.isSome = true
  tell : ∀ a, c.ans = some a → 0 ≤ a ∧ a ≤ 999999999999999999
structure PI' (m H now : Int) (cs : List Cl) : Prop where
  call : ∀ c ∈ cs, ClP m H now c
  mom : (moms cs).Nodup
  apart : cs.Pairwise Apart
section
variable {m H now nx a d e : Int} {cs ds er : List Cl} {c : Cl}
theorem PI'.perm (p : PI' m H now cs) (h : cs.Perm ds) : PI' m H now ds :=
  ⟨fun c hc => p.call c (h.mem_iff.mpr hc), (moms_perm h).nodup_iff.mp p.mom, (h.pairwise_iff (fun h => apart_symm h)).mp p.apart⟩
theorem ClP.mono (p : ClP m H now c) (h : now ≤ nx) : ClP m H nx c :=
  ⟨p.h0, p.h1, p.b0, by have := p.b1; omega, p.d0, p.d1, fun e he => by obtain ⟨x, y, z⟩ := p.over e he; exact ⟨x, by omega, z⟩, p.tell⟩
theorem PI'.mono (p : PI' m H now cs) (h : now ≤ nx) : PI' m H nx cs := ⟨fun c hc => (p.call c hc).mono h, p.mom, p.apart⟩
theorem moms_mem {x : Int} : x ∈ moms cs ↔ ∃ c ∈ cs, x = c.beg ∨ c.fin = some x := by
  unfold moms
  rw [List.mem_append, List.mem_map, List.mem_map]
  constructor
  · rintro (⟨c, hc, rfl⟩ | ⟨c, hc, rfl⟩)
    · exact ⟨c, hc, .inl rfl⟩
    · obtain ⟨h1, h2⟩ := List.mem_filter.mp hc
      refine ⟨c, h1, .inr ?_⟩
      cases q : c.fin with
      | none => rw [q] at h2; cases h2
      | some e => rfl
  · rintro ⟨c, hc, rfl | h⟩
    · exact .inl ⟨c, hc, rfl⟩
    · exact .inr ⟨c, List.mem_filter.mpr ⟨hc, by rw [h]; rfl⟩, by rw [h]; rfl⟩
theorem PI'.le (p : PI' m H now cs) {x : Int} (hx : x ∈ moms cs) : x ≤ now := by
  obtain ⟨c, hc, rfl | h⟩ := moms_mem.mp hx
  · exact (p.call c hc).b1
  · exact ((p.call c hc).over x h).2.1
theorem moms_cons_open (h : c.fin = none) : (moms (c :: er)) = c.beg :: moms er := by simp [moms, List.filter_cons, h]
theorem moms_cons_over (h : c.fin = some e) : (moms (c :: er)).Perm (e :: c.beg :: moms er) := by
  have : moms (c :: er) = c.beg :: ((er.map (·.beg)) ++ e :: (er.filter (·.fin.isSome)).map fun c => c.fin.getD 0) := by simp [moms, List.filter_cons, h]
  rw [this]
  refine (List.Perm.cons _ List.perm_middle).trans ?_
  exact List.Perm.swap _ _ _
theorem PI'.beg (p : PI' m H now cs) (h : now < nx) (g0 : 0 ≤ a) (g1 : a < H) (hn : 0 ≤ nx) (d0 : 0 ≤ d) (d1 : d < m) (hb : ∀ c ∈ cs, c.hand = a → c.fin.isSome = true) : PI' m H nx (⟨a, nx, none, d, none⟩ :: cs) := by
  refine ⟨fun c hc => ?_, ?_, ?_⟩
  · rcases List.mem_cons.mp hc with rfl | hc
    · exact ⟨g0, g1, hn, Int.le_refl _, d0, d1, fun e he => (by cases he), fun a ha => (by cases ha)⟩
    · exact (p.call c hc).mono (by omega)
  · rw [moms_cons_open rfl, List.nodup_cons]
    exact ⟨fun hx => by have := p.le hx; simp at this; omega, p.mom⟩
  · rw [List.pairwise_cons]
    refine ⟨fun c hc e => ?_, p.apart⟩
    have e' : a = c.hand := e
    have hs := hb c hc e'.symm
    cases q : c.fin with
    | none => rw [q] at hs; cases hs
    | some x =>
      have := ((p.call c hc).over x q).2.1
      have : ahead c ⟨a, nx, none, d, none⟩ = true := by simp [ahead, q]; omega
      simp [this]
theorem PI'.tell (p : PI' m H now (c :: er)) (hc : c.fin = none) (a0 : 0 ≤ a) (a1 : a ≤ 999999999999999999) : PI' m H now ({ c with ans := some a } :: er) := by
  have q := p.call c (.head _)
  refine ⟨fun x hx => ?_, ?_, ?_⟩
  · rcases List.mem_cons.mp hx with rfl | hx
    · exact ⟨q.h0, q.h1, q.b0, q.b1, q.d0, q.d1, fun e he => (by have he : c.fin = some e := he; rw [hc] at he; cases he), fun b hb => by cases hb; exact ⟨a0, a1⟩⟩
    · exact p.call x (.tail _ hx)
  · have := p.mom
    rw [moms_cons_open hc] at this
    rw [moms_cons_open (by exact hc)]
    exact this
  · have := p.apart
    rw [List.pairwise_cons] at this ⊢
    exact this
theorem PI'.over (p : PI' m H now (c :: er)) (h : now < nx) (hc : c.fin = none) (ha : c.ans.isSome = true) : PI' m H nx ({ c with fin := some nx } :: er) := by
  have q := p.call c (.head _)
  refine ⟨fun x hx => ?_, ?_, ?_⟩
  · rcases List.mem_cons.mp hx with rfl | hx
    · have := q.b1
      exact ⟨q.h0, q.h1, q.b0, by show c.beg ≤ nx; omega, q.d0, q.d1, fun e he => by cases he; exact ⟨by show c.beg < nx; omega, Int.le_refl _, ha⟩, q.tell⟩
    · exact (p.call x (.tail _ hx)).mono (by omega)
  · refine (moms_cons_over (c := { c with fin := some nx }) rfl).nodup_iff.mpr ?_
    have hm := p.mom
    have hle : ∀ x ∈ moms (c :: er), x ≤ now := fun x hx => p.le hx
    rw [moms_cons_open hc] at hm hle
    rw [List.nodup_cons]
    exact ⟨fun hx => by have := hle nx hx; omega, hm⟩
  · have := p.apart
    rw [List.pairwise_cons] at this ⊢
    refine ⟨fun d hd e => ?_, this.2⟩
    have := this.1 d hd e
    have o : ahead c d = false := by simp [ahead, hc]
    rw [o] at this
    have : ahead d { c with fin := some nx } = true := this
    simp [this]
end
theorem set_perm : ∀ {cs : List Cl} {i : Nat} (_ : i < cs.length) (x : Cl), (cs.set i x).Perm (x :: cs.eraseIdx i)
  | c :: cs, 0, _, x => .refl _
  | c :: cs, i + 1, h, x => by
    have := set_perm (cs := cs) (i := i) (by simpa using h) x
    exact (this.cons c).trans (List.Perm.swap _ _ _)
theorem at_perm : ∀ {cs : List Cl} {i : Nat} (_ : i < cs.length), cs.Perm (cAt cs i :: cs.eraseIdx i)
  | c :: cs, 0, _ => .refl _
  | c :: cs, i + 1, h => by
    have := at_perm (cs := cs) (i := i) (by simpa using h)
    exact (this.cons c).trans (List.Perm.swap _ _ _)
/-! the whole -/
structure HInv (m n H now many : Int) (h : Hd) : Prop where
  p : PI' m H now h.cs
  few : (h.cs.length : Int) ≤ many
  ord : ∀ x ∈ h.od, 0 ≤ x ∧ x < (h.cs.length : Int)
  deeds : ∀ d ∈ h.ds, 0 ≤ d ∧ d < m
  st0 : 0 ≤ h.st
  st1 : h.st < n
  once : h.od.Nodup
  told : ∀ i : Nat, i < h.cs.length → ((cAt h.cs i).ans.isSome = true ↔ (i : Int) ∈ h.od)
theorem cAt_set {cs : List Cl} {j i : Nat} {x : Cl} (hj : j < cs.length) : cAt (cs.set j x) i = if i = j then x else cAt cs i := by
  unfold cAt
  by_cases h : i = j
  · subst h; simp [hj]
  · have : ¬ j = i := fun e => h e.symm
    simp [h, this, List.getElem?_set]
theorem cAt_app {cs : List Cl} {i : Nat} {x : Cl} : cAt (cs ++ [x]) i = if i < cs.length then cAt cs i else if i = cs.length then x else ⟨0, 0, none, 0, none⟩ := by
  unfold cAt
  by_cases h : i < cs.length
  · simp [h, List.getElem?_append_left h]
  · by_cases h2 : i = cs.length
    · subst h2; simp
    · have : cs.length + 1 ≤ i := by omega
      simp [h, h2]
      rw [List.getElem?_eq_none (by simp; omega)]
      rfl
theorem idle_in {H : Int} {cs : List Cl} {x : Int} (h : x ∈ idleB H cs) : 0 ≤ x ∧ x < H ∧ ∀ c ∈ cs, c.hand = x → c.fin.isSome = true := by
  unfold idleB at h
  obtain ⟨i, hi, rfl⟩ := List.mem_map.mp h
  obtain ⟨h1, h2⟩ := List.mem_filter.mp hi
  have h1 := List.mem_range.mp h1
  have h2 := of_decide_eq_true h2
  refine ⟨by omega, by omega, fun c hc he => ?_⟩
  cases q : c.fin with
  | some e => rfl
  | none =>
    exfalso
    apply h2
    obtain ⟨j, hj, e⟩ := List.mem_iff_getElem.mp hc
    have ej : cAt cs j = c := by simp [cAt, hj, e]
    unfold busyB
    exact List.mem_map.mpr ⟨j, List.mem_filter.mpr ⟨List.mem_range.mpr hj, by rw [ej, q]; rfl⟩, by rw [ej, he]⟩
theorem nx_inv {m n H now nx many : Int} {rs : List T} {h h' : Hd} (R : Rows m n rs) (i : HInv m n H now many h) (hn : 0 ≤ now) (hx : now < nx) (s : Nx H nx many rs h h') : HInv m n H nx many h' := by
  cases s with
  | stay => exact ⟨i.p.mono (by omega), i.few, i.ord, i.deeds, i.st0, i.st1, i.once, i.told⟩
  | beg hand d ds hi hd hm =>
    obtain ⟨g0, g1, gb⟩ := idle_in hi
    have hd' := i.deeds d (by rw [hd]; exact .head _)
    refine ⟨(i.p.beg hx g0 g1 (by omega) hd'.1 hd'.2 gb).perm (List.perm_append_singleton _ _).symm, by simp; omega, fun x hx => ?_, fun x hx => i.deeds x (by rw [hd]; exact .tail _ hx), i.st0, i.st1, i.once, fun j hj => ?_⟩
    · have := i.ord x hx
      simp; omega
    · simp only [List.length_append, List.length_cons, List.length_nil] at hj
      rw [cAt_app]
      by_cases h1 : j < h.cs.length
      · rw [if_pos h1]; exact i.told j h1
      · rw [if_neg h1, if_pos (by omega)]
        refine ⟨fun z => (by cases z), fun z => ?_⟩
        have := (i.ord _ z).2
        omega
  | tell j hj ha =>
    have pp := i.p.perm (at_perm hj)
    have q := pp.call _ (.head _)
    have hf : (cAt h.cs j).fin = none := by
      cases z : (cAt h.cs j).fin with
      | none => rfl
      | some e => have := (q.over e z).2.2; rw [ha] at this; cases this
    obtain ⟨ss, _, s1, s2, s3, s4⟩ := stepAt_ok R q.d0 q.d1 i.st0 i.st1
    have nj : (j : Int) ∉ h.od := fun z => by
      have := (i.told j hj).mpr z
      rw [ha] at this; cases this
    refine ⟨((pp.tell hf s3 s4).mono (by omega)).perm (set_perm hj _).symm, by simpa using i.few, fun x hx => ?_, i.deeds, s1, s2, ?_, fun k hk => ?_⟩
    · simp only [List.length_set]
      rcases List.mem_append.mp hx with hx | hx
      · exact i.ord x hx
      · simp at hx; subst hx; omega
    · rw [List.nodup_append]
      exact ⟨i.once, by simp, fun a ha b hb => by simp at hb; subst hb; exact fun z => nj (z ▸ ha)⟩
    · simp only [List.length_set] at hk
      rw [cAt_set hj]
      by_cases h1 : k = j
      · subst h1
        simp
      · rw [if_neg h1]
        have := i.told k hk
        rw [this]
        simp
        omega
  | over j hj ha hf =>
    have pp := i.p.perm (at_perm hj)
    refine ⟨(pp.over hx hf ha).perm (set_perm hj _).symm, by simpa using i.few, fun x hx => by simp only [List.length_set]; exact i.ord x hx, i.deeds, i.st0, i.st1, i.once, fun k hk => ?_⟩
    simp only [List.length_set] at hk
    rw [cAt_set hj]
    by_cases h1 : k = j
    · subst h1
      rw [if_pos rfl]
      exact i.told k hk
    · rw [if_neg h1]
      exact i.told k hk
end VS

set_option Elab.async false
set_option linter.all false
set_option maxRecDepth 100000
set_option maxHeartbeats 4000000
namespace VS
open PySem PySem.Spec PyProof.Rows L2
theorem cks_at {n i : Nat} (hi : i < n) : (cks n)[i]? = some (.cell (i + 6)) := by simp [cks, hi]
theorem map_nil_iff {ns : List Int} : (ns.map T.int).length = 0 ↔ ns = [] := by simp
abbrev Est (H now many way : Int) (h : Hd) (x9 y10 y11 y12 : Option T) : Env := [some (.cell 1), some (.cell 4), some (.int now), some (.int many), some (.lst ((idleB H h.cs).map T.int)), some (.lst ((waitB h.cs).map T.int)), some (.lst ((toldB h.cs).map T.int)), some (.int way), some (.cell 2), x9, y10, y11, y12, none]
section
variable {r : Rng} {H now many way m n : Int} {rs : List T} {h : Hd} {x9 : Option T}
theorem pick_ints {rest : World} {ns : List Int} (hn : ns ≠ []) (hl : ns.length < 1000000) (o : Ok 1 r) : ∃ i r', s__law_pick [.cell 1, .lst (ns.map T.int)] (WD r rest) = .ok (.int i) (WD r' rest) ∧ i ∈ ns ∧ Adv 1 r r' := by
  have : 0 < ns.length := by cases ns with | nil => exact absurd rfl hn | cons a b => simp
  obtain ⟨t, r', e, ht, a⟩ := pick_lst (rest := rest) (ts := ns.map T.int) (by simpa using this) (by simp; omega) o
  obtain ⟨i, hi, rfl⟩ := List.mem_map.mp ht
  exact ⟨i, r', e, hi, a⟩
theorem busy_len (H : Int) (cs : List Cl) : (idleB H cs).length ≤ H.toNat := by
  unfold idleB
  rw [List.length_map]
  exact Nat.le_trans (List.length_filter_le _ _) (by simp)
theorem wait_len (cs : List Cl) : (waitB cs).length ≤ cs.length := by
  unfold waitB
  rw [List.length_map]
  exact Nat.le_trans (List.length_filter_le _ _) (by simp)
theorem told_len (cs : List Cl) : (toldB cs).length ≤ cs.length := by
  unfold toldB
  rw [List.length_map]
  exact Nat.le_trans (List.length_filter_le _ _) (by simp)
theorem wait_in {cs : List Cl} {x : Int} (h : x ∈ waitB cs) : ∃ i : Nat, x = i ∧ i < cs.length ∧ (cAt cs i).ans = none := by
  unfold waitB at h
  obtain ⟨i, hi, rfl⟩ := List.mem_map.mp h
  obtain ⟨h1, h2⟩ := List.mem_filter.mp hi
  exact ⟨i, rfl, List.mem_range.mp h1, by simpa using h2⟩
theorem told_in {cs : List Cl} {x : Int} (h : x ∈ toldB cs) : ∃ i : Nat, x = i ∧ i < cs.length ∧ (cAt cs i).ans.isSome = true ∧ (cAt cs i).fin = none := by
  unfold toldB at h
  obtain ⟨i, hi, rfl⟩ := List.mem_map.mp h
  obtain ⟨h1, h2⟩ := List.mem_filter.mp hi
  have h2 := (Bool.and_eq_true _ _ ▸ h2 : _ ∧ _)
  exact ⟨i, rfl, List.mem_range.mp h1, h2.1, by simpa using h2.2⟩
theorem stE_ok (hl : h.cs.length ≤ 1000) (o : Ok 1 r) : ∃ y12 h' r', stE (Est H now many way h x9 none none none) (WH r H rs h) = .ok (Est H now many way h x9 none none y12, .nx) (WH r' H rs h') ∧ Nx H now many rs h h' ∧ Adv 1 r r' := by
  have e1 := ne_ints (w := WH r H rs h) (toldB h.cs)
  by_cases hq : toldB h.cs = []
  · refine ⟨none, h, r, ?_, .stay, Adv.refl.mono (by decide)⟩
    unfold stE
    simp [hq, e1] at e1 ⊢
    simp [e1]
  · have hl2 := told_len h.cs
    obtain ⟨x, r', e2, hx, a⟩ := pick_ints (rest := hrest H rs h) hq (by omega) o
    obtain ⟨i, rfl, hi, g1, g2⟩ := told_in hx
    have e3 := sIx_cell (w := WH r' H rs h) (i := (i : Int)) wh2 (by rw [Int.toNat_natCast]; exact cks_at hi) (by omega)
    have e4 := hset_end (r := r') (H := H) (rs := rs) (h := h) (e := now) hi
    refine ⟨some (.cell (i + 6)), _, r', ?_, .over i hi g1 g2, a⟩
    unfold stE
    simp [e1, hq, e2, e3, e4]
theorem stD_ok (R : Rows m n rs) (hl : h.cs.length ≤ 1000) (ho : h.od.length ≤ 1000) (hd : ∀ c ∈ h.cs, 0 ≤ c.deed ∧ c.deed < m) (s0 : 0 ≤ h.st) (s1 : h.st < n) (hq : waitB h.cs ≠ []) (o : Ok 1 r) : ∃ y10 y12 h' r', stD (Est H now many way h x9 none none none) (WH r H rs h) = .ok (Est H now many way h x9 y10 none y12, .nx) (WH r' H rs h') ∧ Nx H now many rs h h' ∧ Adv 1 r r' := by
  have hl2 := wait_len h.cs
  obtain ⟨x, r', e2, hx, a⟩ := pick_ints (rest := hrest H rs h) hq (by omega) o
  obtain ⟨i, rfl, hi, g1⟩ := wait_in hx
  have e3 := sIx_cell (w := WH r' H rs h) (i := (i : Int)) wh2 (by rw [Int.toNat_natCast]; exact cks_at hi) (by omega)
  obtain ⟨i1, i2, i3, i4, i5⟩ := ixc (wh6 (r := r') (H := H) (rs := rs) (h := h) hi)
  have hdi := hd _ (cAt_mem hi)
  obtain ⟨ss, q1, s2, s3, s4, s5⟩ := stepAt_ok R hdi.1 hdi.2 s0 s1
  have q2 := (q1 (WH r' H rs h)).1
  have q3 := (q1 (WH r' H rs h)).2
  have e4 := hset_S (r := r') (H := H) (rs := rs) (h := h) (a := (stepAt rs (cAt h.cs i).deed h.st).1)
  have e5 := hset_ans (r := r') (H := H) (rs := rs) (h := { h with st := (stepAt rs (cAt h.cs i).deed h.st).1 }) (e := (stepAt rs (cAt h.cs i).deed h.st).2) (i := i) hi
  have e6 := happ_order (r := r') (H := H) (rs := rs) (h := { h with st := (stepAt rs (cAt h.cs i).deed h.st).1, cs := h.cs.set i { cAt h.cs i with ans := some (stepAt rs (cAt h.cs i).deed h.st).2 } }) (e := (i : Int)) (by show h.od.length < 16777216; omega)
  have e7 := hx_O (r := r') (H := H) (rs := rs) (h := { h with st := (stepAt rs (cAt h.cs i).deed h.st).1, cs := h.cs.set i { cAt h.cs i with ans := some (stepAt rs (cAt h.cs i).deed h.st).2 } })
  have l3 := lst_cell (wh3 (r := r') (H := H) (rs := rs) (h := { h with st := (stepAt rs (cAt h.cs i).deed h.st).1, cs := h.cs.set i { cAt h.cs i with ans := some (stepAt rs (cAt h.cs i).deed h.st).2 } }))
  refine ⟨some (.int (i : Int)), some (.cell (i + 6)), _, r', ?_, .tell i hi g1, a⟩
  unfold stD
  simp only [mSeq_, mAsg_, mDef_, mCons_, mNil_, mVar0, mVarS, bind_ok', List.length_cons, List.length_nil, if_true, e2, at_ok', mgName_, then_nx, List.set_cons_zero, List.set_cons_succ, mOp2_, e3, hx_T, mC_, i4, q2, hx_S, q3, mgTup_, mgCons_, mgNil_, mgSub_, e4, e5, mDrop_, mMeth_, e7, l3, e6]
theorem stB_ok (hl : h.cs.length ≤ 1000) (hq : idleB H h.cs ≠ []) (hH : H ≤ 1000) (hd : h.ds ≠ []) (hm : (h.cs.length : Int) < many) (o : Ok 1 r) : ∃ y11 h' r', stB (Est H now many way h x9 none none none) (WH r H rs h) = .ok (Est H now many way h x9 none y11 none, .nx) (WH r' H rs h') ∧ Nx H now many rs h h' ∧ Adv 1 r r' := by
  obtain ⟨d, ds, hds⟩ : ∃ d ds, h.ds = d :: ds := by
    cases q : h.ds with
    | nil => exact absurd q hd
    | cons d ds => exact ⟨d, ds, rfl⟩
  have hl2 := busy_len H h.cs
  obtain ⟨hand, r', e2, hx, a⟩ := pick_ints (rest := hrest H rs { h with ds := ds }) hq (by omega) o
  have e4 := hpop (r := r) (H := H) (rs := rs) hds
  have l5 := lst_cell (wh5 (r := r) (H := H) (rs := rs) (h := h))
  have l2 := lst_cell (wh2 (r := r) (H := H) (rs := rs) (h := { h with ds := ds }))
  have e5 := happ_call (r := r') (H := H) (rs := rs) (h := { h with ds := ds }) (c := ⟨hand, now, none, d, none⟩) (by show h.cs.length < 1000000; omega)
  have hnd : ([.inr "hand", .inr "begin", .inr "end", .inr "deed", .inr "answer"] : List Key).Nodup := by decide +kernel
  have hlen' := hlen (r := r') (H := H) (rs := rs) (h := { h with ds := ds })
  refine ⟨some (.int d), _, r', ?_, .beg hand d ds hx hds hm, a⟩
  unfold stB
  simp [hx_D, l5, e4, l2, e2, keyT, hnd, hlen']
  simp [cdic, optT] at e5
  simp [e5]
end
end VS

set_option Elab.async false
set_option linter.all false
set_option maxRecDepth 100000
set_option maxHeartbeats 4000000
namespace VS
open PySem PySem.Spec PyProof.Rows L2
section
variable {r : Rng} {H now many way m n : Int} {rs : List T} {h : Hd} {x9 : Option T}
theorem stA_ok : stA (Est H now many way h x9 none none none) (WH r H rs h) = .ok (decide (way = 0) && (!decide (idleB H h.cs = [])) && decide ((h.cs.length : Int) < many) && !decide (h.ds = [])) (WH r H rs h) := by
  have e1 := ne_ints (w := WH r H rs h) (idleB H h.cs)
  have e2 := ne_intc (wh5 (r := r) (H := H) (rs := rs) (h := h))
  have e3 := sLen_cell (wh2 (r := r) (H := H) (rs := rs) (h := h))
  unfold stA
  by_cases hw : way = 0
  · by_cases hi : idleB H h.cs = []
    · simp [hw, hi] at e1 ⊢; simp [e1]
    · by_cases hm : (h.cs.length : Int) < many
      · simp [hw, e1, hi, e3, cks_len, hm, hx_D, e2]
      · simp [hw, e1, hi, e3, cks_len, hm]
  · simp [hw]
theorem stC_ok : stC (Est H now many way h x9 none none none) (WH r H rs h) = .ok (decide (way = 1) && !decide (waitB h.cs = [])) (WH r H rs h) := by
  have e1 := ne_ints (w := WH r H rs h) (waitB h.cs)
  unfold stC
  by_cases hw : way = 1
  · simp [hw, e1]
  · simp [hw]
theorem st6_ok (R : Rows m n rs) (hl : h.cs.length ≤ 1000) (hH : H ≤ 1000) (ho : h.od.length ≤ 1000) (hd : ∀ c ∈ h.cs, 0 ≤ c.deed ∧ c.deed < m) (s0 : 0 ≤ h.st) (s1 : h.st < n) (o : Ok 1 r) : ∃ y10 y11 y12 h' r', st6 (Est H now many way h x9 none none none) (WH r H rs h) = .ok (Est H now many way h x9 y10 y11 y12, .nx) (WH r' H rs h') ∧ Nx H now many rs h h' ∧ Adv 1 r r' := by
  unfold st6
  rw [mIfS_, stA_ok, bind_ok']
  by_cases hA : (decide (way = 0) && (!decide (idleB H h.cs = [])) && decide ((h.cs.length : Int) < many) && !decide (h.ds = [])) = true
  · rw [if_pos hA]
    simp at hA
    obtain ⟨y, h', r', e, s, a⟩ := stB_ok (r := r) (way := way) (x9 := x9) (rs := rs) (now := now) hl hA.1.1.2 hH hA.2 hA.1.2 o
    exact ⟨_, _, _, h', r', e, s, a⟩
  · rw [if_neg hA, mIfS_, stC_ok, bind_ok']
    by_cases hC : (decide (way = 1) && !decide (waitB h.cs = [])) = true
    · rw [if_pos hC]
      simp at hC
      obtain ⟨y, y', h', r', e, s, a⟩ := stD_ok (r := r) (way := way) (x9 := x9) (now := now) (many := many) (H := H) R hl ho hd s0 s1 hC.2 o
      exact ⟨_, _, _, h', r', e, s, a⟩
    · rw [if_neg hC]
      obtain ⟨y, h', r', e, s, a⟩ := stE_ok (r := r) (way := way) (x9 := x9) (now := now) (many := many) (H := H) (rs := rs) hl o
      exact ⟨_, _, _, h', r', e, s, a⟩
theorem step_ok (R : Rows m n rs) (hl : h.cs.length ≤ 1000) (h0 : 0 ≤ H) (hH : H ≤ 1000) (ho : h.od.length ≤ 1000) (hd : ∀ c ∈ h.cs, 0 ≤ c.deed ∧ c.deed < m) (s0 : 0 ≤ h.st) (s1 : h.st < n) (o : Ok 2 r) : ∃ h' r', s__law_hi_step [.cell 1, .cell 4, .int now, .int many] (WH r H rs h) = .ok (.cell 4) (WH r' H rs h') ∧ Nx H now many rs h h' ∧ Adv 2 r r' := by
  obtain ⟨q, r1, e5, _, _, a⟩ := draw_ok (rest := hrest H rs h) (r := r) (n := 3) (by decide) (by decide) (o.on Adv.refl 1 (by decide))
  obtain ⟨y10, y11, y12, h', r2, e6, s, b⟩ := st6_ok (r := r1) (way := q) (x9 := some (.lst ((busyB h.cs).map T.int))) (now := now) (many := many) (H := H) R hl hH ho hd s0 s1 (o.on a 1 (by decide))
  have k1 := st1_ok (r := r) (H := H) (now := now) (many := many) (rs := rs) (h := h) hl
  have k2 := st2_ok (r := r) (H := H) (now := now) (many := many) (rs := rs) (h := h) h0 hH
  have k3 := st3_ok (r := r) (H := H) (now := now) (many := many) (rs := rs) (h := h) (x4 := some (.lst ((idleB H h.cs).map T.int))) (x9 := some (.lst ((busyB h.cs).map T.int))) hl
  have k4 := st4_ok (r := r) (H := H) (now := now) (many := many) (rs := rs) (h := h) (x4 := some (.lst ((idleB H h.cs).map T.int))) (x5 := some (.lst ((waitB h.cs).map T.int))) (x9 := some (.lst ((busyB h.cs).map T.int))) hl
  have k5 : st5 [some (.cell 1), some (.cell 4), some (.int now), some (.int many), some (.lst ((idleB H h.cs).map T.int)), some (.lst ((waitB h.cs).map T.int)), some (.lst ((toldB h.cs).map T.int)), none, some (.cell 2), some (.lst ((busyB h.cs).map T.int)), none, none, none, none] (WH r H rs h) = .ok (Est H now many q h (some (.lst ((busyB h.cs).map T.int))) none none none, .nx) (WH r1 H rs h) := by
    unfold st5
    simp [e5]
  have k7 : st7 (Est H now many q h (some (.lst ((busyB h.cs).map T.int))) y10 y11 y12) (WH r2 H rs h') = .ok (Est H now many q h (some (.lst ((busyB h.cs).map T.int))) y10 y11 y12, .ret (.cell 4)) (WH r2 H rs h') := by
    unfold st7
    simp
  have fin := (seq_ok (m2 := mSeq st2 (mSeq st3 (mSeq st4 (mSeq st5 (mSeq st6 st7))))) k1).trans ((seq_ok k2).trans ((seq_ok k3).trans ((seq_ok k4).trans ((seq_ok k5).trans ((seq_ok e6).trans k7)))))
  refine ⟨h', r2, ?_, s, a.trans b⟩
  unfold s__law_hi_step runB
  rw [_law_hi_step_parts]
  simp only [List.map_cons, List.map_nil, List.length_cons, List.length_nil, Nat.reduceAdd, Nat.reduceSub, List.replicate_succ, List.replicate_zero, List.cons_append, List.nil_append]
  rw [fin]
end
end VS

set_option Elab.async false
set_option linter.all false
set_option maxRecDepth 100000
set_option maxHeartbeats 4000000
namespace VS
open PySem PySem.Spec PyProof.Rows L2
/-! ### a drawn run -/
noncomputable def rn1 : MS := (mAsg (mDict (mpCons (mC (.str "calls")) (mCell (mLst mNil)) (mpCons (mC (.str "order")) (mCell (mLst mNil)) (mpCons (mC (.str "state")) (mVar 2) (mpCons (mC (.str "table")) (mVar 1) (mpCons (mC (.str "hands")) (mOp2 sAdd (mC (.int 1)) (mDef 2 s__law_draw (mCons (mVar 0) (mCons (mC (.int 6)) mNil)))) mpNil)))))) (mgName 5))
noncomputable def rn2 : MS := (mAsg (mCell (mCallF sList (mCons (mVar 3) mNil))) (mgSub sSet (mVar 5) (mC (.str "deeds"))))
noncomputable def rn3 : MS := (mAsg (mDef 2 s__law_draw (mCons (mVar 0) (mCons (mC (.int 3)) mNil))) (mgName 6))
noncomputable def rn4b1 : MS := (mAsg (mOp2 sAdd (mOp2 sAdd (mVar 6) (mC (.int 1))) (mDef 2 s__law_draw (mCons (mVar 0) (mCons (mC (.int 3)) mNil)))) (mgName 6))
noncomputable def rn4b2 : MS := (mAsg (mDef 4 s__law_hi_step (mCons (mVar 0) (mCons (mVar 5) (mCons (mVar 6) (mCons (mCall sLen (mCons (mVar 3) mNil)) mNil))))) (mgName 5))
noncomputable def rn4b : MS := (mSeq rn4b1 rn4b2)
noncomputable def rn4 : MS := mFor (mRange1 (mCons (mVar 4) mNil)) (mgName 7) rn4b
noncomputable def rn5 : MS := (mPar 10 11 (mCons (mVal (mCallF sList (mCons (mOp2 sIx (mVar 5) (mC (.str "order"))) mNil))) (mCons (mCell (mLst mNil)) mNil)))
noncomputable def rn6 : MS := (mAsg (mDef 2 s__law_mixed (mCons (mVar 0) (mCons (mVal (mLRg1 (mCall sLen (mCons (mOp2 sIx (mVar 5) (mC (.str "calls"))) mNil)))) mNil))) (mgName 8))
noncomputable def rn7b1 : MS := (mAsg (mOp2 sIx (mOp2 sIx (mVar 5) (mC (.str "calls"))) (mVar 9)) (mgName 12))
noncomputable def rn7b2 : MS := (mAsg (mIf (mTest (mOp2 sIsNot (mOp2 sIx (mVar 12) (mC (.str "end"))) (mC .non))) (mOp2 sIx (mVar 12) (mC (.str "answer"))) (mC .non)) (mgName 13))
noncomputable def rn7b3 : MS := (mDrop (mMeth sAppend (mVar 11) (mCons (mTup (mCons (mOp2 sIx (mVar 12) (mC (.str "hand"))) (mCons (mOp2 sIx (mVar 12) (mC (.str "begin"))) (mCons (mOp2 sIx (mVar 12) (mC (.str "end"))) (mCons (mOp2 sIx (mVar 12) (mC (.str "deed"))) (mCons (mVar 13) mNil)))))) mNil)))
noncomputable def rn7b : MS := (mSeq rn7b1 (mSeq rn7b2 rn7b3))
noncomputable def rn7 : MS := mFor (mItems (mVar 8)) (mgName 9) rn7b
noncomputable def rn8 : MS := (mRet (mTup (mCons (mVar 11) (mCons (mVal (mComp [9] (mItems (mVar 10)) (mgName 9) mYes (mMeth sIndexL (mVar 8) (mCons (mVar 9) mNil)))) (mCons (mOp2 sIx (mVar 5) (mC (.str "state"))) mNil)))))
theorem _law_hi_run_parts : m__law_hi_run = (mSeq rn1 (mSeq rn2 (mSeq rn3 (mSeq rn4 (mSeq rn5 (mSeq rn6 (mSeq rn7 rn8))))))) := rfl
theorem WD_app {r : Rng} {rest ex : World} : WD r rest ++ ex = WD r (rest ++ ex) := rfl
theorem perm_map_ex {β : Type} {f : Nat → β} : ∀ {l : List β} {as : List Nat}, l.Perm (as.map f) → ∃ bs : List Nat, l = bs.map f ∧ bs.Perm as
  | [], as, h => by
    have : as = [] := by simpa using h.symm.eq_nil
    subst this
    exact ⟨[], rfl, .refl _⟩
  | b :: l, as, h => by
    obtain ⟨a, ha, rfl⟩ := List.mem_map.mp (h.mem_iff.mp (.head _))
    have p := List.perm_cons_erase ha
    have q : l.Perm ((as.erase a).map f) := (h.trans (p.map f)).cons_inv
    obtain ⟨bs, rfl, pb⟩ := perm_map_ex q
    exact ⟨a :: bs, rfl, (pb.cons a).trans p.symm⟩
section
variable {r : Rng} {w : World} {s H now many m n : Int} {rs : List T} {h : Hd} {ds : List Int} {x7 x8 x9 x10 x11 x12 x13 : Option T} {ex : World}
theorem gx_C (e : w[4]? = some (.dic (hdic s H rs))) : sIx (.cell 4) (.str "calls") w = .ok (.cell 2) w := by
  have := hC (s := s) (H := H) (rs := rs); simp [sIx, e, keyT, this]
theorem gx_O (e : w[4]? = some (.dic (hdic s H rs))) : sIx (.cell 4) (.str "order") w = .ok (.cell 3) w := by
  have := hO (s := s) (H := H) (rs := rs); simp [sIx, e, keyT, this]
theorem gx_S (e : w[4]? = some (.dic (hdic s H rs))) : sIx (.cell 4) (.str "state") w = .ok (.int s) w := by
  have := hS (s := s) (H := H) (rs := rs); simp [sIx, e, keyT, this]
abbrev Ern (rs : List T) (ds : List Int) (x5 x6 x7 x8 x9 x10 x11 x12 x13 : Option T) : Env := [some (.cell 1), some (.tup rs), some (.int 0), some (.lst (ds.map T.int)), some (.int 30), x5, x6, x7, x8, x9, x10, x11, x12, x13]
theorem rn1_ok (o : Ok 1 r) : ∃ q r', rn1 (Ern rs ds none none none none none none none none none) (WD r []) = .ok (Ern rs ds (some (.cell 4)) none none none none none none none none, .nx) (WD r' [.lst [], .lst [], .dic (hdic0 0 (1 + q) rs)]) ∧ 0 ≤ q ∧ q < 6 ∧ Adv 1 r r' := by
  obtain ⟨q, r1, e1, q0, q1, a⟩ := draw_ok (rest := [.lst [], .lst []]) (r := r) (n := 6) (by decide) (by decide) o
  refine ⟨q, r1, ?_, q0, q1, a⟩
  have hnd : ([hkC, hkO, hkS, hkT, hkH] : List Key).Nodup := by decide +kernel
  have l0 : (0 : Nat) ≤ sizeLine := by omega
  unfold rn1
  simp [WD_app, e1, keyT, hnd]
  exact ⟨rfl, rfl⟩
theorem rn2_ok : rn2 (Ern rs ds (some (.cell 4)) none none none none none none none none) (WD r [.lst [], .lst [], .dic (hdic0 0 H rs)]) = .ok (Ern rs ds (some (.cell 4)) none none none none none none none none, .nx) (WH r H rs ⟨[], [], 0, ds⟩) := by
  unfold rn2
  have hw : (WD r [.lst [], .lst [], .dic (hdic0 0 H rs), .lst (ds.map T.int)])[4]? = some (.dic (hdic0 0 H rs)) := rfl
  have e := putD (s := 0) (H := H) (rs := rs)
  have hl : (hdic0 0 H rs).length < sizeLine := by show 5 < sizeLine; rw [sizeLine_eq]; decide
  have hs : sSet (.cell 4) (.str "deeds") (.cell 5) (WD r [.lst [], .lst [], .dic (hdic0 0 H rs), .lst (ds.map T.int)]) = .ok () (WH r H rs ⟨[], [], 0, ds⟩) := by
    simp [sSet, hw, keyT, e, hl]
    rfl
  simp [WD_app]
  have hlw : (WD r [Cell.lst [], Cell.lst [], Cell.dic (hdic0 0 H rs)]).length = 5 := rfl
  simp [hlw, hs]
theorem rn3_ok (o : Ok 1 r) : ∃ q r', rn3 (Ern rs ds (some (.cell 4)) none none none none none none none none) (WH r H rs h) = .ok (Ern rs ds (some (.cell 4)) (some (.int q)) none none none none none none none, .nx) (WH r' H rs h) ∧ 0 ≤ q ∧ q < 3 ∧ Adv 1 r r' := by
  obtain ⟨q, r1, e1, q0, q1, a⟩ := draw_ok (rest := hrest H rs h) (r := r) (n := 3) (by decide) (by decide) o
  refine ⟨q, r1, ?_, q0, q1, a⟩
  unfold rn3
  simp [e1]
theorem nx_ord {h h' : Hd} (s : Nx H now many rs h h') : h'.od.length ≤ h.od.length + 1 := by
  cases s <;> simp
theorem rn4b_ok (R : Rows m n rs) (i : HInv m n H now many h) (hm : many = ds.length) (h9 : many ≤ 9) (h0 : 0 ≤ H) (hH : H ≤ 6) (hn : 0 ≤ now) (ho : h.od.length ≤ 900) (o : Ok 3 r) : ∃ q h' r', rn4b (Ern rs ds (some (.cell 4)) (some (.int now)) x7 none none none none none none) (WH r H rs h) = .ok (Ern rs ds (some (.cell 4)) (some (.int q)) x7 none none none none none none, .nx) (WH r' H rs h') ∧ now < q ∧ q ≤ now + 3 ∧ HInv m n H q many h' ∧ h'.od.length ≤ h.od.length + 1 ∧ Adv 3 r r' := by
  obtain ⟨q, r1, e1, q0, q1, a⟩ := draw_ok (rest := hrest H rs h) (r := r) (n := 3) (by decide) (by decide) (o.on Adv.refl 1 (by decide))
  have hl := i.few
  obtain ⟨h', r2, e2, s, b⟩ := step_ok (r := r1) (H := H) (now := now + 1 + q) (many := many) (rs := rs) (h := h) R (by omega) h0 (by omega) (by omega) (fun c hc => ⟨(i.p.call c hc).d0, (i.p.call c hc).d1⟩) i.st0 i.st1 (o.on a 2 (by decide))
  have k1 : rn4b1 (Ern rs ds (some (.cell 4)) (some (.int now)) x7 none none none none none none) (WH r H rs h) = .ok (Ern rs ds (some (.cell 4)) (some (.int (now + 1 + q))) x7 none none none none none none, .nx) (WH r1 H rs h) := by
    unfold rn4b1
    simp [e1]
  have k2 : rn4b2 (Ern rs ds (some (.cell 4)) (some (.int (now + 1 + q))) x7 none none none none none none) (WH r1 H rs h) = .ok (Ern rs ds (some (.cell 4)) (some (.int (now + 1 + q))) x7 none none none none none none, .nx) (WH r2 H rs h') := by
    unfold rn4b2
    rw [hm] at e2
    simp [e2]
  refine ⟨now + 1 + q, h', r2, (seq_ok k1).trans k2, by omega, by omega, nx_inv R i hn (by omega) s, nx_ord s, (a.trans b).mono (by decide)⟩
theorem rn4_ok (R : Rows m n rs) (hd : ∀ d ∈ ds, 0 ≤ d ∧ d < m) (h9 : ds.length ≤ 9) (hn1 : 0 < n) (h0 : 0 ≤ H) (hH : H ≤ 6) (hn : 0 ≤ now) (hn2 : now < 3) (o : Ok 90 r) : ∃ q h' r' y7, rn4 (Ern rs ds (some (.cell 4)) (some (.int now)) none none none none none none none) (WH r H rs ⟨[], [], 0, ds⟩) = .ok (Ern rs ds (some (.cell 4)) (some (.int q)) y7 none none none none none none, .nx) (WH r' H rs h') ∧ 0 ≤ q ∧ q ≤ 100 ∧ HInv m n H q ds.length h' ∧ h'.od.length ≤ 30 ∧ Adv 90 r r' := by
  obtain ⟨ρ', w', e, q, h', r', y7, rfl, rfl, q0, q1, i', l, a⟩ := forL_run (P := fun i ρ w => ∃ q h' r' y7, ρ = Ern rs ds (some (.cell 4)) (some (.int q)) y7 none none none none none none ∧ w = WH r' H rs h' ∧ 0 ≤ q ∧ q ≤ 2 + 3 * (i : Int) ∧ HInv m n H q ds.length h' ∧ h'.od.length ≤ i ∧ Adv (3 * (i : Int)) r r') (g := mgName 7) (b := rn4b) (all := rgT 0 30) (ρ := Ern rs ds (some (.cell 4)) (some (.int now)) none none none none none none none) (w := WH r H rs ⟨[], [], 0, ds⟩)
    ⟨now, _, r, none, rfl, rfl, hn, by omega, ⟨⟨(fun c hc => by cases hc), by simp [moms], .nil⟩, by simp, (fun x hx => by cases hx), hd, Int.le_refl _, hn1, .nil, (fun i hi => absurd hi (Nat.not_lt_zero _))⟩, Nat.zero_le _, Adv.refl.mono (by omega)⟩ (fun i t ρ w ht p => by
      obtain ⟨q, h', r', y7, rfl, rfl, q0, q1, i', l, a⟩ := p
      have hi : i < 30 := by have := (List.getElem?_eq_some_iff.mp ht).1; rwa [rgT_length] at this
      obtain ⟨q2, h2, r2, e2, g1, g2, i2, l2, a2⟩ := rn4b_ok (r := r') (x7 := some t) R i' rfl (by omega) h0 hH q0 (by omega) (o.on a 3 (by omega))
      exact ⟨_, _, (by rw [mgName_, bind_ok']; exact e2), q2, h2, r2, some t, rfl, rfl, by omega, by omega, i2, by omega, (a.trans a2).mono (by omega)⟩)
  rw [rgT_length] at q1 l a
  refine ⟨q, h', r', y7, ?_, q0, by omega, i', l, a.mono (by omega)⟩
  have i1 := sRange1_ (n := 30) (w := WH r H rs ⟨[], [], 0, ds⟩) (by decide) (by decide)
  unfold rn4
  rw [mFor_]
  simp only [mRange1_, mCons_, mNil_, mVar0, mVarS, bind_ok', i1]
  exact e
end
end VS

set_option Elab.async false
set_option linter.all false
set_option maxRecDepth 100000
set_option maxHeartbeats 4000000
namespace VS
open PySem PySem.Spec PyProof.Rows L2
/-! ### the history of a run -/
def fixc (c : Cl) : Cl := { c with ans := if c.fin.isSome = true then c.ans else none }
theorem moms_fix (cs : List Cl) : moms (cs.map fixc) = moms cs := by
  unfold moms
  rw [List.filter_map, List.map_map, List.map_map]
  rfl
theorem apart_fix {c d : Cl} (h : Apart c d) : Apart (fixc c) (fixc d) := h
structure Hist (m : Int) (cs : List Cl) : Prop where
  ok : ∀ c ∈ cs, ClOk m c
  le : ∀ x ∈ moms cs, 0 ≤ x ∧ x ≤ 100
  few : cs.length ≤ 9
  mom : (moms cs).Nodup
  apart : cs.Pairwise Apart
theorem hist_of {m n H now : Int} {k : Nat} {h : Hd} (i : HInv m n H now k h) (hk : k ≤ 9) (hH : H ≤ 6) (hn : now ≤ 100) {cs : List Cl} (p : cs.Perm (h.cs.map fixc)) : Hist m cs := by
  have len : cs.length ≤ 9 := by
    have := p.length_eq
    have := i.few
    simp at *
    omega
  refine ⟨fun c hc => ?_, fun x hx => ?_, len, ?_, ?_⟩
  · obtain ⟨d, hd, rfl⟩ := List.mem_map.mp (p.mem_iff.mp hc)
    have q := i.p.call d hd
    refine ⟨q.h0, by have := q.h1; show d.hand < 6; omega, q.b0, by have := q.b1; show d.beg ≤ _; omega, q.d0, q.d1, fun e => ?_, fun e he => ?_⟩
    · have e : d.fin = none := e
      simp [fixc, e]
    · have he : d.fin = some e := he
      obtain ⟨g1, g2, g3⟩ := q.over e he
      refine ⟨g1, by omega, ?_⟩
      cases z : d.ans with
      | none => rw [z] at g3; cases g3
      | some a => exact ⟨a, by simp [fixc, he, z], q.tell a z⟩
  · have hx := (moms_perm p).mem_iff.mp hx
    rw [moms_fix] at hx
    refine ⟨?_, by have := i.p.le hx; omega⟩
    obtain ⟨c, hc, rfl | he⟩ := moms_mem.mp hx
    · exact (i.p.call c hc).b0
    · have := (i.p.call c hc).over x he
      have := (i.p.call c hc).b0
      omega
  · have := (moms_perm p).nodup_iff.mpr (by rw [moms_fix]; exact i.p.mom)
    exact this
  · refine (p.pairwise_iff (fun h => apart_symm h)).mpr ?_
    rw [List.pairwise_map]
    exact i.p.apart
section
variable {r : Rng} {w : World} {s H now many m n q : Int} {rs : List T} {h : Hd} {ds : List Int} {x7 x8 x9 x10 x11 x12 x13 : Option T} {ex : World} {ps : List Nat} {hist : List T}
theorem rn5_ok : rn5 (Ern rs ds (some (.cell 4)) (some (.int q)) x7 none none none none none none) (WH r H rs h) = .ok (Ern rs ds (some (.cell 4)) (some (.int q)) x7 none none (some (.lst (h.od.map T.int))) (some (.cell (h.cs.length + 6))) none none, .nx) (WD r (hrest H rs h ++ [.lst []])) := by
  have e := hx_O (r := r) (H := H) (rs := rs) (h := h)
  have l := sList_cell (wh3 (r := r) (H := H) (rs := rs) (h := h))
  have hl := hlen (r := r) (H := H) (rs := rs) (h := h)
  unfold rn5
  simp [e, l, hl]
  rfl
theorem gw4 : (WD r (hrest H rs h ++ ex))[4]? = some (.dic (hdic h.st H rs)) := rfl
theorem gw2 : (WD r (hrest H rs h ++ ex))[2]? = some (.lst (cks h.cs.length)) := rfl
theorem gw6 {i : Nat} (hi : i < h.cs.length) : (WD r (hrest H rs h ++ ex))[i + 6]? = some (.dic (cdic (cAt h.cs i))) := by
  show ((h.cs.map fun c => Cell.dic (cdic c)) ++ ex)[i]? = _
  rw [List.getElem?_append_left (by simpa using hi), List.getElem?_map, cAt_some hi]; rfl
theorem gwk : (WD r (hrest H rs h ++ [.lst hist]))[h.cs.length + 6]? = some (.lst hist) := by
  show ((h.cs.map fun c => Cell.dic (cdic c)) ++ [Cell.lst hist])[h.cs.length]? = _
  rw [List.getElem?_append_right (by simp)]
  simp
theorem gsk {t : List T} : (WD r (hrest H rs h ++ [.lst hist])).set (h.cs.length + 6) (.lst t) = WD r (hrest H rs h ++ [.lst t]) := by
  show WD r ((hrest H rs h ++ [Cell.lst hist]).set (h.cs.length + 4) (.lst t)) = _
  congr 1
  have : h.cs.length + 4 = (hrest H rs h).length + 0 := by simp [hrest]
  rw [this, set_app]
  rfl
theorem rn6_gen {M : MF} {ρ : Env} {w w' : World} {all out : List T} {y0 : T} {ρ' : Env} (hρ : ρ = some y0 :: ρ') (hM : M ρ w = .ok all w) (e : s__law_mixed [y0, .lst all] w = .ok (.lst out) w') : (mAsg (mDef 2 s__law_mixed (mCons (mVar 0) (mCons (mVal M) mNil))) (mgName 8)) ρ w = .ok (ρ.set 8 (some (.lst out)), .nx) w' := by
  subst hρ
  simp only [mAsg_, mDef_, mCons_, mNil_, mVar0, bind_ok', mVal_, hM, e, List.length_cons, List.length_nil, if_true, at_ok', mgName_]
theorem lrg_gen {a : ME} {ρ : Env} {w : World} {n : Nat} {k : Int} (ha : a ρ w = .ok (.int k) w) (hk : k.toNat = n) (h0 : 0 ≤ k) (h1 : k ≤ 1000) : mLRg1 a ρ w = .ok (rgT 0 n) w := by
  have rg : L2.RgOk 0 k := ⟨by decide, by decide, by omega, by omega⟩
  rw [mLRg1_, ha, bind_ok']
  simp only
  rw [if_pos rg, hk]
theorem rn6_ok (hl : h.cs.length ≤ 1000) (o : Ok h.cs.length r) : ∃ (ps : List Nat) (r' : Rng), rn6 (Ern rs ds (some (.cell 4)) (some (.int q)) x7 none none x10 x11 none none) (WD r (hrest H rs h ++ [.lst []])) = .ok (Ern rs ds (some (.cell 4)) (some (.int q)) x7 (some (.lst (ps.map fun (i : Nat) => T.int (0 + (i : Int))))) none x10 x11 none none, .nx) (WD r' (hrest H rs h ++ [.lst []])) ∧ ps.Perm (List.range h.cs.length) ∧ Adv h.cs.length r r' := by
  have e1 := gx_C (gw4 (r := r) (H := H) (rs := rs) (h := h) (ex := [.lst []]))
  have e2 := sLen_cell (gw2 (r := r) (H := H) (rs := rs) (h := h) (ex := [.lst []]))
  have hp : ∀ t ∈ rgT 0 h.cs.length, PlainT 1 t := fun t ht => by
    obtain ⟨i, rfl, _⟩ := rgT_mem ht
    exact plain_int
  obtain ⟨out, r', e3, p, a⟩ := mixed_ok (rest := hrest H rs h ++ [.lst []]) (r := r) (sv := .lst (rgT 0 h.cs.length)) (ts := rgT 0 h.cs.length) (.inl rfl) (show 1 ≤ 50 by decide) hp (by rw [rgT_length]; omega) (by rw [rgT_length]; exact o)
  obtain ⟨ps, rfl, pp⟩ := perm_map_ex p
  rw [rgT_length] at a
  refine ⟨ps, r', ?_, pp, a⟩
  obtain ⟨k, hk⟩ : ∃ k : Int, k = ((cks h.cs.length).length : Int) := ⟨_, rfl⟩
  rw [← hk] at e2
  rw [cks_len] at hk
  have hM := lrg_gen (a := mCall sLen (mCons (mOp2 sIx (mVar 5) (mC (.str "calls"))) mNil)) (ρ := Ern rs ds (some (.cell 4)) (some (.int q)) x7 none none x10 x11 none none) (w := WD r (hrest H rs h ++ [.lst []])) (n := h.cs.length) (k := k) (by
    simp only [mCall_, mCons_, mNil_, mOp2_, mVar0, mVarS, mC_, bind_ok', e1, e2]) (by omega) (by omega) (by omega)
  exact rn6_gen rfl hM e3
theorem rn7b_ok {i : Nat} (hi : i < h.cs.length) (hl : hist.length < 1000) : ∃ y12 y13, rn7b (Ern rs ds (some (.cell 4)) (some (.int q)) x7 x8 (some (.int (0 + (i : Int)))) x10 (some (.cell (h.cs.length + 6))) x12 x13) (WD r (hrest H rs h ++ [.lst hist])) = .ok (Ern rs ds (some (.cell 4)) (some (.int q)) x7 x8 (some (.int (0 + (i : Int)))) x10 (some (.cell (h.cs.length + 6))) y12 y13, .nx) (WD r (hrest H rs h ++ [.lst (hist ++ [clT (fixc (cAt h.cs i))])])) := by
  have e1 := gx_C (gw4 (r := r) (H := H) (rs := rs) (h := h) (ex := [.lst hist]))
  have e3 := sIx_cell (w := WD r (hrest H rs h ++ [.lst hist])) (i := (0 + (i : Int))) gw2 (by rw [Int.zero_add, Int.toNat_natCast]; exact cks_at hi) (by omega)
  obtain ⟨i1, i2, i3, i4, i5⟩ := ixc (gw6 (r := r) (H := H) (rs := rs) (h := h) (ex := [.lst hist]) hi)
  have l := lst_cell (gwk (r := r) (H := H) (rs := rs) (h := h) (hist := hist))
  have ap := append_cell (t := clT (fixc (cAt h.cs i))) (gwk (r := r) (H := H) (rs := rs) (h := h) (hist := hist)) (by omega)
  rw [gsk] at ap
  have k1 : rn7b1 (Ern rs ds (some (.cell 4)) (some (.int q)) x7 x8 (some (.int (0 + (i : Int)))) x10 (some (.cell (h.cs.length + 6))) x12 x13) (WD r (hrest H rs h ++ [.lst hist])) = .ok (Ern rs ds (some (.cell 4)) (some (.int q)) x7 x8 (some (.int (0 + (i : Int)))) x10 (some (.cell (h.cs.length + 6))) (some (.cell (i + 6))) x13, .nx) (WD r (hrest H rs h ++ [.lst hist])) := by
    unfold rn7b1
    simp only [mAsg_, mOp2_, mVar0, mVarS, mC_, bind_ok', e1, e3, mgName_, List.set_cons_zero, List.set_cons_succ]
  have k2 : rn7b2 (Ern rs ds (some (.cell 4)) (some (.int q)) x7 x8 (some (.int (0 + (i : Int)))) x10 (some (.cell (h.cs.length + 6))) (some (.cell (i + 6))) x13) (WD r (hrest H rs h ++ [.lst hist])) = .ok (Ern rs ds (some (.cell 4)) (some (.int q)) x7 x8 (some (.int (0 + (i : Int)))) x10 (some (.cell (h.cs.length + 6))) (some (.cell (i + 6))) (some (optT (fixc (cAt h.cs i)).ans)), .nx) (WD r (hrest H rs h ++ [.lst hist])) := by
    unfold rn7b2
    cases hf : (cAt h.cs i).fin with
    | none => rw [hf] at i3; simp [i3, optT_isnot, fixc, hf]; rfl
    | some e => rw [hf] at i3; simp [i3, optT_isnot, fixc, hf, i5]
  have l5 : (5 : Nat) ≤ sizeLine := by rw [sizeLine_eq]; decide
  have k3 : rn7b3 (Ern rs ds (some (.cell 4)) (some (.int q)) x7 x8 (some (.int (0 + (i : Int)))) x10 (some (.cell (h.cs.length + 6))) (some (.cell (i + 6))) (some (optT (fixc (cAt h.cs i)).ans))) (WD r (hrest H rs h ++ [.lst hist])) = .ok (Ern rs ds (some (.cell 4)) (some (.int q)) x7 x8 (some (.int (0 + (i : Int)))) x10 (some (.cell (h.cs.length + 6))) (some (.cell (i + 6))) (some (optT (fixc (cAt h.cs i)).ans)), .nx) (WD r (hrest H rs h ++ [.lst (hist ++ [clT (fixc (cAt h.cs i))])])) := by
    have e : (T.tup [.int (cAt h.cs i).hand, .int (cAt h.cs i).beg, optT (cAt h.cs i).fin, .int (cAt h.cs i).deed, optT (fixc (cAt h.cs i)).ans]) = clT (fixc (cAt h.cs i)) := rfl
    unfold rn7b3
    simp only [mDrop_, mMeth_, mVar0, mVarS, bind_ok', l, mCons_, mNil_, mTup_, mOp2_, mC_, i1, i2, i3, i4, List.length_cons, List.length_nil, Nat.zero_add, Nat.reduceAdd, if_pos l5, e, ap]
  exact ⟨_, _, (seq_ok k1).trans ((seq_ok k2).trans k3)⟩
theorem rn7_ok (hl : h.cs.length ≤ 100) (pp : ps.Perm (List.range h.cs.length)) : ∃ y9 y12 y13, rn7 (Ern rs ds (some (.cell 4)) (some (.int q)) x7 (some (.lst (ps.map fun (i : Nat) => T.int (0 + (i : Int))))) none x10 (some (.cell (h.cs.length + 6))) none none) (WD r (hrest H rs h ++ [.lst []])) = .ok (Ern rs ds (some (.cell 4)) (some (.int q)) x7 (some (.lst (ps.map fun (i : Nat) => T.int (0 + (i : Int))))) y9 x10 (some (.cell (h.cs.length + 6))) y12 y13, .nx) (WD r (hrest H rs h ++ [.lst (ps.map fun i => clT (fixc (cAt h.cs i)))])) := by
  have pl : ps.length = h.cs.length := by simpa using pp.length_eq
  obtain ⟨ρ', w', e, y9, y12, y13, rfl, rfl⟩ := forL_run (P := fun i ρ w => ∃ y9 y12 y13, ρ = Ern rs ds (some (.cell 4)) (some (.int q)) x7 (some (.lst (ps.map fun (i : Nat) => T.int (0 + (i : Int))))) y9 x10 (some (.cell (h.cs.length + 6))) y12 y13 ∧ w = WD r (hrest H rs h ++ [.lst ((ps.take i).map fun i => clT (fixc (cAt h.cs i)))])) (g := mgName 9) (b := rn7b) (all := ps.map fun (i : Nat) => T.int (0 + (i : Int))) (ρ := Ern rs ds (some (.cell 4)) (some (.int q)) x7 (some (.lst (ps.map fun (i : Nat) => T.int (0 + (i : Int))))) none x10 (some (.cell (h.cs.length + 6))) none none) (w := WD r (hrest H rs h ++ [.lst []]))
    ⟨none, none, none, rfl, rfl⟩ (fun i t ρ w ht p => by
      obtain ⟨y9, y12, y13, rfl, rfl⟩ := p
      rw [List.getElem?_map] at ht
      cases z : ps[i]? with
      | none => rw [z] at ht; cases ht
      | some j =>
        rw [z] at ht
        cases ht
        have hj : j < h.cs.length := List.mem_range.mp (pp.mem_iff.mp (List.mem_of_getElem? z))
        have hi := (List.getElem?_eq_some_iff.mp z).1
        obtain ⟨z12, z13, e⟩ := rn7b_ok (r := r) (H := H) (rs := rs) (h := h) (ds := ds) (q := q) (x7 := x7) (x8 := some (.lst (ps.map fun (i : Nat) => T.int (0 + (i : Int))))) (x10 := x10) (x12 := y12) (x13 := y13) (hist := (ps.take i).map fun i => clT (fixc (cAt h.cs i))) hj (by simp; omega)
        refine ⟨_, _, (by rw [mgName_, bind_ok']; exact e), _, z12, z13, rfl, ?_⟩
        rw [List.take_add_one, z, List.map_append]
        rfl)
  refine ⟨y9, y12, y13, ?_⟩
  rw [List.length_map, List.take_length] at e
  unfold rn7
  rw [mFor_]
  simp only [mItems_, mVar0, mVarS, bind_ok', sItems_lst]
  exact e
end
end VS

set_option Elab.async false
set_option linter.all false
set_option maxRecDepth 100000
set_option maxHeartbeats 4000000
namespace VS
open PySem PySem.Spec PyProof.Rows L2
def ixOf (ps : List Nat) (x : Int) : Nat := ((ps.map fun (i : Nat) => (0 + (i : Int))).findIdx? (· == x)).getD 0
def ixF (ps : List Nat) : T → T | .int x => .int ((ixOf ps x : Nat) : Int) | t => t
/-- a list of unlike places, with all calls that ended -/
structure Places (cs : List Cl) (ps : List Int) : Prop where
  rng : ∀ x ∈ ps, 0 ≤ x ∧ x < (cs.length : Int)
  once : ps.Nodup
  all : ∀ i : Nat, i < cs.length → (cAt cs i).fin.isSome = true → (i : Int) ∈ ps
section
variable {r r' : Rng} {w : World} {s H now many m n q : Int} {rs : List T} {h : Hd} {ds : List Int} {x7 x8 x9 x10 x11 x12 x13 : Option T} {ex : World} {ps : List Nat} {hist : List T}
theorem ixOf_ok {ps : List Nat} {x : Int} (h0 : 0 ≤ x) (h : x.toNat ∈ ps) : (ps.map fun (i : Nat) => (0 + (i : Int))).findIdx? (· == x) = some (ixOf ps x) ∧ ps[ixOf ps x]? = some x.toNat := by
  unfold ixOf
  cases z : (ps.map fun (i : Nat) => (0 + (i : Int))).findIdx? (· == x) with
  | none =>
    rw [List.findIdx?_eq_none_iff] at z
    have := z x (List.mem_map.mpr ⟨x.toNat, h, by omega⟩)
    simp at this
  | some j =>
    refine ⟨rfl, ?_⟩
    obtain ⟨hj, h1, _⟩ := List.findIdx?_eq_some_iff_getElem.mp z
    simp at h1 hj
    show ps[j]? = _
    rw [List.getElem?_eq_getElem hj]
    congr 1
    omega
theorem rn8_ok (pp : ps.Perm (List.range h.cs.length)) (hl : h.od.length ≤ 1000) (ho : ∀ x ∈ h.od, 0 ≤ x ∧ x < (h.cs.length : Int)) : rn8 (Ern rs ds (some (.cell 4)) (some (.int q)) x7 (some (.lst (ps.map fun (i : Nat) => T.int (0 + (i : Int))))) x9 (some (.lst (h.od.map T.int))) (some (.cell (h.cs.length + 6))) x12 x13) (WD r (hrest H rs h ++ [.lst hist])) = .ok (Ern rs ds (some (.cell 4)) (some (.int q)) x7 (some (.lst (ps.map fun (i : Nat) => T.int (0 + (i : Int))))) x9 (some (.lst (h.od.map T.int))) (some (.cell (h.cs.length + 6))) x12 x13, .ret (.tup [.cell (h.cs.length + 6), .lst ((h.od.map fun x => ((ixOf ps x : Nat) : Int)).map T.int), .int h.st])) (WD r (hrest H rs h ++ [.lst hist])) := by
  have e1 := gx_S (gw4 (r := r) (H := H) (rs := rs) (h := h) (ex := [.lst hist]))
  have e0 : (ps.map fun (i : Nat) => T.int (0 + (i : Int))) = (ps.map fun (i : Nat) => (0 + (i : Int))).map T.int := by simp
  have e2 : compL (mgName 9) mYes (mMeth sIndexL (mVar 8) (mCons (mVar 9) mNil)) none (h.od.map T.int) (Ern rs ds (some (.cell 4)) (some (.int q)) x7 (some (.lst (ps.map fun (i : Nat) => T.int (0 + (i : Int))))) none (some (.lst (h.od.map T.int))) (some (.cell (h.cs.length + 6))) x12 x13) (h.od.map T.int) [] (WD r (hrest H rs h ++ [.lst hist])) = .ok ((h.od.map T.int).map (ixF ps)) (WD r (hrest H rs h ++ [.lst hist])) :=
    compL_map (ixF ps) (by simp; omega) fun t ht => by
      obtain ⟨x, hx, rfl⟩ := List.mem_map.mp ht
      obtain ⟨x0, x1⟩ := ho x hx
      have hm : x.toNat ∈ ps := pp.mem_iff.mpr (List.mem_range.mpr (by omega))
      have hj := (ixOf_ok x0 hm).1
      refine ⟨_, rfl, rfl, ?_⟩
      have ei := intsOf (ps.map fun (i : Nat) => (0 + (i : Int)))
      rw [← e0] at ei
      simp only [mMeth_, List.set_cons_zero, List.set_cons_succ, mVar0, mVarS, bind_ok', lst_lst, mCons_, mNil_, sIndexL, ei, hj, ixF]
  have e3 : (h.od.map T.int).map (ixF ps) = (h.od.map fun x => ((ixOf ps x : Nat) : Int)).map T.int := by simp [Function.comp_def, ixF]
  rw [e3] at e2
  have l3 : (3 : Nat) ≤ sizeLine := by rw [sizeLine_eq]; decide
  unfold rn8
  simp only [mRet_, mTup_, mCons_, mNil_, mVar0, mVarS, bind_ok', mVal_, mComp_, mItems_, sItems_lst, wipeE, List.set_cons_zero, List.set_cons_succ, e2, noX_ok, mOp2_, mC_, e1, List.length_cons, List.length_nil, Nat.zero_add, Nat.reduceAdd, if_pos l3]
theorem cl_plain (c : Cl) : PlainT 2 (clT c) := by
  refine plain_tup fun t ht => ?_
  have pn : PlainT 1 .non := ⟨.none, by simp [pd0], fun w => by simp [pd], rfl, by simp [PyData.depth]⟩
  have po : ∀ o, PlainT 1 (optT o) := fun o => by cases o with | none => exact pn | some i => exact plain_int
  simp at ht
  rcases ht with rfl | rfl | rfl | rfl | rfl
  · exact plain_int
  · exact plain_int
  · exact po _
  · exact plain_int
  · exact po _
theorem gc_run {f : Sem} {dd : List T} {ex : World} {cl : List Cl} {js : List Int} {s : Int} {j : Nat} (e : f dd (WD r []) = .ok (.tup [.cell (2 + j), .lst (js.map T.int), .int s]) (WD r' ex)) (hj : ex[j]? = some (.lst (cl.map clT))) : gc f dd (WD r []) = .ok (.tup [.lst (cl.map clT), .lst (js.map T.int), .int s]) (WD r' []) := by
  have hw : (WD r' ex)[2 + j]? = some (.lst (cl.map clT)) := by
    rw [Nat.add_comm]; exact hj
  have pl : ∀ t ∈ cl.map clT, PlainT 2 t := fun t ht => by obtain ⟨c, _, rfl⟩ := List.mem_map.mp ht; exact cl_plain c
  refine gc_of e (gcok_WD (rest := []) (ex := ex)) ?_ (t' := .tup [.lst (cl.map clT), .lst (js.map T.int), .int s]) ?_ (take_WD (rest := []) (ex := ex))
  · unfold fz
    unfold mapC
    unfold mapCs
    unfold mapC
    rw [if_neg (by rw [WD_len]; simp), hw]
    simp only
    congr 2
    · congr 1
      have : ∀ us : List T, (∀ t ∈ us, PlainT 2 t) → us.map (fz (WD r []).length (WD r' ex) 2) = us := fun us => by
        induction us with
        | nil => intro _; rfl
        | cons u us ih =>
          intro h
          rw [List.map_cons, fz_id 2 (plain_flat (h u (.head _)) 0), ih (fun s hs => h s (.tail _ hs))]
      exact this _ pl
    · unfold mapCs
      unfold mapC
      rw [mapCs_id (ints_flat js 0)]
      rfl
  · unfold NoRef
    unfold NoRefs
    refine ⟨by unfold NoRef; exact plains_flat pl _, ?_⟩
    unfold NoRefs
    refine ⟨by unfold NoRef; exact ints_flat _ _, ?_⟩
    unfold NoRefs
    exact ⟨by unfold NoRef; trivial, by unfold NoRefs; trivial⟩
theorem places_of {m n H now many : Int} (i : HInv m n H now many h) (pp : ps.Perm (List.range h.cs.length)) : Places (ps.map fun i => fixc (cAt h.cs i)) (h.od.map fun x => ((ixOf ps x : Nat) : Int)) := by
  have mem : ∀ x ∈ h.od, x.toNat ∈ ps := fun x hx => pp.mem_iff.mpr (List.mem_range.mpr (by have := i.ord x hx; omega))
  have nd : ps.Nodup := pp.nodup_iff.mpr List.nodup_range
  refine ⟨fun y hy => ?_, ?_, fun k hk hf => ?_⟩
  · obtain ⟨x, hx, rfl⟩ := List.mem_map.mp hy
    have e := (ixOf_ok (i.ord x hx).1 (mem x hx)).2
    have := (List.getElem?_eq_some_iff.mp e).1
    simp; omega
  · refine List.pairwise_map.mpr (List.Pairwise.imp_of_mem (fun {a b} ha hb hab e => hab ?_) i.once)
    have ea := (ixOf_ok (i.ord a ha).1 (mem a ha)).2
    have eb := (ixOf_ok (i.ord b hb).1 (mem b hb)).2
    have e' : ixOf ps a = ixOf ps b := by omega
    rw [e', eb] at ea
    have := Option.some.inj ea
    have := (i.ord a ha).1
    have := (i.ord b hb).1
    omega
  · have hk' : k < ps.length := by simpa using hk
    have ec : cAt (ps.map fun i => fixc (cAt h.cs i)) k = fixc (cAt h.cs ps[k]) := by simp [cAt, hk']
    rw [ec] at hf
    have hlt : ps[k] < h.cs.length := List.mem_range.mp (pp.mem_iff.mp (List.getElem_mem hk'))
    have hf' : (cAt h.cs ps[k]).fin.isSome = true := hf
    have ha : (cAt h.cs ps[k]).ans.isSome = true := by
      cases z : (cAt h.cs ps[k]).fin with
      | none => rw [z] at hf'; cases hf'
      | some e => exact ((i.p.call _ (cAt_mem hlt)).over e z).2.2
    have hm := (i.told _ hlt).mp ha
    refine List.mem_map.mpr ⟨(ps[k] : Int), hm, ?_⟩
    have e := (ixOf_ok (by omega) (mem _ hm)).2
    have hj := (List.getElem?_eq_some_iff.mp e).1
    have ej : ps[ixOf ps (ps[k] : Int)] = ps[k] := by
      have := (List.getElem?_eq_some_iff.mp e).2
      rw [this]; simp
    have nd' := List.pairwise_iff_getElem.mp nd
    have : ixOf ps (ps[k] : Int) = k := by
      rcases Nat.lt_trichotomy (ixOf ps (ps[k] : Int)) k with h1 | h1 | h1
      · exact absurd ej (nd' _ _ hj hk' h1)
      · exact h1
      · exact absurd ej.symm (nd' _ _ hk' hj h1)
    omega
theorem run_ok (R : Rows m n rs) (hd : ∀ d ∈ ds, 0 ≤ d ∧ d < m) (h9 : ds.length ≤ 9) (hn1 : 0 < n) (o : Ok 110 r) : ∃ cs js s r', s__law_hi_run [.cell 1, .tup rs, .int 0, .lst (ds.map T.int), .int 30] (WD r []) = .ok (.tup [.lst (cs.map clT), .lst (js.map T.int), s]) (WD r' []) ∧ Hist m cs ∧ Places cs js ∧ Adv 110 r r' := by
  obtain ⟨H0, r1, k1, q0, q1, a1⟩ := rn1_ok (r := r) (rs := rs) (ds := ds) (o.on Adv.refl 1 (by decide))
  have k2 := rn2_ok (r := r1) (H := 1 + H0) (rs := rs) (ds := ds)
  obtain ⟨q, r2, k3, q2, q3, a2⟩ := rn3_ok (r := r1) (H := 1 + H0) (rs := rs) (h := ⟨[], [], 0, ds⟩) (ds := ds) (o.on a1 1 (by decide))
  have b2 := a1.trans a2
  obtain ⟨q', h, r3, y7, k4, g0, g1, i, lo, a3⟩ := rn4_ok (r := r2) (H := 1 + H0) (rs := rs) (ds := ds) (m := m) (n := n) R hd h9 hn1 (by omega) (by omega) q2 q3 (o.on b2 90 (by decide))
  have b3 := b2.trans a3
  have hl := i.few
  have k5 := rn5_ok (r := r3) (H := 1 + H0) (rs := rs) (h := h) (ds := ds) (q := q') (x7 := y7)
  obtain ⟨ps, r4, k6, pp, a4⟩ := rn6_ok (r := r3) (H := 1 + H0) (rs := rs) (h := h) (ds := ds) (q := q') (x7 := y7) (x10 := some (.lst (h.od.map T.int))) (x11 := some (.cell (h.cs.length + 6))) (by omega) (o.on b3 _ (by omega))
  obtain ⟨y9, y12, y13, k7⟩ := rn7_ok (r := r4) (H := 1 + H0) (rs := rs) (h := h) (ds := ds) (q := q') (x7 := y7) (x10 := some (.lst (h.od.map T.int))) (by omega) pp
  have k8 := rn8_ok (r := r4) (H := 1 + H0) (rs := rs) (h := h) (ds := ds) (q := q') (x7 := y7) (x9 := y9) (x12 := y12) (x13 := y13) (hist := ps.map fun i => clT (fixc (cAt h.cs i))) pp (by omega) i.ord
  have fin := (seq_ok (m2 := mSeq rn2 (mSeq rn3 (mSeq rn4 (mSeq rn5 (mSeq rn6 (mSeq rn7 rn8)))))) k1).trans ((seq_ok k2).trans ((seq_ok k3).trans ((seq_ok k4).trans ((seq_ok k5).trans ((seq_ok k6).trans ((seq_ok k7).trans k8))))))
  have em : (ps.map fun i => clT (fixc (cAt h.cs i))) = (ps.map fun i => fixc (cAt h.cs i)).map clT := by simp
  have pc : (ps.map fun i => fixc (cAt h.cs i)).Perm (h.cs.map fixc) := by
    refine (pp.map _).trans (.of_eq ?_)
    apply List.ext_getElem (by simp)
    intro j h1 h2
    simp at h1
    simp [cAt, h1]
  refine ⟨ps.map fun i => fixc (cAt h.cs i), h.od.map fun x => ((ixOf ps x : Nat) : Int), .int h.st, r4, ?_, hist_of i (by omega) (by omega) g1 pc, places_of i pp, (b3.trans a4).mono (by omega)⟩
  have hk : (hrest (1 + H0) rs h ++ [Cell.lst (ps.map fun i => clT (fixc (cAt h.cs i)))])[h.cs.length + 4]? = some (.lst ((ps.map fun i => fixc (cAt h.cs i)).map clT)) := by
    rw [List.getElem?_append_right (by simp [hrest]), ← em]
    simp [hrest]
  refine gc_run (ex := hrest (1 + H0) rs h ++ [.lst (ps.map fun i => clT (fixc (cAt h.cs i)))]) (j := h.cs.length + 4) ?_ hk
  unfold runB
  rw [_law_hi_run_parts]
  simp only [List.map_cons, List.map_nil, List.length_cons, List.length_nil, Nat.reduceAdd, Nat.reduceSub, List.replicate_succ, List.replicate_zero, List.cons_append, List.nil_append]
  rw [fin, show h.cs.length + 6 = 2 + (h.cs.length + 4) by omega]
end
end VS

set_option Elab.async false
set_option linter.all false
set_option maxRecDepth 100000
set_option maxHeartbeats 4000000
namespace VS
open PySem PySem.Spec PyProof.Rows L2
theorem dedup_le : ∀ (ns acc : List Int), (ns.foldl step_dedup acc).length ≤ acc.length + ns.length
  | [], acc => by simp
  | n :: ns, acc => by
    have ih := dedup_le ns (step_dedup acc n)
    rw [List.foldl_cons]
    by_cases h : n ∈ acc
    · have e : step_dedup acc n = acc := by simp [step_dedup, h]
      rw [e] at ih ⊢
      simp; omega
    · have e : step_dedup acc n = acc ++ [n] := by simp [step_dedup, h]
      rw [e] at ih ⊢
      simp at ih ⊢; omega
theorem dedup_eq : ∀ (ns acc : List Int), acc.Nodup → (ns.foldl step_dedup acc).length = acc.length + ns.length → (acc ++ ns).Nodup
  | [], acc, ha, _ => by simpa using ha
  | n :: ns, acc, ha, e => by
    rw [List.foldl_cons] at e
    by_cases h : n ∈ acc
    · have e2 : step_dedup acc n = acc := by simp [step_dedup, h]
      rw [e2] at e
      have := dedup_le ns acc
      simp at e; omega
    · have e2 : step_dedup acc n = acc ++ [n] := by simp [step_dedup, h]
      rw [e2] at e
      have ih := dedup_eq ns (acc ++ [n]) (by
        rw [List.nodup_append]
        exact ⟨ha, by simp, fun a ha b hb => by simp at hb; subst hb; exact fun z => h (z ▸ ha)⟩) (by simp at e ⊢; omega)
      simpa using ih
theorem unlike_iff {ns : List Int} : unlike ns = ns.length ↔ ns.Nodup := by
  refine ⟨fun e => ?_, unlike_nodup⟩
  unfold unlike firstMet at e
  rw [range_getD] at e
  have := dedup_eq ns [] .nil (by simpa using e)
  simpa using this
theorem insI_len {i : Int} : ∀ {l : List Int}, l.Pairwise (· < ·) → (riseI.insI i l).length = if i ∈ l then l.length else l.length + 1
  | [], _ => by unfold riseI.insI; simp
  | j :: js, h => by
    rw [List.pairwise_cons] at h
    unfold riseI.insI
    by_cases h1 : i < j
    · have : i ∉ j :: js := fun z => by
        rcases List.mem_cons.mp z with rfl | z
        · omega
        · have := h.1 i z; omega
      rw [if_pos h1, if_neg this]; rfl
    · rw [if_neg h1]
      by_cases h2 : i = j
      · subst h2
        rw [if_pos rfl, if_pos (.head _)]
      · rw [if_neg h2, List.length_cons, insI_len h.2]
        by_cases h3 : i ∈ js
        · rw [if_pos h3, if_pos (.tail _ h3)]; rfl
        · rw [if_neg h3, if_neg (fun z => by rcases List.mem_cons.mp z with z | z; exact h2 z; exact h3 z)]; rfl
theorem rise_len : ∀ ns : List Int, (riseI ns).length ≤ ns.length ∧ ((riseI ns).length = ns.length ↔ ns.Nodup)
  | [] => by simp [riseI]
  | n :: ns => by
    obtain ⟨h1, h2⟩ := rise_len ns
    have e : (riseI (n :: ns)).length = (riseI.insI n (riseI ns)).length := rfl
    rw [e, insI_len (rise_rise ns), List.nodup_cons]
    by_cases h : n ∈ ns
    · rw [if_pos (rise_mem.mpr h)]
      refine ⟨by simp; omega, ⟨fun z => by simp at z; omega, fun z => absurd h z.1⟩⟩
    · rw [if_neg (fun z => h (rise_mem.mp z))]
      refine ⟨by simp; omega, ⟨fun z => ⟨h, h2.mp (by simpa using z)⟩, fun z => by simp; exact h2.mpr z.2⟩⟩
section
variable {w : World} {g : MG} {b : MS} {all : List T}
/-- a loop that ends with a value at the first item that fails -/
theorem forL_all {P : Env → Prop} (p : T → Bool) (v : T) : ∀ (all : List T) (h : ∀ t ∈ all, ∀ ρ, P ρ → ∃ ρ1, P ρ1 ∧ ((g t ρ w).bind fun ρ1 w1 => b ρ1 w1) = .ok (ρ1, if p t = true then .nx else .ret v) w) (whole : List T) (ρ : Env), P ρ → ∃ ρ', P ρ' ∧ forL g b none whole all ρ w = .ok (ρ', if all.all p = true then .nx else .ret v) w
  | [], h, whole, ρ, hp => ⟨ρ, hp, by unfold forL; rw [if_pos kept_none]; rfl⟩
  | t :: ts, h, whole, ρ, hp => by
    obtain ⟨ρ1, hp1, e1⟩ := h t (.head _) ρ hp
    unfold forL
    rw [if_pos kept_none]
    cases q : g t ρ w with
    | no => rw [q] at e1; cases e1
    | ex _ _ _ => rw [q] at e1; cases e1
    | ok ρ0 w0 =>
      rw [q, bind_ok'] at e1
      rw [bind_ok', e1, bind_ok']
      cases hpt : p t with
      | true =>
        obtain ⟨ρ2, hp2, e2⟩ := forL_all p v ts (fun t ht => h t (.tail _ ht)) whole ρ1 hp1
        refine ⟨ρ2, hp2, ?_⟩
        simp only [if_true]
        rw [e2]
        simp [hpt]
      | false =>
        refine ⟨ρ1, hp1, ?_⟩
        simp [hpt]
end
end VS

set_option Elab.async false
set_option linter.all false
set_option maxRecDepth 100000
set_option maxHeartbeats 4000000
namespace VS
open PySem PySem.Spec PyProof.Rows L2
/-! ### what is no call -/
section
variable {w : World} {i n m : Int} {t : T} {ts : List T} {b : Bool} {x : Str} {c : Cl} {rs : List T}
theorem num_non : s_is_number [.non] w = .ok (.bl false) w := by unfold s_is_number m_is_number runB; simp [sIsi, kindT, kinds, isiB]
theorem num_bl : s_is_number [.bl b] w = .ok (.bl false) w := by unfold s_is_number m_is_number runB; simp [sIsi, kindT, kinds, isiB]
theorem num_str : s_is_number [.str x] w = .ok (.bl false) w := by unfold s_is_number m_is_number runB; simp [sIsi, kindT, kinds, isiB]
theorem num_tup : s_is_number [.tup ts] w = .ok (.bl false) w := by unfold s_is_number m_is_number runB; simp [sIsi, kindT, kinds, isiB]
theorem num_int : s_is_number [.int i] w = .ok (.bl (decide (-999999999999999999 ≤ i) && decide (i ≤ 999999999999999999))) w := by
  unfold s_is_number m_is_number runB
  by_cases h : -999999999999999999 ≤ i <;> simp [h]
theorem count_bad (h : s_is_number [t] w = .ok (.bl false) w) : s_is_count [t] w = .ok (.bl false) w := by
  unfold s_is_count m_is_count runB; simp [h]
theorem count_neg (h : i < 0) : s_is_count [.int i] w = .ok (.bl false) w := by
  have e := num_int (w := w) (i := i)
  have h2 : ¬ 0 ≤ i := by omega
  unfold s_is_count m_is_count runB
  by_cases h1 : -999999999999999999 ≤ i <;> by_cases h3 : i ≤ 999999999999999999 <;> simp [e, h1, h2, h3]
theorem count_big (h : 999999999999999999 < i) : s_is_count [.int i] w = .ok (.bl false) w := by
  have e := num_int (w := w) (i := i)
  have h2 : ¬ i ≤ 999999999999999999 := by omega
  unfold s_is_count m_is_count runB
  simp [e, h2]
theorem place_bad (h : s_is_count [t] w = .ok (.bl false) w) : s_is_place [t, .int n] w = .ok (.bl false) w := by
  unfold s_is_place m_is_place runB; simp [h]
theorem place_over (h0 : 0 ≤ i) (h1 : i ≤ 999999999999999999) (h : n ≤ i) : s_is_place [.int i, .int n] w = .ok (.bl false) w := by
  have e := is_count_ok (w := w) h0 h1
  have h2 : ¬ i < n := by omega
  unfold s_is_place m_is_place runB; simp [e, h2]
theorem tuple_len (h : (ts.length : Int) ≠ n) : s_is_tuple_of [.tup ts, .int n] w = .ok (.bl false) w := by
  unfold s_is_tuple_of m_is_tuple_of runB; simp [h]
theorem tuple_lst : s_is_tuple_of [.lst ts, .int n] w = .ok (.bl false) w := by
  unfold s_is_tuple_of m_is_tuple_of runB; simp [sIsi, kindT, kinds, isiB]
theorem tuple_non : s_is_tuple_of [.non, .int n] w = .ok (.bl false) w := by
  unfold s_is_tuple_of m_is_tuple_of runB; simp [sIsi, kindT, kinds, isiB]
theorem call_tuple {a : T} (h : s_is_tuple_of [t, .int 5] w = .ok (.bl false) w) : s__is_call [a, t] w = .ok (.bl false) w := by
  unfold s__is_call m__is_call runB; simp [h]
variable {a t1 t2 t3 t4 t5 : T}
theorem call_hand (h : s_is_place [t1, .int 6] w = .ok (.bl false) w) : s__is_call [a, .tup [t1, t2, t3, t4, t5]] w = .ok (.bl false) w := by
  have e1 := is_tuple_ok (w := w) (ts := [t1, t2, t3, t4, t5]) (n := 5) rfl
  unfold s__is_call m__is_call runB; simp [e1, h]
theorem call_beg (h1 : s_is_place [t1, .int 6] w = .ok (.bl true) w) (h : s_is_count [t2] w = .ok (.bl false) w) : s__is_call [a, .tup [t1, t2, t3, t4, t5]] w = .ok (.bl false) w := by
  have e1 := is_tuple_ok (w := w) (ts := [t1, t2, t3, t4, t5]) (n := 5) rfl
  unfold s__is_call m__is_call runB; simp [e1, h, h1]
theorem call_deed (h1 : s_is_place [t1, .int 6] w = .ok (.bl true) w) (h2 : s_is_count [t2] w = .ok (.bl true) w) (h : s_is_deed [a, t4] w = .ok (.bl false) w) : s__is_call [a, .tup [t1, t2, t3, t4, t5]] w = .ok (.bl false) w := by
  have e1 := is_tuple_ok (w := w) (ts := [t1, t2, t3, t4, t5]) (n := 5) rfl
  unfold s__is_call m__is_call runB; simp [e1, h, h1, h2]
theorem call_open (h1 : s_is_place [t1, .int 6] w = .ok (.bl true) w) (h2 : s_is_count [t2] w = .ok (.bl true) w) (h : s_is_deed [a, t4] w = .ok (.bl true) w) (h5 : sIs t5 .non w = .ok (.bl false) w) : s__is_call [a, .tup [t1, t2, .non, t4, t5]] w = .ok (.bl false) w := by
  have e1 := is_tuple_ok (w := w) (ts := [t1, t2, .non, t4, t5]) (n := 5) rfl
  have h0 : sIs .non .non w = .ok (.bl true) w := rfl
  unfold s__is_call m__is_call runB; simp [e1, h, h1, h2, h5, h0]
theorem call_end {e : Int} (h1 : s_is_place [t1, .int 6] w = .ok (.bl true) w) (h2 : s_is_count [t2] w = .ok (.bl true) w) (h : s_is_deed [a, t4] w = .ok (.bl true) w) (h5 : s_is_count [.int e] w = .ok (.bl false) w) : s__is_call [a, .tup [t1, t2, .int e, t4, t5]] w = .ok (.bl false) w := by
  have e1 := is_tuple_ok (w := w) (ts := [t1, t2, .int e, t4, t5]) (n := 5) rfl
  unfold s__is_call m__is_call runB; simp [e1, h, h1, h2, h5, sIs, isNon]
theorem call_late {e d : Int} (h1 : s_is_place [t1, .int 6] w = .ok (.bl true) w) (h2 : s_is_count [.int d] w = .ok (.bl true) w) (h : s_is_deed [a, t4] w = .ok (.bl true) w) (h5 : s_is_count [.int e] w = .ok (.bl true) w) (h6 : e ≤ d) : s__is_call [a, .tup [t1, .int d, .int e, t4, t5]] w = .ok (.bl false) w := by
  have e1 := is_tuple_ok (w := w) (ts := [t1, .int d, .int e, t4, t5]) (n := 5) rfl
  have h7 : ¬ d < e := by omega
  unfold s__is_call m__is_call runB; simp [e1, h, h1, h2, h5, sIs, isNon, h7]
theorem call_ans {e d : Int} (h1 : s_is_place [t1, .int 6] w = .ok (.bl true) w) (h2 : s_is_count [.int d] w = .ok (.bl true) w) (h : s_is_deed [a, t4] w = .ok (.bl true) w) (h5 : s_is_count [.int e] w = .ok (.bl true) w) (h6 : d < e) (h8 : s_is_count [t5] w = .ok (.bl false) w) : s__is_call [a, .tup [t1, .int d, .int e, t4, t5]] w = .ok (.bl false) w := by
  have e1 := is_tuple_ok (w := w) (ts := [t1, .int d, .int e, t4, t5]) (n := 5) rfl
  unfold s__is_call m__is_call runB; simp [e1, h, h1, h2, h5, sIs, isNon, h6, h8]
/-- a list of things, one of which is no call -/
theorem history_bad (R : Rows m n rs) (hm : 1 ≤ m) (hm' : m ≤ 12) (hn : 1 ≤ n) (hn' : n ≤ 30) (f : T → Bool) (hl : ts.length ≤ 60) (h : ∀ t ∈ ts, s__is_call [.tup rs, t] w = .ok (.bl (f t)) w) (hf : ∃ t ∈ ts, f t = false) : s_is_history [.tup rs, .lst ts] w = .ok (.bl false) w := by
  have e1 := check_table_ok (w := w) R hm hm' hn hn'
  have e2 := is_list_ok (w := w) (L := .lst ts) (.inl rfl)
  have e3 : compL (mgName 2) mYes (mDef 2 s__is_call (mCons (mVar 0) (mCons (mVar 2) mNil))) none ts [some (.tup rs), some (.lst ts), none] ts [] w = .ok (ts.map fun t => .bl (f t)) w :=
    compL_map (fun t => .bl (f t)) (by omega) fun t ht => ⟨[some (.tup rs), some (.lst ts), some t], by simp, rfl, by simp [h t ht]⟩
  have e4 : sAll [.lst (ts.map fun t => .bl (f t))] w = .ok (.bl false) w := by
    have : (ts.map f).all id = false := by
      obtain ⟨t, ht, hf⟩ := hf
      rw [List.all_eq_false]
      exact ⟨f t, List.mem_map.mpr ⟨t, ht, rfl⟩, by simp [hf]⟩
    simp only [sAll, lst?, blsMap]
    rw [this]
  have e7 : ¬ (60 : Int) < (ts.length : Int) := by omega
  obtain ⟨A, eA⟩ : ∃ A, A = ts.map fun t => T.bl (f t) := ⟨_, rfl⟩
  rw [← eA] at e3 e4
  unfold s_is_history m_is_history runB
  simp [e1, e2, wipeE, e3, e4, e7]
theorem history_long (R : Rows m n rs) (hm : 1 ≤ m) (hm' : m ≤ 12) (hn : 1 ≤ n) (hn' : n ≤ 30) (hl : 60 < ts.length) : s_is_history [.tup rs, .lst ts] w = .ok (.bl false) w := by
  have e1 := check_table_ok (w := w) R hm hm' hn hn'
  have e2 := is_list_ok (w := w) (L := .lst ts) (.inl rfl)
  have e7 : (60 : Int) < (ts.length : Int) := by omega
  unfold s_is_history m_is_history runB
  simp [e1, e2, e7]
theorem history_nolist (R : Rows m n rs) (hm : 1 ≤ m) (hm' : m ≤ 12) (hn : 1 ≤ n) (hn' : n ≤ 30) (hl : s_is_list [t] w = .ok (.bl false) w) : s_is_history [.tup rs, t] w = .ok (.bl false) w := by
  have e1 := check_table_ok (w := w) R hm hm' hn hn'
  unfold s_is_history m_is_history runB
  simp [e1, hl]
end
end VS

set_option Elab.async false
set_option linter.all false
set_option maxRecDepth 100000
set_option maxHeartbeats 4000000
namespace VS
open PySem PySem.Spec PyProof.Rows L2
/-! ### lists of places -/
theorem sz {k : Nat} (h : k ≤ 100) : k ≤ sizeLine := by rw [sizeLine_eq]; omega
theorem seq4 {m1 m2 m3 m4 : MS} {ρ ρ1 ρ2 ρ3 ρ4 : Env} {w w1 w2 w3 w4 : World} {f : Fl} (k1 : m1 ρ w = .ok (ρ1, .nx) w1) (k2 : m2 ρ1 w1 = .ok (ρ2, .nx) w2) (k3 : m3 ρ2 w2 = .ok (ρ3, .nx) w3) (k4 : m4 ρ3 w3 = .ok (ρ4, f) w4) : mSeq m1 (mSeq m2 (mSeq m3 m4)) ρ w = .ok (ρ4, f) w4 := by
  rw [seq_ok k1, seq_ok k2, seq_ok k3, k4]
theorem run_ret {n : Nat} {M : MS} {ds : List T} {w w' : World} {ρ' : Env} {t : T} (h : M (ds.map some ++ List.replicate (n - ds.length) none) w = .ok (ρ', .ret t) w') : runB n M ds w = .ok t w' := by
  unfold runB
  rw [h]
def covF (ps : List Int) : T → Bool
  | .tup [.int k, x] => !opn (itE x) || decide (k ∈ ps)
  | _ => true
def cover (cs : List Cl) (ps : List Int) : Bool := (enT 0 (cs.map clT)).all (covF ps)
theorem opn_fin (c : Cl) : opn (optT c.fin) = c.fin.isSome := by cases c.fin <;> rfl
theorem cover_of {cs : List Cl} {ps : List Int} (h : ∀ i : Nat, i < cs.length → (cAt cs i).fin.isSome = true → (i : Int) ∈ ps) : cover cs ps = true := by
  unfold cover
  rw [List.all_eq_true]
  intro t ht
  obtain ⟨i, hi⟩ := List.mem_iff_getElem?.mp ht
  obtain ⟨x, hx, rfl⟩ := enT_at hi
  rw [List.getElem?_map] at hx
  cases q : cs[i]? with
  | none => rw [q] at hx; cases hx
  | some c =>
    rw [q] at hx
    cases hx
    have hl := (List.getElem?_eq_some_iff.mp q).1
    have ec : cAt cs i = c := by simp [cAt, q]
    have := h i hl
    rw [ec] at this
    simp only [covF, show itE (clT c) = optT c.fin from rfl, opn_fin]
    cases hf : c.fin.isSome with
    | false => rfl
    | true => simpa using this hf
theorem cover_no {cs : List Cl} {ps : List Int} {i : Nat} (hi : i < cs.length) (hf : (cAt cs i).fin.isSome = true) (hn : (i : Int) ∉ ps) : cover cs ps = false := by
  unfold cover
  rw [List.all_eq_false]
  have e : (cs.map clT)[i]? = some (clT (cAt cs i)) := by rw [List.getElem?_map, cAt_some hi]; rfl
  have : ∀ (ts : List T) (k j : Nat) (x : T), ts[j]? = some x → T.tup [.int ((k + j : Nat) : Int), x] ∈ enT k ts := fun ts => by
    induction ts with
    | nil => intro k j x h; cases h
    | cons u ts ih =>
      intro k j x h
      unfold enT
      cases j with
      | zero => cases h; exact .head _
      | succ j =>
        have := ih (k + 1) j x h
        rw [show k + (j + 1) = k + 1 + j by omega]
        exact .tail _ this
  refine ⟨_, this _ 0 i _ e, ?_⟩
  simp only [covF, show itE (clT (cAt cs i)) = optT (cAt cs i).fin from rfl, opn_fin, hf, Nat.zero_add]
  simp [hn]
def listy (L : T) (ts : List T) : Prop := L = .lst ts ∨ L = .tup ts
section
variable {w : World} {cs : List Cl} {ps : List Int} {L V t : T} {ts : List T} {n i : Int}
theorem listy_len (h : listy L ts) : sLen [L] w = .ok (.int ts.length) w := by rcases h with rfl | rfl <;> rfl
theorem listy_items (h : listy L ts) : sItems L w = .ok (ts, none) w := by rcases h with rfl | rfl <;> rfl
theorem listy_enum (h : listy L ts) : sEnum [L] w = .ok (enT 0 ts, none) w := by rcases h with rfl | rfl <;> simp [sEnum, items]
theorem listy_ix {x : T} (h : listy L ts) (hi : ts[i.toNat]? = some x) (h0 : 0 ≤ i) : sIx L (.int i) w = .ok x w := by
  rcases h with rfl | rfl
  · exact sIx_lst hi h0
  · exact sIx_tup hi h0
theorem listy_seq (h : listy L ts) : seqQ? w L = some ts := by rcases h with rfl | rfl <;> rfl
theorem in_intsT {ns : List Int} : inT w (.int i) (.tup (ns.map T.int)) = some (decide (i ∈ ns)) := by
  have e1 : pd w (.tup (ns.map T.int)) = some (.tuple (ns.map .int)) := by
    have : ∀ ns : List Int, pds w (ns.map T.int) = some (ns.map .int) := fun ns => by
      induction ns with
      | nil => simp [pds]
      | cons n ns ih => simp [pds, pd, ih]
    simp [pd, this ns]
  have e0 : pd w (.int i) = some (.int i) := by simp [pd]
  unfold inT
  simp only [e1, e0, shaped_int, shaped_ints, and_self, if_true, any_ints]
theorem listy_in {ns : List Int} (h : listy L (ns.map T.int)) : sInQ (.int i) L w = .ok (.bl (decide (i ∈ ns))) w := by
  rcases h with rfl | rfl
  · have e := in_ints (w := w) (i := i) (ns := ns)
    simp [sInQ, e]
  · have e := in_intsT (w := w) (i := i) (ns := ns)
    simp [sInQ, e]
theorem nolist_non : s_is_list [.non] w = .ok (.bl false) w := by unfold s_is_list m_is_list runB; simp [sIsi, kindT, kinds, isiB, tysT, two_le]
theorem nolist_int : s_is_list [.int i] w = .ok (.bl false) w := by unfold s_is_list m_is_list runB; simp [sIsi, kindT, kinds, isiB, tysT, two_le]
theorem nolist_str {x : Str} : s_is_list [.str x] w = .ok (.bl false) w := by unfold s_is_list m_is_list runB; simp [sIsi, kindT, kinds, isiB, tysT, two_le]
theorem nolist_dct {ks : List Key} {ts : List T} : s_is_list [.dct ks ts] w = .ok (.bl false) w := by unfold s_is_list m_is_list runB; simp [sIsi, kindT, kinds, isiB, tysT, two_le]
theorem num_lst : s_is_number [.lst ts] w = .ok (.bl false) w := by unfold s_is_number m_is_number runB; simp [sIsi, kindT, kinds, isiB]
theorem places_nolist (h : s_is_list [V] w = .ok (.bl false) w) : s_are_places [L, V] w = .ok (.bl false) w := by
  unfold s_are_places m_are_places runB
  simp [h]
theorem pl_comp {x2 x3 x4 : Option T} {us : List T} (hL : listy L ts) (hV : listy V us) (f : T → Bool) (hl : us.length ≤ 1000) (h : ∀ t ∈ us, s_is_place [t, .int ts.length] w = .ok (.bl (f t)) w) : compL (mgName 2) mYes (mDef 2 s_is_place (mCons (mVar 2) (mCons (mCall sLen (mCons (mVar 0) mNil)) mNil))) none us [some L, some V, none, x3, x4] us [] w = .ok (us.map fun t => .bl (f t)) w :=
  compL_map (fun t => .bl (f t)) (by omega) fun t ht => ⟨[some L, some V, some t, x3, x4], by simp, rfl, by
    have e := listy_len (w := w) hL
    obtain ⟨k, hk⟩ : ∃ k : Int, k = (ts.length : Int) := ⟨_, rfl⟩
    have h2 := h t ht
    rw [← hk] at e h2
    simp [e, h2]⟩
theorem places_bad {us : List T} (hL : listy L ts) (hV : listy V us) (f : T → Bool) (hl : us.length ≤ 1000) (h : ∀ t ∈ us, s_is_place [t, .int ts.length] w = .ok (.bl (f t)) w) (hf : ∃ t ∈ us, f t = false) : s_are_places [L, V] w = .ok (.bl false) w := by
  have e1 := is_list_ok (w := w) (L := V) (ts := us) hV
  have e2 := pl_comp (w := w) (x3 := none) (x4 := none) (x2 := none) hL hV f hl h
  have e3 := listy_items (w := w) hV
  have e4 : sAll [.lst (us.map fun t => .bl (f t))] w = .ok (.bl false) w := by
    have : (us.map f).all id = false := by
      obtain ⟨t, ht, hf⟩ := hf
      rw [List.all_eq_false]
      exact ⟨f t, List.mem_map.mpr ⟨t, ht, rfl⟩, by simp [hf]⟩
    simp only [sAll, lst?, blsMap]
    rw [this]
  obtain ⟨A, eA⟩ : ∃ A, A = us.map fun t => T.bl (f t) := ⟨_, rfl⟩
  rw [← eA] at e2 e4
  unfold s_are_places m_are_places runB
  simp [e1, e3, wipeE, e2, e4]
theorem cov_comp {x2 x3 x4 : Option T} (hV : listy V (ps.map T.int)) (hl : cs.length ≤ 100) : compL (mgTup 2 (mgCons (mgName 2) (mgCons (mgTup 5 (mgCons (mgName 3) (mgCons (mgName 3) (mgCons (mgName 4) (mgCons (mgName 3) (mgCons (mgName 3) mgNil)))))) mgNil))) mYes (mOrV (mOp2 sIs (mVar 4) (mC .non)) (mOp2 sInQ (mVar 2) (mVar 1))) none (enT 0 (cs.map clT)) [x2, some V, none, none, none] (enT 0 (cs.map clT)) [] w = .ok ((enT 0 (cs.map clT)).map fun t => .bl (covF ps t)) w :=
  compL_map (fun t => .bl (covF ps t)) (by rw [enT_len]; simp; omega) fun t ht => by
    obtain ⟨k, x, rfl, _, hk, hx⟩ := enT_in _ _ _ ht
    obtain ⟨c, hc, rfl⟩ := List.mem_map.mp hx
    refine ⟨[x2, some V, some (.int (k : Int)), some (optT c.ans), some (optT c.fin)], rfl, rfl, ?_⟩
    have e1 := listy_in (w := w) (i := (k : Int)) hV
    simp only [covF, show itE (clT c) = optT c.fin from rfl, opn_fin]
    cases hf : c.fin with
    | none => simp [optT, sIs, isNon]
    | some e => simp [optT, sIs, isNon, e1]
theorem places_ok (hL : listy L (cs.map clT)) (hV : listy V (ps.map T.int)) (hc : cs.length ≤ 100) (hl : ps.length ≤ 100) (h : ∀ x ∈ ps, 0 ≤ x ∧ x < (cs.length : Int)) : s_are_places [L, V] w = .ok (.bl (decide ps.Nodup && cover cs ps)) w := by
  have e1 := is_list_ok (w := w) (L := V) (ts := ps.map T.int) hV
  have e2 := pl_comp (w := w) (x2 := none) (x3 := none) (x4 := none) hL hV (fun _ => true) (by simp; omega) (fun t ht => by
    obtain ⟨x, hx, rfl⟩ := List.mem_map.mp ht
    have := h x hx
    exact is_place_ok this.1 (by omega) (by rw [List.length_map]; exact this.2))
  have e3 := listy_items (w := w) hV
  have e4 : sAll [.lst ((ps.map T.int).map fun _ => .bl true)] w = .ok (.bl true) w := by
    have e := blsMap (fun _ => true) (ps.map T.int)
    have hb : ((ps.map T.int).map fun _ => true).all id = true := by simp
    simp only [sAll, lst?, e]
    rw [hb]
  have e5 := listy_seq (w := w) hV
  have e6 := intsOf ps
  have e7 := listy_len (w := w) hV
  have e8 := listy_enum (w := w) hL
  have e9 := cov_comp (w := w) (cs := cs) (x2 := some L) (x3 := none) (x4 := none) hV hc
  have e10 : sAll [.lst ((enT 0 (cs.map clT)).map fun t => .bl (covF ps t))] w = .ok (.bl (cover cs ps)) w := by
    have e := blsMap (covF ps) (enT 0 (cs.map clT))
    have : ((enT 0 (cs.map clT)).map (covF ps)).all id = cover cs ps := by rw [List.all_map]; rfl
    simp only [sAll, lst?, e]
    rw [this]
  obtain ⟨A, eA⟩ : ∃ A, A = (ps.map T.int).map fun _ => T.bl true := ⟨_, rfl⟩
  obtain ⟨B, eB⟩ : ∃ B, B = (enT 0 (cs.map clT)).map fun t => T.bl (covF ps t) := ⟨_, rfl⟩
  rw [← eA] at e2 e4
  rw [← eB] at e9 e10
  have l4 : ps.length ≤ 4000 := by omega
  have ne : (!decide (((riseI ps).length : Int) = (((ps.map T.int).length : Nat) : Int))) = !decide ps.Nodup := by
    congr 1
    refine decide_eq_decide.mpr ?_
    rw [List.length_map]
    exact (show (((riseI ps).length : Int) = (ps.length : Int)) ↔ (riseI ps).length = ps.length by omega).trans (rise_len ps).2
  unfold s_are_places m_are_places runB
  simp only [List.map_cons, List.map_nil, List.length_cons, List.length_nil, Nat.reduceAdd, Nat.reduceSub, List.replicate_succ, List.replicate_zero, List.cons_append, List.nil_append, mSeq_, mIfS_, mOr_, mNot_, mTru_, mDef_, mCons_, mNil_, mVar0, mVarS, bind_ok', if_true, e1, at_ok', sTru_bl, Bool.not_true, Bool.false_eq_true, if_false, mCall_, mVal_, mComp_, mItems_, e3, wipeE, List.set_cons_zero, List.set_cons_succ, e2, noX_ok, e4, mSkip_, then_nx, mTest_, mOp2_, mLenSetQ, e5, e6, if_pos l4, e7, sNe_int, asB_bl, ne]
  cases hn : decide ps.Nodup with
  | false => simp
  | true =>
    simp only [Bool.not_true, Bool.false_eq_true, if_false, mSkip_, then_nx, mRet_, mEnum, e8, bind_ok', mCall_, mCons_, mVal_, mComp_, mVar0, mNil_, wipeE, List.set_cons_zero, List.set_cons_succ, e9, noX_ok, e10, Bool.true_and]
end
end VS

set_option Elab.async false
set_option linter.all false
set_option maxRecDepth 100000
set_option maxHeartbeats 4000000
namespace VS
open PySem PySem.Spec PyProof.Rows L2
/-! ### moments for a sequence -/
def cI (cs : List Cl) (x : Int) : Cl := cAt cs x.toNat
def ag (cs : List Cl) (ps : List Int) (k : Nat) : Option Int := (ps.take k).find? fun o => ahead (cI cs (ps.getD k 0)) (cI cs o)
def low (cs : List Cl) (ps : List Int) (k : Nat) : Int := (ps.take k).foldl (fun m x => if (cI cs x).beg > m then (cI cs x).beg else m) 0
def lowsT (cs : List Cl) (ps : List Int) (k : Nat) : List Int := (List.range k).map fun j => low cs ps (j + 1)
theorem low_succ {cs : List Cl} {ps : List Int} {k : Nat} {x : Int} (h : ps[k]? = some x) : low cs ps (k + 1) = if (cI cs x).beg > low cs ps k then (cI cs x).beg else low cs ps k := by
  unfold low
  rw [List.take_add_one, h, List.foldl_append]
  rfl
theorem lowsT_succ (cs : List Cl) (ps : List Int) (k : Nat) : lowsT cs ps (k + 1) = lowsT cs ps k ++ [low cs ps (k + 1)] := by simp [lowsT, List.range_succ]
theorem lowsT_len (cs : List Cl) (ps : List Int) (k : Nat) : (lowsT cs ps k).length = k := by simp [lowsT]
/-- the first that stands against -/
def First (cs : List Cl) (ps : List Int) (k : Nat) (one : Int) : Prop := k < ps.length ∧ ag cs ps k = some one ∧ ∀ j < k, ag cs ps j = none
theorem First.uniq {cs : List Cl} {ps : List Int} {k l : Nat} {x y : Int} (h : First cs ps k x) (g : First cs ps l y) : k = l ∧ x = y := by
  obtain ⟨h0, h1, h2⟩ := h
  obtain ⟨g0, g1, g2⟩ := g
  have e : k = l := by
    rcases Nat.lt_trichotomy k l with z | z | z
    · have := g2 k z; rw [h1] at this; cases this
    · exact z
    · have := h2 l z; rw [g1] at this; cases this
  subst e
  rw [h1] at g1
  exact ⟨rfl, Option.some.inj g1⟩
section
variable {g : MG} {b : MS} {all : List T} {w : World} {ρ : Env}
/-- a for that may end with a value -/
theorem forL_until (P : Nat → Env → World → Prop) (R : T → World → Prop)
    (h : ∀ i t ρ w, all[i]? = some t → P i ρ w → (∃ ρ1 w1, ((g t ρ w).bind fun ρ1 w1 => b ρ1 w1) = .ok (ρ1, .nx) w1 ∧ P (i + 1) ρ1 w1) ∨ (∃ ρ1 w1 v, ((g t ρ w).bind fun ρ1 w1 => b ρ1 w1) = .ok (ρ1, .ret v) w1 ∧ R v w1)) :
    ∀ (n i : Nat) (ρ : Env) (w : World), n + i = all.length → P i ρ w → (∃ ρ' w', forL g b none all (all.drop i) ρ w = .ok (ρ', .nx) w' ∧ P all.length ρ' w') ∨ (∃ ρ' w' v, forL g b none all (all.drop i) ρ w = .ok (ρ', .ret v) w' ∧ R v w')
  | 0, i, ρ, w, hn, p => by
    have e : i = all.length := by omega
    subst e
    refine .inl ⟨ρ, w, ?_, p⟩
    rw [List.drop_length]
    unfold forL
    rw [if_pos kept_none]
  | n + 1, i, ρ, w, hn, p => by
    have hi : i < all.length := by omega
    have hd := List.drop_eq_getElem_cons hi
    rcases h i all[i] ρ w (by simp [hi]) p with ⟨ρ1, w1, e1, p1⟩ | ⟨ρ1, w1, v, e1, r1⟩
    · have go : forL g b none all (all.drop i) ρ w = forL g b none all (all.drop (i + 1)) ρ1 w1 := by
        rw [hd]
        conv => lhs; unfold forL
        rw [if_pos kept_none]
        cases q : g all[i] ρ w with
        | no => rw [q] at e1; cases e1
        | ex _ _ _ => rw [q] at e1; cases e1
        | ok ρ0 w0 =>
          rw [q, bind_ok'] at e1
          rw [bind_ok', e1, bind_ok']
      rw [go]
      exact forL_until P R h n (i + 1) ρ1 w1 (by omega) p1
    · refine .inr ⟨ρ1, w1, v, ?_, r1⟩
      rw [hd]
      unfold forL
      rw [if_pos kept_none]
      cases q : g all[i] ρ w with
      | no => rw [q] at e1; cases e1
      | ex _ _ _ => rw [q] at e1; cases e1
      | ok ρ0 w0 =>
        rw [q, bind_ok'] at e1
        rw [bind_ok', e1, bind_ok']
theorem for_until (P : Nat → Env → World → Prop) (R : T → World → Prop) (h0 : P 0 ρ w)
    (h : ∀ i t ρ w, all[i]? = some t → P i ρ w → (∃ ρ1 w1, ((g t ρ w).bind fun ρ1 w1 => b ρ1 w1) = .ok (ρ1, .nx) w1 ∧ P (i + 1) ρ1 w1) ∨ (∃ ρ1 w1 v, ((g t ρ w).bind fun ρ1 w1 => b ρ1 w1) = .ok (ρ1, .ret v) w1 ∧ R v w1)) :
    (∃ ρ' w', forL g b none all all ρ w = .ok (ρ', .nx) w' ∧ P all.length ρ' w') ∨ (∃ ρ' w' v, forL g b none all all ρ w = .ok (ρ', .ret v) w' ∧ R v w') := by
  have := forL_until P R h all.length 0 ρ w (by omega) h0
  rwa [List.drop_zero] at this
end
section
variable {w : World} {cs : List Cl} {ps : List Int} {L V : T} {k : Nat} {x : Int}
theorem tru_lst {ts : List T} : sTru (.lst ts) w = .ok (!ts.isEmpty) w := rfl
theorem slq_items {ts : List T} {ρ : Env} (hV : listy V ts) (hk : k ≤ ts.length) (h1 : mVar 1 ρ w = .ok V w) (h2 : mVar 2 ρ w = .ok (.int (k : Int)) w) : mItems (mSlQ (mVar 1) mNoPart (mPart (mVar 2))) ρ w = .ok (ts.take k, none) w := by
  rcases hV with rfl | rfl <;> simp [h1, h2, lst?, cut_to hk, sItems, items]
theorem at_int {ns : List Int} {i : Nat} {t : T} (ht : (ns.map T.int)[i]? = some t) : ∃ x : Int, t = .int x ∧ ns[i]? = some x := ints_at ht
theorem cal_at (hx : 0 ≤ x ∧ x < (cs.length : Int)) : (cs.map clT)[x.toNat]? = some (clT (cI cs x)) := by
  rw [List.getElem?_map, cAt_some (by omega)]; rfl
theorem find_map (p : Int → Bool) : ∀ ns : List Int, (ns.filter p).head? = ns.find? p
  | [] => rfl
  | n :: ns => by
    by_cases h : p n = true
    · simp [List.filter_cons, h]
    · have h' : p n = false := by simpa using h
      simp [List.filter_cons, h', find_map p ns]
theorem against_ok (hL : listy L (cs.map clT)) (hV : listy V (ps.map T.int)) (hl : ps.length ≤ 100) (h : ∀ x ∈ ps, 0 ≤ x ∧ x < (cs.length : Int)) (hk : k < ps.length) : s__against [L, V, .int (k : Int)] w = .ok (optT (ag cs ps k)) w := by
  have hkx : ps[k]? = some (ps.getD k 0) := by simp [hk]
  obtain ⟨x, hx⟩ : ∃ x, x = ps.getD k 0 := ⟨_, rfl⟩
  rw [← hx] at hkx
  have hm := h x (List.mem_of_getElem? hkx)
  have e1 := listy_ix (w := w) (i := (k : Int)) hV (x := .int x) (by simp [hkx]) (by omega)
  have e2 := listy_ix (w := w) (i := x) hL (cal_at hm) hm.1
  have e3 := slq_items (w := w) (k := k) (V := V) (ts := ps.map T.int) (ρ := [some L, some V, some (.int (k : Int)), some (.int x), none, none]) hV (by simp; omega) rfl rfl
  have e4 := compL_filter_m (w := w) (oc := none) (g := mgName 5) (c := mTru (mDef 2 s_goes_ahead (mCons (mOp2 sIx (mVar 0) (mVar 3)) (mCons (mOp2 sIx (mVar 0) (mVar 5)) mNil)))) (e := mVar 5) (ρ0 := [some L, some V, some (.int (k : Int)), some (.int x), none, none]) T.int (fun o => ahead (cI cs x) (cI cs o)) T.int (fun _ => kept_none) (ps.take k) [] (by have := List.length_take_le k ps; simp; omega) (fun o ho => by
    have hm2 := h o (List.mem_of_mem_take ho)
    have e5 := listy_ix (w := w) (i := o) hL (cal_at hm2) hm2.1
    have e6 := ahead_ok (w := w) (c := cI cs x) (d := cI cs o)
    exact ⟨_, rfl, by simp [e2, e5, e6], fun _ => by simp⟩) ((ps.take k).map T.int)
  rw [List.nil_append] at e4
  rw [← List.map_take] at e3
  have ea : ag cs ps k = ((ps.take k).filter fun o => ahead (cI cs x) (cI cs o)).head? := by rw [find_map, hx]; rfl
  rw [ea]
  obtain ⟨A, eA⟩ : ∃ A, A = (ps.take k).filter fun o => ahead (cI cs x) (cI cs o) := ⟨_, rfl⟩
  rw [← eA] at e4 ⊢
  unfold s__against m__against runB
  simp only [List.map_cons, List.map_nil, List.length_cons, List.length_nil, Nat.reduceAdd, Nat.reduceSub, List.replicate_succ, List.replicate_zero, List.cons_append, List.nil_append, mSeq_, mAsg_, mOp2_, mVar0, mVarS, bind_ok', e1, mgName_, List.set_cons_zero, List.set_cons_succ, then_nx, Bool.false_eq_true, if_false, mVal_, mComp_, wipeE, e3, e4, noX_ok, mRet_, mIf_, mTru_, tru_lst]
  cases A with
  | nil => simp [optT]
  | cons a A =>
    have : sIx (.lst ((a :: A).map T.int)) (.int 0) w = .ok (.int a) w := sIx_lst rfl (by decide)
    simp only [List.map_cons] at this
    simp [optT, this]
end
end VS

set_option Elab.async false
set_option linter.all false
set_option maxRecDepth 100000
set_option maxHeartbeats 4000000
namespace VS
open PySem PySem.Spec PyProof.Rows L2
noncomputable def q_pt1 : MS := (mDrop (mDef 2 s_check_history (mCons (mVar 0) (mCons (mVar 1) mNil))))
noncomputable def q_pt2 : MS := (mIfS (mNot (mTru (mDef 2 s_are_places (mCons (mVar 1) (mCons (mVar 2) mNil))))) (mRaise "BadPlaces") mSkip)
noncomputable def q_pt3 : MS := (mAsg (mCell (mLst mNil)) (mgName 3))
noncomputable def q_pt4b1 : MS := (mAsg (mDef 3 s__against (mCons (mVar 1) (mCons (mVar 2) (mCons (mVar 4) mNil)))) (mgName 6))
noncomputable def q_pt4b2 : MS := (mIfS (mTest (mOp2 sIsNot (mVar 6) (mC .non))) (mRet (mTup (mCons (mC (.str "against")) (mCons (mVar 6) (mCons (mVar 5) mNil))))) mSkip)
noncomputable def q_pt4b3 : MS := (mDrop (mMeth sAppend (mVar 3) (mCons (mCall (sInts fMax) (mCons (mVal (mOp2F sCat (mVal (mLst (mCons (mOp2 sIx (mOp2 sIx (mVar 1) (mVar 5)) (mC (.int 1))) mNil))) (mVal (mSlL (mVar 3) (mPart (mOp1 sNeg (mC (.int 1)))) mNoPart)))) mNil)) mNil)))
noncomputable def q_pt4b : MS := (mSeq q_pt4b1 (mSeq q_pt4b2 q_pt4b3))
noncomputable def q_pt4 : MS := mFor (mEnum (mCons (mVar 2) mNil)) (mgTup 2 (mgCons (mgName 4) (mgCons (mgName 5) mgNil))) q_pt4b
noncomputable def q_pt5 : MS := (mRet (mTup (mCons (mC (.str "points")) (mCons (mCall sTup (mCons (mVar 3) mNil)) mNil))))
theorem points_of_parts : m_points_of = (mSeq q_pt1 (mSeq q_pt2 (mSeq q_pt3 (mSeq q_pt4 q_pt5)))) := rfl
noncomputable def q_le1 : MS := (mPar 3 4 (mCons (mCell (mLst mNil)) (mCons (mC (.int 0)) mNil)))
noncomputable def q_le2b1 : MS := (mAsg (mCall sMax2 (mCons (mVar 4) (mCons (mOp2 sIx (mOp2 sIx (mVar 0) (mVar 2)) (mC (.int 1))) mNil))) (mgName 4))
noncomputable def q_le2b2 : MS := (mIfS (mAnd (mTest (mOp2 sIsNot (mOp2 sIx (mOp2 sIx (mVar 0) (mVar 2)) (mC (.int 2))) (mC .non))) (mTest (mOp2 sGe (mVar 4) (mOp2 sIx (mOp2 sIx (mVar 0) (mVar 2)) (mC (.int 2)))))) (mRet (mC .non)) mSkip)
noncomputable def q_le2b3 : MS := (mDrop (mMeth sAppend (mVar 3) (mCons (mVar 4) mNil)))
noncomputable def q_le2b : MS := (mSeq q_le2b1 (mSeq q_le2b2 q_le2b3))
noncomputable def q_le2 : MS := mFor (mItems (mVar 1)) (mgName 2) q_le2b
noncomputable def q_le3 : MS := (mRet (mCall sTup (mCons (mVar 3) mNil)))
theorem _law_px_least_parts : m__law_px_least = (mSeq q_le1 (mSeq q_le2 q_le3)) := rfl
noncomputable def q_ag1bzbz : MS := (mIfS (mTru (mDef 2 s__law_hi_ahead (mCons (mOp2 sIx (mVar 0) (mVar 3)) (mCons (mOp2 sIx (mVar 0) (mVar 4)) mNil)))) (mRet (mTup (mCons (mVar 4) (mCons (mVar 3) mNil)))) mSkip)
noncomputable def q_ag1bzb : MS := q_ag1bzbz
noncomputable def q_ag1bz : MS := mFor (mItems (mSlQ (mVar 1) mNoPart (mPart (mVar 2)))) (mgName 4) q_ag1bzb
noncomputable def q_ag1b : MS := q_ag1bz
noncomputable def q_ag1 : MS := mFor (mEnum (mCons (mVar 1) mNil)) (mgTup 2 (mgCons (mgName 2) (mgCons (mgName 3) mgNil))) q_ag1b
noncomputable def q_ag2 : MS := (mRet (mC .non))
theorem _law_px_against_parts : m__law_px_against = (mSeq q_ag1 q_ag2) := rfl
section
variable {w : World} {cs : List Cl} {ps : List Int} {L V : T} {k : Nat} {x m n : Int} {rs ts : List T} {y3 y4 y5 y6 : Option T} {acc : List T}
theorem at_end : (w ++ [Cell.lst acc])[w.length]? = some (.lst acc) := by simp
theorem set_end {b : List T} : (w ++ [Cell.lst acc]).set w.length (.lst b) = w ++ [Cell.lst b] := by simp
theorem cut_last : cutT ts (some (-1)) none = ts.drop (ts.length - 1) := by
  unfold cutT
  have e2 : HT.sIx ts.length ts.length none = ts.length := rfl
  have e1 : HT.sIx ts.length 0 (some (-1)) = ts.length - 1 := by
    unfold HT.sIx
    simp
    omega
  rw [e1, e2, List.take_of_length_le (by simp)]
theorem lows_last (cs : List Cl) (ps : List Int) (k : Nat) : (lowsT cs ps k).drop (k - 1) = if k = 0 then [] else [low cs ps k] := by
  cases k with
  | zero => rfl
  | succ k =>
    rw [lowsT_succ, Nat.add_sub_cancel, if_neg (by omega)]
    have := lowsT_len cs ps k
    rw [List.drop_append_of_le_length (by omega), List.drop_of_length_le (by omega)]
    rfl
theorem low_zero : low cs ps 0 = 0 := rfl
theorem cat_lst {A B : List T} (h : A.length + B.length ≤ 100) : sCat (.lst A) (.lst B) w = .ok (A ++ B) w := by
  have := sz h
  simp [sCat, lst?, this]
theorem max_low (hx : ps[k]? = some x) (hb : 0 ≤ (cI cs x).beg) : sInts fMax [.lst (.int (cI cs x).beg :: ((lowsT cs ps k).map T.int).drop (((lowsT cs ps k).map T.int).length - 1))] w = .ok (.int (low cs ps (k + 1))) w := by
  have e : ((lowsT cs ps k).map T.int).drop (((lowsT cs ps k).map T.int).length - 1) = (if k = 0 then [] else [low cs ps k]).map T.int := by
    rw [← List.map_drop, List.length_map, lowsT_len, lows_last]
  rw [e, low_succ hx]
  by_cases h : k = 0
  · subst h
    rw [if_pos rfl, low_zero]
    have e1 : intsT [T.int (cI cs x).beg] = some [(cI cs x).beg] := rfl
    have : (if (cI cs x).beg > 0 then (cI cs x).beg else 0) = (cI cs x).beg := by split <;> omega
    simp [sInts, e1, fMax, maxI, this]
  · rw [if_neg h]
    have e1 : intsT [T.int (cI cs x).beg, T.int (low cs ps k)] = some [(cI cs x).beg, low cs ps k] := rfl
    have : maxI (cI cs x).beg [low cs ps k] = (if (cI cs x).beg > low cs ps k then (cI cs x).beg else low cs ps k) := by
      show (if low cs ps k > (cI cs x).beg then low cs ps k else (cI cs x).beg) = _
      split <;> split <;> omega
    simp [sInts, e1, fMax, this]
theorem pt_body (hL : listy L (cs.map clT)) (hV : listy V (ps.map T.int)) (hl : ps.length ≤ 100) (h : ∀ x ∈ ps, 0 ≤ x ∧ x < (cs.length : Int)) (hb : ∀ c ∈ cs, 0 ≤ c.beg) (hx : ps[k]? = some x) :
    (ag cs ps k = none ∧ q_pt4b [some (.tup rs), some L, some V, some (.cell w.length), some (.int (k : Int)), some (.int x), y6] (w ++ [.lst ((lowsT cs ps k).map T.int)]) = .ok ([some (.tup rs), some L, some V, some (.cell w.length), some (.int (k : Int)), some (.int x), some .non], .nx) (w ++ [.lst ((lowsT cs ps (k + 1)).map T.int)])) ∨
    (∃ one, ag cs ps k = some one ∧ q_pt4b [some (.tup rs), some L, some V, some (.cell w.length), some (.int (k : Int)), some (.int x), y6] (w ++ [.lst ((lowsT cs ps k).map T.int)]) = .ok ([some (.tup rs), some L, some V, some (.cell w.length), some (.int (k : Int)), some (.int x), some (.int one)], .ret (.tup [.str "against", .int one, .int x])) (w ++ [.lst ((lowsT cs ps k).map T.int)])) := by
  have hk := (List.getElem?_eq_some_iff.mp hx).1
  have hm := h x (List.mem_of_getElem? hx)
  obtain ⟨W, eW⟩ : ∃ W : World, W = w ++ [.lst ((lowsT cs ps k).map T.int)] := ⟨_, rfl⟩
  have e1 := against_ok (w := W) hL hV hl h hk
  have k1 : q_pt4b1 [some (.tup rs), some L, some V, some (.cell w.length), some (.int (k : Int)), some (.int x), y6] W = .ok ([some (.tup rs), some L, some V, some (.cell w.length), some (.int (k : Int)), some (.int x), some (optT (ag cs ps k))], .nx) W := by
    unfold q_pt4b1
    simp [e1]
  rw [← eW]
  cases ha : ag cs ps k with
  | some one =>
    rw [ha] at k1
    refine .inr ⟨one, rfl, ?_⟩
    refine (seq_ok k1).trans ?_
    have l3 := sz (k := 3) (by decide)
    unfold q_pt4b2
    simp [optT, sIsNot, isNon, l3]
  | none =>
    rw [ha] at k1
    refine .inl ⟨rfl, ?_⟩
    have k2 : q_pt4b2 [some (.tup rs), some L, some V, some (.cell w.length), some (.int (k : Int)), some (.int x), some .non] W = .ok ([some (.tup rs), some L, some V, some (.cell w.length), some (.int (k : Int)), some (.int x), some .non], .nx) W := by
      unfold q_pt4b2
      simp [sIsNot, isNon]
    refine (seq_ok k1).trans ((seq_ok k2).trans ?_)
    have g1 : W[w.length]? = some (.lst ((lowsT cs ps k).map T.int)) := by rw [eW]; exact at_end
    have l1 := lst_cell g1
    have e2 := listy_ix (w := W) (i := x) hL (cal_at hm) hm.1
    have i1 : sIx (clT (cI cs x)) (.int 1) W = .ok (.int (cI cs x).beg) W := sIx_tup rfl (by decide)
    have hbx : 0 ≤ (cI cs x).beg := hb _ (cAt_mem (by omega))
    have mx := max_low (w := W) hx hbx
    have hlen := lowsT_len cs ps k
    have ll : ((lowsT cs ps k).map T.int).length = k := by rw [List.length_map, hlen]
    have dl : (((lowsT cs ps k).map T.int).drop (((lowsT cs ps k).map T.int).length - 1)).length ≤ 1 := by simp; omega
    have ct := cat_lst (w := W) (A := [.int (cI cs x).beg]) (B := ((lowsT cs ps k).map T.int).drop (((lowsT cs ps k).map T.int).length - 1)) (by simp; omega)
    have ap := append_cell (t := .int (low cs ps (k + 1))) g1 (by omega)
    have se : W.set w.length (.lst ((lowsT cs ps k).map T.int ++ [.int (low cs ps (k + 1))])) = w ++ [.lst ((lowsT cs ps (k + 1)).map T.int)] := by
      rw [eW, set_end, lowsT_succ, List.map_append]; rfl
    rw [se] at ap
    have lo := sz (k := 1) (by decide)
    unfold q_pt4b3
    simp only [mDrop_, mMeth_, mVar0, mVarS, bind_ok', l1, mCons_, mNil_, mCall_, mVal_, mOp2F_, mLst_, mOp2_, e2, mC_, i1, List.length_cons, List.length_nil, Nat.zero_add, if_pos lo, mSlL_, mPart_, mOp1_, sNeg_, mNoPart_, cut_last, ct, List.singleton_append, mx, ap]
theorem pt_loop (hL : listy L (cs.map clT)) (hV : listy V (ps.map T.int)) (hl : ps.length ≤ 100) (h : ∀ x ∈ ps, 0 ≤ x ∧ x < (cs.length : Int)) (hb : ∀ c ∈ cs, 0 ≤ c.beg) :
    ((∀ k < ps.length, ag cs ps k = none) ∧ ∃ y4 y5 y6, q_pt4 [some (.tup rs), some L, some V, some (.cell w.length), none, none, none] (w ++ [.lst []]) = .ok ([some (.tup rs), some L, some V, some (.cell w.length), y4, y5, y6], .nx) (w ++ [.lst ((lowsT cs ps ps.length).map T.int)])) ∨
    (∃ k one, First cs ps k one ∧ ∃ ρ' ex, q_pt4 [some (.tup rs), some L, some V, some (.cell w.length), none, none, none] (w ++ [.lst []]) = .ok (ρ', .ret (.tup [.str "against", .int one, .int (ps.getD k 0)])) (w ++ ex)) := by
  have e8 := listy_enum (w := w ++ [.lst []]) hV
  have go : ∀ r, q_pt4 [some (.tup rs), some L, some V, some (.cell w.length), none, none, none] (w ++ [.lst []]) = r ↔ forL (mgTup 2 (mgCons (mgName 4) (mgCons (mgName 5) mgNil))) q_pt4b none (enT 0 (ps.map T.int)) (enT 0 (ps.map T.int)) [some (.tup rs), some L, some V, some (.cell w.length), none, none, none] (w ++ [.lst []]) = r := fun r => by
    unfold q_pt4
    simp only [mFor_, mEnum, mCons_, mNil_, mVar0, mVarS, bind_ok', e8]
  simp only [go]
  rcases for_until (g := mgTup 2 (mgCons (mgName 4) (mgCons (mgName 5) mgNil))) (b := q_pt4b) (all := enT 0 (ps.map T.int)) (ρ := [some (.tup rs), some L, some V, some (.cell w.length), none, none, none]) (w := w ++ [.lst []])
    (fun i ρ w' => w' = w ++ [.lst ((lowsT cs ps i).map T.int)] ∧ (∀ j < i, ag cs ps j = none) ∧ ∃ y4 y5 y6, ρ = [some (.tup rs), some L, some V, some (.cell w.length), y4, y5, y6])
    (fun v w' => (∃ ex, w' = w ++ ex) ∧ ∃ k one, First cs ps k one ∧ v = .tup [.str "against", .int one, .int (ps.getD k 0)])
    ⟨rfl, (fun j hj => absurd hj (Nat.not_lt_zero _)), none, none, none, rfl⟩ (fun i t ρ w' ht p => by
      obtain ⟨rfl, hn, y4, y5, y6, rfl⟩ := p
      obtain ⟨u, hu, rfl⟩ := enT_at ht
      obtain ⟨x, rfl, hx⟩ := at_int hu
      have hi := (List.getElem?_eq_some_iff.mp hx).1
      have st : ∀ r, ((mgTup 2 (mgCons (mgName 4) (mgCons (mgName 5) mgNil)) (.tup [.int (i : Int), .int x]) [some (.tup rs), some L, some V, some (.cell w.length), y4, y5, y6] (w ++ [.lst ((lowsT cs ps i).map T.int)])).bind fun ρ1 w1 => q_pt4b ρ1 w1) = r ↔ q_pt4b [some (.tup rs), some L, some V, some (.cell w.length), some (.int (i : Int)), some (.int x), y6] (w ++ [.lst ((lowsT cs ps i).map T.int)]) = r := fun r => by
        simp only [mgTup_, List.length_cons, List.length_nil, Nat.zero_add, Nat.reduceAdd, if_true, mgCons_, mgName_, mgNil_, bind_ok', List.set_cons_zero, List.set_cons_succ]
      rw [Nat.zero_add]
      rcases pt_body (w := w) (rs := rs) (y6 := y6) hL hV hl h hb hx with ⟨ha, e⟩ | ⟨one, ha, e⟩
      · refine .inl ⟨_, _, (st _).mpr e, rfl, fun j hj => ?_, _, _, _, rfl⟩
        rcases Nat.lt_succ_iff_lt_or_eq.mp hj with h1 | rfl
        · exact hn j h1
        · exact ha
      · exact .inr ⟨_, _, _, (st _).mpr e, ⟨_, rfl⟩, i, one, ⟨hi, ha, hn⟩, by simp [hx]⟩) with ⟨ρ', w', e, rfl, hn, y4, y5, y6, rfl⟩ | ⟨ρ', w', v, e, ⟨ex, rfl⟩, k, one, hf, rfl⟩
  · rw [enT_len, List.length_map] at e hn
    exact .inl ⟨hn, y4, y5, y6, e⟩
  · exact .inr ⟨k, one, hf, ρ', ex, e⟩
end
end VS

set_option Elab.async false
set_option linter.all false
set_option maxRecDepth 100000
set_option maxHeartbeats 4000000
namespace VS
open PySem PySem.Spec PyProof.Rows L2
section
variable {w : World} {cs : List Cl} {ps : List Int} {L V t : T} {k : Nat} {x m n : Int} {rs ts : List T} {y2 y3 y4 y5 y6 : Option T} {acc : List T}
theorem plain_str {s : Str} (h : PyData.canLay0 (.str s) = true) : PlainT 1 (.str s) := ⟨.str s, by simp [pd0], fun w => by simp [pd], h, by simp [PyData.depth]⟩
theorem lay_points : PyData.canLay0 (.str "points") = true := by decide +kernel
theorem lay_against : PyData.canLay0 (.str "against") = true := by decide +kernel
theorem ints_plain (ns : List Int) : ∀ t ∈ ns.map T.int, PlainT 1 t := fun t ht => by
  obtain ⟨n, _, rfl⟩ := List.mem_map.mp ht
  exact plain_int
theorem pts_plain (ns : List Int) : PlainT 3 (.tup [.str "points", .tup (ns.map T.int)]) := plain_tup fun t ht => by
  simp only [List.mem_cons, List.not_mem_nil, or_false] at ht
  rcases ht with rfl | rfl
  · exact plain_mono (plain_str lay_points) (by decide)
  · exact plain_tup (ints_plain ns)
theorem ags_plain (i j : Int) : PlainT 3 (.tup [.str "against", .int i, .int j]) := plain_tup fun t ht => by
  simp only [List.mem_cons, List.not_mem_nil, or_false] at ht
  rcases ht with rfl | rfl | rfl
  · exact plain_mono (plain_str lay_against) (by decide)
  · exact plain_mono plain_int (by decide)
  · exact plain_mono plain_int (by decide)
theorem points_ok (hc : s_check_history [.tup rs, L] w = .ok .non w) (hp : s_are_places [L, V] w = .ok (.bl true) w) (hL : listy L (cs.map clT)) (hV : listy V (ps.map T.int)) (hl : ps.length ≤ 100) (h : ∀ x ∈ ps, 0 ≤ x ∧ x < (cs.length : Int)) (hb : ∀ c ∈ cs, 0 ≤ c.beg) :
    ((∀ k < ps.length, ag cs ps k = none) ∧ s_points_of [.tup rs, L, V] w = .ok (.tup [.str "points", .tup ((lowsT cs ps ps.length).map T.int)]) w) ∨
    (∃ k one, First cs ps k one ∧ s_points_of [.tup rs, L, V] w = .ok (.tup [.str "against", .int one, .int (ps.getD k 0)]) w) := by
  have k1 : q_pt1 [some (.tup rs), some L, some V, none, none, none, none] w = .ok ([some (.tup rs), some L, some V, none, none, none, none], .nx) w := by
    unfold q_pt1; simp [hc]
  have k2 : q_pt2 [some (.tup rs), some L, some V, none, none, none, none] w = .ok ([some (.tup rs), some L, some V, none, none, none, none], .nx) w := by
    unfold q_pt2; simp [hp]
  have k3 : q_pt3 [some (.tup rs), some L, some V, none, none, none, none] w = .ok ([some (.tup rs), some L, some V, some (.cell w.length), none, none, none], .nx) (w ++ [.lst []]) := by
    unfold q_pt3; simp
  rcases pt_loop (w := w) (rs := rs) hL hV hl h hb with ⟨hn, y4, y5, y6, k4⟩ | ⟨k, one, hf, ρ', ex, k4⟩
  · refine .inl ⟨hn, gc_flat0 (ex := [.lst ((lowsT cs ps ps.length).map T.int)]) ?_ (pts_plain _)⟩
    have k5 : q_pt5 [some (.tup rs), some L, some V, some (.cell w.length), y4, y5, y6] (w ++ [.lst ((lowsT cs ps ps.length).map T.int)]) = .ok ([some (.tup rs), some L, some V, some (.cell w.length), y4, y5, y6], .ret (.tup [.str "points", .tup ((lowsT cs ps ps.length).map T.int)])) (w ++ [.lst ((lowsT cs ps ps.length).map T.int)]) := by
      have e := sTup_cell (at_end (w := w) (acc := (lowsT cs ps ps.length).map T.int))
      unfold q_pt5
      simp [e, two_le]
    rw [points_of_parts]
    refine run_ret (n := 7) (ds := [.tup rs, L, V]) (ρ' := [some (.tup rs), some L, some V, some (.cell w.length), y4, y5, y6]) ?_
    exact (seq_ok k1).trans ((seq_ok k2).trans ((seq_ok k3).trans ((seq_ok k4).trans k5)))
  · refine .inr ⟨k, one, hf, gc_flat0 (ex := ex) ?_ (ags_plain _ _)⟩
    rw [points_of_parts]
    refine run_ret (n := 7) (ds := [.tup rs, L, V]) (ρ' := ρ') ?_
    refine (seq_ok k1).trans ((seq_ok k2).trans ((seq_ok k3).trans ?_))
    rw [mSeq_, k4]
    rfl
/-! ### _law_px_least -/
def late (cs : List Cl) (ps : List Int) (j : Nat) : Prop := ∃ x e, ps[j]? = some x ∧ (cI cs x).fin = some e ∧ e ≤ low cs ps (j + 1)
theorem le_body (hl : ps.length ≤ 100) (h : ∀ x ∈ ps, 0 ≤ x ∧ x < (cs.length : Int)) (hx : ps[k]? = some x) :
    (¬ late cs ps k ∧ q_le2b [some (.lst (cs.map clT)), y5, some (.int x), some (.cell w.length), some (.int (low cs ps k))] (w ++ [.lst ((lowsT cs ps k).map T.int)]) = .ok ([some (.lst (cs.map clT)), y5, some (.int x), some (.cell w.length), some (.int (low cs ps (k + 1)))], .nx) (w ++ [.lst ((lowsT cs ps (k + 1)).map T.int)])) ∨
    (late cs ps k ∧ q_le2b [some (.lst (cs.map clT)), y5, some (.int x), some (.cell w.length), some (.int (low cs ps k))] (w ++ [.lst ((lowsT cs ps k).map T.int)]) = .ok ([some (.lst (cs.map clT)), y5, some (.int x), some (.cell w.length), some (.int (low cs ps (k + 1)))], .ret .non) (w ++ [.lst ((lowsT cs ps k).map T.int)])) := by
  have hk := (List.getElem?_eq_some_iff.mp hx).1
  have hm := h x (List.mem_of_getElem? hx)
  obtain ⟨W, eW⟩ : ∃ W : World, W = w ++ [.lst ((lowsT cs ps k).map T.int)] := ⟨_, rfl⟩
  have e2 := listy_ix (w := W) (i := x) (L := .lst (cs.map clT)) (.inl rfl) (cal_at hm) hm.1
  have i1 : sIx (clT (cI cs x)) (.int 1) W = .ok (.int (cI cs x).beg) W := sIx_tup rfl (by decide)
  have i2 : sIx (clT (cI cs x)) (.int 2) W = .ok (optT (cI cs x).fin) W := sIx_tup rfl (by decide)
  have k1 : q_le2b1 [some (.lst (cs.map clT)), y5, some (.int x), some (.cell w.length), some (.int (low cs ps k))] W = .ok ([some (.lst (cs.map clT)), y5, some (.int x), some (.cell w.length), some (.int (low cs ps (k + 1)))], .nx) W := by
    unfold q_le2b1
    rw [low_succ hx]
    simp [e2, i1]
  rw [← eW]
  have app : q_le2b3 [some (.lst (cs.map clT)), y5, some (.int x), some (.cell w.length), some (.int (low cs ps (k + 1)))] W = .ok ([some (.lst (cs.map clT)), y5, some (.int x), some (.cell w.length), some (.int (low cs ps (k + 1)))], .nx) (w ++ [.lst ((lowsT cs ps (k + 1)).map T.int)]) := by
    have g1 : W[w.length]? = some (.lst ((lowsT cs ps k).map T.int)) := by rw [eW]; exact at_end
    have l1 := lst_cell g1
    have hlen := lowsT_len cs ps k
    have ap := append_cell (t := .int (low cs ps (k + 1))) g1 (by rw [List.length_map]; omega)
    have se : W.set w.length (.lst ((lowsT cs ps k).map T.int ++ [.int (low cs ps (k + 1))])) = w ++ [.lst ((lowsT cs ps (k + 1)).map T.int)] := by
      rw [eW, set_end, lowsT_succ, List.map_append]; rfl
    rw [se] at ap
    unfold q_le2b3
    simp only [mDrop_, mMeth_, mVar0, mVarS, bind_ok', l1, mCons_, mNil_, ap]
  cases hf : (cI cs x).fin with
  | none =>
    rw [hf] at i2
    have nl : ¬ late cs ps k := fun ⟨x', e, h1, h2, _⟩ => by
      rw [hx] at h1; cases h1; rw [hf] at h2; cases h2
    have k2 : q_le2b2 [some (.lst (cs.map clT)), y5, some (.int x), some (.cell w.length), some (.int (low cs ps (k + 1)))] W = .ok ([some (.lst (cs.map clT)), y5, some (.int x), some (.cell w.length), some (.int (low cs ps (k + 1)))], .nx) W := by
      unfold q_le2b2
      simp [e2, i2, optT_isnot]
    exact .inl ⟨nl, (seq_ok k1).trans ((seq_ok k2).trans app)⟩
  | some e =>
    rw [hf] at i2
    have i2' : sIx (clT (cI cs x)) (.int 2) W = .ok (.int e) W := i2
    have q : sIsNot (.int e) .non W = .ok (.bl true) W := rfl
    by_cases hle : e ≤ low cs ps (k + 1)
    · refine .inr ⟨⟨x, e, hx, hf, hle⟩, (seq_ok k1).trans ?_⟩
      rw [mSeq_]
      have k2 : q_le2b2 [some (.lst (cs.map clT)), y5, some (.int x), some (.cell w.length), some (.int (low cs ps (k + 1)))] W = .ok ([some (.lst (cs.map clT)), y5, some (.int x), some (.cell w.length), some (.int (low cs ps (k + 1)))], .ret .non) W := by
        unfold q_le2b2
        simp [e2, i2', q, hle]
      rw [k2]
      rfl
    · have nl : ¬ late cs ps k := fun ⟨x', e', h1, h2, h3⟩ => by
        rw [hx] at h1; cases h1; rw [hf] at h2; cases h2; exact hle h3
      have k2 : q_le2b2 [some (.lst (cs.map clT)), y5, some (.int x), some (.cell w.length), some (.int (low cs ps (k + 1)))] W = .ok ([some (.lst (cs.map clT)), y5, some (.int x), some (.cell w.length), some (.int (low cs ps (k + 1)))], .nx) W := by
        unfold q_le2b2
        simp [e2, i2', q, hle]
      exact .inl ⟨nl, (seq_ok k1).trans ((seq_ok k2).trans app)⟩
theorem least_ok (hV : listy V (ps.map T.int)) (hl : ps.length ≤ 100) (h : ∀ x ∈ ps, 0 ≤ x ∧ x < (cs.length : Int)) :
    ((∀ k < ps.length, ¬ late cs ps k) ∧ s__law_px_least [.lst (cs.map clT), V] w = .ok (.tup ((lowsT cs ps ps.length).map T.int)) w) ∨
    ((∃ k, k < ps.length ∧ late cs ps k) ∧ s__law_px_least [.lst (cs.map clT), V] w = .ok .non w) := by
  have k1 : q_le1 [some (.lst (cs.map clT)), some V, none, none, none] w = .ok ([some (.lst (cs.map clT)), some V, none, some (.cell w.length), some (.int 0)], .nx) (w ++ [.lst []]) := by
    unfold q_le1; simp
  have e8 := listy_items (w := w ++ [.lst []]) hV
  have go : ∀ r, q_le2 [some (.lst (cs.map clT)), some V, none, some (.cell w.length), some (.int 0)] (w ++ [.lst []]) = r ↔ forL (mgName 2) q_le2b none (ps.map T.int) (ps.map T.int) [some (.lst (cs.map clT)), some V, none, some (.cell w.length), some (.int 0)] (w ++ [.lst []]) = r := fun r => by
    unfold q_le2
    simp only [mFor_, mItems_, mVar0, mVarS, bind_ok', e8]
  rcases for_until (g := mgName 2) (b := q_le2b) (all := ps.map T.int) (ρ := [some (.lst (cs.map clT)), some V, none, some (.cell w.length), some (.int 0)]) (w := w ++ [.lst []])
    (fun i ρ w' => w' = w ++ [.lst ((lowsT cs ps i).map T.int)] ∧ (∀ j < i, ¬ late cs ps j) ∧ ∃ y2, ρ = [some (.lst (cs.map clT)), some V, y2, some (.cell w.length), some (.int (low cs ps i))])
    (fun v w' => (∃ ex, w' = w ++ ex) ∧ (∃ k, k < ps.length ∧ late cs ps k) ∧ v = .non)
    ⟨rfl, (fun j hj => absurd hj (Nat.not_lt_zero _)), none, rfl⟩ (fun i t ρ w' ht p => by
      obtain ⟨rfl, hn, y2, rfl⟩ := p
      obtain ⟨x, rfl, hx⟩ := at_int ht
      have hi := (List.getElem?_eq_some_iff.mp hx).1
      rcases le_body (w := w) (y5 := some V) hl h hx with ⟨ha, e⟩ | ⟨ha, e⟩
      · refine .inl ⟨_, _, by rw [mgName_, bind_ok']; exact e, rfl, fun j hj => ?_, _, rfl⟩
        rcases Nat.lt_succ_iff_lt_or_eq.mp hj with h1 | rfl
        · exact hn j h1
        · exact ha
      · exact .inr ⟨_, _, _, by rw [mgName_, bind_ok']; exact e, ⟨_, rfl⟩, ⟨i, hi, ha⟩, rfl⟩) with ⟨ρ', w', e, rfl, hn, y2, rfl⟩ | ⟨ρ', w', v, e, ⟨ex, rfl⟩, hk, rfl⟩
  · rw [List.length_map] at e hn
    have k2 := (go _).mpr e
    have k3 : q_le3 [some (.lst (cs.map clT)), some V, y2, some (.cell w.length), some (.int (low cs ps ps.length))] (w ++ [.lst ((lowsT cs ps ps.length).map T.int)]) = .ok ([some (.lst (cs.map clT)), some V, y2, some (.cell w.length), some (.int (low cs ps ps.length))], .ret (.tup ((lowsT cs ps ps.length).map T.int))) (w ++ [.lst ((lowsT cs ps ps.length).map T.int)]) := by
      have e := sTup_cell (at_end (w := w) (acc := (lowsT cs ps ps.length).map T.int))
      unfold q_le3
      simp [e]
    refine .inl ⟨hn, gc_flat0 (ex := [.lst ((lowsT cs ps ps.length).map T.int)]) ?_ (plain_tup (ints_plain _))⟩
    rw [_law_px_least_parts]
    refine run_ret (n := 5) (ds := [.lst (cs.map clT), V]) (ρ' := [some (.lst (cs.map clT)), some V, y2, some (.cell w.length), some (.int (low cs ps ps.length))]) ?_
    exact (seq_ok k1).trans ((seq_ok k2).trans k3)
  · have k2 := (go _).mpr e
    have pn : PlainT 1 .non := ⟨.none, by simp [pd0], fun w => by simp [pd], rfl, by simp [PyData.depth]⟩
    refine .inr ⟨hk, gc_flat0 (ex := ex) ?_ pn⟩
    rw [_law_px_least_parts]
    refine run_ret (n := 5) (ds := [.lst (cs.map clT), V]) (ρ' := ρ') ?_
    refine (seq_ok k1).trans ?_
    rw [mSeq_, k2]
    rfl
end
end VS

set_option Elab.async false
set_option linter.all false
set_option maxRecDepth 100000
set_option maxHeartbeats 4000000
namespace VS
open PySem PySem.Spec PyProof.Rows L2
theorem find_at (p : Int → Bool) : ∀ (l : List Int) (i : Nat) (o : Int), l[i]? = some o → p o = true → (∀ j < i, ∀ y, l[j]? = some y → p y = false) → l.find? p = some o
  | [], i, o, h, _, _ => by cases h
  | a :: l, 0, o, h, hp, _ => by cases h; simp [hp]
  | a :: l, i + 1, o, h, hp, hj => by
    have ha : p a = false := hj 0 (Nat.succ_pos _) a rfl
    have := find_at p l i o h hp fun j hj' y hy => hj (j + 1) (Nat.succ_lt_succ hj') y hy
    simp [ha, this]
theorem find_no (p : Int → Bool) (l : List Int) (h : ∀ j < l.length, ∀ y, l[j]? = some y → p y = false) : l.find? p = none := by
  rw [List.find?_eq_none]
  intro x hx
  obtain ⟨j, hj⟩ := List.mem_iff_getElem?.mp hx
  simp [h j (List.getElem?_eq_some_iff.mp hj).1 x hj]
section
variable {w : World} {cs : List Cl} {ps : List Int} {L V t : T} {k : Nat} {x m n : Int} {y2 y3 y4 : Option T}
theorem ag_in (hV : listy V (ps.map T.int)) (h : ∀ x ∈ ps, 0 ≤ x ∧ x < (cs.length : Int)) (hx : ps[k]? = some x) :
    (ag cs ps k = none ∧ ∃ z4, q_ag1b [some (.lst (cs.map clT)), some V, some (.int (k : Int)), some (.int x), y4] w = .ok ([some (.lst (cs.map clT)), some V, some (.int (k : Int)), some (.int x), z4], .nx) w) ∨
    (∃ one, ag cs ps k = some one ∧ ∃ ρ', q_ag1b [some (.lst (cs.map clT)), some V, some (.int (k : Int)), some (.int x), y4] w = .ok (ρ', .ret (.tup [.int one, .int x])) w) := by
  have hk := (List.getElem?_eq_some_iff.mp hx).1
  have hm := h x (List.mem_of_getElem? hx)
  have gx : ps.getD k 0 = x := by simp [hx]
  have e3 := slq_items (w := w) (k := k) (V := V) (ts := ps.map T.int) (ρ := [some (.lst (cs.map clT)), some V, some (.int (k : Int)), some (.int x), y4]) hV (by simp; omega) rfl rfl
  rw [← List.map_take] at e3
  have go : ∀ r, q_ag1b [some (.lst (cs.map clT)), some V, some (.int (k : Int)), some (.int x), y4] w = r ↔ forL (mgName 4) q_ag1bzb none ((ps.take k).map T.int) ((ps.take k).map T.int) [some (.lst (cs.map clT)), some V, some (.int (k : Int)), some (.int x), y4] w = r := fun r => by
    unfold q_ag1b q_ag1bz
    rw [mFor_, e3, bind_ok']
  rcases for_until (g := mgName 4) (b := q_ag1bzb) (all := (ps.take k).map T.int) (ρ := [some (.lst (cs.map clT)), some V, some (.int (k : Int)), some (.int x), y4]) (w := w)
    (fun i ρ w' => w' = w ∧ (∀ j < i, ∀ y, (ps.take k)[j]? = some y → ahead (cI cs x) (cI cs y) = false) ∧ ∃ z4, ρ = [some (.lst (cs.map clT)), some V, some (.int (k : Int)), some (.int x), z4])
    (fun v w' => w' = w ∧ ∃ one, ag cs ps k = some one ∧ v = .tup [.int one, .int x])
    ⟨rfl, (fun j hj => absurd hj (Nat.not_lt_zero _)), y4, rfl⟩ (fun i t ρ w' ht p => by
      obtain ⟨rfl, hn, z4, rfl⟩ := p
      obtain ⟨o, rfl, ho⟩ := at_int ht
      have hm2 := h o (List.mem_of_mem_take (List.mem_of_getElem? ho))
      have e2 := listy_ix (w := w') (i := x) (L := .lst (cs.map clT)) (.inl rfl) (cal_at hm) hm.1
      have e5 := listy_ix (w := w') (i := o) (L := .lst (cs.map clT)) (.inl rfl) (cal_at hm2) hm2.1
      have e6 := lahead_ok (w := w') (c := cI cs x) (d := cI cs o)
      cases ha : ahead (cI cs x) (cI cs o) with
      | true =>
        rw [ha] at e6
        refine .inr ⟨[some (.lst (cs.map clT)), some V, some (.int (k : Int)), some (.int x), some (.int o)], w', .tup [.int o, .int x], ?_, rfl, o, ?_, rfl⟩
        · rw [mgName_, bind_ok']
          unfold q_ag1bzb q_ag1bzbz
          simp [e2, e5, e6, two_le]
        · unfold ag
          rw [gx]
          exact find_at _ _ i o ho ha hn
      | false =>
        rw [ha] at e6
        refine .inl ⟨[some (.lst (cs.map clT)), some V, some (.int (k : Int)), some (.int x), some (.int o)], w', ?_, rfl, fun j hj y hy => ?_, _, rfl⟩
        · rw [mgName_, bind_ok']
          unfold q_ag1bzb q_ag1bzbz
          simp [e2, e5, e6]
        · rcases Nat.lt_succ_iff_lt_or_eq.mp hj with h1 | rfl
          · exact hn j h1 y hy
          · rw [ho] at hy; cases hy; exact ha) with ⟨ρ', w', e, rfl, hn, z4, rfl⟩ | ⟨ρ', w', v, e, rfl, one, ha, rfl⟩
  · refine .inl ⟨?_, z4, (go _).mpr e⟩
    unfold ag
    rw [gx]
    exact find_no _ _ (by simpa using hn)
  · exact .inr ⟨one, ha, ρ', (go _).mpr e⟩
theorem px_against_ok (hV : listy V (ps.map T.int)) (h : ∀ x ∈ ps, 0 ≤ x ∧ x < (cs.length : Int)) :
    ((∀ k < ps.length, ag cs ps k = none) ∧ s__law_px_against [.lst (cs.map clT), V] w = .ok .non w) ∨
    (∃ k one, First cs ps k one ∧ s__law_px_against [.lst (cs.map clT), V] w = .ok (.tup [.int one, .int (ps.getD k 0)]) w) := by
  have e8 := listy_enum (w := w) hV
  have go : ∀ r, q_ag1 [some (.lst (cs.map clT)), some V, none, none, none] w = r ↔ forL (mgTup 2 (mgCons (mgName 2) (mgCons (mgName 3) mgNil))) q_ag1b none (enT 0 (ps.map T.int)) (enT 0 (ps.map T.int)) [some (.lst (cs.map clT)), some V, none, none, none] w = r := fun r => by
    unfold q_ag1
    simp only [mFor_, mEnum, mCons_, mNil_, mVar0, mVarS, bind_ok', e8]
  rcases for_until (g := mgTup 2 (mgCons (mgName 2) (mgCons (mgName 3) mgNil))) (b := q_ag1b) (all := enT 0 (ps.map T.int)) (ρ := [some (.lst (cs.map clT)), some V, none, none, none]) (w := w)
    (fun i ρ w' => w' = w ∧ (∀ j < i, ag cs ps j = none) ∧ ∃ y2 y3 y4, ρ = [some (.lst (cs.map clT)), some V, y2, y3, y4])
    (fun v w' => w' = w ∧ ∃ k one, First cs ps k one ∧ v = .tup [.int one, .int (ps.getD k 0)])
    ⟨rfl, (fun j hj => absurd hj (Nat.not_lt_zero _)), none, none, none, rfl⟩ (fun i t ρ w' ht p => by
      obtain ⟨rfl, hn, y2, y3, y4, rfl⟩ := p
      obtain ⟨u, hu, rfl⟩ := enT_at ht
      obtain ⟨x, rfl, hx⟩ := at_int hu
      have hi := (List.getElem?_eq_some_iff.mp hx).1
      rw [Nat.zero_add]
      have st : ∀ r, ((mgTup 2 (mgCons (mgName 2) (mgCons (mgName 3) mgNil)) (.tup [.int (i : Int), .int x]) [some (.lst (cs.map clT)), some V, y2, y3, y4] w').bind fun ρ1 w1 => q_ag1b ρ1 w1) = r ↔ q_ag1b [some (.lst (cs.map clT)), some V, some (.int (i : Int)), some (.int x), y4] w' = r := fun r => by
        simp only [mgTup_, List.length_cons, List.length_nil, Nat.zero_add, Nat.reduceAdd, if_true, mgCons_, mgName_, mgNil_, bind_ok', List.set_cons_zero, List.set_cons_succ]
      rcases ag_in (w := w') (y4 := y4) hV h hx with ⟨ha, z4, e⟩ | ⟨one, ha, ρ1, e⟩
      · refine .inl ⟨_, _, (st _).mpr e, rfl, fun j hj => ?_, _, _, _, rfl⟩
        rcases Nat.lt_succ_iff_lt_or_eq.mp hj with h1 | rfl
        · exact hn j h1
        · exact ha
      · exact .inr ⟨_, _, _, (st _).mpr e, rfl, i, one, ⟨hi, ha, hn⟩, by simp [hx]⟩) with ⟨ρ', w', e, rfl, hn, y2, y3, y4, rfl⟩ | ⟨ρ', w', v, e, rfl, k, one, hf, rfl⟩
  · rw [enT_len, List.length_map] at hn
    have k1 := (go _).mpr e
    refine .inl ⟨hn, ?_⟩
    unfold s__law_px_against
    rw [_law_px_against_parts]
    refine run_ret (n := 5) (ds := [.lst (cs.map clT), V]) (ρ' := [some (.lst (cs.map clT)), some V, y2, y3, y4]) ?_
    refine (seq_ok k1).trans ?_
    unfold q_ag2
    simp
  · have k1 := (go _).mpr e
    refine .inr ⟨k, one, hf, ?_⟩
    unfold s__law_px_against
    rw [_law_px_against_parts]
    refine run_ret (n := 5) (ds := [.lst (cs.map clT), V]) (ρ' := ρ') ?_
    rw [mSeq_]
    exact (congrArg (fun z => andThen z _) k1).trans rfl
end
/-! ### the two tellings agree -/
theorem low_ge {cs : List Cl} {ps : List Int} {j : Nat} {y : Int} (hy : ps[j]? = some y) : ∀ {k : Nat}, k ≤ ps.length → j < k → (cI cs y).beg ≤ low cs ps k
  | 0, _, hj => absurd hj (Nat.not_lt_zero _)
  | k + 1, hl, hj => by
    have hk : ps[k]? = some ps[k] := by simp
    rw [low_succ hk]
    rcases Nat.lt_succ_iff_lt_or_eq.mp hj with h | rfl
    · have := low_ge (cs := cs) hy (k := k) (by omega) h
      split <;> omega
    · rw [hk] at hy; cases hy
      split <;> omega
theorem low_is {cs : List Cl} {ps : List Int} : ∀ k : Nat, k ≤ ps.length → low cs ps k = 0 ∨ ∃ j y, j < k ∧ ps[j]? = some y ∧ low cs ps k = (cI cs y).beg
  | 0, _ => .inl rfl
  | k + 1, h => by
    have hk : ps[k]? = some ps[k] := by simp
    rw [low_succ hk]
    by_cases hb : (cI cs ps[k]).beg > low cs ps k
    · rw [if_pos hb]
      exact .inr ⟨k, ps[k], Nat.lt_succ_self _, hk, rfl⟩
    · rw [if_neg hb]
      rcases low_is (cs := cs) (ps := ps) k (by omega) with h1 | ⟨j, y, h1, h2, h3⟩
      · exact .inl h1
      · exact .inr ⟨j, y, by omega, h2, h3⟩
theorem ag_some {cs : List Cl} {ps : List Int} {k : Nat} {one : Int} (h : ag cs ps k = some one) : ahead (cI cs (ps.getD k 0)) (cI cs one) = true ∧ ∃ j, j < k ∧ ps[j]? = some one := by
  unfold ag at h
  refine ⟨List.find?_some (p := fun o => ahead (cI cs (ps.getD k 0)) (cI cs o)) h, ?_⟩
  have := List.mem_of_find?_eq_some h
  obtain ⟨j, hj⟩ := List.mem_iff_getElem?.mp this
  have hl := (List.getElem?_eq_some_iff.mp hj).1
  rw [List.length_take] at hl
  exact ⟨j, by omega, by rw [List.getElem?_take] at hj; rwa [if_pos (by omega)] at hj⟩
theorem moms_apart {cs : List Cl} (h : (moms cs).Nodup) {i j : Nat} {c d : Cl} {e : Int} (hi : cs[i]? = some c) (hj : cs[j]? = some d) (hf : c.fin = some e) : d.beg ≠ e := by
  unfold moms at h
  rw [List.nodup_append] at h
  have h1 : d.beg ∈ cs.map (·.beg) := List.mem_map.mpr ⟨d, List.mem_of_getElem? hj, rfl⟩
  have h2 : e ∈ (cs.filter (·.fin.isSome)).map fun c => c.fin.getD 0 := List.mem_map.mpr ⟨c, List.mem_filter.mpr ⟨List.mem_of_getElem? hi, by rw [hf]; rfl⟩, by rw [hf]; rfl⟩
  exact h.2.2 _ h1 _ h2
theorem agree {m : Int} {cs : List Cl} {ps : List Int} (H : Hist m cs) (h : ∀ x ∈ ps, 0 ≤ x ∧ x < (cs.length : Int)) : (∀ k < ps.length, ag cs ps k = none) ↔ ∀ k < ps.length, ¬ late cs ps k := by
  constructor
  · intro hn k hk ⟨x, e, hx, hf, hle⟩
    have hmx := h x (List.mem_of_getElem? hx)
    have cx : cs[x.toNat]? = some (cI cs x) := cAt_some (by omega)
    have hok := H.ok _ (List.mem_of_getElem? cx)
    obtain ⟨b1, b2, _⟩ := hok.over e hf
    have hb0 := hok.b0
    rcases low_is (cs := cs) (ps := ps) (k + 1) (by omega) with z | ⟨j, y, hj, hy, z⟩
    · omega
    · have hmy := h y (List.mem_of_getElem? hy)
      have cy : cs[y.toNat]? = some (cI cs y) := cAt_some (by omega)
      have ne := moms_apart H.mom cx cy hf
      have ah : ahead (cI cs x) (cI cs y) = true := by
        simp only [ahead, hf]
        exact decide_eq_true (by omega)
      have jk : j ≠ k := fun z' => by
        subst z'
        rw [hx] at hy; cases hy
        omega
      have := hn k hk
      unfold ag at this
      rw [List.find?_eq_none] at this
      have hmem : y ∈ ps.take k := List.mem_of_getElem? (i := j) (by rw [List.getElem?_take, if_pos (by omega)]; exact hy)
      have := this y hmem
      have gx : ps.getD k 0 = x := by simp [hx]
      rw [gx] at this
      exact this ah
  · intro hn k hk
    cases ha : ag cs ps k with
    | none => rfl
    | some one =>
      exfalso
      obtain ⟨h1, j, hj, hy⟩ := ag_some ha
      have hx : ps[k]? = some (ps.getD k 0) := by simp [hk]
      obtain ⟨x, ex⟩ : ∃ x, x = ps.getD k 0 := ⟨_, rfl⟩
      rw [← ex] at h1 hx
      unfold ahead at h1
      cases hf : (cI cs x).fin with
      | none => rw [hf] at h1; cases h1
      | some e =>
        rw [hf] at h1
        have h1 := of_decide_eq_true h1
        have := low_ge (cs := cs) hy (k := k + 1) (by omega) (by omega)
        exact hn k hk ⟨x, e, hx, hf, by omega⟩
end VS

set_option Elab.async false
set_option linter.all false
set_option maxRecDepth 100000
set_option maxHeartbeats 4000000
namespace VS
open PySem PySem.Spec PyProof.Rows L2
/-! ### the reprs -/
def dPts (ns : List Int) : PyData := .tuple [.str "points", .tuple (ns.map .int)]
def dAgs (i j : Int) : PyData := .tuple [.str "against", .int i, .int j]
def tPts (ns : List Int) : T := .tup [.str "points", .tup (ns.map T.int)]
def tAgs (i j : Int) : T := .tup [.str "against", .int i, .int j]
section
variable {w : World} {ns : List Int} {i j : Int}
theorem pds_ints : ∀ ns : List Int, pds w (ns.map T.int) = some (ns.map .int)
  | [] => by simp [pds]
  | n :: ns => by simp [pds, pd, pds_ints ns]
theorem pd_pts : pd w (tPts ns) = some (dPts ns) := by simp [tPts, dPts, pd, pds, pds_ints]
theorem pd_ags : pd w (tAgs i j) = some (dAgs i j) := by simp [tAgs, dAgs, pd, pds]
theorem len_points : (PyData.str "points").shown.length = 8 := by decide +kernel
theorem len_against : (PyData.str "against").shown.length = 9 := by decide +kernel
theorem sh_points : (PyData.str "points").showable = true := by decide +kernel
theorem sh_against : (PyData.str "against").showable = true := by decide +kernel
theorem ok_points : PyData.strOk (PyData.str "points").shown = true := by decide +kernel
theorem ok_against : PyData.strOk (PyData.str "against").shown = true := by decide +kernel
theorem repr_pts (h : ∀ n ∈ ns, n.natAbs < 10 ^ 19) (hl : ns.length ≤ 100) : sRepr [tPts ns] w = .ok (.str (dPts ns).shown) w := by
  have a1 : (dPts ns).showable = true := by
    have e : (dPts ns).showable = (PyData.showable (.str "points") && (PyData.showable (.tuple (ns.map .int)) && true)) := by simp [dPts, PyData.showable, PyData.showableAll]
    have e2 : PyData.showable (.tuple (ns.map .int)) = PyData.showableAll (ns.map .int) := by simp [PyData.showable]
    rw [e, e2, ints_showable ns h, sh_points]; rfl
  have a2 : (dPts ns).hasDict = false := by simp [dPts, PyData.hasDict, PyData.hasDictAll, ints_nodict]
  have a3 : (dPts ns).depth ≤ 50 := by
    have := depth_ints ns
    simp [dPts, PyData.depth, PyData.depthAll]
    omega
  have a4 : (dPts ns).shown.length ≤ sizeLine := by
    have t1 := tuple_shown [.str "points", .tuple (ns.map .int)]
    have t2 := tuple_shown (ns.map .int)
    have t3 := piled_ints ns h
    have e : PyData.shownAll [.str "points", .tuple (ns.map .int)] = [(PyData.str "points").shown, (PyData.tuple (ns.map .int)).shown] := by simp [PyData.shownAll]
    rw [e, piled_cons, piled_cons, piled_nil, len_points] at t1
    rw [sizeLine_eq]
    show (PyData.tuple _).shown.length ≤ _
    omega
  have hp := pd_pts (w := w) (ns := ns)
  have c : (PyData.tuple [.str "points", .tuple (ns.map .int)]).showable = true ∧ (PyData.tuple [.str "points", .tuple (ns.map .int)]).hasDict = false ∧ (PyData.tuple [.str "points", .tuple (ns.map .int)]).depth ≤ 50 ∧ (PyData.tuple [.str "points", .tuple (ns.map .int)]).shown.length ≤ sizeLine := ⟨a1, a2, a3, a4⟩
  unfold sRepr
  simp only [hp, dPts]
  rw [if_pos c]
theorem repr_ags (hi : i.natAbs < 10 ^ 19) (hj : j.natAbs < 10 ^ 19) : sRepr [tAgs i j] w = .ok (.str (dAgs i j).shown) w := by
  have a1 : (dAgs i j).showable = true := by
    have e : (dAgs i j).showable = (PyData.showable (.str "against") && (PyData.showable (.int i) && (PyData.showable (.int j) && true))) := by simp [dAgs, PyData.showable, PyData.showableAll]
    rw [e, int_showable hi, int_showable hj, sh_against]; rfl
  have a2 : (dAgs i j).hasDict = false := by simp [dAgs, PyData.hasDict, PyData.hasDictAll]
  have a3 : (dAgs i j).depth ≤ 50 := by simp [dAgs, PyData.depth, PyData.depthAll]
  have a4 : (dAgs i j).shown.length ≤ sizeLine := by
    have t1 := tuple_shown [.str "against", .int i, .int j]
    have t2 := int_shown hi
    have t3 := int_shown hj
    have e : PyData.shownAll [.str "against", .int i, .int j] = [(PyData.str "against").shown, (PyData.int i).shown, (PyData.int j).shown] := by simp [PyData.shownAll]
    rw [e, piled_cons, piled_cons, piled_cons, piled_nil, len_against] at t1
    rw [sizeLine_eq]
    show (PyData.tuple _).shown.length ≤ _
    omega
  have hp := pd_ags (w := w) (i := i) (j := j)
  have c : (PyData.tuple [.str "against", .int i, .int j]).showable = true ∧ (PyData.tuple [.str "against", .int i, .int j]).hasDict = false ∧ (PyData.tuple [.str "against", .int i, .int j]).depth ≤ 50 ∧ (PyData.tuple [.str "against", .int i, .int j]).shown.length ≤ sizeLine := ⟨a1, a2, a3, a4⟩
  unfold sRepr
  simp only [hp, dAgs]
  rw [if_pos c]
theorem ne_repr_pts (h : ∀ n ∈ ns, n.natAbs < 10 ^ 19) : sNe (.str (dPts ns).shown) (.str (dPts ns).shown) w = .ok (.bl false) w := by
  refine sNe_str (ok_tuple fun t ht => ?_)
  have e : PyData.shownAll [.str "points", .tuple (ns.map .int)] = [(PyData.str "points").shown, (PyData.tuple (ns.map .int)).shown] := by simp [PyData.shownAll]
  rw [e] at ht
  simp only [List.mem_cons, List.not_mem_nil, or_false] at ht
  rcases ht with rfl | rfl
  · exact ok_points
  · exact ok_tuple (ok_ints ns)
theorem ne_repr_ags : sNe (.str (dAgs i j).shown) (.str (dAgs i j).shown) w = .ok (.bl false) w := by
  refine sNe_str (ok_tuple fun t ht => ?_)
  have e : PyData.shownAll [.str "against", .int i, .int j] = [(PyData.str "against").shown, (PyData.int i).shown, (PyData.int j).shown] := by simp [PyData.shownAll]
  rw [e] at ht
  simp only [List.mem_cons, List.not_mem_nil, or_false] at ht
  rcases ht with rfl | rfl | rfl
  · exact ok_against
  · exact ok_int
  · exact ok_int
theorem ne_self {t : T} {k : Nat} (h : PlainT k t) (hk : k ≤ 60) : sNe t t w = .ok (.bl false) w := by
  obtain ⟨d, h1, h2, h3, h4⟩ := h
  have hs : SeqAt.shaped d = true := by
    unfold SeqAt.shaped
    rw [h3]
    simp
    omega
  have e : eqT w t t = some true := by
    rw [eqT_of (h2 w) (h2 w) hs hs, SeqAt.eqv_refl _ h3]
  simp [sNe, e]
end
end VS

set_option Elab.async false
set_option linter.all false
set_option maxRecDepth 100000
set_option maxHeartbeats 4000000
namespace VS
open PySem PySem.Spec PyProof.Rows L2
/-! ### the law: one sequence -/
noncomputable def p_law1 : MS := (mAsg (mDef 1 s__law_begun (mCons (mVar 0) mNil)) (mgName 1))
noncomputable def p_law2 : MS := (mAsg (mDef 1 s__law_hi_table (mCons (mVar 1) mNil)) (mgName 2))
noncomputable def p_law3 : MS := (mAsg (mDef 5 s__law_hi_run (mCons (mVar 1) (mCons (mVar 2) (mCons (mC (.int 0)) (mCons (mDef 3 s__law_hi_deeds (mCons (mVar 1) (mCons (mVar 2) (mCons (mOp2 sAdd (mC (.int 1)) (mDef 2 s__law_draw (mCons (mVar 1) (mCons (mC (.int 9)) mNil)))) mNil)))) (mCons (mC (.int 30)) mNil)))))) (mgTup 3 (mgCons (mgName 9) (mgCons (mgName 10) (mgCons (mgName 11) mgNil)))))
noncomputable def p_law4 : MS := (mAsg (if false = true then mCell (mComp [12, 18] (mEnum (mCons (mVar 9) mNil)) (mgTup 2 (mgCons (mgName 12) (mgCons (mgName 18) mgNil))) (mTest (mOp2 sIsNot (mOp2 sIx (mVar 18) (mC (.int 2))) (mC .non))) (mVar 12)) else mVal (mComp [12, 18] (mEnum (mCons (mVar 9) mNil)) (mgTup 2 (mgCons (mgName 12) (mgCons (mgName 18) mgNil))) (mTest (mOp2 sIsNot (mOp2 sIx (mVar 18) (mC (.int 2))) (mC .non))) (mVar 12))) (mgName 3))
noncomputable def p_law5 : MS := (mAsg (if false = true then mCell (mComp [12, 18] (mEnum (mCons (mVar 9) mNil)) (mgTup 2 (mgCons (mgName 12) (mgCons (mgName 18) mgNil))) (mAnd (mTest (mOp2 sIs (mOp2 sIx (mVar 18) (mC (.int 2))) (mC .non))) (mTest (mOp2 sEq (mDef 2 s__law_draw (mCons (mVar 1) (mCons (mC (.int 2)) mNil))) (mC (.int 0))))) (mVar 12)) else mVal (mComp [12, 18] (mEnum (mCons (mVar 9) mNil)) (mgTup 2 (mgCons (mgName 12) (mgCons (mgName 18) mgNil))) (mAnd (mTest (mOp2 sIs (mOp2 sIx (mVar 18) (mC (.int 2))) (mC .non))) (mTest (mOp2 sEq (mDef 2 s__law_draw (mCons (mVar 1) (mCons (mC (.int 2)) mNil))) (mC (.int 0))))) (mVar 12))) (mgName 4))
noncomputable def p_law6 : MS := (mAsg (mVal (mCallF sList (mCons (mVar 10) mNil))) (mgName 5))
noncomputable def p_law7 : MS := (mIfS (mTest (mOp2 sGt (mCall sLen (mCons (mVar 5) mNil)) (mC (.int 1)))) (mSeq (mAsg (mDef 2 s__law_draw (mCons (mVar 1) (mCons (mOp2 sSub (mCall sLen (mCons (mVar 5) mNil)) (mC (.int 1))) mNil))) (mgName 12)) (mAsg (mVal (mOp2F sCat (mVal (mOp2F sCat (mVal (mSlL (mVar 5) mNoPart (mPart (mVar 12)))) (mVal (mLst (mCons (mOp2 sIx (mVar 5) (mOp2 sAdd (mVar 12) (mC (.int 1)))) (mCons (mOp2 sIx (mVar 5) (mVar 12)) mNil)))))) (mVal (mSlL (mVar 5) (mPart (mOp2 sAdd (mVar 12) (mC (.int 2)))) mNoPart)))) (mgName 5))) mSkip)
noncomputable def p_law8b1 : MS := (mPar 15 16 (mCons (mDef 2 s__law_px_least (mCons (mVar 9) (mCons (mVar 6) mNil))) (mCons (mDef 2 s__law_px_against (mCons (mVar 9) (mCons (mVar 6) mNil))) mNil)))
noncomputable def p_law8b2 : MS := (mIfS (mTest (mOp2 sNe (mOp2 sIs (mVar 15) (mC .non)) (mOp2 sIsNot (mVar 16) (mC .non)))) (mRet (mC (.bl false))) mSkip)
noncomputable def p_law8b3 : MS := (mAsg (mIf (mTest (mOp2 sIs (mVar 16) (mC .non))) (mTup (mCons (mC (.str "points")) (mCons (mVar 15) mNil))) (mTup (mCons (mC (.str "against")) (mCons (mOp2 sIx (mVar 16) (mC (.int 0))) (mCons (mOp2 sIx (mVar 16) (mC (.int 1))) mNil))))) (mgName 13))
noncomputable def p_law8b4b1 : MS := (mAsg (mDef 3 s_points_of (mCons (mVar 2) (mCons (mVar 14) (mCons (mVar 6) mNil)))) (mgName 17))
noncomputable def p_law8b4b2 : MS := (mIfS (mOr (mNot (mTru (mCall sIsi (mCons (mVar 17) (mCons (mC (.ty "tuple")) mNil))))) (mOr (mTest (mOp2 sNe (mVar 17) (mVar 13))) (mTest (mOp2 sNe (mCall sRepr (mCons (mVar 17) mNil)) (mCall sRepr (mCons (mVar 13) mNil)))))) (mRet (mC (.bl false))) mSkip)
noncomputable def p_law8b4b : MS := (mSeq p_law8b4b1 p_law8b4b2)
noncomputable def p_law8b4 : MS := mFor (mItems (mVal (mLst (mCons (mVar 9) (mCons (mCall sTup (mCons (mVar 9) mNil)) mNil))))) (mgName 14) p_law8b4b
noncomputable def p_law8b : MS := (mSeq p_law8b1 (mSeq p_law8b2 (mSeq p_law8b3 p_law8b4)))
noncomputable def p_law8 : MS := mFor (mItems (mVal (mLst (mCons (mVar 10) (mCons (mVar 5) (mCons (mDef 2 s__law_mixed (mCons (mVar 1) (mCons (mVal (mOp2F sCat (mVar 3) (mVar 4))) mNil))) (mCons (mCall sTup (mCons (mDef 2 s__law_mixed (mCons (mVar 1) (mCons (mVar 3) mNil))) mNil)) mNil))))))) (mgName 6) p_law8b
noncomputable def p_law9 : MS := (mAsg (mVal (mLst (mCons (mC .non) (mCons (mC (.int 5)) (mCons (mC (.str "0")) (mCons (mVal (mOp2F sCat (mVar 3) (mVal (mLst (mCons (mCall sLen (mCons (mVar 9) mNil)) mNil))))) (mCons (mVal (mOp2F sCat (mVar 3) (mVal (mLst (mCons (mOp1 sNeg (mC (.int 1))) mNil))))) (mCons (mVal (mOp2F sCat (mVar 3) (mVal (mLst (mCons (mC (.bl true)) mNil))))) (mCons mC0 (mCons (mVal (mLst (mCons (mVal (mLst mNil)) mNil))) mNil)))))))))) (mgName 7))
noncomputable def p_law10 : MS := (mAsg (mVal (mOp2F sCat (mVar 7) (mIf (mTest (mOp2 sNe (mVar 3) (mVal (mLst mNil)))) (mVal (mLst (mCons (mVal (mSlL (mVar 3) (mPart (mC (.int 1))) mNoPart)) (mCons (mVal (mOp2F sCat (mVar 3) (mVal (mSlL (mVar 3) mNoPart (mPart (mC (.int 1))))))) mNil)))) (mVal (mLst mNil))))) (mgName 7))
noncomputable def p_law11 : MS := (mAsg (mDef 2 s__law_pick (mCons (mVar 1) (mCons (mVar 7) mNil))) (mgName 8))
noncomputable def p_law12 : MS := (mIfS (mNot (mTru (mCall (sIsX isTab) (mCons (mCaught caughtL (mDef 3 s_points_of (mCons (mVar 2) (mCons (mVar 9) (mCons (mVar 8) mNil))))) (mCons (mC (.glb "BadPlaces")) mNil))))) (mRet (mC (.bl false))) mSkip)
noncomputable def p_law13 : MS := (mIfS (mNot (mTru (mCall (sIsX isTab) (mCons (mCaught caughtL (mDef 3 s_points_of (mCons (mTup mNil) (mCons (mVal (mLst (mCons (mC .non) mNil))) (mCons (mVar 8) mNil))))) (mCons (mC (.glb "BadTable")) mNil))))) (mRet (mC (.bl false))) mSkip)
noncomputable def p_law14 : MS := (mRet (mCall (sIsX isTab) (mCons (mCaught caughtL (mDefP 3 0 3 [2, 1, 0] s_points_of mNil (mCons (mVar 8) (mCons (mVal (mLst (mCons (mC .non) mNil))) (mCons (mVar 2) mNil))))) (mCons (mC (.glb "BadHistory")) mNil))))
theorem law_parts : m_law = (mSeq p_law1 (mSeq p_law2 (mSeq p_law3 (mSeq p_law4 (mSeq p_law5 (mSeq p_law6 (mSeq p_law7 (mSeq p_law8 (mSeq p_law9 (mSeq p_law10 (mSeq p_law11 (mSeq p_law12 (mSeq p_law13 p_law14))))))))))))) := rfl
abbrev Et (a0 a1 a3 a4 a5 a7 a8 a10 a11 a12 a18 : Option T) (rs : List T) (cs : List Cl) (V : T) (x13 x14 x15 x16 x17 : Option T) : Env := [a0, a1, some (.tup rs), a3, a4, a5, some V, a7, a8, some (.lst (cs.map clT)), a10, a11, a12, x13, x14, x15, x16, x17, a18]
/-- what is due: every telling is so -/
structure Due (rs : List T) (cs : List Cl) (V D : T) (w : World) : Prop where
  say : ∀ L, listy L (cs.map clT) → s_points_of [.tup rs, L, V] w = .ok D w
  tup : ∃ ts, D = .tup ts
  plain : PlainT 3 D
  text : ∃ S, sRepr [D] w = .ok (.str S) w ∧ sNe (.str S) (.str S) w = .ok (.bl false) w
section
variable {w : World} {m n : Int} {cs : List Cl} {ps : List Int} {rs : List T} {V D : T} {a0 a1 a3 a4 a5 a7 a8 a10 a11 a12 a18 x13 x14 x15 x16 x17 : Option T}
theorem plain_bl {b : Bool} : PlainT 1 (.bl b) := ⟨.bool b, by simp [pd0], fun w => by simp [pd], rfl, by simp [PyData.depth]⟩
theorem known_body (d : Due rs cs V D w) {L : T} (hL : listy L (cs.map clT)) : p_law8b4b (Et a0 a1 a3 a4 a5 a7 a8 a10 a11 a12 a18 rs cs V (some D) (some L) x15 x16 x17) w = .ok (Et a0 a1 a3 a4 a5 a7 a8 a10 a11 a12 a18 rs cs V (some D) (some L) x15 x16 (some D), .nx) w := by
  have e := d.say L hL
  have k1 : p_law8b4b1 (Et a0 a1 a3 a4 a5 a7 a8 a10 a11 a12 a18 rs cs V (some D) (some L) x15 x16 x17) w = .ok (Et a0 a1 a3 a4 a5 a7 a8 a10 a11 a12 a18 rs cs V (some D) (some L) x15 x16 (some D), .nx) w := by
    unfold p_law8b4b1
    simp [e]
  refine (seq_ok k1).trans ?_
  obtain ⟨S, e1, e2⟩ := d.text
  have e3 := ne_self (w := w) d.plain (by decide)
  obtain ⟨ts, hts⟩ := d.tup
  have e4 : sIsi [D, .ty "tuple"] w = .ok (.bl true) w := by rw [hts]; exact isi_tup
  unfold p_law8b4b2
  simp [e1, e2, e3, e4]
theorem known_loop (d : Due rs cs V D w) : ∃ y14 y17, p_law8b4 (Et a0 a1 a3 a4 a5 a7 a8 a10 a11 a12 a18 rs cs V (some D) x14 x15 x16 x17) w = .ok (Et a0 a1 a3 a4 a5 a7 a8 a10 a11 a12 a18 rs cs V (some D) y14 x15 x16 y17, .nx) w := by
  obtain ⟨ρ', w', e, hw, y14, y17, rfl⟩ := forL_run (P := fun i ρ w' => w' = w ∧ ∃ y14 y17, ρ = Et a0 a1 a3 a4 a5 a7 a8 a10 a11 a12 a18 rs cs V (some D) y14 x15 x16 y17) (g := mgName 14) (b := p_law8b4b) (all := [.lst (cs.map clT), .tup (cs.map clT)]) (ρ := Et a0 a1 a3 a4 a5 a7 a8 a10 a11 a12 a18 rs cs V (some D) x14 x15 x16 x17) (w := w)
    ⟨rfl, x14, x17, rfl⟩ (fun i t ρ w' ht p => by
      obtain ⟨rfl, y14, y17, rfl⟩ := p
      have hL : listy t (cs.map clT) := by
        match i, ht with
        | 0, ht => cases ht; exact .inl rfl
        | 1, ht => cases ht; exact .inr rfl
      exact ⟨_, _, by rw [mgName_, bind_ok']; exact known_body d hL, rfl, _, _, rfl⟩)
  subst hw
  refine ⟨y14, y17, ?_⟩
  have l2 := sz (k := 2) (by decide)
  unfold p_law8b4
  simp only [mFor_, mItems_, mVal_, mLst_, mCons_, mCall_, mNil_, mVar0, mVarS, bind_ok', sTup_lst, List.length_cons, List.length_nil, Nat.zero_add, Nat.reduceAdd, if_pos l2, sItems_lst]
  exact e
theorem low_small (h : Hist m cs) (hp : ∀ x ∈ ps, 0 ≤ x ∧ x < (cs.length : Int)) : ∀ v ∈ lowsT cs ps ps.length, v.natAbs < 10 ^ 19 := fun v hv => by
  obtain ⟨k, hk, rfl⟩ := List.mem_map.mp hv
  have hk := List.mem_range.mp hk
  rcases low_is (cs := cs) (ps := ps) (k + 1) (by omega) with z | ⟨j, y, _, hy, z⟩
  · rw [z]; decide
  · have hy' := hp y (List.mem_of_getElem? hy)
    have := h.le (cI cs y).beg (moms_mem.mpr ⟨_, cAt_mem (by omega), .inl rfl⟩)
    rw [z]
    omega
theorem due_ok (R : Rows m n rs) (hm : 1 ≤ m) (hm' : m ≤ 12) (hn : 1 ≤ n) (hn' : n ≤ 30) (h : Hist m cs) (hV : listy V (ps.map T.int)) (hp : Places cs ps) (hl : ps.length ≤ 100) :
    ((∀ k < ps.length, ag cs ps k = none) ∧ Due rs cs V (tPts (lowsT cs ps ps.length)) w) ∨ (∃ k one, First cs ps k one ∧ Due rs cs V (tAgs one (ps.getD k 0)) w) := by
  have hB := histB_of h.mom h.apart
  have hf := h.few
  have hc : ∀ L, listy L (cs.map clT) → s_check_history [.tup rs, L] w = .ok .non w := fun L hL => check_history_ok R hm hm' hn hn' h.ok (by omega) hL hB
  have ha : ∀ L, listy L (cs.map clT) → s_are_places [L, V] w = .ok (.bl true) w := fun L hL => by
    rw [places_ok hL hV (by omega) hl hp.rng, decide_eq_true hp.once, cover_of hp.all]; rfl
  have hb : ∀ c ∈ cs, 0 ≤ c.beg := fun c hc => (h.ok c hc).b0
  by_cases hn : ∀ k < ps.length, ag cs ps k = none
  · refine .inl ⟨hn, fun L hL => ?_, ⟨_, rfl⟩, pts_plain _, _, repr_pts (low_small h hp.rng) (by rw [lowsT_len]; exact hl), ne_repr_pts (low_small h hp.rng)⟩
    rcases points_ok (hc L hL) (ha L hL) hL hV hl hp.rng hb with ⟨_, e⟩ | ⟨k, one, hf, _⟩
    · exact e
    · have := hn k hf.1
      rw [hf.2.1] at this; cases this
  · have : ∃ k one, First cs ps k one := by
      rcases points_ok (hc (.lst (cs.map clT)) (.inl rfl)) (ha _ (.inl rfl)) (.inl rfl) hV hl hp.rng hb with ⟨z, _⟩ | ⟨k, one, hf, _⟩
      · exact absurd z hn
      · exact ⟨k, one, hf⟩
    obtain ⟨k, one, hF⟩ := this
    have hone : one.natAbs < 10 ^ 19 := by
      obtain ⟨_, j, _, hj⟩ := ag_some hF.2.1
      have := hp.rng one (List.mem_of_getElem? hj)
      omega
    have hpl : (ps.getD k 0).natAbs < 10 ^ 19 := by
      have hk := hF.1
      have : ps[k]? = some (ps.getD k 0) := by simp [hk]
      have := hp.rng _ (List.mem_of_getElem? this)
      omega
    refine .inr ⟨k, one, hF, fun L hL => ?_, ⟨_, rfl⟩, ags_plain _ _, _, repr_ags hone hpl, ne_repr_ags⟩
    rcases points_ok (hc L hL) (ha L hL) hL hV hl hp.rng hb with ⟨z, _⟩ | ⟨k', one', hf', e⟩
    · exact absurd z hn
    · obtain ⟨rfl, rfl⟩ := hF.uniq hf'
      exact e
theorem seq_turn (R : Rows m n rs) (hm : 1 ≤ m) (hm' : m ≤ 12) (hn : 1 ≤ n) (hn' : n ≤ 30) (h : Hist m cs) (hV : listy V (ps.map T.int)) (hp : Places cs ps) (hl : ps.length ≤ 100) : ∃ y13 y14 y15 y16 y17, p_law8b (Et a0 a1 a3 a4 a5 a7 a8 a10 a11 a12 a18 rs cs V x13 x14 x15 x16 x17) w = .ok (Et a0 a1 a3 a4 a5 a7 a8 a10 a11 a12 a18 rs cs V y13 y14 y15 y16 y17, .nx) w := by
  have two := two_le
  have l3 := sz (k := 3) (by decide)
  have ff := ne_self (w := w) (plain_bl (b := false)) (by decide)
  have tt := ne_self (w := w) (plain_bl (b := true)) (by decide)
  rcases due_ok (w := w) R hm hm' hn hn' h hV hp hl with ⟨hno, d⟩ | ⟨k, one, hF, d⟩
  · have e1 : s__law_px_least [.lst (cs.map clT), V] w = .ok (.tup ((lowsT cs ps ps.length).map T.int)) w := by
      rcases least_ok (w := w) hV hl hp.rng with ⟨_, e⟩ | ⟨⟨k, hk, z⟩, _⟩
      · exact e
      · exact absurd z ((agree h hp.rng).mp hno k hk)
    have e2 : s__law_px_against [.lst (cs.map clT), V] w = .ok .non w := by
      rcases px_against_ok (w := w) hV hp.rng with ⟨_, e⟩ | ⟨k, one, hf, _⟩
      · exact e
      · have := hno k hf.1
        rw [hf.2.1] at this; cases this
    have k1 : p_law8b1 (Et a0 a1 a3 a4 a5 a7 a8 a10 a11 a12 a18 rs cs V x13 x14 x15 x16 x17) w = .ok (Et a0 a1 a3 a4 a5 a7 a8 a10 a11 a12 a18 rs cs V x13 x14 (some (.tup ((lowsT cs ps ps.length).map T.int))) (some .non) x17, .nx) w := by
      unfold p_law8b1
      simp [e1, e2]
    have k2 : p_law8b2 (Et a0 a1 a3 a4 a5 a7 a8 a10 a11 a12 a18 rs cs V x13 x14 (some (.tup ((lowsT cs ps ps.length).map T.int))) (some .non) x17) w = .ok (Et a0 a1 a3 a4 a5 a7 a8 a10 a11 a12 a18 rs cs V x13 x14 (some (.tup ((lowsT cs ps ps.length).map T.int))) (some .non) x17, .nx) w := by
      unfold p_law8b2
      simp [sIs, sIsNot, isNon, ff]
    have k3 : p_law8b3 (Et a0 a1 a3 a4 a5 a7 a8 a10 a11 a12 a18 rs cs V x13 x14 (some (.tup ((lowsT cs ps ps.length).map T.int))) (some .non) x17) w = .ok (Et a0 a1 a3 a4 a5 a7 a8 a10 a11 a12 a18 rs cs V (some (tPts (lowsT cs ps ps.length))) x14 (some (.tup ((lowsT cs ps ps.length).map T.int))) (some .non) x17, .nx) w := by
      unfold p_law8b3
      simp [sIs, isNon, two, tPts]
    obtain ⟨y14, y17, k4⟩ := known_loop (a0 := a0) (a1 := a1) (a3 := a3) (a4 := a4) (a5 := a5) (a7 := a7) (a8 := a8) (a10 := a10) (a11 := a11) (a12 := a12) (a18 := a18) (x14 := x14) (x15 := some (.tup ((lowsT cs ps ps.length).map T.int))) (x16 := some .non) (x17 := x17) d
    exact ⟨_, _, _, _, _, seq4 k1 k2 k3 k4⟩
  · have hyes : ¬ ∀ k < ps.length, ag cs ps k = none := fun z => by
      have := z k hF.1
      rw [hF.2.1] at this; cases this
    have e1 : s__law_px_least [.lst (cs.map clT), V] w = .ok .non w := by
      rcases least_ok (w := w) hV hl hp.rng with ⟨z, _⟩ | ⟨_, e⟩
      · exact absurd ((agree h hp.rng).mpr z) hyes
      · exact e
    have e2 : s__law_px_against [.lst (cs.map clT), V] w = .ok (.tup [.int one, .int (ps.getD k 0)]) w := by
      rcases px_against_ok (w := w) hV hp.rng with ⟨z, _⟩ | ⟨k', one', hf', e⟩
      · exact absurd z hyes
      · obtain ⟨rfl, rfl⟩ := hF.uniq hf'
        exact e
    obtain ⟨pl, hpl⟩ : ∃ pl, pl = ps.getD k 0 := ⟨_, rfl⟩
    rw [← hpl] at e2 d
    have k1 : p_law8b1 (Et a0 a1 a3 a4 a5 a7 a8 a10 a11 a12 a18 rs cs V x13 x14 x15 x16 x17) w = .ok (Et a0 a1 a3 a4 a5 a7 a8 a10 a11 a12 a18 rs cs V x13 x14 (some .non) (some (.tup [.int one, .int pl])) x17, .nx) w := by
      unfold p_law8b1
      simp [e1, e2]
    have k2 : p_law8b2 (Et a0 a1 a3 a4 a5 a7 a8 a10 a11 a12 a18 rs cs V x13 x14 (some .non) (some (.tup [.int one, .int pl])) x17) w = .ok (Et a0 a1 a3 a4 a5 a7 a8 a10 a11 a12 a18 rs cs V x13 x14 (some .non) (some (.tup [.int one, .int pl])) x17, .nx) w := by
      unfold p_law8b2
      simp [sIs, sIsNot, isNon, tt]
    have k3 : p_law8b3 (Et a0 a1 a3 a4 a5 a7 a8 a10 a11 a12 a18 rs cs V x13 x14 (some .non) (some (.tup [.int one, .int pl])) x17) w = .ok (Et a0 a1 a3 a4 a5 a7 a8 a10 a11 a12 a18 rs cs V (some (tAgs one pl)) x14 (some .non) (some (.tup [.int one, .int pl])) x17, .nx) w := by
      unfold p_law8b3
      simp [sIs, isNon, l3, tAgs]
    obtain ⟨y14, y17, k4⟩ := known_loop (a0 := a0) (a1 := a1) (a3 := a3) (a4 := a4) (a5 := a5) (a7 := a7) (a8 := a8) (a10 := a10) (a11 := a11) (a12 := a12) (a18 := a18) (x14 := x14) (x15 := some .non) (x16 := some (.tup [.int one, .int pl])) (x17 := x17) d
    exact ⟨_, _, _, _, _, seq4 k1 k2 k3 k4⟩
end
end VS

set_option Elab.async false
set_option linter.all false
set_option maxRecDepth 100000
set_option maxHeartbeats 4000000
namespace VS
open PySem PySem.Spec PyProof.Rows L2
abbrev El (ns : List Int) (x2 x3 x4 x5 x6 x7 x8 x9 x10 x11 x12 x13 x14 x15 x16 x17 : Option T) : Env := [some (.frz (ns.map T.int)), some (.cell 1), x2, x3, x4, x5, x6, x7, x8, x9, x10, x11, x12, x13, x14, x15, x16, x17, none]
def wantB (cs : List Cl) : List Int := ((List.range cs.length).filter fun i => (cAt cs i).fin.isSome).map fun i => ((i : Nat) : Int)
theorem enT_cls (cs : List Cl) : enT 0 (cs.map clT) = (List.range cs.length).map fun (j : Nat) => .tup [.int (j : Int), clT (cAt cs j)] := by
  have e : cs.map clT = (List.range' 0 cs.length).map fun j => clT (cAt cs j) := by
    apply List.ext_getElem (by simp)
    intro i h1 h2
    simp at h1
    simp [cAt, h1]
  rw [e, enT_map, List.range_eq_range']
  apply List.map_congr_left
  intro j _
  simp
section
variable {w X : World} {r : Rng} {m n i k : Int} {cs : List Cl} {rs ts : List T} {v t : T} {ρ : Env} {ns js wa mo : List Int}
variable {x2 x3 x4 x5 x6 x7 x8 x9 x10 x11 x12 x13 x14 x15 x16 x17 : Option T}
theorem law1_ok (hl : ns.length ≤ 63) : ∃ r, p_law1 [some (.frz (ns.map T.int)), none, none, none, none, none, none, none, none, none, none, none, none, none, none, none, none, none, none] [] = .ok (El ns none none none none none none none none none none none none none none none none, .nx) (WD r []) ∧ r.turn = 0 := by
  obtain ⟨r, e, ht⟩ := begun_ok hl
  refine ⟨r, ?_, ht⟩
  unfold p_law1
  simp [e]
theorem law2_ok (o : Ok 34 r) : ∃ rs m n r', p_law2 (El ns none none none none none none none none none none none none none none none none) (WD r []) = .ok (El ns (some (.tup rs)) none none none none none none none none none none none none none none none, .nx) (WD r' []) ∧ Rows m n rs ∧ 1 ≤ m ∧ m ≤ 4 ∧ 1 ≤ n ∧ n ≤ 4 ∧ Adv 34 r r' := by
  obtain ⟨rs, m, n, r', e, q⟩ := table_drawn (rest := []) o
  refine ⟨rs, m, n, r', ?_, q⟩
  unfold p_law2
  simp [e]
theorem deeds_ints {ds : List T} (h : ∀ t ∈ ds, IDeed m t) : ∃ is : List Int, ds = is.map T.int ∧ ∀ i ∈ is, 0 ≤ i ∧ i < m := by
  induction ds with
  | nil => exact ⟨[], rfl, fun i hi => by cases hi⟩
  | cons d ds ih =>
    obtain ⟨i, rfl, h0, h1⟩ := h d (.head _)
    obtain ⟨is, rfl, hs⟩ := ih fun t ht => h t (.tail _ ht)
    exact ⟨i :: is, rfl, fun j hj => by
      rcases List.mem_cons.mp hj with rfl | hj
      · exact ⟨h0, h1⟩
      · exact hs j hj⟩
theorem law3_ok (R : Rows m n rs) (hm : 1 ≤ m) (hm' : m ≤ 4) (hn : 1 ≤ n) (o : Ok 220 r) : ∃ cs js s r', p_law3 (El ns (some (.tup rs)) none none none none none none none none none none none none none none none) (WD r []) = .ok (El ns (some (.tup rs)) none none none none none none (some (.lst (cs.map clT))) (some (.lst (js.map T.int))) s none none none none none none, .nx) (WD r' []) ∧ Hist m cs ∧ Places cs js ∧ Adv 211 r r' := by
  obtain ⟨q, r1, e1, q0, q1, a1⟩ := draw_ok (rest := []) (r := r) (n := 9) (by decide) (by decide) (o.on Adv.refl 1 (by decide))
  obtain ⟨ds, r2, e2, l2, d2, a2⟩ := deeds_ok (rest := []) (r := r1) (k := 1 + q) R hm (by omega) (by omega) (by omega) (o.on a1 100 (by decide))
  obtain ⟨is, rfl, hi⟩ := deeds_ints d2
  obtain ⟨cs, js, s, r3, e3, h3, hp, a3⟩ := run_ok (r := r2) (ds := is) R hi (by simp at l2; omega) (by omega) (o.on (a1.trans a2) 110 (by decide))
  refine ⟨cs, js, some s, r3, ?_, h3, hp, ((a1.trans a2).trans a3).mono (by decide)⟩
  unfold p_law3
  simp [e1, e2, e3]
theorem law4_ok (hl : cs.length ≤ 100) : p_law4 (El ns x2 none none none none none none (some (.lst (cs.map clT))) x10 x11 none none none none none none) w = .ok (El ns x2 (some (.lst ((wantB cs).map T.int))) none none none none none (some (.lst (cs.map clT))) x10 x11 none none none none none none, .nx) w := by
  have e8 := listy_enum (w := w) (L := .lst (cs.map clT)) (.inl rfl)
  have e := compL_filter_m (w := w) (oc := none) (g := mgTup 2 (mgCons (mgName 12) (mgCons (mgName 18) mgNil))) (c := mTest (mOp2 sIsNot (mOp2 sIx (mVar 18) (mC (.int 2))) (mC .non))) (e := mVar 12) (ρ0 := El ns x2 none none none none none none (some (.lst (cs.map clT))) x10 x11 none none none none none none) (fun (j : Nat) => T.tup [.int (j : Int), clT (cAt cs j)]) (fun i => (cAt cs i).fin.isSome) (fun i => .int ((i : Nat) : Int)) (fun _ => kept_none) (List.range cs.length) [] (by simp; omega) (fun j hj => by
    have i2 : sIx (clT (cAt cs j)) (.int 2) w = .ok (optT (cAt cs j).fin) w := sIx_tup rfl (by decide)
    exact ⟨_, by simp; rfl, by simp [i2, optT_isnot], fun _ => by simp⟩) (enT 0 (cs.map clT))
  rw [← enT_cls, List.nil_append] at e
  have e2 : ((List.range cs.length).filter fun i => (cAt cs i).fin.isSome).map (fun i => T.int ((i : Nat) : Int)) = (wantB cs).map T.int := by simp [wantB]
  rw [e2] at e
  unfold p_law4
  simp only [Bool.false_eq_true, if_false, mAsg_, mVal_, mComp_, mEnum, mCons_, mNil_, mVar0, mVarS, bind_ok', e8, wipeE, List.set_cons_zero, List.set_cons_succ, e, noX_ok, mgName_]
structure MoreOk (cs : List Cl) (k : Nat) (ms : List Int) : Prop where
  mem : ∀ x ∈ ms, 0 ≤ x ∧ x < (k : Int) ∧ (cI cs x).fin = none
  once : ms.Nodup
  len : ms.length ≤ k
theorem law5_ok (hl : cs.length ≤ 100) (o : Ok 100 r) : ∃ mo r', p_law5 (El ns x2 x3 none none none none none (some (.lst (cs.map clT))) x10 x11 none none none none none none) (WD r []) = .ok (El ns x2 x3 (some (.lst (mo.map T.int))) none none none none (some (.lst (cs.map clT))) x10 x11 none none none none none none, .nx) (WD r' []) ∧ MoreOk cs cs.length mo ∧ Adv 100 r r' := by
  have e8 := listy_enum (w := WD r []) (L := .lst (cs.map clT)) (.inl rfl)
  obtain ⟨out, w', e, mo, r', rfl, rfl, hm, a⟩ := compL_run (w := WD r []) (P := fun i out w' => ∃ ms r', out = ms.map T.int ∧ w' = WD r' [] ∧ MoreOk cs i ms ∧ Adv (i : Int) r r') (all := enT 0 (cs.map clT)) (g := mgTup 2 (mgCons (mgName 12) (mgCons (mgName 18) mgNil))) (c := mAnd (mTest (mOp2 sIs (mOp2 sIx (mVar 18) (mC (.int 2))) (mC .non))) (mTest (mOp2 sEq (mDef 2 s__law_draw (mCons (mVar 1) (mCons (mC (.int 2)) mNil))) (mC (.int 0))))) (e := mVar 12) (ρ0 := El ns x2 x3 none none none none none (some (.lst (cs.map clT))) x10 x11 none none none none none none)
    ⟨[], r, rfl, rfl, ⟨fun x hx => (by cases hx), .nil, Nat.le_refl _⟩, Adv.refl⟩ (fun i t out w' ht p => by
      obtain ⟨ms, r', rfl, rfl, hm, a⟩ := p
      rw [enT_cls, List.getElem?_map] at ht
      cases z : (List.range cs.length)[i]? with
      | none => rw [z] at ht; cases ht
      | some j =>
        rw [z] at ht
        cases ht
        have hi := (List.getElem?_eq_some_iff.mp z).1
        rw [List.getElem?_range (by simpa using hi)] at z
        cases z
        have hi' : i < cs.length := by simpa using hi
        have i2 : ∀ w, sIx (clT (cAt cs i)) (.int 2) w = .ok (optT (cAt cs i).fin) w := fun w => sIx_tup rfl (by decide)
        have ml := hm.len
        refine ⟨[some (.frz (ns.map T.int)), some (.cell 1), x2, x3, none, none, none, none, none, some (.lst (cs.map clT)), x10, x11, some (.int (i : Int)), none, none, none, none, none, some (clT (cAt cs i))], WD r' [], by simp, ?_⟩
        cases hf : (cAt cs i).fin with
        | some e =>
          refine .inr ⟨WD r' [], ?_, ms, r', rfl, rfl, ⟨fun x hx => ?_, hm.once, by omega⟩, a.mono (by omega)⟩
          · have i2' := i2 (WD r' [])
            rw [hf] at i2'
            simp [i2', optT_is]
          · obtain ⟨h0, h1, h2⟩ := hm.mem x hx
            exact ⟨h0, by omega, h2⟩
        | none =>
          obtain ⟨q, r2, e1, q0, q1, a2⟩ := draw_ok (rest := []) (r := r') (n := 2) (by decide) (by decide) (o.on a 1 (by omega))
          have i2' := i2 (WD r' [])
          rw [hf] at i2'
          have aa := (a.trans a2).mono (d := ((i + 1 : Nat) : Int)) (by omega)
          by_cases hq : q = 0
          · refine .inl ⟨WD r2 [], .int (i : Int), WD r2 [], by simp [i2', optT_is, e1, hq], by simp, by simp; omega, ms ++ [(i : Int)], r2, by simp, rfl, ⟨fun x hx => ?_, ?_, by simp; omega⟩, aa⟩
            · rcases List.mem_append.mp hx with hx | hx
              · obtain ⟨h0, h1, h2⟩ := hm.mem x hx
                exact ⟨h0, by omega, h2⟩
              · simp at hx; subst hx
                exact ⟨by omega, by omega, by simpa [cI] using hf⟩
            · rw [List.nodup_append]
              exact ⟨hm.once, by simp, fun a ha b hb => by simp at hb; subst hb; have := (hm.mem a ha).2.1; omega⟩
          · refine .inr ⟨WD r2 [], by simp [i2', optT_is, e1, hq], ms, r2, rfl, rfl, ⟨fun x hx => ?_, hm.once, by omega⟩, aa⟩
            obtain ⟨h0, h1, h2⟩ := hm.mem x hx
            exact ⟨h0, by omega, h2⟩)
  rw [enT_len, List.length_map] at hm a
  refine ⟨mo, r', ?_, hm, a.mono (by omega)⟩
  unfold p_law5
  simp only [Bool.false_eq_true, if_false, mAsg_, mVal_, mComp_, mEnum, mCons_, mNil_, mVar0, mVarS, bind_ok', e8, wipeE, List.set_cons_zero, List.set_cons_succ, e, noX_ok, mgName_]
theorem law6_ok : p_law6 (El ns x2 x3 x4 none none none none x9 (some (.lst (js.map T.int))) x11 none none none none none none) w = .ok (El ns x2 x3 x4 (some (.lst (js.map T.int))) none none none x9 (some (.lst (js.map T.int))) x11 none none none none none none, .nx) w := by
  unfold p_law6
  simp
theorem cut_from {ts : List T} {k : Nat} (h : k ≤ ts.length) : cutT ts (some (k : Int)) none = ts.drop k := by
  unfold cutT
  have e2 : HT.sIx ts.length ts.length none = ts.length := rfl
  have e1 : HT.sIx ts.length 0 (some (k : Int)) = k := by rw [HT.sIx_nat]; omega
  rw [e1, e2]
  rw [List.take_of_length_le (by simp)]
theorem swap_perm {js : List Int} {a : Nat} (h : a + 1 < js.length) : (js.take a ++ [js[a + 1], js[a]] ++ js.drop (a + 2)).Perm js := by
  have e : js = js.take a ++ [js[a], js[a + 1]] ++ js.drop (a + 2) := by
    have h1 : js.drop a = js[a] :: js.drop (a + 1) := List.drop_eq_getElem_cons (by omega)
    have h2 : js.drop (a + 1) = js[a + 1] :: js.drop (a + 2) := List.drop_eq_getElem_cons (by omega)
    rw [List.append_assoc]
    show js = js.take a ++ (js[a] :: js[a + 1] :: js.drop (a + 2))
    rw [← h2, ← h1, List.take_append_drop]
  conv => rhs; rw [e]
  refine List.Perm.append_right _ (List.Perm.append_left _ ?_)
  exact List.Perm.swap _ _ _
theorem law7_ok (hl : js.length ≤ 50) (o : Ok 1 r) : ∃ (ks : List Int) (y12 : Option T) (r' : Rng), p_law7 (El ns x2 x3 x4 (some (.lst (js.map T.int))) none none none x9 x10 x11 none none none none none none) (WD r []) = .ok (El ns x2 x3 x4 (some (.lst (ks.map T.int))) none none none x9 x10 x11 y12 none none none none none, .nx) (WD r' []) ∧ ks.Perm js ∧ Adv 1 r r' := by
  obtain ⟨k, hk⟩ : ∃ k : Int, k = ((js.map T.int).length : Int) := ⟨_, rfl⟩
  have hkl : k = (js.length : Int) := by rw [hk, List.length_map]
  by_cases h1 : 1 < k
  · obtain ⟨q, r', e, q0, q1, a⟩ := draw_ok (rest := []) (r := r) (n := k - 1) (by omega) (by omega) o
    obtain ⟨b, hb⟩ : ∃ b : Nat, q = (b : Int) := ⟨q.toNat, by omega⟩
    subst hb
    have hbl : b + 1 < js.length := by omega
    refine ⟨js.take b ++ [js[b + 1], js[b]] ++ js.drop (b + 2), some (.int (b : Int)), r', ?_, swap_perm hbl, a⟩
    have c1 := cut_to (ts := js.map T.int) (k := b) (by simp; omega)
    have c2 := cut_from (ts := js.map T.int) (k := b + 2) (by simp; omega)
    have i1 : sIx (.lst (js.map T.int)) (.int ((b : Int) + 1)) (WD r' []) = .ok (.int js[b + 1]) (WD r' []) := sIx_lst (by rw [show ((b : Int) + 1).toNat = b + 1 by omega]; simp [hbl]) (by omega)
    have i2 : sIx (.lst (js.map T.int)) (.int (b : Int)) (WD r' []) = .ok (.int js[b]) (WD r' []) := sIx_lst (by rw [Int.toNat_natCast]; simp [show b < js.length by omega]) (by omega)
    have tl := List.length_take_le b (js.map T.int)
    have tl2 := List.length_take_le' b (js.map T.int)
    have dl : ((js.map T.int).drop (b + 2)).length ≤ 50 := by simp; omega
    have two := two_le
    have k1 := cat_lst (w := WD r' []) (A := (js.map T.int).take b) (B := [.int js[b + 1], .int js[b]]) (by simp at tl2 ⊢; omega)
    have k2 := cat_lst (w := WD r' []) (A := (js.map T.int).take b ++ [.int js[b + 1], .int js[b]]) (B := (js.map T.int).drop (b + 2)) (by simp at tl2 dl ⊢; omega)
    have p2 : sAdd (.int (b : Int)) (.int 2) (WD r' []) = .ok (.int ((b + 2 : Nat) : Int)) (WD r' []) := by simp
    have er : (js.take b ++ [js[b + 1], js[b]] ++ js.drop (b + 2)).map T.int = (js.map T.int).take b ++ [.int js[b + 1], .int js[b]] ++ (js.map T.int).drop (b + 2) := by
      rw [List.map_append, List.map_append, List.map_take, List.map_drop]; rfl
    rw [er]
    unfold p_law7
    simp only [mIfS_, mTest_, mOp2_, mCall_, mCons_, mNil_, mVar0, mVarS, mC_, bind_ok', sLen_lst, ← hk, sGt_, asB_bl, decide_eq_true h1, if_true, mSeq_, mAsg_, mDef_, sSub_, List.length_cons, List.length_nil, Nat.zero_add, Nat.reduceAdd, e, at_ok', mgName_, List.set_cons_zero, List.set_cons_succ, then_nx, mVal_, mOp2F_, mSlL_, mNoPart_, mPart_, lst_lst, c1, mLst_, sAdd_, i1, i2, if_pos two, k1, p2, c2, k2]
    have : ((b : Int) + 2) = ((b + 2 : Nat) : Int) := by omega
    simp only [this, c2, bind_ok', k2]
  · refine ⟨js, none, r, ?_, .refl _, Adv.refl.mono (by decide)⟩
    unfold p_law7
    simp only [mIfS_, mTest_, mOp2_, mCall_, mCons_, mNil_, mVar0, mVarS, mC_, bind_ok', sLen_lst, ← hk, sGt_, asB_bl, decide_eq_false h1, Bool.false_eq_true, if_false, mSkip_]
end
end VS

set_option Elab.async false
set_option linter.all false
set_option maxRecDepth 100000
set_option maxHeartbeats 4000000
namespace VS
open PySem PySem.Spec PyProof.Rows L2
theorem perm_map_int : ∀ {l : List T} {as : List Int}, l.Perm (as.map T.int) → ∃ bs : List Int, l = bs.map T.int ∧ bs.Perm as
  | [], as, h => by
    have : as = [] := by simpa using h.symm.eq_nil
    subst this
    exact ⟨[], rfl, .refl _⟩
  | b :: l, as, h => by
    obtain ⟨a, ha, rfl⟩ := List.mem_map.mp (h.mem_iff.mp (.head _))
    have p := List.perm_cons_erase ha
    have q : l.Perm ((as.erase a).map T.int) := (h.trans (p.map T.int)).cons_inv
    obtain ⟨bs, rfl, pb⟩ := perm_map_int q
    exact ⟨a :: bs, rfl, (pb.cons a).trans p.symm⟩
theorem Places.perm {cs : List Cl} {ps qs : List Int} (h : Places cs ps) (p : qs.Perm ps) : Places cs qs :=
  ⟨fun x hx => h.rng x (p.mem_iff.mp hx), p.nodup_iff.mpr h.once, fun i hi hf => p.mem_iff.mpr (h.all i hi hf)⟩
theorem want_in {cs : List Cl} {x : Int} (h : x ∈ wantB cs) : 0 ≤ x ∧ x < (cs.length : Int) ∧ (cI cs x).fin.isSome = true := by
  obtain ⟨i, hi, rfl⟩ := List.mem_map.mp h
  obtain ⟨h1, h2⟩ := List.mem_filter.mp hi
  have := List.mem_range.mp h1
  exact ⟨by omega, by omega, by simpa [cI] using h2⟩
theorem want_places (cs : List Cl) : Places cs (wantB cs) := by
  refine ⟨fun x hx => ⟨(want_in hx).1, (want_in hx).2.1⟩, ?_, fun i hi hf => ?_⟩
  · exact List.pairwise_map.mpr ((List.nodup_range.filter _).imp fun h e => h (by omega))
  · exact List.mem_map.mpr ⟨i, List.mem_filter.mpr ⟨List.mem_range.mpr hi, hf⟩, rfl⟩
theorem more_places {cs : List Cl} {mo : List Int} (h : MoreOk cs cs.length mo) : Places cs (wantB cs ++ mo) := by
  have hw := want_places cs
  refine ⟨fun x hx => ?_, ?_, fun i hi hf => List.mem_append_left _ (hw.all i hi hf)⟩
  · rcases List.mem_append.mp hx with hx | hx
    · exact hw.rng x hx
    · have := h.mem x hx; exact ⟨this.1, this.2.1⟩
  · rw [List.nodup_append]
    refine ⟨hw.once, h.once, fun a ha b hb e => ?_⟩
    subst e
    have h1 := (want_in ha).2.2
    rw [(h.mem a hb).2.2] at h1
    cases h1
theorem places_len {cs : List Cl} {ps : List Int} (h : Places cs ps) : ps.length ≤ cs.length := by
  have h1 : (ps.map fun x => x.toNat).Nodup := List.pairwise_map.mpr (List.Pairwise.imp_of_mem (fun {a b} ha hb hab e => hab (by have := (h.rng a ha).1; have := (h.rng b hb).1; omega)) h.once)
  have h2 : ∀ y ∈ ps.map fun x => x.toNat, y ∈ List.range cs.length := fun y hy => by
    obtain ⟨x, hx, rfl⟩ := List.mem_map.mp hy
    have := h.rng x hx
    exact List.mem_range.mpr (by omega)
  have key : ∀ (l m : List Nat), l.Nodup → (∀ y ∈ l, y ∈ m) → l.length ≤ m.length := fun l => by
    induction l with
    | nil => intro m _ _; simp
    | cons a l ih =>
      intro m hn hs
      rw [List.nodup_cons] at hn
      have ha := hs a (.head _)
      have := ih (m.erase a) hn.2 fun y hy => by
        have hy' := hs y (.tail _ hy)
        exact (List.mem_erase_of_ne (fun e : y = a => hn.1 (e ▸ hy))).mpr hy'
      have hl := List.length_erase_of_mem ha
      have hp : 0 < m.length := List.length_pos_of_mem ha
      simp
      omega
  have := key _ _ h1 h2
  simpa using this
section
variable {w X : World} {r : Rng} {m n i k : Int} {cs : List Cl} {rs ts : List T} {v t : T} {ρ : Env} {ns js ks wa mo : List Int}
variable {x2 x3 x4 x5 x6 x7 x8 x9 x10 x11 x12 x13 x14 x15 x16 x17 : Option T}
theorem mixed_ints {ps : List Int} (hl : ps.length ≤ 100) (o : Ok 100 r) : ∃ (qs : List Int) (r' : Rng), s__law_mixed [.cell 1, .lst (ps.map T.int)] (WD r []) = .ok (.lst (qs.map T.int)) (WD r' []) ∧ qs.Perm ps ∧ Adv 100 r r' := by
  obtain ⟨out, r', e, p, a⟩ := mixed_ok (rest := []) (r := r) (sv := .lst (ps.map T.int)) (ts := ps.map T.int) (.inl rfl) (show 1 ≤ 50 by decide) (ints_plain ps) (by simp; omega) (by rw [List.length_map]; exact ⟨o.1, by have := o.2; omega⟩)
  obtain ⟨qs, rfl, pq⟩ := perm_map_int p
  rw [List.length_map] at a
  exact ⟨qs, r', e, pq, a.mono (by omega)⟩
theorem law8_ok (R : Rows m n rs) (hm : 1 ≤ m) (hm' : m ≤ 12) (hn : 1 ≤ n) (hn' : n ≤ 30) (h : Hist m cs) (hj : Places cs js) (hk : Places cs ks) (hmo : MoreOk cs cs.length mo) (o : Ok 200 r) :
    ∃ r' y6 y13 y14 y15 y16 y17, p_law8 (El ns (some (.tup rs)) (some (.lst ((wantB cs).map T.int))) (some (.lst (mo.map T.int))) (some (.lst (ks.map T.int))) none none none (some (.lst (cs.map clT))) (some (.lst (js.map T.int))) x11 x12 none none none none none) (WD r []) = .ok (El ns (some (.tup rs)) (some (.lst ((wantB cs).map T.int))) (some (.lst (mo.map T.int))) (some (.lst (ks.map T.int))) y6 none none (some (.lst (cs.map clT))) (some (.lst (js.map T.int))) x11 x12 y13 y14 y15 y16 y17, .nx) (WD r' []) ∧ Adv 200 r r' := by
  have hf := h.few
  have pm := more_places hmo
  have pw := want_places cs
  have l1 := places_len pm
  have l2 := places_len pw
  obtain ⟨q1, r1, e1, p1, a1⟩ := mixed_ints (ps := wantB cs ++ mo) (r := r) (by omega) (o.on Adv.refl 100 (by decide))
  obtain ⟨q2, r2, e2, p2, a2⟩ := mixed_ints (ps := wantB cs) (r := r1) (by omega) (o.on a1 100 (by decide))
  have ct := cat_lst (w := WD r []) (A := (wantB cs).map T.int) (B := mo.map T.int) (by simp at l1 ⊢; omega)
  rw [← List.map_append] at ct
  have l4 := sz (k := 4) (by decide)
  obtain ⟨ρ', w', e, hw, y6, y13, y14, y15, y16, y17, rfl⟩ := forL_run (P := fun i ρ w' => w' = WD r2 [] ∧ ∃ y6 y13 y14 y15 y16 y17, ρ = El ns (some (.tup rs)) (some (.lst ((wantB cs).map T.int))) (some (.lst (mo.map T.int))) (some (.lst (ks.map T.int))) y6 none none (some (.lst (cs.map clT))) (some (.lst (js.map T.int))) x11 x12 y13 y14 y15 y16 y17) (g := mgName 6) (b := p_law8b) (all := [.lst (js.map T.int), .lst (ks.map T.int), .lst (q1.map T.int), .tup (q2.map T.int)]) (ρ := El ns (some (.tup rs)) (some (.lst ((wantB cs).map T.int))) (some (.lst (mo.map T.int))) (some (.lst (ks.map T.int))) none none none (some (.lst (cs.map clT))) (some (.lst (js.map T.int))) x11 x12 none none none none none) (w := WD r2 [])
    ⟨rfl, _, _, _, _, _, _, rfl⟩ (fun i t ρ w' ht p => by
      obtain ⟨rfl, y6, y13, y14, y15, y16, y17, rfl⟩ := p
      obtain ⟨ps, hV, hp⟩ : ∃ ps : List Int, listy t (ps.map T.int) ∧ Places cs ps := by
        match i, ht with
        | 0, ht => cases ht; exact ⟨js, .inl rfl, hj⟩
        | 1, ht => cases ht; exact ⟨ks, .inl rfl, hk⟩
        | 2, ht => cases ht; exact ⟨q1, .inl rfl, pm.perm p1⟩
        | 3, ht => cases ht; exact ⟨q2, .inr rfl, pw.perm p2⟩
      have hl := places_len hp
      obtain ⟨z13, z14, z15, z16, z17, e⟩ := seq_turn (w := WD r2 []) (a0 := some (.frz (ns.map T.int))) (a1 := some (.cell 1)) (a3 := some (.lst ((wantB cs).map T.int))) (a4 := some (.lst (mo.map T.int))) (a5 := some (.lst (ks.map T.int))) (a7 := none) (a8 := none) (a10 := some (.lst (js.map T.int))) (a11 := x11) (a12 := x12) (a18 := none) (x13 := y13) (x14 := y14) (x15 := y15) (x16 := y16) (x17 := y17) R hm hm' hn hn' h hV hp (by omega)
      exact ⟨_, _, by rw [mgName_, bind_ok']; exact e, rfl, _, _, _, _, _, _, rfl⟩)
  subst hw
  refine ⟨r2, y6, y13, y14, y15, y16, y17, ?_, a1.trans a2⟩
  unfold p_law8
  simp only [mFor_, mItems_, mVal_, mLst_, mCons_, mDef_, mCall_, mOp2F_, mNil_, mVar0, mVarS, bind_ok', ct, e1, e2, at_ok', sTup_lst, List.length_cons, List.length_nil, Nat.zero_add, Nat.reduceAdd, if_true, if_pos l4, sItems_lst]
  exact e
end
end VS

set_option Elab.async false
set_option linter.all false
set_option maxRecDepth 100000
set_option maxHeartbeats 4000000
namespace VS
open PySem PySem.Spec PyProof.Rows L2
section
variable {w X : World} {r : Rng} {m n i k : Int} {cs : List Cl} {rs ts : List T} {v t L V : T} {ρ : Env} {ns js ks wa mo : List Int} {x : Str}
variable {x2 x3 x4 x5 x6 x7 x8 x9 x10 x11 x12 x13 x14 x15 x16 x17 : Option T}
theorem gc_ex {f : Sem} {ds : List T} {ρ : Env} (e : f ds w = .ex (.exc x [] []) ρ w) : gc f ds w = .ex (.exc x [] []) [] w := by
  have g : GcOk w w := by have := gcok_app (w := w) (ex := []); simpa using this
  have nr : NoRef w.length (.exc x [] []) := by unfold NoRef; unfold NoRefs; trivial
  unfold gc
  rw [e]
  unfold gcR
  simp only
  rw [if_pos ⟨g, nr⟩]
  simp
theorem points_history (h : s_check_history [t, L] w = .ex (.exc x [] []) ρ w) : s_points_of [t, L, V] w = .ex (.exc x [] []) [] w := by
  refine gc_ex (ρ := []) ?_
  unfold m_points_of runB
  simp [h]
theorem points_places (hc : s_check_history [t, L] w = .ok .non w) (hp : s_are_places [L, V] w = .ok (.bl false) w) : s_points_of [t, L, V] w = .ex (.exc "BadPlaces" [] []) [] w := by
  refine gc_ex (ρ := []) ?_
  unfold m_points_of runB
  simp [hc, hp]
theorem isx_of (e : lookB isTab x x = some true) (n : ¬ (x = "")) : sIsX isTab [.exc x [] [], .glb x] w = .ok (.bl true) w := by
  simp [sIsX, e, n]
theorem x_table : sIsX isTab [.exc "BadTable" [] [], .glb "BadTable"] w = .ok (.bl true) w := isx_of (by decide +kernel) (by decide +kernel)
theorem x_history : sIsX isTab [.exc "BadHistory" [] [], .glb "BadHistory"] w = .ok (.bl true) w := isx_of (by decide +kernel) (by decide +kernel)
theorem x_places : sIsX isTab [.exc "BadPlaces" [] [], .glb "BadPlaces"] w = .ok (.bl true) w := isx_of (by decide +kernel) (by decide +kernel)
theorem guard_ok {C : ME} (hc : mCaught caughtL C ρ w = .ok (.exc x [] []) w) (hx : sIsX isTab [.exc x [] [], .glb x] w = .ok (.bl true) w) : (mIfS (mNot (mTru (mCall (sIsX isTab) (mCons (mCaught caughtL C) (mCons (mC (.glb x)) mNil))))) (mRet (mC (.bl false))) mSkip) ρ w = .ok (ρ, .nx) w := by
  simp only [mIfS_, mNot_, mTru_, mCall_, mCons_, mNil_, hc, mC_, bind_ok', hx, sTru_bl, Bool.not_true, Bool.false_eq_true, if_false, mSkip_]
theorem tab_nil : s_is_table [.tup []] w = .ok (.bl false) w := by unfold s_is_table m_is_table runB; simp
/-! wrong lists of places -/
def wrong8 (cs : List Cl) (k : Int) : List T := [.non, .int 5, .str "0", .lst ((wantB cs).map T.int ++ [.int k]), .lst ((wantB cs).map T.int ++ [.int (-1)]), .lst ((wantB cs).map T.int ++ [.bl true]), .dct [] [], .lst [.lst []]]
def wrong2 (cs : List Cl) : List T := if wantB cs = [] then [] else [.lst (((wantB cs).map T.int).drop 1), .lst ((wantB cs).map T.int ++ ((wantB cs).map T.int).take 1)]
theorem bad_last (hl : cs.length ≤ 60) (hx : s_is_place [t, .int (cs.map clT).length] w = .ok (.bl false) w) : s_are_places [.lst (cs.map clT), .lst ((wantB cs).map T.int ++ [t])] w = .ok (.bl false) w := by
  classical
  have pw := want_places cs
  have l := places_len pw
  obtain ⟨N, hN⟩ : ∃ N : Int, N = ((cs.map clT).length : Int) := ⟨_, rfl⟩
  have hNl : N = (cs.length : Int) := by rw [hN, List.length_map]
  rw [← hN] at hx
  refine places_bad (ts := cs.map clT) (us := (wantB cs).map T.int ++ [t]) (.inl rfl) (.inl rfl) (fun u => decide (s_is_place [u, .int N] w = .ok (.bl true) w)) (by simp; omega) (fun u hu => ?_) ⟨t, by simp, by simp [hx]⟩
  rw [← hN]
  rcases List.mem_append.mp hu with hu | hu
  · obtain ⟨y, hy, rfl⟩ := List.mem_map.mp hu
    have hr := pw.rng y hy
    have e := is_place_ok (w := w) (i := y) (n := N) hr.1 (by omega) (by omega)
    simp [e]
  · simp at hu; subst hu
    simp [hx]
theorem wrong_no (hl : cs.length ≤ 9) (hk : k = ((cs.map clT).length : Int)) (h : v ∈ wrong8 cs k ++ wrong2 cs) : s_are_places [.lst (cs.map clT), v] w = .ok (.bl false) w := by
  have pw := want_places cs
  have l := places_len pw
  have hkl : k = (cs.length : Int) := by rw [hk, List.length_map]
  rcases List.mem_append.mp h with h | h
  · unfold wrong8 at h
    simp only [List.mem_cons, List.not_mem_nil, or_false] at h
    rcases h with rfl | rfl | rfl | rfl | rfl | rfl | rfl | rfl
    · exact places_nolist nolist_non
    · exact places_nolist nolist_int
    · exact places_nolist nolist_str
    · exact bad_last (by omega) (by rw [← hk]; exact place_over (by omega) (by omega) (Int.le_refl _))
    · exact bad_last (by omega) (place_bad (count_neg (by decide)))
    · exact bad_last (by omega) (place_bad (count_bad num_bl))
    · exact places_nolist nolist_dct
    · exact places_bad (ts := cs.map clT) (us := [.lst []]) (.inl rfl) (.inl rfl) (fun _ => false) (by decide) (fun u hu => by simp at hu; subst hu; exact place_bad (count_bad num_lst)) ⟨.lst [], by simp, rfl⟩
  · unfold wrong2 at h
    by_cases hw : wantB cs = []
    · rw [if_pos hw] at h; cases h
    · rw [if_neg hw] at h
      obtain ⟨y, ys, hy⟩ : ∃ y ys, wantB cs = y :: ys := by
        cases q : wantB cs with
        | nil => exact absurd q hw
        | cons y ys => exact ⟨y, ys, rfl⟩
      have hyw := want_in (cs := cs) (x := y) (by rw [hy]; exact .head _)
      have nd := pw.once
      rw [hy, List.nodup_cons] at nd
      simp only [List.mem_cons, List.not_mem_nil, or_false] at h
      rcases h with rfl | rfl
      · have e := places_ok (w := w) (cs := cs) (ps := ys) (L := .lst (cs.map clT)) (V := .lst (ys.map T.int)) (.inl rfl) (.inl rfl) (by omega) (by rw [hy] at l; simp at l; omega) (fun z hz => pw.rng z (by rw [hy]; exact .tail _ hz))
        have hc : cover cs ys = false := cover_no (i := y.toNat) (by omega) (by have := hyw.2.2; exact this) (by rw [show ((y.toNat : Nat) : Int) = y by omega]; exact nd.1)
        rw [hc, Bool.and_false] at e
        rw [hy]
        exact e
      · have e := places_ok (w := w) (cs := cs) (ps := wantB cs ++ [y]) (L := .lst (cs.map clT)) (V := .lst ((wantB cs ++ [y]).map T.int)) (.inl rfl) (.inl rfl) (by omega) (by simp; omega) (fun z hz => by
          rcases List.mem_append.mp hz with hz | hz
          · exact pw.rng z hz
          · simp at hz; subst hz; exact ⟨hyw.1, hyw.2.1⟩)
        have nn : ¬ (wantB cs ++ [y]).Nodup := fun z => by
          rw [List.nodup_append] at z
          exact z.2.2 y (by rw [hy]; exact .head _) y (by simp) rfl
        rw [decide_eq_false nn, Bool.false_and] at e
        have eq : (wantB cs ++ [y]).map T.int = (wantB cs).map T.int ++ ((wantB cs).map T.int).take 1 := by
          rw [hy]; simp
        rw [eq] at e
        exact e
theorem law9_ok (hl : cs.length ≤ 9) (hk : k = ((cs.map clT).length : Int)) : p_law9 (El ns x2 (some (.lst ((wantB cs).map T.int))) x4 x5 x6 none none (some (.lst (cs.map clT))) x10 x11 x12 x13 x14 x15 x16 x17) w = .ok (El ns x2 (some (.lst ((wantB cs).map T.int))) x4 x5 x6 (some (.lst (wrong8 cs k))) none (some (.lst (cs.map clT))) x10 x11 x12 x13 x14 x15 x16 x17, .nx) w := by
  have l := places_len (want_places cs)
  have l0 := sz (k := 0) (by decide)
  have l1 := sz (k := 1) (by decide)
  have l8 := sz (k := 8) (by decide)
  have c1 : ∀ t : T, sCat (.lst ((wantB cs).map T.int)) (.lst [t]) w = .ok ((wantB cs).map T.int ++ [t]) w := fun t => cat_lst (by simp; omega)
  unfold p_law9
  simp only [mAsg_, mVal_, mLst_, mCons_, mNil_, mC_, mC0, mOp2F_, mVar0, mVarS, bind_ok', mCall_, sLen_lst, ← hk, mOp1_, sNeg_, List.length_cons, List.length_nil, Nat.zero_add, Nat.reduceAdd, if_pos l0, if_pos l1, if_pos l8, c1, mgName_, List.set_cons_zero, List.set_cons_succ]
  rfl
theorem law10_ok (hl : cs.length ≤ 9) : p_law10 (El ns x2 (some (.lst ((wantB cs).map T.int))) x4 x5 x6 (some (.lst (wrong8 cs k))) none x9 x10 x11 x12 x13 x14 x15 x16 x17) w = .ok (El ns x2 (some (.lst ((wantB cs).map T.int))) x4 x5 x6 (some (.lst (wrong8 cs k ++ wrong2 cs))) none x9 x10 x11 x12 x13 x14 x15 x16 x17, .nx) w := by
  have l := places_len (want_places cs)
  have l0 := sz (k := 0) (by decide)
  have two := two_le
  have ne := ne_ints (w := w) (wantB cs)
  have hk : ∀ B : List T, B.length ≤ 10 → sCat (.lst (wrong8 cs k)) (.lst B) w = .ok (wrong8 cs k ++ B) w := fun B hB => cat_lst (by simp [wrong8]; omega)
  unfold p_law10 wrong2
  by_cases hw : wantB cs = []
  · have ne' : sNe (.lst ((wantB cs).map T.int)) (.lst []) w = .ok (.bl false) w := by rw [ne, decide_eq_true hw]; rfl
    have c0 := hk [] (by decide)
    rw [if_pos hw]
    simp only [mAsg_, mVal_, mOp2F_, mVar0, mVarS, bind_ok', mIf_, mTest_, mOp2_, mLst_, mNil_, List.length_nil, if_pos l0, ne', asB_bl, Bool.false_eq_true, if_false, c0, mgName_, List.set_cons_zero, List.set_cons_succ]
  · have ne' : sNe (.lst ((wantB cs).map T.int)) (.lst []) w = .ok (.bl true) w := by rw [ne, decide_eq_false hw]; rfl
    have hp : 0 < (wantB cs).length := List.length_pos_iff.mpr hw
    have c1 := cut_from (ts := (wantB cs).map T.int) (k := 1) (by simp; omega)
    have c2 := cut_to (ts := (wantB cs).map T.int) (k := 1) (by simp; omega)
    have tl := List.length_take_le 1 ((wantB cs).map T.int)
    have c3 := cat_lst (w := w) (A := (wantB cs).map T.int) (B := ((wantB cs).map T.int).take 1) (by simp at tl ⊢; omega)
    have c4 := hk [.lst (((wantB cs).map T.int).drop 1), .lst ((wantB cs).map T.int ++ ((wantB cs).map T.int).take 1)] (by simp)
    rw [if_neg hw]
    have o1 : ((1 : Nat) : Int) = 1 := rfl
    rw [o1] at c1 c2
    simp only [mAsg_, mVal_, mOp2F_, mVar0, mVarS, bind_ok', mIf_, mTest_, mOp2_, mLst_, mNil_, List.length_nil, if_pos l0, ne', asB_bl, if_true, mCons_, mSlL_, mPart_, mNoPart_, mC_, lst_lst, c1, c2, c3, List.length_cons, Nat.zero_add, Nat.reduceAdd, if_pos two, c4, mgName_, List.set_cons_zero, List.set_cons_succ]
theorem law11_ok (o : Ok 1 r) (hne : ts ≠ []) (hl : ts.length ≤ 20) : ∃ v r', p_law11 (El ns x2 x3 x4 x5 x6 (some (.lst ts)) none x9 x10 x11 x12 x13 x14 x15 x16 x17) (WD r X) = .ok (El ns x2 x3 x4 x5 x6 (some (.lst ts)) (some v) x9 x10 x11 x12 x13 x14 x15 x16 x17, .nx) (WD r' X) ∧ v ∈ ts ∧ Adv 1 r r' := by
  obtain ⟨v, r', e, hv, a⟩ := pick_lst (rest := X) (r := r) (ts := ts) (List.length_pos_iff.mpr hne) (by omega) o
  refine ⟨v, r', ?_, hv, a⟩
  unfold p_law11
  simp [e]
theorem law12_ok (hc : s_check_history [.tup rs, .lst (cs.map clT)] w = .ok .non w) (hv : s_are_places [.lst (cs.map clT), v] w = .ok (.bl false) w) : p_law12 (El ns (some (.tup rs)) x3 x4 x5 x6 x7 (some v) (some (.lst (cs.map clT))) x10 x11 x12 x13 x14 x15 x16 x17) w = .ok (El ns (some (.tup rs)) x3 x4 x5 x6 x7 (some v) (some (.lst (cs.map clT))) x10 x11 x12 x13 x14 x15 x16 x17, .nx) w := by
  have e := points_places hc hv
  exact guard_ok (caught_ex (ρ' := El ns (some (.tup rs)) x3 x4 x5 x6 x7 (some v) (some (.lst (cs.map clT))) x10 x11 x12 x13 x14 x15 x16 x17) (by simp [e]) in_places) x_places
theorem law13_ok : p_law13 (El ns x2 x3 x4 x5 x6 x7 (some v) x9 x10 x11 x12 x13 x14 x15 x16 x17) w = .ok (El ns x2 x3 x4 x5 x6 x7 (some v) x9 x10 x11 x12 x13 x14 x15 x16 x17, .nx) w := by
  obtain ⟨ρ', e⟩ := check_history_table (v := .lst [.non]) (tab_nil (w := w))
  have e2 := points_history (V := v) e
  have l1 := sz (k := 1) (by decide)
  exact guard_ok (caught_ex (ρ' := El ns x2 x3 x4 x5 x6 x7 (some v) x9 x10 x11 x12 x13 x14 x15 x16 x17) (by simp [e2, l1]) in_table) x_table
theorem law14_ok (R : Rows m n rs) (hm : 1 ≤ m) (hm' : m ≤ 12) (hn : 1 ≤ n) (hn' : n ≤ 30) : p_law14 (El ns (some (.tup rs)) x3 x4 x5 x6 x7 (some v) x9 x10 x11 x12 x13 x14 x15 x16 x17) w = .ok (El ns (some (.tup rs)) x3 x4 x5 x6 x7 (some v) x9 x10 x11 x12 x13 x14 x15 x16 x17, .ret (.bl true)) w := by
  have hb : s_is_history [.tup rs, .lst [.non]] w = .ok (.bl false) w := history_bad R hm hm' hn hn' (fun _ => false) (by decide) (fun t ht => by simp at ht; subst ht; exact call_tuple tuple_non) ⟨.non, by simp, rfl⟩
  obtain ⟨ρ', e⟩ := check_history_bad hb
  have e2 := points_history (V := v) e
  have l1 := sz (k := 1) (by decide)
  have p1 : prm [2, 1, 0] [v, .lst [.non], .tup rs] = [T.tup rs, .lst [.non], v] := rfl
  have c := caught_ex (w := w) (w' := w) (x := "BadHistory") (ρ := El ns (some (.tup rs)) x3 x4 x5 x6 x7 (some v) x9 x10 x11 x12 x13 x14 x15 x16 x17) (M := mDefP 3 0 3 [2, 1, 0] s_points_of mNil (mCons (mVar 8) (mCons (mVal (mLst (mCons (mC .non) mNil))) (mCons (mVar 2) mNil)))) (ρ' := El ns (some (.tup rs)) x3 x4 x5 x6 x7 (some v) x9 x10 x11 x12 x13 x14 x15 x16 x17) (by simp [mDefP, p1, e2, l1]) in_history
  unfold p_law14
  simp only [mRet_, mCall_, mCons_, mNil_, c, mC_, bind_ok', x_history]
theorem law_true : ∀ ns : List Int, ns.length ≤ 63 → ∃ w', runB N_law.length m_law [.frz (ns.map T.int)] [] = .ok (.bl true) w' := fun ns hl => by
  obtain ⟨r0, k1, ht⟩ := law1_ok hl
  have o0 : Ok 2000 r0 := ⟨by omega, by omega⟩
  obtain ⟨rs, m, n, r1, k2, R, hm, hm', hn, hn', a1⟩ := law2_ok (ns := ns) (o0.on Adv.refl 34 (by decide))
  obtain ⟨cs, js, s, r2, k3, h, hj, a2⟩ := law3_ok (ns := ns) R hm hm' hn (o0.on a1 220 (by decide))
  have hf := h.few
  have b2 := a1.trans a2
  have k4 := law4_ok (w := WD r2 []) (ns := ns) (x2 := some (.tup rs)) (x10 := some (.lst (js.map T.int))) (x11 := s) (cs := cs) (by omega)
  obtain ⟨mo, r3, k5, hmo, a3⟩ := law5_ok (r := r2) (ns := ns) (x2 := some (.tup rs)) (x3 := some (.lst ((wantB cs).map T.int))) (x10 := some (.lst (js.map T.int))) (x11 := s) (cs := cs) (by omega) (o0.on b2 100 (by decide))
  have b3 := b2.trans a3
  have k6 := law6_ok (w := WD r3 []) (ns := ns) (js := js) (x2 := some (.tup rs)) (x3 := some (.lst ((wantB cs).map T.int))) (x4 := some (.lst (mo.map T.int))) (x9 := some (.lst (cs.map clT))) (x11 := s)
  obtain ⟨ks, y12, r4, k7, pk, a4⟩ := law7_ok (r := r3) (ns := ns) (js := js) (x2 := some (.tup rs)) (x3 := some (.lst ((wantB cs).map T.int))) (x4 := some (.lst (mo.map T.int))) (x9 := some (.lst (cs.map clT))) (x10 := some (.lst (js.map T.int))) (x11 := s) (by have := places_len hj; omega) (o0.on b3 1 (by decide))
  have b4 := b3.trans a4
  obtain ⟨r5, y6, y13, y14, y15, y16, y17, k8, a5⟩ := law8_ok (r := r4) (ns := ns) (js := js) (ks := ks) (mo := mo) (x11 := s) (x12 := y12) R hm (by omega) hn (by omega) h hj (hj.perm pk) hmo (o0.on b4 200 (by decide))
  have b5 := b4.trans a5
  obtain ⟨k, hk⟩ : ∃ k : Int, k = ((cs.map clT).length : Int) := ⟨_, rfl⟩
  have k9 := law9_ok (w := WD r5 []) (ns := ns) (cs := cs) (x2 := some (.tup rs)) (x4 := some (.lst (mo.map T.int))) (x5 := some (.lst (ks.map T.int))) (x6 := y6) (x10 := some (.lst (js.map T.int))) (x11 := s) (x12 := y12) (x13 := y13) (x14 := y14) (x15 := y15) (x16 := y16) (x17 := y17) hf hk
  have k10 := law10_ok (w := WD r5 []) (ns := ns) (cs := cs) (k := k) (x2 := some (.tup rs)) (x4 := some (.lst (mo.map T.int))) (x5 := some (.lst (ks.map T.int))) (x6 := y6) (x9 := some (.lst (cs.map clT))) (x10 := some (.lst (js.map T.int))) (x11 := s) (x12 := y12) (x13 := y13) (x14 := y14) (x15 := y15) (x16 := y16) (x17 := y17) hf
  have w2l : (wrong2 cs).length ≤ 2 := by unfold wrong2; split <;> simp
  obtain ⟨v, r6, k11, hv, a6⟩ := law11_ok (r := r5) (X := []) (ts := wrong8 cs k ++ wrong2 cs) (ns := ns) (x2 := some (.tup rs)) (x3 := some (.lst ((wantB cs).map T.int))) (x4 := some (.lst (mo.map T.int))) (x5 := some (.lst (ks.map T.int))) (x6 := y6) (x9 := some (.lst (cs.map clT))) (x10 := some (.lst (js.map T.int))) (x11 := s) (x12 := y12) (x13 := y13) (x14 := y14) (x15 := y15) (x16 := y16) (x17 := y17) (o0.on b5 1 (by decide)) (by simp [wrong8]) (by simp [wrong8]; omega)
  have hB := histB_of h.mom h.apart
  have hc : s_check_history [.tup rs, .lst (cs.map clT)] (WD r6 []) = .ok .non (WD r6 []) := check_history_ok R hm (by omega) hn (by omega) h.ok (by omega) (.inl rfl) hB
  have k12 := law12_ok (w := WD r6 []) (ns := ns) (x3 := some (.lst ((wantB cs).map T.int))) (x4 := some (.lst (mo.map T.int))) (x5 := some (.lst (ks.map T.int))) (x6 := y6) (x7 := some (.lst (wrong8 cs k ++ wrong2 cs))) (x10 := some (.lst (js.map T.int))) (x11 := s) (x12 := y12) (x13 := y13) (x14 := y14) (x15 := y15) (x16 := y16) (x17 := y17) hc (wrong_no hf hk hv)
  have k13 := law13_ok (w := WD r6 []) (ns := ns) (v := v) (x2 := some (.tup rs)) (x3 := some (.lst ((wantB cs).map T.int))) (x4 := some (.lst (mo.map T.int))) (x5 := some (.lst (ks.map T.int))) (x6 := y6) (x7 := some (.lst (wrong8 cs k ++ wrong2 cs))) (x9 := some (.lst (cs.map clT))) (x10 := some (.lst (js.map T.int))) (x11 := s) (x12 := y12) (x13 := y13) (x14 := y14) (x15 := y15) (x16 := y16) (x17 := y17)
  have k14 := law14_ok (w := WD r6 []) (ns := ns) (v := v) (x3 := some (.lst ((wantB cs).map T.int))) (x4 := some (.lst (mo.map T.int))) (x5 := some (.lst (ks.map T.int))) (x6 := y6) (x7 := some (.lst (wrong8 cs k ++ wrong2 cs))) (x9 := some (.lst (cs.map clT))) (x10 := some (.lst (js.map T.int))) (x11 := s) (x12 := y12) (x13 := y13) (x14 := y14) (x15 := y15) (x16 := y16) (x17 := y17) R hm (by omega) hn (by omega)
  refine ⟨WD r6 [], ?_⟩
  rw [law_parts]
  refine run_ret (n := 19) (ds := [.frz (ns.map T.int)]) (ρ' := El ns (some (.tup rs)) (some (.lst ((wantB cs).map T.int))) (some (.lst (mo.map T.int))) (some (.lst (ks.map T.int))) y6 (some (.lst (wrong8 cs k ++ wrong2 cs))) (some v) (some (.lst (cs.map clT))) (some (.lst (js.map T.int))) s y12 y13 y14 y15 y16 y17) ?_
  refine (seq_ok k1).trans ?_
  refine (seq_ok k2).trans ?_
  refine (seq_ok k3).trans ?_
  refine (seq_ok k4).trans ?_
  refine (seq_ok k5).trans ?_
  refine (seq_ok k6).trans ?_
  refine (seq_ok k7).trans ?_
  refine (seq_ok k8).trans ?_
  refine (seq_ok k9).trans ?_
  refine (seq_ok k10).trans ?_
  refine (seq_ok k11).trans ?_
  refine (seq_ok k12).trans ?_
  refine (seq_ok k13).trans ?_
  exact k14
end
end VS

set_option Elab.async false
set_option linter.all false
set_option maxRecDepth 100000
set_option maxHeartbeats 4000000
namespace VS
open PySem PySem.Spec PyProof.Rows L2
theorem top_all {P : Program} {w : PySem.World} {K : PySem.W.Frag} {h : Heap} {mg : Str → Option Value} {fa : Addr} (X : K.In h) (G : h.Ns mainGlobals mg) (hfa : mg "law" = some (.ref fa)) {d_is_number : Value} (a_is_number : At K "is_number" t_is_number d_is_number) {d_is_count : Value} (a_is_count : At K "is_count" t_is_count d_is_count) {d_is_list : Value} (a_is_list : At K "is_list" t_is_list d_is_list) {d_is_place : Value} (a_is_place : At K "is_place" t_is_place d_is_place) {d_is_tuple_of : Value} (a_is_tuple_of : At K "is_tuple_of" t_is_tuple_of d_is_tuple_of) {d__is_step : Value} (a__is_step : At K "_is_step" t__is_step d__is_step) {d_is_table : Value} (a_is_table : At K "is_table" t_is_table d_is_table) {d_is_deed : Value} (a_is_deed : At K "is_deed" t_is_deed d_is_deed) {d_check_table : Value} (a_check_table : At K "check_table" t_check_table d_check_table) {d__is_call : Value} (a__is_call : At K "_is_call" t__is_call d__is_call) {d_goes_ahead : Value} (a_goes_ahead : At K "goes_ahead" t_goes_ahead d_goes_ahead) {d__have_unlike_moments : Value} (a__have_unlike_moments : At K "_have_unlike_moments" t__have_unlike_moments d__have_unlike_moments) {d__are_one_behind_another : Value} (a__are_one_behind_another : At K "_are_one_behind_another" t__are_one_behind_another d__are_one_behind_another) {d_is_history : Value} (a_is_history : At K "is_history" t_is_history d_is_history) {d_check_history : Value} (a_check_history : At K "check_history" t_check_history d_check_history) {d_are_places : Value} (a_are_places : At K "are_places" t_are_places d_are_places) {d__against : Value} (a__against : At K "_against" t__against d__against) {d_points_of : Value} (a_points_of : At K "points_of" t_points_of d_points_of) {d__law_begun : Value} (a__law_begun : At K "_law_begun" t__law_begun d__law_begun) {d__law_blended : Value} (a__law_blended : At K "_law_blended" t__law_blended d__law_blended) {d__law_draw : Value} (a__law_draw : At K "_law_draw" t__law_draw d__law_draw) {d__law_pick : Value} (a__law_pick : At K "_law_pick" t__law_pick d__law_pick) {d__law_mixed : Value} (a__law_mixed : At K "_law_mixed" t__law_mixed d__law_mixed) {d__law_hi_table : Value} (a__law_hi_table : At K "_law_hi_table" t__law_hi_table d__law_hi_table) {d__law_hi_step : Value} (a__law_hi_step : At K "_law_hi_step" t__law_hi_step d__law_hi_step) {d__law_hi_run : Value} (a__law_hi_run : At K "_law_hi_run" t__law_hi_run d__law_hi_run) {d__law_hi_deeds : Value} (a__law_hi_deeds : At K "_law_hi_deeds" t__law_hi_deeds d__law_hi_deeds) {d__law_hi_ahead : Value} (a__law_hi_ahead : At K "_law_hi_ahead" t__law_hi_ahead d__law_hi_ahead) {d__law_px_least : Value} (a__law_px_least : At K "_law_px_least" t__law_px_least d__law_px_least) {d__law_px_against : Value} (a__law_px_against : At K "_law_px_against" t__law_px_against d__law_px_against) {d_law : Value} (a_law : At K "law" t_law d_law) {d__law_caught : Value} (a__law_caught : At K "_law_caught" t__law_caught d__law_caught) (n_bool : PySem.W.nsIn K mainGlobals "bool" = some none) (n_isinstance : PySem.W.nsIn K mainGlobals "isinstance" = some none) (n_int : PySem.W.nsIn K mainGlobals "int" = some none) (n_tuple : PySem.W.nsIn K mainGlobals "tuple" = some none) (n_list : PySem.W.nsIn K mainGlobals "list" = some none) (n_len : PySem.W.nsIn K mainGlobals "len" = some none) (n_all : PySem.W.nsIn K mainGlobals "all" = some none) (n_set : PySem.W.nsIn K mainGlobals "set" = some none) (n_enumerate : PySem.W.nsIn K mainGlobals "enumerate" = some none) (n_max : PySem.W.nsIn K mainGlobals "max" = some none) (n_abs : PySem.W.nsIn K mainGlobals "abs" = some none) (n_range : PySem.W.nsIn K mainGlobals "range" = some none) (n_repr : PySem.W.nsIn K mainGlobals "repr" = some none) {k_GREATEST : Tok} (g_GREATEST : PySem.W.nsIn K mainGlobals "GREATEST" = some (some (.int 999999999999999999 k_GREATEST))) {k_MOST_CALLS : Tok} (g_MOST_CALLS : PySem.W.nsIn K mainGlobals "MOST_CALLS" = some (some (.int 60 k_MOST_CALLS))) {k_MOST_DEEDS : Tok} (g_MOST_DEEDS : PySem.W.nsIn K mainGlobals "MOST_DEEDS" = some (some (.int 12 k_MOST_DEEDS))) {k_MOST_HANDS : Tok} (g_MOST_HANDS : PySem.W.nsIn K mainGlobals "MOST_HANDS" = some (some (.int 6 k_MOST_HANDS))) {k_MOST_STATES : Tok} (g_MOST_STATES : PySem.W.nsIn K mainGlobals "MOST_STATES" = some (some (.int 30 k_MOST_STATES))) {C_BadHistory : Addr} (q_BadHistory : ClsAt K "BadHistory" C_BadHistory) {C_BadPlaces : Addr} (q_BadPlaces : ClsAt K "BadPlaces" C_BadPlaces) {C_BadTable : Addr} (q_BadTable : ClsAt K "BadTable" C_BadTable) {C_SeenError : Addr} (q_SeenError : ClsAt K "SeenError" C_SeenError) (x_BadHistory : PySem.W.excIn K C_BadHistory [.type "ValueError", .type "Exception", .type "BaseException", .type "object"] "ValueError.__new__" = true) (x_BadPlaces : PySem.W.excIn K C_BadPlaces [.type "ValueError", .type "Exception", .type "BaseException", .type "object"] "ValueError.__new__" = true) (x_BadTable : PySem.W.excIn K C_BadTable [.type "ValueError", .type "Exception", .type "BaseException", .type "object"] "ValueError.__new__" = true) (og : ObjG K) (s_BadHistory_BadHistory : PySem.W.subIn K (.ref C_BadHistory) (.ref C_BadHistory) = some true) (s_BadHistory_BadPlaces : PySem.W.subIn K (.ref C_BadHistory) (.ref C_BadPlaces) = some false) (s_BadHistory_BadTable : PySem.W.subIn K (.ref C_BadHistory) (.ref C_BadTable) = some false) (s_BadPlaces_BadHistory : PySem.W.subIn K (.ref C_BadPlaces) (.ref C_BadHistory) = some false) (s_BadPlaces_BadPlaces : PySem.W.subIn K (.ref C_BadPlaces) (.ref C_BadPlaces) = some true) (s_BadPlaces_BadTable : PySem.W.subIn K (.ref C_BadPlaces) (.ref C_BadTable) = some false) (s_BadTable_BadHistory : PySem.W.subIn K (.ref C_BadTable) (.ref C_BadHistory) = some false) (s_BadTable_BadPlaces : PySem.W.subIn K (.ref C_BadTable) (.ref C_BadPlaces) = some false) (s_BadTable_BadTable : PySem.W.subIn K (.ref C_BadTable) (.ref C_BadTable) = some true) (s__BadHistory : PySem.W.subIn K (.type "NoneType") (.ref C_BadHistory) = some false) (s__BadPlaces : PySem.W.subIn K (.type "NoneType") (.ref C_BadPlaces) = some false) (s__BadTable : PySem.W.subIn K (.type "NoneType") (.ref C_BadTable) = some false) (u_BadHistory : PySem.W.subIn K (.ref C_BadHistory) (.ref C_SeenError) = some true) (u_BadPlaces : PySem.W.subIn K (.ref C_BadPlaces) (.ref C_SeenError) = some true) (u_BadTable : PySem.W.subIn K (.ref C_BadTable) (.ref C_SeenError) = some true) (Z : List (Addr × Str)) (cs : List (Addr × Addr)) {c_law P_law : Addr} (ec_law : d_law = .ref c_law) (hc_law : (c_law, P_law) ∈ cs) (hz_law : (P_law, (envOfC "law" (defScope t_law) 0 0 .none).qual ++ "<lambda>") ∈ Z) (hu_law : ∀ p ∈ Z, p.1 = P_law → p.2 = (envOfC "law" (defScope t_law) 0 0 .none).qual ++ "<lambda>") :
    ∃ fd : FuncData, (∀ (s : Shared) (u : Value), BindsTo s fd ⟨[u], []⟩ [("script", u)]) ∧ ∀ base : Heap, K.In base → base.Ns mainGlobals mg → (∀ p ∈ cs, LamX.TabB base mg p.1 p.2) → FnG P w K mg base 12 fa fd ["script"] (spL K Z) := by
  have z : Zs K mg := ⟨PySem.W.mg_none_of X G n_bool,
    PySem.W.mg_none_of X G n_isinstance,
    PySem.W.mg_none_of X G n_int,
    PySem.W.mg_none_of X G n_tuple,
    PySem.W.mg_none_of X G n_list,
    PySem.W.mg_none_of X G n_len,
    PySem.W.mg_none_of X G n_all,
    PySem.W.mg_none_of X G n_set,
    PySem.W.mg_none_of X G n_enumerate,
    PySem.W.mg_none_of X G n_max,
    PySem.W.mg_none_of X G n_abs,
    PySem.W.mg_none_of X G n_range,
    PySem.W.mg_none_of X G n_repr,
    ⟨_, PySem.W.mg_of X G g_GREATEST⟩,
    ⟨_, PySem.W.mg_of X G g_MOST_CALLS⟩,
    ⟨_, PySem.W.mg_of X G g_MOST_DEEDS⟩,
    ⟨_, PySem.W.mg_of X G g_MOST_HANDS⟩,
    ⟨_, PySem.W.mg_of X G g_MOST_STATES⟩,
    q_BadHistory.err X G x_BadHistory,
    q_BadPlaces.err X G x_BadPlaces,
    q_BadTable.err X G x_BadTable,
    q_BadHistory.glb X G,
    q_BadPlaces.glb X G,
    q_BadTable.glb X G,
    isTab_cons og q_BadHistory q_BadHistory s_BadHistory_BadHistory (isTab_cons og q_BadHistory q_BadPlaces s_BadHistory_BadPlaces (isTab_cons og q_BadHistory q_BadTable s_BadHistory_BadTable (isTab_cons og q_BadPlaces q_BadHistory s_BadPlaces_BadHistory (isTab_cons og q_BadPlaces q_BadPlaces s_BadPlaces_BadPlaces (isTab_cons og q_BadPlaces q_BadTable s_BadPlaces_BadTable (isTab_cons og q_BadTable q_BadHistory s_BadTable_BadHistory (isTab_cons og q_BadTable q_BadPlaces s_BadTable_BadPlaces (isTab_cons og q_BadTable q_BadTable s_BadTable_BadTable (isTab_none q_BadHistory s__BadHistory (isTab_none q_BadPlaces s__BadPlaces (isTab_none q_BadTable s__BadTable (isTab_nil)))))))))))),
    caughtD_mk a__law_caught X G caught_t q_SeenError (List.forall_mem_cons.mpr ⟨q_BadHistory.caught q_SeenError u_BadHistory, List.forall_mem_cons.mpr ⟨q_BadPlaces.caught q_SeenError u_BadPlaces, List.forall_mem_cons.mpr ⟨q_BadTable.caught q_SeenError u_BadTable, (fun _ z => nomatch z)⟩⟩⟩) (fun _ _ _ _ _ _ us hl => match us, hl with | [_], _ => rfl)⟩
  refine At.lawG a_law X G hfa sc_law (fun _ _ _ _ _ _ _ => rfl) (fun base => ∀ p ∈ cs, LamX.TabB base mg p.1 p.2) (fun base _ _ TB => ?_) law_true
  have LT_law : LamAt Z base mg d_law ((envOfC "law" (defScope t_law) 0 0 .none).qual ++ "<lambda>") := ⟨_, _, ec_law, TB _ hc_law, hz_law, hu_law⟩
  have D_is_number : Df P w K Z mg base 1 "is_number" ["value"] s_is_number := (At.df a_is_number X G sc_is_number (fun _ _ _ _ _ _ us hl => match us, hl with | [_], _ => rfl) (b_is_number z))
  have D_is_count : Df P w K Z mg base 2 "is_count" ["value"] s_is_count := (At.df a_is_count X G sc_is_count (fun _ _ _ _ _ _ us hl => match us, hl with | [_], _ => rfl) (b_is_count z D_is_number))
  have D_is_list : Df P w K Z mg base 1 "is_list" ["value"] s_is_list := (At.df a_is_list X G sc_is_list (fun _ _ _ _ _ _ us hl => match us, hl with | [_], _ => rfl) (b_is_list z))
  have D_is_place : Df P w K Z mg base 3 "is_place" ["value", "many"] s_is_place := (At.df a_is_place X G sc_is_place (fun _ _ _ _ _ _ us hl => match us, hl with | [_, _], _ => rfl) (b_is_place z D_is_count))
  have D_is_tuple_of : Df P w K Z mg base 1 "is_tuple_of" ["value", "many"] s_is_tuple_of := (At.df a_is_tuple_of X G sc_is_tuple_of (fun _ _ _ _ _ _ us hl => match us, hl with | [_, _], _ => rfl) (b_is_tuple_of z))
  have D__is_step : Df P w K Z mg base 4 "_is_step" ["value", "states"] s__is_step := (At.df a__is_step X G sc__is_step (fun _ _ _ _ _ _ us hl => match us, hl with | [_, _], _ => rfl) (b__is_step z D_is_count D_is_place D_is_tuple_of))
  have D_is_table : Df P w K Z mg base 5 "is_table" ["value"] s_is_table := (At.df a_is_table X G sc_is_table (fun _ _ _ _ _ _ us hl => match us, hl with | [_], _ => rfl) (b_is_table z D_is_tuple_of D__is_step))
  have D_is_deed : Df P w K Z mg base 4 "is_deed" ["table", "value"] s_is_deed := (At.df a_is_deed X G sc_is_deed (fun _ _ _ _ _ _ us hl => match us, hl with | [_, _], _ => rfl) (b_is_deed z D_is_place))
  have D_check_table : Df P w K Z mg base 6 "check_table" ["table"] s_check_table := (At.df a_check_table X G sc_check_table (fun _ _ _ _ _ _ us hl => match us, hl with | [_], _ => rfl) (b_check_table z D_is_table))
  have D__is_call : Df P w K Z mg base 5 "_is_call" ["table", "value"] s__is_call := (At.df a__is_call X G sc__is_call (fun _ _ _ _ _ _ us hl => match us, hl with | [_, _], _ => rfl) (b__is_call z D_is_tuple_of D_is_deed D_is_count D_is_place))
  have D_goes_ahead : Df P w K Z mg base 1 "goes_ahead" ["one", "other"] s_goes_ahead := (At.df a_goes_ahead X G sc_goes_ahead (fun _ _ _ _ _ _ us hl => match us, hl with | [_, _], _ => rfl) (b_goes_ahead z))
  have D__have_unlike_moments : Df P w K Z mg base 1 "_have_unlike_moments" ["calls"] s__have_unlike_moments := (At.df a__have_unlike_moments X G sc__have_unlike_moments (fun _ _ _ _ _ _ us hl => match us, hl with | [_], _ => rfl) (b__have_unlike_moments z))
  have D__are_one_behind_another : Df P w K Z mg base 2 "_are_one_behind_another" ["calls"] s__are_one_behind_another := (At.df a__are_one_behind_another X G sc__are_one_behind_another (fun _ _ _ _ _ _ us hl => match us, hl with | [_], _ => rfl) (b__are_one_behind_another z D_goes_ahead))
  have D_is_history : Df P w K Z mg base 7 "is_history" ["table", "value"] s_is_history := (At.df a_is_history X G sc_is_history (fun _ _ _ _ _ _ us hl => match us, hl with | [_, _], _ => rfl) (b_is_history z D_check_table D__is_call D_is_list D__are_one_behind_another D__have_unlike_moments))
  have D_check_history : Df P w K Z mg base 8 "check_history" ["table", "history"] s_check_history := (At.df a_check_history X G sc_check_history (fun _ _ _ _ _ _ us hl => match us, hl with | [_, _], _ => rfl) (b_check_history z D_is_history))
  have D_are_places : Df P w K Z mg base 4 "are_places" ["history", "value"] s_are_places := (At.df a_are_places X G sc_are_places (fun _ _ _ _ _ _ us hl => match us, hl with | [_, _], _ => rfl) (b_are_places z D_is_place D_is_list))
  have D__against : Df P w K Z mg base 2 "_against" ["history", "places", "k"] s__against := (At.df a__against X G sc__against (fun _ _ _ _ _ _ us hl => match us, hl with | [_, _, _], _ => rfl) (b__against z D_goes_ahead))
  have D_points_of : Df P w K Z mg base 9 "points_of" ["table", "history", "places"] s_points_of := df_gc (At.df a_points_of X G sc_points_of (fun _ _ _ _ _ _ us hl => match us, hl with | [_, _, _], _ => rfl) (b_points_of z D_check_history D_are_places D__against))
  have PD_points_of_0 : DfP P w K Z mg base 9 "points_of" 3 0 ["places", "history", "table"] [2, 1, 0] s_points_of := dfP_gc (At.dfP (ps := ["table", "history", "places"]) (ks := ["places", "history", "table"]) a_points_of X G sc_points_of (by exact fun h => nomatch h) (fun _ _ _ _ _ _ us ws h1 h2 => match us, ws, h1, h2 with | [], [_, _, _], _, _ => rfl) (b_points_of z D_check_history D_are_places D__against))
  have D__law_begun : Df P w K Z mg base 1 "_law_begun" ["script"] s__law_begun := (At.df a__law_begun X G sc__law_begun (fun _ _ _ _ _ _ us hl => match us, hl with | [_], _ => rfl) (b__law_begun z))
  have D__law_blended : Df P w K Z mg base 1 "_law_blended" ["state"] s__law_blended := (At.df a__law_blended X G sc__law_blended (fun _ _ _ _ _ _ us hl => match us, hl with | [_], _ => rfl) (b__law_blended z))
  have D__law_draw : Df P w K Z mg base 2 "_law_draw" ["state", "size_here"] s__law_draw := (At.df a__law_draw X G sc__law_draw (fun _ _ _ _ _ _ us hl => match us, hl with | [_, _], _ => rfl) (b__law_draw z D__law_blended))
  have D__law_pick : Df P w K Z mg base 3 "_law_pick" ["state", "several"] s__law_pick := (At.df a__law_pick X G sc__law_pick (fun _ _ _ _ _ _ us hl => match us, hl with | [_, _], _ => rfl) (b__law_pick z D__law_draw))
  have D__law_mixed : Df P w K Z mg base 3 "_law_mixed" ["state", "several"] s__law_mixed := df_gc (At.df a__law_mixed X G sc__law_mixed (fun _ _ _ _ _ _ us hl => match us, hl with | [_, _], _ => rfl) (b__law_mixed z D__law_draw))
  have D__law_hi_table : Df P w K Z mg base 3 "_law_hi_table" ["state"] s__law_hi_table := df_gc (At.df a__law_hi_table X G sc__law_hi_table (fun _ _ _ _ _ _ us hl => match us, hl with | [_], _ => rfl) (b__law_hi_table z D__law_draw))
  have D__law_hi_step : Df P w K Z mg base 4 "_law_hi_step" ["state", "held", "now", "many"] s__law_hi_step := (At.df a__law_hi_step X G sc__law_hi_step (fun _ _ _ _ _ _ us hl => match us, hl with | [_, _, _, _], _ => rfl) (b__law_hi_step z D__law_draw D__law_pick))
  have D__law_hi_run : Df P w K Z mg base 5 "_law_hi_run" ["state", "table", "begin", "deeds_here", "turns"] s__law_hi_run := df_gc (At.df a__law_hi_run X G sc__law_hi_run (fun _ _ _ _ _ _ us hl => match us, hl with | [_, _, _, _, _], _ => rfl) (b__law_hi_run z D__law_draw D__law_hi_step D__law_mixed))
  have D__law_hi_deeds : Df P w K Z mg base 3 "_law_hi_deeds" ["state", "table", "many"] s__law_hi_deeds := (At.df a__law_hi_deeds X G sc__law_hi_deeds (fun _ _ _ _ _ _ us hl => match us, hl with | [_, _, _], _ => rfl) (b__law_hi_deeds z D__law_draw))
  have D__law_hi_ahead : Df P w K Z mg base 1 "_law_hi_ahead" ["one", "other"] s__law_hi_ahead := (At.df a__law_hi_ahead X G sc__law_hi_ahead (fun _ _ _ _ _ _ us hl => match us, hl with | [_, _], _ => rfl) (b__law_hi_ahead z))
  have D__law_px_least : Df P w K Z mg base 1 "_law_px_least" ["history", "places"] s__law_px_least := df_gc (At.df a__law_px_least X G sc__law_px_least (fun _ _ _ _ _ _ us hl => match us, hl with | [_, _], _ => rfl) (b__law_px_least z))
  have D__law_px_against : Df P w K Z mg base 2 "_law_px_against" ["history", "places"] s__law_px_against := (At.df a__law_px_against X G sc__law_px_against (fun _ _ _ _ _ _ us hl => match us, hl with | [_, _], _ => rfl) (b__law_px_against z D__law_hi_ahead))
  exact b_law z LT_law D__law_begun D__law_hi_table D__law_draw D__law_hi_deeds D__law_hi_run D__law_mixed D__law_px_against D__law_px_least D_points_of D__law_pick PD_points_of_0
end VS
open PySem PySem.W PyProof.Rows
set_option maxHeartbeats 0 in
theorem PySem.Challenge.cw_seenatonce_k55_moments_for_a_sequence_holds : PySem.Challenge.rw_seenatonce_k55_moments_for_a_sequence.Holds := by
  w_on; o_law; k_head; (case hw => w_witness2)
  k_fill
  refine VS.walk_ofG (l := PySem.Challenge.rw_seenatonce_k55_moments_for_a_sequence) (n := 63) (k := 12) (x := "script") rfl (by decide) rfl ⟨rfl, by decide, by decide⟩ (fun w h Y => by first | exact PySem.W.kIn_of Y | exact PySem.W.km_in_of Y) ?F
  case F =>
    intro w mg mb fa h lo mean KX T hmg
    refine' VS.lawAt_ofG [(?c_law, ?P_law, (PyProof.Rows.envOfC "law" (L2.defScope VS.t_law) 0 0 .none).qual ++ "<lambda>")] (List.forall_mem_cons.mpr ⟨?tab_law, fun _ z => nomatch z⟩) ?top
    (case tab_law => (refine' VS.At.tab (x := "law") (st := VS.t_law) (VS.at_mk ?h1 ?h2 ?h3 ?h4) KX T ?h5 ?h6 ?h7 ?h8; (case h1 => k_is); (case h2 => k_is); (case h3 => k_is); (case h4 => k_is); (case h5 => k_is); (case h6 => rfl); (case h7 => kernel_rfl); (case h8 => kernel_rfl)))
    refine' VS.top_all KX T.g hmg ?a_is_number ?a_is_count ?a_is_list ?a_is_place ?a_is_tuple_of ?a__is_step ?a_is_table ?a_is_deed ?a_check_table ?a__is_call ?a_goes_ahead ?a__have_unlike_moments ?a__are_one_behind_another ?a_is_history ?a_check_history ?a_are_places ?a__against ?a_points_of ?a__law_begun ?a__law_blended ?a__law_draw ?a__law_pick ?a__law_mixed ?a__law_hi_table ?a__law_hi_step ?a__law_hi_run ?a__law_hi_deeds ?a__law_hi_ahead ?a__law_px_least ?a__law_px_against ?a_law ?a__law_caught ?n_bool ?n_isinstance ?n_int ?n_tuple ?n_list ?n_len ?n_all ?n_set ?n_enumerate ?n_max ?n_abs ?n_range ?n_repr ?g_GREATEST ?g_MOST_CALLS ?g_MOST_DEEDS ?g_MOST_HANDS ?g_MOST_STATES ?q_BadHistory ?q_BadPlaces ?q_BadTable ?q_SeenError ?x_BadHistory ?x_BadPlaces ?x_BadTable ?og ?s_BadHistory_BadHistory ?s_BadHistory_BadPlaces ?s_BadHistory_BadTable ?s_BadPlaces_BadHistory ?s_BadPlaces_BadPlaces ?s_BadPlaces_BadTable ?s_BadTable_BadHistory ?s_BadTable_BadPlaces ?s_BadTable_BadTable ?s__BadHistory ?s__BadPlaces ?s__BadTable ?u_BadHistory ?u_BadPlaces ?u_BadTable _ _ ?ec_law (List.mem_map.mpr ⟨(_, _, _), List.mem_cons_self, rfl⟩) (List.mem_map.mpr ⟨(_, _, _), List.mem_cons_self, rfl⟩) ?hu_law
    (case a_is_number => (refine' VS.at_mk ?h1 ?h2 ?h3 ?h4; (case h1 => k_is); (case h2 => k_is); (case h3 => k_is); (case h4 => k_is)))
    (case a_is_count => (refine' VS.at_mk ?h1 ?h2 ?h3 ?h4; (case h1 => k_is); (case h2 => k_is); (case h3 => k_is); (case h4 => k_is)))
    (case a_is_list => (refine' VS.at_mk ?h1 ?h2 ?h3 ?h4; (case h1 => k_is); (case h2 => k_is); (case h3 => k_is); (case h4 => k_is)))
    (case a_is_place => (refine' VS.at_mk ?h1 ?h2 ?h3 ?h4; (case h1 => k_is); (case h2 => k_is); (case h3 => k_is); (case h4 => k_is)))
    (case a_is_tuple_of => (refine' VS.at_mk ?h1 ?h2 ?h3 ?h4; (case h1 => k_is); (case h2 => k_is); (case h3 => k_is); (case h4 => k_is)))
    (case a__is_step => (refine' VS.at_mk ?h1 ?h2 ?h3 ?h4; (case h1 => k_is); (case h2 => k_is); (case h3 => k_is); (case h4 => k_is)))
    (case a_is_table => (refine' VS.at_mk ?h1 ?h2 ?h3 ?h4; (case h1 => k_is); (case h2 => k_is); (case h3 => k_is); (case h4 => k_is)))
    (case a_is_deed => (refine' VS.at_mk ?h1 ?h2 ?h3 ?h4; (case h1 => k_is); (case h2 => k_is); (case h3 => k_is); (case h4 => k_is)))
    (case a_check_table => (refine' VS.at_mk ?h1 ?h2 ?h3 ?h4; (case h1 => k_is); (case h2 => k_is); (case h3 => k_is); (case h4 => k_is)))
    (case a__is_call => (refine' VS.at_mk ?h1 ?h2 ?h3 ?h4; (case h1 => k_is); (case h2 => k_is); (case h3 => k_is); (case h4 => k_is)))
    (case a_goes_ahead => (refine' VS.at_mk ?h1 ?h2 ?h3 ?h4; (case h1 => k_is); (case h2 => k_is); (case h3 => k_is); (case h4 => k_is)))
    (case a__have_unlike_moments => (refine' VS.at_mk ?h1 ?h2 ?h3 ?h4; (case h1 => k_is); (case h2 => k_is); (case h3 => k_is); (case h4 => k_is)))
    (case a__are_one_behind_another => (refine' VS.at_mk ?h1 ?h2 ?h3 ?h4; (case h1 => k_is); (case h2 => k_is); (case h3 => k_is); (case h4 => k_is)))
    (case a_is_history => (refine' VS.at_mk ?h1 ?h2 ?h3 ?h4; (case h1 => k_is); (case h2 => k_is); (case h3 => k_is); (case h4 => k_is)))
    (case a_check_history => (refine' VS.at_mk ?h1 ?h2 ?h3 ?h4; (case h1 => k_is); (case h2 => k_is); (case h3 => k_is); (case h4 => k_is)))
    (case a_are_places => (refine' VS.at_mk ?h1 ?h2 ?h3 ?h4; (case h1 => k_is); (case h2 => k_is); (case h3 => k_is); (case h4 => k_is)))
    (case a__against => (refine' VS.at_mk ?h1 ?h2 ?h3 ?h4; (case h1 => k_is); (case h2 => k_is); (case h3 => k_is); (case h4 => k_is)))
    (case a_points_of => (refine' VS.at_mk ?h1 ?h2 ?h3 ?h4; (case h1 => k_is); (case h2 => k_is); (case h3 => k_is); (case h4 => k_is)))
    (case a__law_begun => (refine' VS.at_mk ?h1 ?h2 ?h3 ?h4; (case h1 => k_is); (case h2 => k_is); (case h3 => k_is); (case h4 => k_is)))
    (case a__law_blended => (refine' VS.at_mk ?h1 ?h2 ?h3 ?h4; (case h1 => k_is); (case h2 => k_is); (case h3 => k_is); (case h4 => k_is)))
    (case a__law_draw => (refine' VS.at_mk ?h1 ?h2 ?h3 ?h4; (case h1 => k_is); (case h2 => k_is); (case h3 => k_is); (case h4 => k_is)))
    (case a__law_pick => (refine' VS.at_mk ?h1 ?h2 ?h3 ?h4; (case h1 => k_is); (case h2 => k_is); (case h3 => k_is); (case h4 => k_is)))
    (case a__law_mixed => (refine' VS.at_mk ?h1 ?h2 ?h3 ?h4; (case h1 => k_is); (case h2 => k_is); (case h3 => k_is); (case h4 => k_is)))
    (case a__law_hi_table => (refine' VS.at_mk ?h1 ?h2 ?h3 ?h4; (case h1 => k_is); (case h2 => k_is); (case h3 => k_is); (case h4 => k_is)))
    (case a__law_hi_step => (refine' VS.at_mk ?h1 ?h2 ?h3 ?h4; (case h1 => k_is); (case h2 => k_is); (case h3 => k_is); (case h4 => k_is)))
    (case a__law_hi_run => (refine' VS.at_mk ?h1 ?h2 ?h3 ?h4; (case h1 => k_is); (case h2 => k_is); (case h3 => k_is); (case h4 => k_is)))
    (case a__law_hi_deeds => (refine' VS.at_mk ?h1 ?h2 ?h3 ?h4; (case h1 => k_is); (case h2 => k_is); (case h3 => k_is); (case h4 => k_is)))
    (case a__law_hi_ahead => (refine' VS.at_mk ?h1 ?h2 ?h3 ?h4; (case h1 => k_is); (case h2 => k_is); (case h3 => k_is); (case h4 => k_is)))
    (case a__law_px_least => (refine' VS.at_mk ?h1 ?h2 ?h3 ?h4; (case h1 => k_is); (case h2 => k_is); (case h3 => k_is); (case h4 => k_is)))
    (case a__law_px_against => (refine' VS.at_mk ?h1 ?h2 ?h3 ?h4; (case h1 => k_is); (case h2 => k_is); (case h3 => k_is); (case h4 => k_is)))
    (case a_law => (refine' VS.at_mk ?h1 ?h2 ?h3 ?h4; (case h1 => k_is); (case h2 => k_is); (case h3 => k_is); (case h4 => k_is)))
    (case a__law_caught => (refine' VS.at_mk ?h1 ?h2 ?h3 ?h4; (case h1 => k_is); (case h2 => k_is); (case h3 => k_is); (case h4 => k_is)))
    (case n_bool => k_is)
    (case n_isinstance => k_is)
    (case n_int => k_is)
    (case n_tuple => k_is)
    (case n_list => k_is)
    (case n_len => k_is)
    (case n_all => k_is)
    (case n_set => k_is)
    (case n_enumerate => k_is)
    (case n_max => k_is)
    (case n_abs => k_is)
    (case n_range => k_is)
    (case n_repr => k_is)
    (case g_GREATEST => k_is)
    (case g_MOST_CALLS => k_is)
    (case g_MOST_DEEDS => k_is)
    (case g_MOST_HANDS => k_is)
    (case g_MOST_STATES => k_is)
    (case q_BadHistory => (refine' ⟨?h1, ?h2, ?h3, ?h4, ?h5, ?h6, ?h7, ?h8, ?h9, ?h10, ?h11⟩; (case h1 => k_is); (case h2 => k_is); (case h3 => k_is); (case h4 => k_is); (case h5 => k_is); (case h6 => k_is); (case h7 => k_is); (case h8 => k_is); (case h9 => k_is); (case h10 => k_is); (case h11 => k_is)))
    (case q_BadPlaces => (refine' ⟨?h1, ?h2, ?h3, ?h4, ?h5, ?h6, ?h7, ?h8, ?h9, ?h10, ?h11⟩; (case h1 => k_is); (case h2 => k_is); (case h3 => k_is); (case h4 => k_is); (case h5 => k_is); (case h6 => k_is); (case h7 => k_is); (case h8 => k_is); (case h9 => k_is); (case h10 => k_is); (case h11 => k_is)))
    (case q_BadTable => (refine' ⟨?h1, ?h2, ?h3, ?h4, ?h5, ?h6, ?h7, ?h8, ?h9, ?h10, ?h11⟩; (case h1 => k_is); (case h2 => k_is); (case h3 => k_is); (case h4 => k_is); (case h5 => k_is); (case h6 => k_is); (case h7 => k_is); (case h8 => k_is); (case h9 => k_is); (case h10 => k_is); (case h11 => k_is)))
    (case q_SeenError => (refine' ⟨?h1, ?h2, ?h3, ?h4, ?h5, ?h6, ?h7, ?h8, ?h9, ?h10, ?h11⟩; (case h1 => k_is); (case h2 => k_is); (case h3 => k_is); (case h4 => k_is); (case h5 => k_is); (case h6 => k_is); (case h7 => k_is); (case h8 => k_is); (case h9 => k_is); (case h10 => k_is); (case h11 => k_is)))
    (case x_BadHistory => k_exc)
    (case x_BadPlaces => k_exc)
    (case x_BadTable => k_exc)
    (case og => (refine' ⟨?h1, ?h2⟩; (case h1 => k_is); (case h2 => k_is)))
    (case s_BadHistory_BadHistory => k_is)
    (case s_BadHistory_BadPlaces => k_is)
    (case s_BadHistory_BadTable => k_is)
    (case s_BadPlaces_BadHistory => k_is)
    (case s_BadPlaces_BadPlaces => k_is)
    (case s_BadPlaces_BadTable => k_is)
    (case s_BadTable_BadHistory => k_is)
    (case s_BadTable_BadPlaces => k_is)
    (case s_BadTable_BadTable => k_is)
    (case s__BadHistory => k_is)
    (case s__BadPlaces => k_is)
    (case s__BadTable => k_is)
    (case u_BadHistory => k_is)
    (case u_BadPlaces => k_is)
    (case u_BadTable => k_is)
    (case ec_law => rfl)
    (case hu_law => (intro p hp; obtain ⟨t, ht, rfl⟩ := List.mem_map.mp hp; simp only [List.mem_cons, List.not_mem_nil, or_false] at ht; rcases ht with rfl <;> first | (intro e; exact absurd e (by decide)) | (intro _; rfl)))
