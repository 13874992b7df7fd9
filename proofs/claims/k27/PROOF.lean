import PyProof.Rows.All
import Wide.All
import OpenK.AllK
import Wide.FinOn
import HandS.ForMost
import HandS.ForExc
import HandS.Flow
import HandS.Style
import HandS.Zip
import HandS.TupAny
import HandS.TupMul
import HandS.Conv
import HandS.IsInst
import HandS.Lambda
import HandS.ExcIs
import HandS.ExcValue
import HandS.Dict
import HandS.WordsDict
import KE.GoesMore
import HandS.Iter
import KE.KDictDisplayH
import HandS.Deep
import HandS.Star
import HandS.TupSets
import PyProof.P3In
import HandS.TryMany
import HandS.SetFor
import HandS.Strs
import KE.LtData
import KE.SortData
import PyProof.TupleOfSeq
import HandS.HeadWalk
import HandS.EndTab
import KE.DataCmp
import HandS.TupLe
import PyProof.NeKinds
import PyProof.FactsAll.dict
import PySem.Challenge.RW_seenatonce_k27_roads
set_option Elab.async false
set_option linter.all false
set_option maxRecDepth 100000
set_option maxHeartbeats 2000000
/-! VS: a value semantics over the layer. -/
namespace VS
open PySem PySem.Spec PyProof.Rows L2

/-- a value with all that it holds; a cell: a list or a dict that may change -/
inductive T where
  | non | bl (b : Bool) | int (i : Int) | str (x : Str) | ty (n : String) | tup (ts : List T) | lst (ts : List T) | frz (ts : List T) | rng (n : Nat) | cell (k : Nat)
  /-- a def or a class of the module, by its name -/
  | glb (x : Str)
  /-- an error: its class, its attributes -/
  | exc (x : Str) (ks : List Str) (ts : List T)
  /-- a dict that stays as it is -/
  | dct (ks : List Key) (ts : List T)
inductive Cell where
  | lst (ts : List T) | dic (kvs : List (Key × T)) | dit (kvs : List (List Key × T))
  /-- an instance: its class, its attributes -/
  | obj (x : Str) (ks : List Str) (ts : List T)
abbrev World := List Cell
abbrev Env := List (Option T)
inductive R (α : Type) where
  | ok (a : α) (w : World)
  /-- an error t is raised, where the slots are ρ -/
  | ex (t : T) (ρ : Env) (w : World)
  | no
def R.bind {α β : Type} : R α → (α → World → R β) → R β
  | .ok a w, f => f a w
  | .ex t ρ w, _ => .ex t ρ w
  | .no, _ => .no
theorem bind_ok {α β : Type} {a : α} {w : World} {f : α → World → R β} : (R.ok a w).bind f = f a w := rfl
theorem bind_ex {α β : Type} {t : T} {ρ : Env} {w : World} {f : α → World → R β} : (R.ex t ρ w : R α).bind f = .ex t ρ w := rfl
theorem bind_no {α β : Type} {f : α → World → R β} : (R.no : R α).bind f = .no := rfl

/-- the written part; the tables of code objects, each with the name that its code objects bear -/
abbrev KT := PySem.W.Frag × List (Addr × Str)
/-! ### what a value of the heap stands for -/
/-- what stands at the module's name x -/
def GlbAt (K : PySem.W.Frag) (x : Str) (a : Addr) : Prop := PySem.W.nsIn K mainGlobals x = some (some (.ref a))
theorem GlbAt.inj {K : PySem.W.Frag} {x : Str} {a b : Addr} (h : GlbAt K x a) (h' : GlbAt K x b) : a = b := by
  unfold GlbAt at h h'
  rw [h] at h'
  exact (Value.ref.inj (Option.some.inj (Option.some.inj h')))
/-- an error's object, caught: its class, its dict -/
def ExC (cls : Value) (d : Option Addr) (a : Addr) : HO := .ext fun h => ∃ (oe : Obj) (vs : Array Value), h.get? a = some oe ∧ Zc cls d oe ∧ oe.data = .fields vs
theorem exC_ne {cls : Value} {d : Option Addr} {a : Addr} (ps : Array Value) : ExC cls d a ≠ .tbl ps := fun z => by unfold ExC at z; cases z
theorem exC_ok {P : Program} {w : PySem.World} {H : Hp} {h : Heap} {a : Addr} {cls : Value} {d : Option Addr} {oe : Obj} {vs : Array Value} (e : h.get? a = some oe) (z : Zc cls d oe) (dd : oe.data = .fields vs) : ObjOk P w H h a (ExC cls d a) :=
  ⟨⟨oe, vs, e, z, dd⟩, ⟨oe, e⟩, fun _ _ ⟨o, v, q, r⟩ k => ⟨o, v, k o q, r⟩⟩
/-- a node that stays: its content, apart -/
def NdX (hd φ : List Addr) (H : Hp) (a : Addr) (o : HO) : Prop := H a = some o ∧ a ∉ φ ∧ a ∉ hd
def NdT (hd φ : List Addr) (H : Hp) (a : Addr) (xs : List V) : Prop := H a = some (.tup xs) ∧ a ∉ φ ∧ a ∉ hd
def NdL (hd φ : List Addr) (H : Hp) (a : Addr) (xs : List V) : Prop := H a = some (.lst xs) ∧ a ∉ φ ∧ a ∉ hd
def NdF (K : KT) (hd φ : List Addr) (H : Hp) (a : Addr) (xs : List V) : Prop := (∃ u, H a = some u ∧ (u = .lst xs ∨ ∃ o, u = .frz o (.lst xs)) ∧ a ∉ φ ∧ a ∉ hd) ∨ SqL K.1 (fun _ => none) a xs
mutual
def Rep (K : KT) (hd φ : List Addr) (H : Hp) : T → V → Prop
  | .non, v => v = .non
  | .bl b, v => v = .bl b
  | .int i, v => v = .int i
  | .str x, v => v = .str x
  | .ty n, v => v = .ty n
  | .tup ts, v => ∃ a xs, v = .ref a ∧ NdT hd φ H a xs ∧ Reps K hd φ H ts xs
  | .lst ts, v => ∃ a xs, v = .ref a ∧ NdL hd φ H a xs ∧ Reps K hd φ H ts xs
  | .frz ts, v => ∃ a xs, v = .ref a ∧ NdF K hd φ H a xs ∧ Reps K hd φ H ts xs
  | .rng n, v => ∃ a, v = .ref a ∧ H a = some (.rng 0 n) ∧ a ∉ φ ∧ a ∉ hd
  | .cell k, v => ∃ a, v = .ref a ∧ φ[k]? = some a
  | .glb x, v => ∃ a, v = .ref a ∧ GlbAt K.1 x a
  | .exc x ks ts, v => ∃ a C d, v = .ref a ∧ GlbAt K.1 x C ∧ NdX hd φ H a (ExC (.ref C) d a) ∧
      ((ks = [] ∧ ts = [] ∧ d = none) ∨ ∃ dd vs, d = some dd ∧ (ks ≠ [] ∧ ks.length = ts.length) ∧ NdX hd φ H dd (.xd (ks.zip vs)) ∧ Reps K hd φ H ts vs)
  | .dct ks ts, v => ∃ a vs, v = .ref a ∧ ks.length = ts.length ∧ NdX hd φ H a (.dK (ks.zip vs)) ∧ Reps K hd φ H ts vs
def Reps (K : KT) (hd φ : List Addr) (H : Hp) : List T → List V → Prop
  | [], xs => xs = []
  | t :: ts, xs => ∃ x r, xs = x :: r ∧ Rep K hd φ H t x ∧ Reps K hd φ H ts r
end
section
variable {K : KT} {hd hd' φ φ' : List Addr} {H H' : Hp} {t : T} {v : V} {ts us : List T} {xs ys : List V}
theorem Reps.iff : ∀ {ts : List T} {xs : List V}, Reps K hd φ H ts xs ↔ ts.length = xs.length ∧ ∀ (i : Nat) t x, ts[i]? = some t → xs[i]? = some x → Rep K hd φ H t x
  | [], xs => by
    unfold Reps
    constructor
    · rintro rfl; exact ⟨rfl, fun i t x h => by simp at h⟩
    · rintro ⟨h, _⟩; exact List.eq_nil_of_length_eq_zero h.symm
  | t :: ts, xs => by
    unfold Reps
    constructor
    · rintro ⟨x, r, rfl, h1, h2⟩
      obtain ⟨l, h2⟩ := Reps.iff.mp h2
      refine ⟨by simp [l], fun i u y hu hy => ?_⟩
      cases i with
      | zero => simp at hu hy; subst hu hy; exact h1
      | succ i => exact h2 i u y (by simpa using hu) (by simpa using hy)
    · rintro ⟨l, h⟩
      cases xs with
      | nil => simp at l
      | cons x r =>
        refine ⟨x, r, rfl, h 0 t x rfl rfl, Reps.iff.mpr ⟨by simpa using l, fun i u y hu hy => h (i + 1) u y (by simpa using hu) (by simpa using hy)⟩⟩
theorem Reps.len (h : Reps K hd φ H ts xs) : ts.length = xs.length := (Reps.iff.mp h).1
theorem Reps.at (h : Reps K hd φ H ts xs) {i : Nat} (ht : ts[i]? = some t) : ∃ x, xs[i]? = some x ∧ Rep K hd φ H t x := by
  obtain ⟨l, g⟩ := Reps.iff.mp h
  have hi : i < xs.length := by rw [← l]; exact (List.getElem?_eq_some_iff.mp ht).1
  exact ⟨xs[i], by simp [hi], g i t _ ht (by simp [hi])⟩
theorem Reps.at' (h : Reps K hd φ H ts xs) {i : Nat} {x : V} (hx : xs[i]? = some x) : ∃ t, ts[i]? = some t ∧ Rep K hd φ H t x := by
  obtain ⟨l, g⟩ := Reps.iff.mp h
  have hi : i < ts.length := by rw [l]; exact (List.getElem?_eq_some_iff.mp hx).1
  exact ⟨ts[i], by simp [hi], g i _ x (by simp [hi]) hx⟩
theorem Reps.cons (h1 : Rep K hd φ H t v) (h2 : Reps K hd φ H ts xs) : Reps K hd φ H (t :: ts) (v :: xs) := by unfold Reps; exact ⟨v, xs, rfl, h1, h2⟩
theorem Reps.nil : Reps K hd φ H [] [] := by unfold Reps; rfl
theorem Reps.append (h1 : Reps K hd φ H ts xs) (h2 : Reps K hd φ H us ys) : Reps K hd φ H (ts ++ us) (xs ++ ys) := by
  induction ts generalizing xs with
  | nil => unfold Reps at h1; subst h1; exact h2
  | cons t ts ih =>
    unfold Reps at h1
    obtain ⟨x, r, rfl, a, b⟩ := h1
    exact Reps.cons a (ih b)
theorem Reps.take (h : Reps K hd φ H ts xs) (n : Nat) : Reps K hd φ H (ts.take n) (xs.take n) := by
  obtain ⟨l, g⟩ := Reps.iff.mp h
  refine Reps.iff.mpr ⟨by simp [l], fun i t x h1 h2 => ?_⟩
  rw [List.getElem?_take] at h1 h2
  split at h1
  · rename_i hi
    rw [if_pos hi] at h2
    exact g i t x h1 h2
  · cases h1
theorem Reps.drop (h : Reps K hd φ H ts xs) (n : Nat) : Reps K hd φ H (ts.drop n) (xs.drop n) := by
  obtain ⟨l, g⟩ := Reps.iff.mp h
  refine Reps.iff.mpr ⟨by simp [l], fun i t x h1 h2 => ?_⟩
  rw [List.getElem?_drop] at h1 h2
  exact g _ t x h1 h2
theorem Reps.set (h : Reps K hd φ H ts xs) (r : Rep K hd φ H t v) (n : Nat) : Reps K hd φ H (ts.set n t) (xs.set n v) := by
  obtain ⟨l, g⟩ := Reps.iff.mp h
  refine Reps.iff.mpr ⟨by simp [l], fun i u x h1 h2 => ?_⟩
  rw [List.getElem?_set] at h1 h2
  split at h1
  · rename_i hi
    rw [if_pos hi] at h2
    split at h1
    · rename_i hn
      rw [if_pos (by omega)] at h2
      cases h1; cases h2; exact r
    · cases h1
  · rename_i hi
    rw [if_neg hi] at h2
    exact g i u x h1 h2
theorem Reps.eraseIdx (h : Reps K hd φ H ts xs) (n : Nat) : Reps K hd φ H (ts.eraseIdx n) (xs.eraseIdx n) := by
  rw [List.eraseIdx_eq_take_drop_succ, List.eraseIdx_eq_take_drop_succ]
  exact (h.take n).append (h.drop (n + 1))
theorem Reps.rep (h : Rep K hd φ H t v) (n : Nat) : Reps K hd φ H (List.replicate n t) (List.replicate n v) :=
  Reps.iff.mpr ⟨by simp, fun i u x h1 h2 => by
    rw [List.getElem?_replicate] at h1 h2
    split at h1
    · rename_i hi
      rw [if_pos hi] at h2
      cases h1; cases h2; exact h
    · cases h1⟩
theorem Reps.flat (h : Reps K hd φ H ts xs) : ∀ n : Nat, Reps K hd φ H (List.replicate n ts).flatten (List.replicate n xs).flatten
  | 0 => Reps.nil
  | n + 1 => by
    rw [List.replicate_succ, List.replicate_succ, List.flatten_cons, List.flatten_cons]
    exact h.append (Reps.flat h n)

/-- from one heap to a later one: cells may have come, more may be held apart, tracked objects that are no cells are as they were -/
structure Ext (hd φ : List Addr) (H : Hp) (hd' φ' : List Addr) (H' : Hp) : Prop where
  pre : ∃ more, φ' = φ ++ more ∧ ∀ p ∈ more, Fr0 H p
  held : ∀ a ∈ hd', a ∈ hd ∨ Fr0 H a
  keep : ∀ b o, H b = some o → b ∉ φ → (∀ ps, o ≠ .tbl ps) → H' b = some o
  there : ∀ b o, H b = some o → (∀ ps, o ≠ .tbl ps) → ∃ o', H' b = some o' ∧ ∀ ps, o' ≠ .tbl ps
theorem Ext.refl : Ext hd φ H hd φ H := ⟨⟨[], by simp, fun _ h => by simp at h⟩, fun _ h => .inl h, fun _ _ h _ _ => h, fun _ o h n => ⟨o, h, n⟩⟩
theorem Ext.fresh (e : Ext hd φ H hd' φ' H') {p : Addr} (h : Fr0 H' p) : Fr0 H p := fun o q => by
  cases o with
  | tbl ps => exact ⟨ps, rfl⟩
  | _ =>
    obtain ⟨o', h', n⟩ := e.there p _ q (fun _ z => nomatch z)
    obtain ⟨ps, rfl⟩ := h o' h'
    exact absurd rfl (n ps)
theorem fr0_not {p : Addr} {o : HO} (h : Fr0 H p) (q : H p = some o) (n : ∀ ps, o ≠ .tbl ps) : False := by
  obtain ⟨ps, rfl⟩ := h o q
  exact n ps rfl
theorem Ext.nin (e : Ext hd φ H hd' φ' H') {b : Addr} {o : HO} (h : H b = some o) (hn : b ∉ φ) (ht : ∀ ps, o ≠ .tbl ps) : b ∉ φ' := by
  obtain ⟨m, rfl, n⟩ := e.pre
  rw [List.mem_append]
  rintro (z | z)
  · exact hn z
  · exact fr0_not (n b z) h ht
theorem Ext.nhd (e : Ext hd φ H hd' φ' H') {b : Addr} {o : HO} (h : H b = some o) (hn : b ∉ hd) (ht : ∀ ps, o ≠ .tbl ps) : b ∉ hd' := fun z => by
  rcases e.held b z with z | z
  · exact hn z
  · exact fr0_not z h ht
theorem Ext.trans {hd1 hd2 φ1 φ2 : List Addr} {H1 H2 : Hp} (a : Ext hd φ H hd1 φ1 H1) (b : Ext hd1 φ1 H1 hd2 φ2 H2) : Ext hd φ H hd2 φ2 H2 := by
  refine ⟨?_, fun c hc => ?_, fun c o hc hn ht => b.keep c o (a.keep c o hc hn ht) (a.nin hc hn ht) ht, fun c o hc hn => ?_⟩
  · obtain ⟨m1, e1, n1⟩ := a.pre
    obtain ⟨m2, e2, n2⟩ := b.pre
    refine ⟨m1 ++ m2, by rw [e2, e1, List.append_assoc], fun p hp => ?_⟩
    rcases List.mem_append.mp hp with z | z
    · exact n1 p z
    · exact a.fresh (n2 p z)
  · rcases b.held c hc with z | z
    · exact a.held c z
    · exact .inr (a.fresh z)
  · obtain ⟨o', h', n'⟩ := a.there c o hc hn
    exact b.there c o' h' n'
/-- a new object beside -/
theorem Ext.new {p : Addr} {o : HO} (h : H p = none) : Ext hd φ H hd φ (upd H p o) :=
  ⟨⟨[], by simp, fun _ h => by simp at h⟩, fun _ h => .inl h, fun b u hb _ _ => by rw [upd_ne (ne_of_none hb h)]; exact hb, fun b u hb n => ⟨u, by rw [upd_ne (ne_of_none hb h)]; exact hb, n⟩⟩
/-- a cell is written -/
theorem Ext.write {p : Addr} {o : HO} (h : p ∈ φ) (ho : ∀ ps, o ≠ .tbl ps := by exact fun _ z => nomatch z) : Ext hd φ H hd φ (upd H p o) :=
  ⟨⟨[], by simp, fun _ h => by simp at h⟩, fun _ h => .inl h, fun b u hb hn _ => by rw [upd_ne (fun (e : b = p) => hn (by rw [e]; exact h))]; exact hb, fun b u hb n => by
    by_cases e : b = p
    · subst e; exact ⟨o, upd_same, ho⟩
    · exact ⟨u, by rw [upd_ne e]; exact hb, n⟩⟩
/-- what was made becomes a cell -/
theorem Ext.cell {p : Addr} (e : Ext hd φ H (p :: hd') φ' H') (h : Fr0 H p) : Ext hd φ H hd' (φ' ++ [p]) H' := by
  obtain ⟨m, rfl, n⟩ := e.pre
  exact ⟨⟨m ++ [p], by rw [List.append_assoc], fun q hq => by
    rcases List.mem_append.mp hq with z | z
    · exact n q z
    · rw [List.mem_singleton.mp z]; exact h⟩, fun a ha => e.held a (List.mem_cons_of_mem _ ha), e.keep, e.there⟩
/-- a new object, held apart -/
theorem Ext.hold {p : Addr} {o : HO} (h : H p = none) : Ext hd φ H (p :: hd) φ (upd H p o) :=
  ⟨⟨[], by simp, fun _ h => by simp at h⟩, fun a ha => (List.mem_cons.mp ha).elim (fun e => .inr (by rw [e]; exact fr0_none h)) .inl, (Ext.new (hd := hd) (φ := φ) (o := o) h).keep, (Ext.new (hd := hd) (φ := φ) (o := o) h).there⟩
theorem Ext.free {p : Addr} (e : Ext hd φ H (p :: hd') φ' H') : Ext hd φ H hd' φ' H' := ⟨e.pre, fun a ha => e.held a (List.mem_cons_of_mem _ ha), e.keep, e.there⟩
/-- tables alone have changed -/
theorem Ext.tables (e : LamX.ExtN H H') : Ext hd φ H hd φ H' := ⟨⟨[], by simp, fun _ h => by simp at h⟩, fun _ h => .inl h, fun b o hb _ n => e b o hb n, fun b o hb n => ⟨o, e b o hb n, n⟩⟩

theorem NdX.mono {a : Addr} {o : HO} (e : Ext hd φ H hd' φ' H') (n : ∀ ps, o ≠ .tbl ps) (h : NdX hd φ H a o) : NdX hd' φ' H' a o := ⟨e.keep _ _ h.1 h.2.1 n, e.nin h.1 h.2.1 n, e.nhd h.1 h.2.2 n⟩
theorem NdT.mono {a : Addr} (e : Ext hd φ H hd' φ' H') (h : NdT hd φ H a xs) : NdT hd' φ' H' a xs := ⟨e.keep _ _ h.1 h.2.1 (fun _ z => nomatch z), e.nin h.1 h.2.1 (fun _ z => nomatch z), e.nhd h.1 h.2.2 (fun _ z => nomatch z)⟩
theorem NdL.mono {a : Addr} (e : Ext hd φ H hd' φ' H') (h : NdL hd φ H a xs) : NdL hd' φ' H' a xs := ⟨e.keep _ _ h.1 h.2.1 (fun _ z => nomatch z), e.nin h.1 h.2.1 (fun _ z => nomatch z), e.nhd h.1 h.2.2 (fun _ z => nomatch z)⟩
theorem NdF.mono {a : Addr} (e : Ext hd φ H hd' φ' H') (h : NdF K hd φ H a xs) : NdF K hd' φ' H' a xs := by
  rcases h with ⟨o, h, z, h2, h3⟩ | h
  · have nt : ∀ ps, o ≠ .tbl ps := by rcases z with rfl | ⟨u, rfl⟩ <;> exact fun _ z => nomatch z
    exact .inl ⟨o, e.keep _ _ h h2 nt, z, e.nin h h2 nt, e.nhd h h3 nt⟩
  · exact .inr h
mutual
theorem Rep.mono (e : Ext hd φ H hd' φ' H') : ∀ {t : T} {v : V}, Rep K hd φ H t v → Rep K hd' φ' H' t v
  | .non, _, h => h
  | .bl _, _, h => h
  | .int _, _, h => h
  | .str _, _, h => h
  | .ty _, _, h => h
  | .tup ts, v, h => by
    unfold Rep at h ⊢
    obtain ⟨a, xs, e1, n, r⟩ := h
    exact ⟨a, xs, e1, n.mono e, Reps.mono e r⟩
  | .lst ts, v, h => by
    unfold Rep at h ⊢
    obtain ⟨a, xs, e1, n, r⟩ := h
    exact ⟨a, xs, e1, n.mono e, Reps.mono e r⟩
  | .frz ts, v, h => by
    unfold Rep at h ⊢
    obtain ⟨a, xs, e1, n, r⟩ := h
    exact ⟨a, xs, e1, n.mono e, Reps.mono e r⟩
  | .rng n, v, h => by
    unfold Rep at h ⊢
    obtain ⟨a, e1, h1, h2, h3⟩ := h
    exact ⟨a, e1, e.keep _ _ h1 h2 (fun _ z => nomatch z), e.nin h1 h2 (fun _ z => nomatch z), e.nhd h1 h3 (fun _ z => nomatch z)⟩
  | .cell k, v, h => by
    unfold Rep at h ⊢
    obtain ⟨a, e1, hk⟩ := h
    obtain ⟨m, rfl, _⟩ := e.pre
    exact ⟨a, e1, by rw [List.getElem?_append_left (List.getElem?_eq_some_iff.mp hk).1]; exact hk⟩
  | .glb x, v, h => by unfold Rep at h ⊢; exact h
  | .exc x ks ts, v, h => by
    unfold Rep at h ⊢
    obtain ⟨a, C, d, e1, g, n, q⟩ := h
    refine ⟨a, C, d, e1, g, n.mono e exC_ne, ?_⟩
    rcases q with q | ⟨dd, vs, e2, l, n2, r⟩
    · exact .inl q
    · exact .inr ⟨dd, vs, e2, l, n2.mono e (fun _ z => nomatch z), Reps.mono e r⟩
  | .dct ks ts, v, h => by
    unfold Rep at h ⊢
    obtain ⟨a, vs, e1, l, n, r⟩ := h
    exact ⟨a, vs, e1, l, n.mono e (fun _ z => nomatch z), Reps.mono e r⟩
theorem Reps.mono (e : Ext hd φ H hd' φ' H') : ∀ {ts : List T} {xs : List V}, Reps K hd φ H ts xs → Reps K hd' φ' H' ts xs
  | [], _, h => by unfold Reps at h ⊢; exact h
  | t :: ts, _, h => by
    unfold Reps at h ⊢
    obtain ⟨x, r, e1, a, b⟩ := h
    exact ⟨x, r, e1, Rep.mono e a, Reps.mono e b⟩
end
/-! how what is held apart changes: a node is outside of what is held afterwards -/
mutual
theorem Rep.held (g : ∀ a o, H a = some o → a ∉ φ → a ∉ hd → a ∉ φ' ∧ a ∉ hd') (c : ∀ (k : Nat) (a : Addr), φ[k]? = some a → φ'[k]? = some a) : ∀ {t : T} {v : V}, Rep K hd φ H t v → Rep K hd' φ' H t v
  | .non, _, h => h
  | .bl _, _, h => h
  | .int _, _, h => h
  | .str _, _, h => h
  | .ty _, _, h => h
  | .tup ts, v, h => by
    unfold Rep at h ⊢
    obtain ⟨a, xs, e1, ⟨n1, n2, n3⟩, r⟩ := h
    exact ⟨a, xs, e1, ⟨n1, g a _ n1 n2 n3⟩, Reps.held g c r⟩
  | .lst ts, v, h => by
    unfold Rep at h ⊢
    obtain ⟨a, xs, e1, ⟨n1, n2, n3⟩, r⟩ := h
    exact ⟨a, xs, e1, ⟨n1, g a _ n1 n2 n3⟩, Reps.held g c r⟩
  | .frz ts, v, h => by
    unfold Rep at h ⊢
    obtain ⟨a, xs, e1, n, r⟩ := h
    refine ⟨a, xs, e1, ?_, Reps.held g c r⟩
    rcases n with ⟨o, n1, z, n2, n3⟩ | n
    · exact .inl ⟨o, n1, z, g a _ n1 n2 n3⟩
    · exact .inr n
  | .rng n, v, h => by
    unfold Rep at h ⊢
    obtain ⟨a, e1, h1, h2, h3⟩ := h
    exact ⟨a, e1, h1, g a _ h1 h2 h3⟩
  | .cell k, v, h => by
    unfold Rep at h ⊢
    obtain ⟨a, e1, hk⟩ := h
    exact ⟨a, e1, c k a hk⟩
  | .glb x, v, h => by unfold Rep at h ⊢; exact h
  | .exc x ks ts, v, h => by
    unfold Rep at h ⊢
    obtain ⟨a, C, d, e1, gl, ⟨n1, n2, n3⟩, q⟩ := h
    refine ⟨a, C, d, e1, gl, ⟨n1, g a _ n1 n2 n3⟩, ?_⟩
    rcases q with q | ⟨dd, vs, e2, l, ⟨m1, m2, m3⟩, r⟩
    · exact .inl q
    · exact .inr ⟨dd, vs, e2, l, ⟨m1, g dd _ m1 m2 m3⟩, Reps.held g c r⟩
  | .dct ks ts, v, h => by
    unfold Rep at h ⊢
    obtain ⟨a, vs, e1, l, ⟨n1, n2, n3⟩, r⟩ := h
    exact ⟨a, vs, e1, l, ⟨n1, g a _ n1 n2 n3⟩, Reps.held g c r⟩
theorem Reps.held (g : ∀ a o, H a = some o → a ∉ φ → a ∉ hd → a ∉ φ' ∧ a ∉ hd') (c : ∀ (k : Nat) (a : Addr), φ[k]? = some a → φ'[k]? = some a) : ∀ {ts : List T} {xs : List V}, Reps K hd φ H ts xs → Reps K hd' φ' H ts xs
  | [], _, h => by unfold Reps at h ⊢; exact h
  | t :: ts, _, h => by
    unfold Reps at h ⊢
    obtain ⟨x, r, e1, a, b⟩ := h
    exact ⟨x, r, e1, Rep.held g c a, Reps.held g c b⟩
end

/-! ### the world -/
def CellR (K : KT) (hd φ : List Addr) (H : Hp) : Cell → Addr → Prop
  | .lst ts, a => ∃ xs, H a = some (.lst xs) ∧ Reps K hd φ H ts xs
  | .dic kvs, a => ∃ ys, H a = some (.dK ys) ∧ ys.map (·.1) = kvs.map (·.1) ∧ Reps K hd φ H (kvs.map (·.2)) (ys.map (·.2))
  | .dit kvs, a => ∃ ys, H a = some (.dT ys) ∧ ys.map (·.1) = kvs.map (·.1) ∧ Reps K hd φ H (kvs.map (·.2)) (ys.map (·.2))
  | .obj x ks ts, a => ∃ C dx vs, H a = some (.ins C dx (ks.zip vs)) ∧ GlbAt K.1 x C ∧ ks.length = ts.length ∧ NdX hd φ H dx (.own a) ∧ Reps K hd φ H ts vs
structure WR (K : KT) (hd φ : List Addr) (H : Hp) (w : World) : Prop where
  len : φ.length = w.length
  nd : φ.Nodup
  apart : ∀ a ∈ φ, a ∉ hd
  there : ∀ a, a ∈ φ ∨ a ∈ hd → ∃ o, H a = some o ∧ ∀ ps, o ≠ .tbl ps
  cells : ∀ (k : Nat) c a, w[k]? = some c → φ[k]? = some a → CellR K hd φ H c a
  tabs : LamX.Tabs K.2 H
theorem CellR.mono {c : Cell} {a : Addr} (e : Ext hd φ H hd' φ' H') (ha : H' a = H a) (h : CellR K hd φ H c a) : CellR K hd' φ' H' c a := by
  cases c with
  | lst ts => obtain ⟨xs, h1, h2⟩ := h; exact ⟨xs, ha.trans h1, h2.mono e⟩
  | dic kvs => obtain ⟨ys, h1, h2, h3⟩ := h; exact ⟨ys, ha.trans h1, h2, h3.mono e⟩
  | dit kvs => obtain ⟨ys, h1, h2, h3⟩ := h; exact ⟨ys, ha.trans h1, h2, h3.mono e⟩
  | obj x ks ts => obtain ⟨C, dx, vs, h1, h2, h3, h4, h5⟩ := h; exact ⟨C, dx, vs, ha.trans h1, h2, h3, h4.mono e (fun _ z => nomatch z), h5.mono e⟩
theorem CellR.held {c : Cell} {a : Addr} (g : ∀ a o, H a = some o → a ∉ φ → a ∉ hd → a ∉ φ' ∧ a ∉ hd') (l : ∀ (k : Nat) (a : Addr), φ[k]? = some a → φ'[k]? = some a) (h : CellR K hd φ H c a) : CellR K hd' φ' H c a := by
  cases c with
  | lst ts => obtain ⟨xs, h1, h2⟩ := h; exact ⟨xs, h1, h2.held g l⟩
  | dic kvs => obtain ⟨ys, h1, h2, h3⟩ := h; exact ⟨ys, h1, h2, h3.held g l⟩
  | dit kvs => obtain ⟨ys, h1, h2, h3⟩ := h; exact ⟨ys, h1, h2, h3.held g l⟩
  | obj x ks ts => obtain ⟨C, dx, vs, h1, h2, h3, ⟨n1, n2, n3⟩, h5⟩ := h; exact ⟨C, dx, vs, h1, h2, h3, ⟨n1, g dx _ n1 n2 n3⟩, h5.held g l⟩
/-- what no table is -/
def Plain : HO → Prop
  | .tbl _ => False
  | .ext _ => False
  | _ => True
theorem CellR.plain {c : Cell} {a : Addr} (h : CellR K hd φ H c a) : ∃ o, H a = some o ∧ Plain o := by
  cases c with
  | lst ts => obtain ⟨xs, h1, _⟩ := h; exact ⟨_, h1, trivial⟩
  | dic kvs => obtain ⟨ys, h1, _⟩ := h; exact ⟨_, h1, trivial⟩
  | dit kvs => obtain ⟨ys, h1, _⟩ := h; exact ⟨_, h1, trivial⟩
  | obj x ks ts => obtain ⟨C, dx, vs, h1, _⟩ := h; exact ⟨_, h1, trivial⟩
/-- tables stay where a plain thing is written -/
theorem tabs_upd {Z : List (Addr × Str)} {p : Addr} {o : HO} (t : LamX.Tabs Z H) (h : ∀ u, H p = some u → Plain u) : LamX.Tabs Z (upd H p o) := fun q hq => by
  obtain ⟨ps, h1, h2, h3⟩ := t q hq
  have ne : ∀ b u, H b = some u → ¬ Plain u → b ≠ p := fun b u e n z => by subst z; exact n (h u e)
  refine ⟨ps, by rw [upd_ne (ne _ _ h1 (fun z => z))]; exact h1, h2, fun pos cv hc => ?_⟩
  obtain ⟨c, e1, e2⟩ := h3 pos cv hc
  exact ⟨c, e1, by rw [upd_ne (ne _ _ e2 (by unfold LamX.CodeO; exact fun z => z))]; exact e2⟩
theorem tabs_new {Z : List (Addr × Str)} {p : Addr} {o : HO} (t : LamX.Tabs Z H) (h : H p = none) : LamX.Tabs Z (upd H p o) := tabs_upd t fun u e => by rw [h] at e; cases e
theorem WR.plain {w : World} {k : Nat} {a : Addr} (h : WR K hd φ H w) (hk : φ[k]? = some a) : ∃ o, H a = some o ∧ Plain o := by
  have hl := (List.getElem?_eq_some_iff.mp hk).1
  rw [h.len] at hl
  exact (h.cells k w[k] a (by simp [hl]) hk).plain
variable {w w' : World} {p : Addr} {o : HO}
theorem WR.nin0 (h : WR K hd φ H w) (n : Fr0 H p) : p ∉ φ ∧ p ∉ hd := by
  constructor <;> intro z
  · obtain ⟨o, e, t⟩ := h.there p (.inl z); exact fr0_not n e t
  · obtain ⟨o, e, t⟩ := h.there p (.inr z); exact fr0_not n e t
theorem WR.nin (h : WR K hd φ H w) (n : H p = none) : p ∉ φ ∧ p ∉ hd := h.nin0 (fr0_none n)
theorem WR.new (h : WR K hd φ H w) (n : H p = none) : WR K hd φ (upd H p o) w := by
  refine ⟨h.len, h.nd, h.apart, fun a ha => ?_, fun k c a h1 h2 => (h.cells k c a h1 h2).mono (Ext.new n) ?_, tabs_new h.tabs n⟩
  · obtain ⟨u, e, t⟩ := h.there a ha
    exact (Ext.new (hd := hd) (φ := φ) n).there a u e t
  · rw [upd_ne]
    rintro rfl
    exact (h.nin n).1 (List.mem_of_getElem? h2)
/-- p is held apart from now on: nothing refers to it -/
theorem WR.hold (h : WR K hd φ H w) (n : H p = none) (ho : ∀ ps, o ≠ .tbl ps := by exact fun _ z => nomatch z) : WR K (p :: hd) φ (upd H p o) w := by
  refine ⟨h.len, h.nd, fun a ha => ?_, fun a ha => ?_, fun k c a h1 h2 => (h.cells k c a h1 h2).mono (Ext.hold n) ?_, tabs_new h.tabs n⟩
  · rw [List.mem_cons]
    rintro (rfl | z)
    · exact (h.nin n).1 ha
    · exact h.apart a ha z
  · rw [List.mem_cons] at ha
    by_cases e : a = p
    · subst e; exact ⟨o, upd_same, ho⟩
    · obtain ⟨u, q, t⟩ := h.there a (by rcases ha with z | z | z; exact .inl z; exact absurd z e; exact .inr z)
      exact ⟨u, by rw [upd_ne e]; exact q, t⟩
  · rw [upd_ne]
    rintro rfl
    exact (h.nin n).1 (List.mem_of_getElem? h2)
/-- p is not held any more -/
theorem Rep.free (h : Rep K (p :: hd) φ H t v) : Rep K hd φ H t v := h.held (fun _ _ _ h1 h2 => ⟨h1, fun z => h2 (List.mem_cons_of_mem _ z)⟩) fun _ _ z => z
theorem Reps.free (h : Reps K (p :: hd) φ H ts xs) : Reps K hd φ H ts xs := h.held (fun _ _ _ h1 h2 => ⟨h1, fun z => h2 (List.mem_cons_of_mem _ z)⟩) fun _ _ z => z
theorem WR.free (h : WR K (p :: hd) φ H w) : WR K hd φ H w :=
  ⟨h.len, h.nd, fun a ha z => h.apart a ha (List.mem_cons_of_mem _ z), fun a ha => h.there a (ha.imp id (List.mem_cons_of_mem _)), fun k c a h1 h2 => (h.cells k c a h1 h2).held (fun _ _ _ h1 h2 => ⟨h1, fun z => h2 (List.mem_cons_of_mem _ z)⟩) fun _ _ z => z, h.tabs⟩
/-- what is held becomes a cell -/
theorem cell_g : ∀ a o, H a = some o → a ∉ φ → a ∉ p :: hd → a ∉ φ ++ [p] ∧ a ∉ hd := fun a o _ h1 h2 => by
  rw [List.mem_append, List.mem_singleton, List.mem_cons] at *
  exact ⟨fun z => z.elim h1 fun e => h2 (.inl e), fun z => h2 (.inr z)⟩
theorem cell_l : ∀ (k : Nat) (a : Addr), φ[k]? = some a → (φ ++ [p])[k]? = some a := fun k a h => by
  rw [List.getElem?_append_left (List.getElem?_eq_some_iff.mp h).1]; exact h
theorem Rep.cell (h : Rep K (p :: hd) φ H t v) : Rep K hd (φ ++ [p]) H t v := h.held cell_g cell_l
theorem Reps.cell (h : Reps K (p :: hd) φ H ts xs) : Reps K hd (φ ++ [p]) H ts xs := h.held cell_g cell_l
theorem WR.cell {c : Cell} (h : WR K (p :: hd) φ H w) (hp : p ∉ hd) (hc : CellR K (p :: hd) φ H c p) : WR K hd (φ ++ [p]) H (w ++ [c]) := by
  have np : p ∉ φ := fun z => h.apart p z List.mem_cons_self
  refine ⟨by simp [h.len], ?_, fun a ha => ?_, fun a ha => ?_, fun k c' a h1 h2 => ?_, h.tabs⟩
  · rw [List.nodup_append]
    exact ⟨h.nd, by simp, fun a ha b hb => by rw [List.mem_singleton.mp hb]; rintro rfl; exact np ha⟩
  · rcases List.mem_append.mp ha with z | z
    · exact fun q => h.apart a z (List.mem_cons_of_mem _ q)
    · rw [List.mem_singleton.mp z]; exact hp
  · refine h.there a ?_
    rcases ha with z | z
    · rcases List.mem_append.mp z with z | z
      · exact .inl z
      · exact .inr (by rw [List.mem_singleton.mp z]; exact List.mem_cons_self)
    · exact .inr (List.mem_cons_of_mem _ z)
  · by_cases hk : k < w.length
    · rw [List.getElem?_append_left hk] at h1
      rw [List.getElem?_append_left (by rw [h.len]; exact hk)] at h2
      exact (h.cells k c' a h1 h2).held cell_g cell_l
    · have e : k = w.length := by
        have := (List.getElem?_eq_some_iff.mp h1).1
        simp at this; omega
      subst e
      rw [List.getElem?_append_right (Nat.le_refl _)] at h1
      rw [List.getElem?_append_right (by rw [h.len]; exact Nat.le_refl _)] at h2
      simp [h.len] at h1 h2
      subst h1 h2
      exact hc.held cell_g cell_l
/-- a cell is written -/
theorem WR.write {k : Nat} {a : Addr} {c : Cell} (h : WR K hd φ H w) (hk : φ[k]? = some a) (hc : CellR K hd φ (upd H a o) c a) (ho : ∀ ps, o ≠ .tbl ps := by exact fun _ z => nomatch z) : WR K hd φ (upd H a o) (w.set k c) := by
  have ha : a ∈ φ := List.mem_of_getElem? hk
  refine ⟨by simp [h.len], h.nd, h.apart, fun b hb => ?_, fun j c' b h1 h2 => ?_, tabs_upd h.tabs fun u e => ?_⟩
  · obtain ⟨u, e, t⟩ := h.there b hb
    exact (Ext.write (hd := hd) (φ := φ) ha ho).there b u e t
  · rw [List.getElem?_set] at h1
    split at h1
    · rename_i e
      subst e
      rw [hk] at h2; cases h2
      split at h1
      · cases h1; exact hc
      · cases h1
    · rename_i e
      refine (h.cells j c' b h1 h2).mono (Ext.write ha ho) ?_
      rw [upd_ne]
      rintro rfl
      have j1 := (List.getElem?_eq_some_iff.mp hk)
      have j2 := (List.getElem?_eq_some_iff.mp h2)
      obtain ⟨l1, e1⟩ := j1
      obtain ⟨l2, e2⟩ := j2
      exact e ((List.getElem_inj h.nd).mp (e1.trans e2.symm))
  · obtain ⟨v, e', hp⟩ := h.plain hk
    rw [e] at e'
    cases e'
    exact hp
/-- tables alone have changed -/
theorem WR.tables (h : WR K hd φ H w) (e : LamX.ExtN H H') (t : LamX.Tabs K.2 H') : WR K hd φ H' w := by
  refine ⟨h.len, h.nd, h.apart, fun a ha => ?_, fun k c a h1 h2 => ?_, t⟩
  · obtain ⟨o, q, n⟩ := h.there a ha
    exact ⟨o, e a o q n, n⟩
  · obtain ⟨o, q, n⟩ := h.there a (.inl (List.mem_of_getElem? h2))
    exact (h.cells k c a h1 h2).mono (Ext.tables e) ((e a o q n).trans q.symm)
end
end VS

set_option Elab.async false
set_option linter.all false
set_option maxRecDepth 100000
set_option maxHeartbeats 2000000
namespace VS
open PySem PySem.Spec PyProof.Rows L2

structure SR (K : KT) (hd φ : List Addr) (H : Hp) (σ : L2.St) (ρ : Env) : Prop where
  len : σ.length = ρ.length
  get : ∀ (i : Nat) t, ρ[i]? = some (some t) → ∃ v, σ[i]? = some (some v) ∧ Rep K hd φ H t v
section
variable {K : KT} {hd hd' φ φ' : List Addr} {H H' : Hp} {σ : L2.St} {ρ : Env} {t : T} {v : V}
theorem SR.mono (h : SR K hd φ H σ ρ) (e : Ext hd φ H hd' φ' H') : SR K hd' φ' H' σ ρ := ⟨h.len, fun i t ht => by
  obtain ⟨v, h1, h2⟩ := h.get i t ht
  exact ⟨v, h1, h2.mono e⟩⟩
theorem SR.set (h : SR K hd φ H σ ρ) (r : Rep K hd φ H t v) (i : Nat) : SR K hd φ H (σ.set i (some v)) (ρ.set i (some t)) := ⟨by simp [h.len], fun j u hu => by
  rw [List.getElem?_set] at hu
  split at hu
  · rename_i e
    subst e
    split at hu
    · rename_i hi
      cases hu
      exact ⟨v, by rw [List.getElem?_set_self (by rw [h.len]; exact hi)], r⟩
    · cases hu
  · rename_i e
    obtain ⟨x, h1, h2⟩ := h.get j u hu
    exact ⟨x, by rw [List.getElem?_set_ne e]; exact h1, h2⟩⟩
theorem SR.start (h : Reps K hd φ H ts xs) (n : Nat) : SR K hd φ H (xs.map some ++ List.replicate n none) (ts.map some ++ List.replicate n none) := ⟨by simp [h.len], fun i t ht => by
  have hl := h.len
  by_cases hi : i < ts.length
  · rw [List.getElem?_append_left (by simpa using hi)] at ht
    rw [List.getElem?_map, List.getElem?_eq_getElem hi] at ht
    have e : ts[i] = t := by simpa using ht
    obtain ⟨x, h1, h2⟩ := h.at (i := i) (t := t) (by rw [List.getElem?_eq_getElem hi, e])
    refine ⟨x, ?_, h2⟩
    rw [List.getElem?_append_left (by simp; omega), List.getElem?_map, h1]
    rfl
  · rw [List.getElem?_append_right (by simp; omega), List.getElem?_replicate] at ht
    split at ht <;> simp at ht⟩
end

/-! ### what an expression is worth: its reading by a function -/
abbrev ME := Env → World → R T
abbrev MF := Env → World → R (List T)
abbrev MT := Env → World → R Bool
/-- an error in flight, as its class and its dict are told -/
def RepX (K : KT) (hd φ : List Addr) (H : Hp) (t : T) (cls : Value) (d : Option Addr) : Prop :=
  ∃ x ks ts C, t = .exc x ks ts ∧ cls = .ref C ∧ GlbAt K.1 x C ∧ ((ks = [] ∧ ts = [] ∧ d = none) ∨ ∃ dd vs, d = some dd ∧ (ks ≠ [] ∧ ks.length = ts.length) ∧ NdX hd φ H dd (.xd (ks.zip vs)) ∧ Reps K hd φ H ts vs)
/-- behind a run that an error ends: what is wished of it, where it is wished -/
def PstX (K : KT) (W : Option WX) (hd φ : List Addr) (H : Hp) (t : T) (ρ : Env) (w' : World) : Prop := match W with
  | none => False
  | some W => ∀ H' φ' σ', Ext hd φ H hd φ' H' → WR K hd φ' H' w' → SR K hd φ' H' σ' ρ → ∀ cls d, RepX K hd φ' H' t cls d → W cls d σ' H'
theorem PstX.mono {K : KT} {W : Option WX} {hd φ φ1 : List Addr} {H H1 : Hp} {t : T} {ρ : Env} {w : World} (e : Ext hd φ H hd φ1 H1) (p : PstX K W hd φ H t ρ w) : PstX K W hd φ1 H1 t ρ w := by
  cases W with
  | none => exact p
  | some W => intro H' φ' σ' e' wr sr; exact p H' φ' σ' (e.trans e') wr sr
/-- behind a run that ends as r says -/
def Pst {α : Type} (K : KT) (W : Option WX) (hd : List Addr) (C : α → List Addr → Hp → Prop) (φ : List Addr) (H : Hp) : R α → Prop
  | .ok d w' => ∀ H' φ', Ext hd φ H hd φ' H' → WR K hd φ' H' w' → C d φ' H'
  | .ex t ρ w' => PstX K W hd φ H t ρ w'
  | .no => False
/-- a new list, that nothing refers to -/
def PstF (K : KT) (W : Option WX) (hd : List Addr) (Q : VK) (φ : List Addr) (H : Hp) : R (List T) → Prop
  | .ok ds w' => ∀ p xs H' φ', Ext hd φ H (p :: hd) φ' H' → WR K (p :: hd) φ' H' w' → Fr0 H p → p ∉ hd → H' p = some (.lst xs) → Reps K (p :: hd) φ' H' ds xs → Q (.ref p) H'
  | .ex t ρ w' => PstX K W hd φ H t ρ w'
  | .no => False
structure IsPst {α : Type} (K : KT) (W : Option WX) (hd : List Addr) (P : List Addr → Hp → R α → Prop) : Prop where
  mono : ∀ φ H φ1 H1 r, Ext hd φ H hd φ1 H1 → P φ H r → P φ1 H1 r
  no : ∀ φ H, ¬ P φ H .no
  ex : ∀ φ H t ρ w, P φ H (.ex t ρ w) → PstX K W hd φ H t ρ w
theorem isPst {α : Type} {K : KT} {W : Option WX} {hd : List Addr} {C : α → List Addr → Hp → Prop} : IsPst K W hd (Pst K W hd C) where
  mono := fun φ H φ1 H1 r e p => by
    cases r with
    | no => exact p
    | ex t ρ w => exact PstX.mono e p
    | ok d w => intro H' φ' e' wr; exact p H' φ' (e.trans e') wr
  no := fun _ _ h => h
  ex := fun _ _ _ _ _ h => h
theorem isPstF {K : KT} {W : Option WX} {hd : List Addr} {Q : VK} : IsPst K W hd (PstF K W hd Q) where
  mono := fun φ H φ1 H1 r e p => by
    cases r with
    | no => exact p
    | ex t ρ w => exact PstX.mono e p
    | ok d w => intro q xs H' φ' e' wr hn hq hx rs; exact p q xs H' φ' (e.trans e') wr (e.fresh hn) hq hx rs
  no := fun _ _ h => h
  ex := fun _ _ _ _ _ h => h
/-- r, then f -/
theorem Pst.then {α β : Type} {K : KT} {W : Option WX} {hd φ : List Addr} {H : Hp} {C : α → List Addr → Hp → Prop} {P : List Addr → Hp → R β → Prop} {r : R α} {f : α → World → R β} (ip : IsPst K W hd P) (p : P φ H (r.bind f))
    (h : ∀ d w1 φ1 H1, Ext hd φ H hd φ1 H1 → WR K hd φ1 H1 w1 → P φ1 H1 (f d w1) → C d φ1 H1) : Pst K W hd C φ H r := by
  cases r with
  | no => exact (ip.no _ _ p).elim
  | ex t ρ w => exact ip.ex _ _ _ _ _ p
  | ok d w => intro H1 φ1 e wr; exact h d w φ1 H1 e wr (ip.mono _ _ _ _ _ e p)
/-- r as it ends -/
theorem Pst.imp {α : Type} {K : KT} {W : Option WX} {hd φ : List Addr} {H : Hp} {C C' : α → List Addr → Hp → Prop} {r : R α} (p : Pst K W hd C φ H r) (h : ∀ d φ1 H1, Ext hd φ H hd φ1 H1 → C d φ1 H1 → C' d φ1 H1) : Pst K W hd C' φ H r := by
  cases r with
  | no => exact p
  | ex t ρ w => exact p
  | ok d w => intro H1 φ1 e wr; exact h d φ1 H1 e (p H1 φ1 e wr)
theorem Pst.ok {α : Type} {K : KT} {W : Option WX} {hd φ : List Addr} {H : Hp} {C : α → List Addr → Hp → Prop} {d : α} {w : World} (p : Pst K W hd C φ H (.ok d w)) (wr : WR K hd φ H w) : C d φ H := p H φ Ext.refl wr

abbrev CE (K : KT) (hd : List Addr) (Q : VK) : T → List Addr → Hp → Prop := fun d φ' H' => ∀ v, Rep K hd φ' H' d v → Q v H'
abbrev CA (K : KT) (hd : List Addr) (Q : List V → Hp → Prop) : List T → List Addr → Hp → Prop := fun d φ' H' => ∀ v, Reps K hd φ' H' d v → Q v H'
abbrev CT (Q : Bool → Hp → Prop) : Bool → List Addr → Hp → Prop := fun d _ H' => Q d H'
def rdE (K : KT) (W : Option WX) (m : ME) : TE := fun σ H Q => ∃ hd φ ρ w, SR K hd φ H σ ρ ∧ WR K hd φ H w ∧ Pst K W hd (CE K hd Q) φ H (m ρ w)
def rdA (K : KT) (W : Option WX) (m : MF) : TA := fun σ H Q => ∃ hd φ ρ w, SR K hd φ H σ ρ ∧ WR K hd φ H w ∧ Pst K W hd (CA K hd Q) φ H (m ρ w)
def rdT (K : KT) (W : Option WX) (m : MT) : TT := fun σ H Q => ∃ hd φ ρ w, SR K hd φ H σ ρ ∧ WR K hd φ H w ∧ Pst K W hd (CT Q) φ H (m ρ w)
def rdF (K : KT) (W : Option WX) (m : MF) : TE := fun σ H Q => ∃ hd φ ρ w, SR K hd φ H σ ρ ∧ WR K hd φ H w ∧ PstF K W hd Q φ H (m ρ w)
section
variable {X : Cx} {e a b c : Expr} {pos : Pos} {Z : List (Addr × Str)} {W : Option WX}
theorem PE_imp {t t' : TE} (h : PE X e t) (i : ∀ σ H Q, t' σ H Q → t σ H Q) : PE X e t' := ⟨fun pins s σ H Q I q => h.run pins s σ H Q I (i σ H Q q)⟩
theorem PT_imp {t t' : TT} (h : PT X e t) (i : ∀ σ H Q, t' σ H Q → t σ H Q) : PT X e t' := ⟨fun pins s σ H Q I q => h.run pins s σ H Q I (i σ H Q q)⟩
theorem PW_imp {t t' : TT} (h : PW X e t) (i : ∀ σ H Q, t' σ H Q → t σ H Q) : PW X e t' := ⟨fun wh pins s σ H Q I q => h.run wh pins s σ H Q I (i σ H Q q)⟩
theorem PA_imp {es : List Expr} {t t' : TA} (h : PA X es t) (i : ∀ σ H Q, t' σ H Q → t σ H Q) : PA X es t' := ⟨fun po pins s σ H Q I q => h.run po pins s σ H Q I (i σ H Q q)⟩
theorem PS_imp {st : Stmt} {t t' : TS} (h : PS X st t) (i : ∀ D σ H, t' D σ H → t D σ H) : PS X st t' := ⟨fun pins s σ H D I q => h.run pins s σ H D I (i D σ H q)⟩
theorem PSs_imp {st : List Stmt} {t t' : TS} (h : PSs X st t) (i : ∀ D σ H, t' D σ H → t D σ H) : PSs X st t' := ⟨fun pins s σ H D I q => h.run pins s σ H D I (i D σ H q)⟩

/-! ### names, constants -/
def mVar (i : Nat) : ME := fun ρ w => match ρ[i]? with
  | some (some t) => .ok t w
  | _ => .no
def mC (t : T) : ME := fun _ w => .ok t w
theorem de_var (i : Nat) {x : Str} (hN : X.N[i]? = some x := by rfl) (hv : Vis X.env.scope x := by first | exact Or.inl rfl | exact Or.inr (Or.inl rfl) | exact Or.inr (Or.inr rfl)) (hd : (x == ("__debug__" : Str)) = false := by decide)
    (hcd : (x == ("__classdict__" : Str)) = false := by decide) : PE X (.Name x pos) (rdE (X.K, Z) W (mVar i)) := PE_imp (pe_var hN hv hd hcd) fun σ H Q => by
  rintro ⟨hd, φ, ρ, w, sr, wr, p⟩
  unfold mVar at p
  split at p
  · rename_i t ht
    obtain ⟨v, h1, h2⟩ := sr.get i t ht
    exact ⟨v, h1, p.ok wr v h2⟩
  · exact p.elim
theorem de_int {i : Int} {j : Nat} : PE X (.Constant (.int i) j pos) (rdE (X.K, Z) W (mC (.int i))) := PE_imp pe_int fun σ H Q => by
  rintro ⟨hd, φ, ρ, w, sr, wr, p⟩; exact p.ok wr _ (by unfold Rep; rfl)
theorem de_bl {b : Bool} {j : Nat} : PE X (.Constant (.bool b) j pos) (rdE (X.K, Z) W (mC (.bl b))) := PE_imp pe_bl fun σ H Q => by
  rintro ⟨hd, φ, ρ, w, sr, wr, p⟩; exact p.ok wr _ (by unfold Rep; rfl)
theorem de_non {j : Nat} : PE X (.Constant .none j pos) (rdE (X.K, Z) W (mC .non)) := PE_imp pe_non fun σ H Q => by
  rintro ⟨hd, φ, ρ, w, sr, wr, p⟩; exact p.ok wr _ (by unfold Rep; rfl)
theorem de_str {x : Str} {j : Nat} : PE X (.Constant (.str x) j pos) (rdE (X.K, Z) W (mC (.str x))) := PE_imp pe_str fun σ H Q => by
  rintro ⟨hd, φ, ρ, w, sr, wr, p⟩; exact p.ok wr _ (by unfold Rep; rfl)
/-- a constant of the module that is an int -/
theorem de_gint {x : Str} {i : Int} {u : Value} (hm : X.mg x = some u) (r : RelV (.int i) u) (hg : Gl X x := by rfl) (hd : (x == ("__debug__" : Str)) = false := by decide) : PE X (.Name x pos) (rdE (X.K, Z) W (mC (.int i))) := PE_imp (pe_glob hg hm r hd) fun σ H Q => by
  rintro ⟨hd, φ, ρ, w, sr, wr, p⟩; exact p.ok wr _ (by unfold Rep; rfl)
/-- a built-in type by its name -/
theorem de_gty {x : Str} {n : String} (hm : X.mg x = none) (hv : bootBuiltins x = some (.type n)) (hg : Gl X x := by rfl) (hn : x ≠ "__name__" := by decide) (hd : (x == ("__debug__" : Str)) = false := by decide) : PE X (.Name x pos) (rdE (X.K, Z) W (mC (.ty n))) := PE_imp (pe_bltn hg hm hv (v := .ty n) rfl hn hd) fun σ H Q => by
  rintro ⟨hd, φ, ρ, w, sr, wr, p⟩; exact p.ok wr _ (by unfold Rep; rfl)

/-! ### operators: by what they do to values -/
abbrev S2 := T → T → World → R T
def mOp2 (s : S2) (a b : ME) : ME := fun ρ w => (a ρ w).bind fun x w1 => (b ρ w1).bind fun y w2 => s x y w2
/-- what r asks is what s gives -/
def Op2 (K : KT) (s : S2) (r : R2) : Prop := ∀ (W : Option WX) hd φ H w dx dy x y Q, WR K hd φ H w → Rep K hd φ H dx x → Rep K hd φ H dy y → Pst K W hd (CE K hd Q) φ H (s dx dy w) → r x y H Q
theorem Op2.read {K : KT} {W : Option WX} {s : S2} {r : R2} (hs : Op2 K s r) {a b : ME} : ∀ σ H Q, rdE K W (mOp2 s a b) σ H Q → tOp r (rdE K W a) (rdE K W b) σ H Q := fun σ H Q => by
  rintro ⟨hd, φ, ρ, w, sr, wr, p⟩
  refine ⟨hd, φ, ρ, w, sr, wr, Pst.then isPst p fun dx w1 φ1 H1 e1 wr1 p1 x rx => ?_⟩
  refine ⟨hd, φ1, ρ, w1, sr.mono e1, wr1, Pst.then isPst p1 fun dy w2 φ2 H2 e2 wr2 p2 y ry => ?_⟩
  exact hs W hd φ2 H2 w2 dx dy x y Q wr2 (rx.mono e2) ry p2
theorem de_op {op : Operator} {r : R2} {s : S2} {ma mb : ME} (ho : OpR X (binaryOp op) r) (hs : Op2 (X.K, Z) s r) (ha : PE X a (rdE (X.K, Z) W ma)) (hb : PE X b (rdE (X.K, Z) W mb)) : PE X (.BinOp a op b pos) (rdE (X.K, Z) W (mOp2 s ma mb)) := PE_imp (pe_op ho ha hb) hs.read
theorem de_cmp {op : CmpOp} {r : R2} {s : S2} {ma mb : ME} (ho : OpR X (compareOp op) r) (hs : Op2 (X.K, Z) s r) (ha : PE X a (rdE (X.K, Z) W ma)) (hb : PE X b (rdE (X.K, Z) W mb)) (hm : behindInMarks op b = false) : PE X (.Compare a [op] [b] pos) (rdE (X.K, Z) W (mOp2 s ma mb)) := PE_imp (pe_cmpR ho ha hb hm) hs.read
theorem de_ix {r : R2} {s : S2} {ma mb : ME} (ho : IxR X r) (hs : Op2 (X.K, Z) s r) (ha : PE X a (rdE (X.K, Z) W ma)) (hb : PE X b (rdE (X.K, Z) W mb)) (hp : PlainIx b := by exact fun _ _ => rfl) : PE X (.Subscript a b pos) (rdE (X.K, Z) W (mOp2 s ma mb)) := PE_imp (pe_ix ho ha hb hp) hs.read
abbrev S1 := T → World → R T
def mOp1 (s : S1) (a : ME) : ME := fun ρ w => (a ρ w).bind s
def Op1 (K : KT) (s : S1) (r : V → Hp → VK → Prop) : Prop := ∀ (W : Option WX) hd φ H w dx x Q, WR K hd φ H w → Rep K hd φ H dx x → Pst K W hd (CE K hd Q) φ H (s dx w) → r x H Q
theorem de_un {op : UnaryOp} {r : V → Hp → VK → Prop} {s : S1} {ma : ME} (ho : UnR X (unaryOp op) r) (hs : Op1 (X.K, Z) s r) (ha : PE X a (rdE (X.K, Z) W ma)) : PE X (.UnaryOp op a pos) (rdE (X.K, Z) W (mOp1 s ma)) := PE_imp (pe_un ho ha) fun σ H Q => by
  rintro ⟨hd, φ, ρ, w, sr, wr, p⟩
  exact ⟨hd, φ, ρ, w, sr, wr, Pst.then isPst p fun dx w1 φ1 H1 e1 wr1 p1 x rx => hs W hd φ1 H1 w1 dx x Q wr1 rx p1⟩

/-! ### tests -/
/-- a value that is a bool -/
def asB : R T → R Bool := fun r => r.bind fun d w => match d with
  | .bl b => .ok b w
  | _ => .no
def toB : T → World → R Bool := fun d w => match d with
  | .bl b => .ok b w
  | _ => .no
theorem asB_bind {β : Type} {r : R T} {f : Bool → World → R β} : (asB r).bind f = r.bind fun d w => (toB d w).bind f := by cases r <;> rfl
def mTest (m : ME) : MT := fun ρ w => asB (m ρ w)
theorem test_read {K : KT} {W : Option WX} {m : ME} : ∀ σ H Q, rdT K W (mTest m) σ H Q → tTest (rdE K W m) σ H Q := fun σ H Q => by
  rintro ⟨hd, φ, ρ, w, sr, wr, p⟩
  refine ⟨hd, φ, ρ, w, sr, wr, Pst.then isPst p fun d w1 φ1 H1 e1 wr1 p1 v rv => ?_⟩
  cases d with
  | bl b => unfold Rep at rv; exact ⟨b, rv, p1.ok wr1⟩
  | _ => exact p1.elim
theorem dt_cmp {op : CmpOp} {r : R2} {s : S2} {ma mb : ME} (ho : OpR X (compareOp op) r) (hs : Op2 (X.K, Z) s r) (ha : PE X a (rdE (X.K, Z) W ma)) (hb : PE X b (rdE (X.K, Z) W mb)) (hm : behindInMarks op b = false) : PT X (.Compare a [op] [b] pos) (rdT (X.K, Z) W (mTest (mOp2 s ma mb))) :=
  PT_imp (pt_cmpR ho ha hb hm) fun σ H Q h => by
    have h := test_read σ H Q h
    exact hs.read σ H _ h
/-- a op1 b op2 c -/
def mChain (s s' : S2) (a b c : ME) : ME := fun ρ w => (a ρ w).bind fun x w1 => (b ρ w1).bind fun y w2 => (asB (s x y w2)).bind fun k w3 => if k = true then (c ρ w3).bind fun z w4 => s' y z w4 else .ok (.bl false) w3
theorem chain_read {K : KT} {W : Option WX} {s s' : S2} {r r' : R2} (hs : Op2 K s r) (hs' : Op2 K s' r') {a b c : ME} : ∀ σ H Q, rdE K W (mChain s s' a b c) σ H Q → tChain r r' (rdE K W a) (rdE K W b) (rdE K W c) σ H Q := fun σ H Q => by
  rintro ⟨hd, φ, ρ, w, sr, wr, p⟩
  refine ⟨hd, φ, ρ, w, sr, wr, Pst.then isPst p fun dx w1 φ1 H1 e1 wr1 p1 x rx => ?_⟩
  refine ⟨hd, φ1, ρ, w1, sr.mono e1, wr1, Pst.then isPst p1 fun dy w2 φ2 H2 e2 wr2 p2 y ry => ?_⟩
  refine hs W hd φ2 H2 w2 dx dy x y _ wr2 (rx.mono e2) ry ?_
  rw [asB_bind] at p2
  refine Pst.then isPst p2 fun d w3 φ3 H3 e3 wr3 p3 z rz => ?_
  · cases d with
    | bl k =>
      unfold Rep at rz
      refine ⟨k, rz, ?_⟩
      cases k with
      | true =>
        simp only [toB, bind_ok, if_true] at p3; rw [if_pos rfl]
        refine ⟨hd, φ3, ρ, w3, (sr.mono e1).mono (e2.trans e3), wr3, Pst.then isPst p3 fun dz w4 φ4 H4 e4 wr4 p4 z' rz' => ?_⟩
        exact hs' W hd φ4 H4 w4 dy dz y z' Q wr4 (ry.mono (e3.trans e4)) rz' p4
      | false =>
        simp only [toB, bind_ok, Bool.false_eq_true, if_false] at p3; rw [if_neg Bool.false_ne_true]
        exact p3.ok wr3 _ (by unfold Rep; rfl)
    | _ => exact p3.elim
theorem de_chain {op op' : CmpOp} {r r' : R2} {s s' : S2} {ma mb mc : ME} (ho : OpR X (compareOp op) r) (hs : Op2 (X.K, Z) s r) (ho' : OpR X (compareOp op') r') (hs' : Op2 (X.K, Z) s' r') (ha : PE X a (rdE (X.K, Z) W ma)) (hb : PE X b (rdE (X.K, Z) W mb)) (hc : PE X c (rdE (X.K, Z) W mc))
    (hm : lastMarks [op, op'] [b, c] = false := by with_unfolding_all rfl) : PE X (.Compare a [op, op'] [b, c] pos) (rdE (X.K, Z) W (mChain s s' ma mb mc)) := PE_imp (pe_chain ho ho' ha hb hc hm) (chain_read hs hs')
theorem dt_chain {op op' : CmpOp} {r r' : R2} {s s' : S2} {ma mb mc : ME} (ho : OpR X (compareOp op) r) (hs : Op2 (X.K, Z) s r) (ho' : OpR X (compareOp op') r') (hs' : Op2 (X.K, Z) s' r') (ha : PE X a (rdE (X.K, Z) W ma)) (hb : PE X b (rdE (X.K, Z) W mb)) (hc : PE X c (rdE (X.K, Z) W mc))
    (hm : lastMarks [op, op'] [b, c] = false := by with_unfolding_all rfl) : PT X (.Compare a [op, op'] [b, c] pos) (rdT (X.K, Z) W (mTest (mChain s s' ma mb mc))) := PT_imp (pt_chain ho ho' ha hb hc hm) fun σ H Q h => by
    have h := test_read σ H Q h
    exact chain_read hs hs' σ H _ h
/-- a sequence that is read -/
def seq? (w : World) : T → Option (List T)
  | .tup ts => some ts
  | .lst ts => some ts
  | .frz ts => some ts
  | .cell k => match w[k]? with
    | some (.lst ts) => some ts
    | _ => none
  | _ => none
variable {K : KT} {hd φ : List Addr} {H : Hp} {w : World}
theorem cell_at (wr : WR K hd φ H w) {k : Nat} {v : V} {c : Cell} (r : Rep K hd φ H (.cell k) v) (hc : w[k]? = some c) : ∃ a, v = .ref a ∧ φ[k]? = some a ∧ a ∈ φ ∧ CellR K hd φ H c a := by
  unfold Rep at r
  obtain ⟨a, e, hk⟩ := r
  exact ⟨a, e, hk, List.mem_of_getElem? hk, wr.cells k c a hc hk⟩
theorem seq_at (wr : WR K hd φ H w) {t : T} {v : V} {ts : List T} (r : Rep K hd φ H t v) (hs : seq? w t = some ts) : ∃ a xs, v = .ref a ∧ (SqL K.1 H a xs ∨ SqT K.1 H a xs) ∧ Reps K hd φ H ts xs := by
  cases t with
  | tup us =>
    cases hs
    unfold Rep at r
    obtain ⟨a, xs, e, n, rs⟩ := r
    exact ⟨a, xs, e, .inr (SqT.of n.1), rs⟩
  | lst us =>
    cases hs
    unfold Rep at r
    obtain ⟨a, xs, e, n, rs⟩ := r
    exact ⟨a, xs, e, .inl (SqL.of n.1), rs⟩
  | frz us =>
    cases hs
    unfold Rep at r
    obtain ⟨a, xs, e, n, rs⟩ := r
    rcases n with ⟨o, n, rfl | ⟨u, rfl⟩, _⟩ | n
    · exact ⟨a, xs, e, .inl (SqL.of n), rs⟩
    · exact ⟨a, xs, e, .inl (.inl (.inr ⟨u, n⟩)), rs⟩
    · rcases n with (n | ⟨_, n⟩) | n
      · cases n
      · cases n
      · exact ⟨a, xs, e, .inl (.inr n), rs⟩
  | cell k =>
    unfold seq? at hs
    simp only at hs
    split at hs
    · rename_i us hk
      cases hs
      obtain ⟨a, e, hk, _, xs, h1, h2⟩ := cell_at wr r hk
      exact ⟨a, xs, e, .inl (SqL.of h1), h2⟩
    · cases hs
  | _ => cases hs
def isEmp (w : World) : T → Option Bool
  | .cell k => match w[k]? with
    | some (.lst ts) => some ts.isEmpty
    | some (.dic kvs) => some kvs.isEmpty
    | _ => none
  | .dct ks _ => some ks.isEmpty
  | t => (seq? w t).map (·.isEmpty)
/-- a value's truth -/
def sTru : T → World → R Bool := fun t w => match t with
  | .non => .ok false w
  | .bl b => .ok b w
  | .int i => .ok (i != 0) w
  | t => match isEmp w t with
    | some b => .ok (!b) w
    | none => .no
theorem tru_at (wr : WR K hd φ H w) {t : T} {v : V} {b : Bool} {w' : World} (r : Rep K hd φ H t v) (hs : sTru t w = .ok b w') : TruV K.1 v H b ∧ w' = w := by
  have sq : ∀ ts, seq? w t = some ts → TruV K.1 v H (!ts.isEmpty) := fun ts h => by
    obtain ⟨a, xs, rfl, h1, h2⟩ := seq_at wr r h
    have e : ts.isEmpty = xs.isEmpty := by
      have := h2.len
      cases ts <;> cases xs <;> simp_all
    rcases h1 with h1 | h1
    · exact .inl ⟨xs, h1, by rw [e]⟩
    · exact .inr (.inl ⟨xs, h1, by rw [e]⟩)
  cases t with
  | non => unfold Rep at r; subst r; cases hs; exact ⟨rfl, rfl⟩
  | bl b => unfold Rep at r; subst r; cases hs; exact ⟨rfl, rfl⟩
  | int i => unfold Rep at r; subst r; cases hs; exact ⟨rfl, rfl⟩
  | str x => cases hs
  | ty x => cases hs
  | tup ts => cases hs; exact ⟨sq ts rfl, rfl⟩
  | lst ts => cases hs; exact ⟨sq ts rfl, rfl⟩
  | frz ts => cases hs; exact ⟨sq ts rfl, rfl⟩
  | rng n => cases hs
  | glb x => cases hs
  | exc x ks ts => cases hs
  | dct ks ts =>
    cases hs
    unfold Rep at r
    obtain ⟨a, vs, rfl, l, n, rs⟩ := r
    refine ⟨.inr (.inr ⟨ks.zip vs, n.1, ?_⟩), rfl⟩
    have := rs.len
    cases ks <;> cases vs <;> simp_all
  | cell k =>
    unfold sTru isEmp at hs
    simp only at hs
    cases q : w[k]? with
    | none => rw [q] at hs; cases hs
    | some c =>
      rw [q] at hs
      cases c with
      | lst ts => cases hs; exact ⟨sq ts (by unfold seq?; simp only [q]), rfl⟩
      | dic kvs =>
        cases hs
        obtain ⟨a, rfl, _, _, ys, h1, h2, h3⟩ := cell_at wr r q
        refine ⟨.inr (.inr ⟨ys, h1, ?_⟩), rfl⟩
        have e : ys.length = kvs.length := by simpa using congrArg List.length h2
        cases ys <;> cases kvs <;> simp_all
      | dit kvs => cases hs
      | obj x ks ts => cases hs
theorem sTru_ne {t u : T} {w w' : World} {ρ : Env} : sTru t w ≠ .ex u ρ w' := fun h => by
  unfold sTru at h
  split at h <;> first | cases h | (split at h <;> cases h)
def mTru (m : ME) : MT := fun ρ w => (m ρ w).bind sTru
theorem dt_tru {ma : ME} (ha : PE X a (rdE (X.K, Z) W ma)) (he : ∀ whole, isTrue a X.env whole = (do let v ← whole; standAt a.pos; holding [v] (truthy v)) := by exact fun _ => rfl) : PT X a (rdT (X.K, Z) W (mTru ma)) := PT_imp (pt_truth ha he) fun σ H Q => by
  rintro ⟨hd, φ, ρ, w, sr, wr, p⟩
  refine ⟨hd, φ, ρ, w, sr, wr, Pst.then isPst p fun d w1 φ1 H1 e1 wr1 p1 v rv => ?_⟩
  cases q : sTru d w1 with
  | no => rw [q] at p1; exact p1.elim
  | ex _ _ _ => exact absurd q sTru_ne
  | ok b w2 =>
    rw [q] at p1
    obtain ⟨h1, rfl⟩ := tru_at wr1 rv q
    exact ⟨b, h1, p1.ok wr1⟩
def mAnd (a b : MT) : MT := fun ρ w => (a ρ w).bind fun x w1 => if x = true then b ρ w1 else .ok false w1
def mOr (a b : MT) : MT := fun ρ w => (a ρ w).bind fun x w1 => if x = true then .ok true w1 else b ρ w1
def mNot (a : MT) : MT := fun ρ w => (a ρ w).bind fun x w1 => .ok (!x) w1
variable {rest : List Expr}
theorem dw_and1 {ma : MT} (ha : PT X a (rdT (X.K, Z) W ma)) : PW X (.BoolOp .And [a] pos) (rdT (X.K, Z) W ma) := pw_and1 ha
theorem dw_or1 {ma : MT} (ha : PT X a (rdT (X.K, Z) W ma)) : PW X (.BoolOp .Or [a] pos) (rdT (X.K, Z) W ma) := pw_or1 ha
theorem dw_and {ma mb : MT} (ha : PT X a (rdT (X.K, Z) W ma)) (hb : PW X (.BoolOp .And (b :: rest) pos) (rdT (X.K, Z) W mb)) : PW X (.BoolOp .And (a :: b :: rest) pos) (rdT (X.K, Z) W (mAnd ma mb)) := PW_imp (pw_and ha hb) fun σ H Q => by
  rintro ⟨hd, φ, ρ, w, sr, wr, p⟩
  refine ⟨hd, φ, ρ, w, sr, wr, Pst.then isPst p fun d w1 φ1 H1 e1 wr1 p1 => ?_⟩
  cases d with
  | true => show (if true = true then _ else _); rw [if_pos rfl] at p1 ⊢; exact ⟨hd, φ1, ρ, w1, sr.mono e1, wr1, p1⟩
  | false => show (if false = true then _ else _); rw [if_neg Bool.false_ne_true] at p1 ⊢; exact p1.ok wr1
theorem dw_or {ma mb : MT} (ha : PT X a (rdT (X.K, Z) W ma)) (hb : PW X (.BoolOp .Or (b :: rest) pos) (rdT (X.K, Z) W mb)) : PW X (.BoolOp .Or (a :: b :: rest) pos) (rdT (X.K, Z) W (mOr ma mb)) := PW_imp (pw_or ha hb) fun σ H Q => by
  rintro ⟨hd, φ, ρ, w, sr, wr, p⟩
  refine ⟨hd, φ, ρ, w, sr, wr, Pst.then isPst p fun d w1 φ1 H1 e1 wr1 p1 => ?_⟩
  cases d with
  | true => show (if true = true then _ else _); rw [if_pos rfl] at p1 ⊢; exact p1.ok wr1
  | false => show (if false = true then _ else _); rw [if_neg Bool.false_ne_true] at p1 ⊢; exact ⟨hd, φ1, ρ, w1, sr.mono e1, wr1, p1⟩
theorem dt_w {ma : MT} (h : PW X a (rdT (X.K, Z) W ma)) : PT X a (rdT (X.K, Z) W ma) := h.pt
theorem dt_not {ma : MT} (ha : PT X a (rdT (X.K, Z) W ma)) : PT X (.UnaryOp .Not a pos) (rdT (X.K, Z) W (mNot ma)) := PT_imp (pt_not ha) fun σ H Q => by
  rintro ⟨hd, φ, ρ, w, sr, wr, p⟩
  exact ⟨hd, φ, ρ, w, sr, wr, Pst.then isPst p fun d w1 φ1 H1 e1 wr1 p1 => p1.ok wr1⟩
/-! .. as values -/
def mAndV (a b : ME) : ME := fun ρ w => (a ρ w).bind fun x w1 => (sTru x w1).bind fun k w2 => if k = true then b ρ w2 else .ok x w2
def mOrV (a b : ME) : ME := fun ρ w => (a ρ w).bind fun x w1 => (sTru x w1).bind fun k w2 => if k = true then .ok x w2 else b ρ w2
def mNotV (a : ME) : ME := fun ρ w => (a ρ w).bind fun x w1 => (sTru x w1).bind fun k w2 => .ok (.bl (!k)) w2
theorem de_one {op : BoolOp} {t : TE} (h : PE X a t) : PE X (.BoolOp op [a] pos) t := pe_one h
theorem de_and {ma mb : ME} (ha : PE X a (rdE (X.K, Z) W ma)) (hb : PE X (.BoolOp .And (b :: rest) pos) (rdE (X.K, Z) W mb)) : PE X (.BoolOp .And (a :: b :: rest) pos) (rdE (X.K, Z) W (mAndV ma mb)) := PE_imp (pe_andT ha hb) fun σ H Q => by
  rintro ⟨hd, φ, ρ, w, sr, wr, p⟩
  refine ⟨hd, φ, ρ, w, sr, wr, Pst.then isPst p fun d w1 φ1 H1 e1 wr1 p1 v rv => ?_⟩
  cases q : sTru d w1 with
  | no => rw [q] at p1; exact p1.elim
  | ex _ _ _ => exact absurd q sTru_ne
  | ok k w2 =>
    rw [q] at p1
    obtain ⟨h1, rfl⟩ := tru_at wr1 rv q
    refine ⟨k, h1, ?_⟩
    rw [bind_ok] at p1
    cases k with
    | true => rw [if_pos rfl] at p1 ⊢; exact ⟨hd, φ1, ρ, _, sr.mono e1, wr1, p1⟩
    | false => rw [if_neg Bool.false_ne_true] at p1 ⊢; exact p1.ok wr1 v rv
theorem de_or {ma mb : ME} (ha : PE X a (rdE (X.K, Z) W ma)) (hb : PE X (.BoolOp .Or (b :: rest) pos) (rdE (X.K, Z) W mb)) : PE X (.BoolOp .Or (a :: b :: rest) pos) (rdE (X.K, Z) W (mOrV ma mb)) := PE_imp (pe_orT ha hb) fun σ H Q => by
  rintro ⟨hd, φ, ρ, w, sr, wr, p⟩
  refine ⟨hd, φ, ρ, w, sr, wr, Pst.then isPst p fun d w1 φ1 H1 e1 wr1 p1 v rv => ?_⟩
  cases q : sTru d w1 with
  | no => rw [q] at p1; exact p1.elim
  | ex _ _ _ => exact absurd q sTru_ne
  | ok k w2 =>
    rw [q] at p1
    obtain ⟨h1, rfl⟩ := tru_at wr1 rv q
    refine ⟨k, h1, ?_⟩
    rw [bind_ok] at p1
    cases k with
    | true => rw [if_pos rfl] at p1 ⊢; exact p1.ok wr1 v rv
    | false => rw [if_neg Bool.false_ne_true] at p1 ⊢; exact ⟨hd, φ1, ρ, _, sr.mono e1, wr1, p1⟩
theorem de_not {ma : ME} (ha : PE X a (rdE (X.K, Z) W ma)) : PE X (.UnaryOp .Not a pos) (rdE (X.K, Z) W (mNotV ma)) := PE_imp (pe_notT ha) fun σ H Q => by
  rintro ⟨hd, φ, ρ, w, sr, wr, p⟩
  refine ⟨hd, φ, ρ, w, sr, wr, Pst.then isPst p fun d w1 φ1 H1 e1 wr1 p1 v rv => ?_⟩
  cases q : sTru d w1 with
  | no => rw [q] at p1; exact p1.elim
  | ex _ _ _ => exact absurd q sTru_ne
  | ok k w2 =>
    rw [q] at p1
    obtain ⟨h1, rfl⟩ := tru_at wr1 rv q
    exact ⟨k, h1, p1.ok wr1 _ (by unfold Rep; rfl)⟩
def mIf (c : MT) (a b : ME) : ME := fun ρ w => (c ρ w).bind fun k w1 => if k = true then a ρ w1 else b ρ w1
theorem de_if {mc : MT} {ma mb : ME} (hc : PT X c (rdT (X.K, Z) W mc)) (ha : PE X a (rdE (X.K, Z) W ma)) (hb : PE X b (rdE (X.K, Z) W mb)) : PE X (.IfExp c a b pos) (rdE (X.K, Z) W (mIf mc ma mb)) := PE_imp (pe_ifExp hc ha hb) fun σ H Q => by
  rintro ⟨hd, φ, ρ, w, sr, wr, p⟩
  refine ⟨hd, φ, ρ, w, sr, wr, Pst.then isPst p fun k w1 φ1 H1 e1 wr1 p1 => ?_⟩
  cases k with
  | true => show (if true = true then _ else _); rw [if_pos rfl] at p1 ⊢; exact ⟨hd, φ1, ρ, w1, sr.mono e1, wr1, p1⟩
  | false => show (if false = true then _ else _); rw [if_neg Bool.false_ne_true] at p1 ⊢; exact ⟨hd, φ1, ρ, w1, sr.mono e1, wr1, p1⟩

/-! ### arguments, displays, new lists -/
variable {es : List Expr}
def mNil : MF := fun _ w => .ok [] w
def mCons (a : ME) (r : MF) : MF := fun ρ w => (a ρ w).bind fun x w1 => (r ρ w1).bind fun xs w2 => .ok (x :: xs) w2
theorem da_nil : PA X [] (rdA (X.K, Z) W mNil) := PA_imp pa_nil fun σ H Q => by
  rintro ⟨hd, φ, ρ, w, sr, wr, p⟩
  exact p.ok wr _ Reps.nil
theorem da_cons {ma : ME} {mr : MF} (ha : PE X a (rdE (X.K, Z) W ma)) (hr : PA X es (rdA (X.K, Z) W mr)) (hs : starEach (a :: es) X.env = (false, eval a X.env) :: starEach es X.env := by rfl) : PA X (a :: es) (rdA (X.K, Z) W (mCons ma mr)) := PA_imp (pa_cons ha hr hs) fun σ H Q => by
  rintro ⟨hd, φ, ρ, w, sr, wr, p⟩
  refine ⟨hd, φ, ρ, w, sr, wr, Pst.then isPst p fun x w1 φ1 H1 e1 wr1 p1 v rv => ?_⟩
  refine ⟨hd, φ1, ρ, w1, sr.mono e1, wr1, Pst.then isPst p1 fun xs w2 φ2 H2 e2 wr2 p2 vs rvs => ?_⟩
  exact p2.ok wr2 _ (Reps.cons (rv.mono e2) rvs)
def mTup (m : MF) : ME := fun ρ w => (m ρ w).bind fun ts w1 => if ts.length ≤ sizeLine then .ok (.tup ts) w1 else .no
theorem de_tup {x1 : Nat} {m : MF} (h : PA X es (rdA (X.K, Z) W m)) : PE X (.Tuple es x1 pos) (rdE (X.K, Z) W (mTup m)) := PE_imp (pe_tup h) fun σ H Q => by
  rintro ⟨hd, φ, ρ, w, sr, wr, p⟩
  refine ⟨hd, φ, ρ, w, sr, wr, Pst.then isPst p fun xs w1 φ1 H1 e1 wr1 p1 vs rvs => ?_⟩
  split at p1
  · rename_i hl
    refine ⟨by rw [← rvs.len]; exact hl, fun q hq => ?_⟩
    refine p1 (upd H1 q (.tup vs)) φ1 (Ext.new hq) (wr1.new hq) _ ?_
    unfold Rep
    exact ⟨q, vs, rfl, ⟨upd_same, wr1.nin hq⟩, rvs.mono (Ext.new hq)⟩
  · exact p1.elim
def mLst (m : MF) : MF := fun ρ w => (m ρ w).bind fun ts w1 => if ts.length ≤ sizeLine then .ok ts w1 else .no
theorem df_lst {m : MF} (h : PA X es (rdA (X.K, Z) W m)) : PE X (.List es pos) (rdF (X.K, Z) W (mLst m)) := PE_imp (pe_lst h) fun σ H Q => by
  rintro ⟨hd, φ, ρ, w, sr, wr, p⟩
  refine ⟨hd, φ, ρ, w, sr, wr, Pst.then isPstF p fun xs w1 φ1 H1 e1 wr1 p1 vs rvs => ?_⟩
  split at p1
  · rename_i hl
    refine ⟨by rw [← rvs.len]; exact hl, fun q hq => ?_⟩
    exact p1 q vs (upd H1 q (.lst vs)) φ1 (Ext.hold hq) (wr1.hold hq) (fr0_none hq) (wr1.nin hq).2 upd_same (rvs.mono (Ext.hold hq))
  · exact p1.elim
/-- a new list as a value that stays as it is -/
def mVal (m : MF) : ME := fun ρ w => (m ρ w).bind fun ts w1 => .ok (.lst ts) w1
theorem de_val {m : MF} (h : PE X e (rdF (X.K, Z) W m)) : PE X e (rdE (X.K, Z) W (mVal m)) := PE_imp h fun σ H Q => by
  rintro ⟨hd, φ, ρ, w, sr, wr, p⟩
  refine ⟨hd, φ, ρ, w, sr, wr, ?_⟩
  unfold mVal at p
  cases q : m ρ w with
  | no => rw [q] at p; exact p
  | ex _ _ _ => rw [q] at p; exact p
  | ok ts w1 =>
    rw [q] at p
    intro a xs H' φ' e1 wr1 hn ha hx rs
    refine p H' φ' e1.free wr1.free _ ?_
    unfold Rep
    exact ⟨a, xs, rfl, ⟨hx, fun z => wr1.apart a z List.mem_cons_self, ha⟩, rs.free⟩
/-- a new list as a cell -/
def mCell (m : MF) : ME := fun ρ w => (m ρ w).bind fun ts w1 => .ok (.cell w1.length) (w1 ++ [.lst ts])
theorem de_cell {m : MF} (h : PE X e (rdF (X.K, Z) W m)) : PE X e (rdE (X.K, Z) W (mCell m)) := PE_imp h fun σ H Q => by
  rintro ⟨hd, φ, ρ, w, sr, wr, p⟩
  refine ⟨hd, φ, ρ, w, sr, wr, ?_⟩
  unfold mCell at p
  cases q : m ρ w with
  | no => rw [q] at p; exact p
  | ex _ _ _ => rw [q] at p; exact p
  | ok ts w1 =>
    rw [q] at p
    intro a xs H' φ' e1 wr1 hn ha hx rs
    refine p H' (φ' ++ [a]) (e1.cell hn) (wr1.cell ha ⟨xs, hx, rs⟩) _ ?_
    unfold Rep
    refine ⟨a, rfl, ?_⟩
    rw [← wr1.len, List.getElem?_append_right (Nat.le_refl _)]
    simp
end
theorem SR.free {K : KT} {hd φ : List Addr} {H : Hp} {σ : L2.St} {ρ : Env} {p : Addr} (h : SR K (p :: hd) φ H σ ρ) : SR K hd φ H σ ρ := ⟨h.len, fun i t ht => by
  obtain ⟨v, h1, h2⟩ := h.get i t ht
  exact ⟨v, h1, h2.free⟩⟩
theorem NdX.free {hd φ : List Addr} {H : Hp} {p a : Addr} {o : HO} (h : NdX (p :: hd) φ H a o) : NdX hd φ H a o := ⟨h.1, h.2.1, fun z => h.2.2 (List.mem_cons_of_mem _ z)⟩
theorem RepX.free {K : KT} {hd φ : List Addr} {H : Hp} {p : Addr} {t : T} {cls : Value} {d : Option Addr} (h : RepX K (p :: hd) φ H t cls d) : RepX K hd φ H t cls d := by
  obtain ⟨x, ks, ts, C, e1, e2, g, q⟩ := h
  refine ⟨x, ks, ts, C, e1, e2, g, ?_⟩
  rcases q with q | ⟨dd, vs, e3, l, n, r⟩
  · exact .inl q
  · exact .inr ⟨dd, vs, e3, l, n.free, r.free⟩
/-- a thing made beside, held apart -/
theorem PstX.hold {K : KT} {W : Option WX} {hd φ : List Addr} {H : Hp} {t : T} {ρ : Env} {w : World} {l : Addr} {o : HO} (hl : H l = none) (p : PstX K W hd φ H t ρ w) : PstX K W (l :: hd) φ (upd H l o) t ρ w := by
  cases W with
  | none => exact p
  | some W => intro H' φ' σ' e wr sr cls d rx; exact p H' φ' σ' ((Ext.hold hl).trans e).free wr.free sr.free cls d rx.free
end VS

set_option Elab.async false
set_option linter.all false
set_option maxRecDepth 100000
set_option maxHeartbeats 2000000
namespace VS
open PySem PySem.Spec PyProof.Rows L2
section
variable {X : Cx} {e a b c : Expr} {pos : Pos} {es : List Expr} {x : Str} {p : Pos} {Z : List (Addr × Str)} {W : Option WX}

/-! ### calls of built-ins -/
abbrev SC := List T → World → R T
abbrev SCF := List T → World → R (List T)
def mCall (s : SC) (m : MF) : ME := fun ρ w => (m ρ w).bind s
def mCallF (s : SCF) (m : MF) : MF := fun ρ w => (m ρ w).bind s
def OpC (K : KT) (s : SC) (r : List V → Hp → VK → Prop) : Prop := ∀ (W : Option WX) hd φ H w ds xs Q, WR K hd φ H w → Reps K hd φ H ds xs → Pst K W hd (CE K hd Q) φ H (s ds w) → r xs H Q
def OpCF (K : KT) (s : SCF) (r : List V → Hp → VK → Prop) : Prop := ∀ (W : Option WX) hd φ H w ds xs Q, WR K hd φ H w → Reps K hd φ H ds xs → PstF K W hd Q φ H (s ds w) → r xs H Q
theorem OpC.read {K : KT} {W : Option WX} {s : SC} {r : List V → Hp → VK → Prop} (hs : OpC K s r) {m : MF} : ∀ σ H Q, rdE K W (mCall s m) σ H Q → tCB r (rdA K W m) σ H Q := fun σ H Q => by
  rintro ⟨hd, φ, ρ, w, sr, wr, q⟩
  exact ⟨hd, φ, ρ, w, sr, wr, Pst.then isPst q fun ds w1 φ1 H1 e1 wr1 p1 xs rx => hs W hd φ1 H1 w1 ds xs Q wr1 rx p1⟩
theorem OpCF.read {K : KT} {W : Option WX} {s : SCF} {r : List V → Hp → VK → Prop} (hs : OpCF K s r) {m : MF} : ∀ σ H Q, rdF K W (mCallF s m) σ H Q → tCB r (rdA K W m) σ H Q := fun σ H Q => by
  rintro ⟨hd, φ, ρ, w, sr, wr, q⟩
  exact ⟨hd, φ, ρ, w, sr, wr, Pst.then isPstF q fun ds w1 φ1 H1 e1 wr1 p1 xs rx => hs W hd φ1 H1 w1 ds xs Q wr1 rx p1⟩
theorem de_callB {id : String} {s : SC} {r : List V → Hp → VK → Prop} {m : MF} (hc : CallR X (.builtin id) r) (hs : OpC (X.K, Z) s r) (hm : X.mg x = none) (hv : bootBuiltins x = some (.builtin id)) (ha : PA X (e :: es) (rdA (X.K, Z) W m)) (hg : Gl X x := by rfl) (hn : x ≠ "__name__" := by decide) (hdb : (x == ("__debug__" : Str)) = false := by decide)
    (he : starEach (e :: es) X.env = (false, eval e X.env) :: starEach es X.env := by rfl) (hpl : (backTo pos (starEach es X.env)).any (·.1) = false := by rfl) : PE X (.Call (.Name x p) (e :: es) [] pos) (rdE (X.K, Z) W (mCall s m)) := PE_imp (pe_callB hc hg hm hv ha hn hdb he hpl) hs.read
theorem df_callB {id : String} {s : SCF} {r : List V → Hp → VK → Prop} {m : MF} (hc : CallR X (.builtin id) r) (hs : OpCF (X.K, Z) s r) (hm : X.mg x = none) (hv : bootBuiltins x = some (.builtin id)) (ha : PA X (e :: es) (rdA (X.K, Z) W m)) (hg : Gl X x := by rfl) (hn : x ≠ "__name__" := by decide) (hdb : (x == ("__debug__" : Str)) = false := by decide)
    (he : starEach (e :: es) X.env = (false, eval e X.env) :: starEach es X.env := by rfl) (hpl : (backTo pos (starEach es X.env)).any (·.1) = false := by rfl) : PE X (.Call (.Name x p) (e :: es) [] pos) (rdF (X.K, Z) W (mCallF s m)) := PE_imp (pe_callB hc hg hm hv ha hn hdb he hpl) hs.read
theorem de_callTy {id : String} {s : SC} {r : List V → Hp → VK → Prop} {m : MF} (hc : CallR X (.type id) r) (hs : OpC (X.K, Z) s r) (hm : X.mg x = none) (hv : bootBuiltins x = some (.type id)) (ha : PA X (e :: es) (rdA (X.K, Z) W m)) (hg : Gl X x := by rfl) (hn : x ≠ "__name__" := by decide) (hdb : (x == ("__debug__" : Str)) = false := by decide)
    (he : starEach (e :: es) X.env = (false, eval e X.env) :: starEach es X.env := by rfl) (hpl : (backTo pos (starEach es X.env)).any (·.1) = false := by rfl) : PE X (.Call (.Name x p) (e :: es) [] pos) (rdE (X.K, Z) W (mCall s m)) := PE_imp (pe_callTy hc hg hm hv ha hn hdb he hpl) hs.read
theorem df_callTy {id : String} {s : SCF} {r : List V → Hp → VK → Prop} {m : MF} (hc : CallR X (.type id) r) (hs : OpCF (X.K, Z) s r) (hm : X.mg x = none) (hv : bootBuiltins x = some (.type id)) (ha : PA X (e :: es) (rdA (X.K, Z) W m)) (hg : Gl X x := by rfl) (hn : x ≠ "__name__" := by decide) (hdb : (x == ("__debug__" : Str)) = false := by decide)
    (he : starEach (e :: es) X.env = (false, eval e X.env) :: starEach es X.env := by rfl) (hpl : (backTo pos (starEach es X.env)).any (·.1) = false := by rfl) : PE X (.Call (.Name x p) (e :: es) [] pos) (rdF (X.K, Z) W (mCallF s m)) := PE_imp (pe_callTy hc hg hm hv ha hn hdb he hpl) hs.read
/-- operators whose end is a new list -/
abbrev S2F := T → T → World → R (List T)
def mOp2F (s : S2F) (a b : ME) : MF := fun ρ w => (a ρ w).bind fun x w1 => (b ρ w1).bind fun y w2 => s x y w2
def Op2F (K : KT) (s : S2F) (r : R2) : Prop := ∀ (W : Option WX) hd φ H w dx dy x y Q, WR K hd φ H w → Rep K hd φ H dx x → Rep K hd φ H dy y → PstF K W hd Q φ H (s dx dy w) → r x y H Q
theorem Op2F.read {K : KT} {W : Option WX} {s : S2F} {r : R2} (hs : Op2F K s r) {a b : ME} : ∀ σ H Q, rdF K W (mOp2F s a b) σ H Q → tOp r (rdE K W a) (rdE K W b) σ H Q := fun σ H Q => by
  rintro ⟨hd, φ, ρ, w, sr, wr, p⟩
  refine ⟨hd, φ, ρ, w, sr, wr, Pst.then isPstF p fun dx w1 φ1 H1 e1 wr1 p1 x rx => ?_⟩
  refine ⟨hd, φ1, ρ, w1, sr.mono e1, wr1, Pst.then isPstF p1 fun dy w2 φ2 H2 e2 wr2 p2 y ry => ?_⟩
  exact hs W hd φ2 H2 w2 dx dy x y Q wr2 (rx.mono e2) ry p2
theorem df_op {op : Operator} {r : R2} {s : S2F} {ma mb : ME} (ho : OpR X (binaryOp op) r) (hs : Op2F (X.K, Z) s r) (ha : PE X a (rdE (X.K, Z) W ma)) (hb : PE X b (rdE (X.K, Z) W mb)) : PE X (.BinOp a op b pos) (rdF (X.K, Z) W (mOp2F s ma mb)) := PE_imp (pe_op ho ha hb) hs.read

/-! ### calls of defs -/
abbrev Sem := List T → World → R T
def spOf (K : KT) (n : Nat) (f : Sem) : Sp := fun vs H Q E => ∃ hd φ w ds, ds.length = n ∧ WR K hd φ H w ∧ Reps K hd φ H ds vs ∧ Pst K (some fun cls d _ H' => E cls d H') hd (CE K hd Q) φ H (f ds w)
/-- an error of a callee is in the caller's slots -/
def R.at {α : Type} (ρ : Env) : R α → R α
  | .ex t _ w => .ex t ρ w
  | r => r
theorem at_ok {α : Type} {a : α} {w : World} {ρ : Env} : (R.ok a w).at ρ = .ok a w := rfl
theorem at_ex {α : Type} {t : T} {w : World} {ρ ρ' : Env} : (R.ex t ρ' w : R α).at ρ = .ex t ρ w := rfl
theorem at_no {α : Type} {ρ : Env} : (R.no : R α).at ρ = .no := rfl
def TakesO (X : Cx) : Option WX → Prop
  | none => True
  | some W => Takes X W
def wE : Option WX → L2.St → XK
  | none, _ => fun _ _ _ => False
  | some W, σ => fun cls d H => W cls d σ H
theorem passO {X : Cx} {W : Option WX} (tk : TakesO X W) (σ : L2.St) : PassesAt (L2.CX X.prog X.w) X σ (wE W σ) := by
  cases W with
  | some W => exact passAt tk σ
  | none =>
    intro pins H s e s' I c
    obtain ⟨_, _, _, _, _, _, _, _, _, _, _, _, z⟩ := c
    exact z.elim
/-- what a callee gives is what the caller wishes -/
theorem Pst.callee {α : Type} {K : KT} {W : Option WX} {hd φ : List Addr} {H : Hp} {σ : L2.St} {ρ : Env} {C : α → List Addr → Hp → Prop} {r : R α} (sr : SR K hd φ H σ ρ) (p : Pst K W hd C φ H (r.at ρ)) : Pst K (some fun cls d _ H' => wE W σ cls d H') hd C φ H r := by
  cases r with
  | ok d w => exact p
  | no => exact p
  | ex t ρ' w =>
    cases W with
    | none => exact p.elim
    | some W => intro H' φ' σ' e wr _ cls d rx; exact p H' φ' σ e wr (sr.mono e) cls d rx
theorem spOf_len {K : KT} {n : Nat} {f : Sem} : ∀ vs H Q E, spOf K n f vs H Q E → vs.length = n := by
  rintro vs H Q E ⟨hd, φ, w, ds, l, _, r, _⟩
  rw [← r.len, l]
def mDef (n : Nat) (f : Sem) (m : MF) : ME := fun ρ w => (m ρ w).bind fun ds w1 => if ds.length = n then (f ds w1).at ρ else .no
theorem def_read {K : KT} {W : Option WX} {n : Nat} {f : Sem} {m : MF} : ∀ σ H Q, rdE K W (mDef n f m) σ H Q → tCallS (spOf K n f) (wE W) (rdA K W m) σ H Q := fun σ H Q => by
  rintro ⟨hd, φ, ρ, w, sr, wr, q⟩
  refine ⟨hd, φ, ρ, w, sr, wr, Pst.then isPst q fun ds w1 φ1 H1 e1 wr1 p1 xs rx => ?_⟩
  split at p1
  · rename_i hl
    exact ⟨hd, φ1, w1, ds, hl, wr1, rx, p1.callee (sr.mono e1)⟩
  · exact p1.elim
/-- a def as it stands behind the top, and what it is worth -/
structure Df (P : Program) (w : PySem.World) (K : PySem.W.Frag) (Z : List (Addr × Str)) (mg : Str → Option Value) (base : Heap) (k : Nat) (x : Str) (ps : List Str) (f : Sem) : Prop where
  ex : ∃ (ad : Addr) (fd : FuncData), FnOk P w K mg base (L2.CX P w) k ad fd ps (spOf (K, Z) ps.length f) ∧ mg x = some (.ref ad) ∧ PySem.W.keepIn K (.ref ad) = true ∧ Binds K fd ps []
theorem de_def {k n : Nat} {ps : List Str} {f : Sem} {m : MF} (F : Df X.prog X.w X.K Z X.mg X.base k x ps f) (tk : TakesO X W) (hr : Room k X.A) (ha : PA X (e :: es) (rdA (X.K, Z) W m)) (hn : ps.length = n := by rfl) (hg : Gl X x := by rfl) (hdb : (x == ("__debug__" : Str)) = false := by decide)
    (he : starEach (e :: es) X.env = (false, eval e X.env) :: starEach es X.env := by rfl) (hpl : (backTo pos (starEach es X.env)).any (·.1) = false := by rfl) : PE X (.Call (.Name x p) (e :: es) [] pos) (rdE (X.K, Z) W (mDef n f m)) := by
  subst hn
  obtain ⟨ad, fd, ok, hm, hk, hb⟩ := F.ex
  exact PE_imp (pe_callS (E := wE W) ok hr hg hm hk hb (passO tk) ha hdb he hpl) def_read

/-! ### statements -/
inductive Fl where
  | nx | ret (t : T) | bk | ct
abbrev MS := Env → World → R (Env × Fl)
abbrev CS (K : KT) (hd : List Addr) (D : Ends) : Env × Fl → List Addr → Hp → Prop := fun r φ' H' => match r.2 with
  | .nx => ∀ σ', SR K hd φ' H' σ' r.1 → D.nx σ' H'
  | .ret t => ∀ v, Rep K hd φ' H' t v → D.rt v H'
  | .bk => ∀ σ', SR K hd φ' H' σ' r.1 → D.bk σ' H'
  | .ct => ∀ σ', SR K hd φ' H' σ' r.1 → D.ct σ' H'
def rdS (K : KT) (W : Option WX) (m : MS) : TS := fun D σ H => ∃ hd φ ρ w, SR K hd φ H σ ρ ∧ WR K hd φ H w ∧ Pst K W hd (CS K hd D) φ H (m ρ w)
def mSkip : MS := fun ρ w => .ok (ρ, .nx) w
def mSeq (a b : MS) : MS := fun ρ w => (a ρ w).bind fun r w1 => match r.2 with
  | .nx => b r.1 w1
  | _ => .ok r w1
variable {st : Stmt} {rest : List Stmt} {m1 m2 : MS}
theorem ds_nil : PSs X [] (rdS (X.K, Z) W mSkip) := PSs_imp pss_nil fun D σ H => by
  rintro ⟨hd, φ, ρ, w, sr, wr, p⟩
  exact p.ok wr σ sr
theorem ds_one (h : PS X st (rdS (X.K, Z) W m1)) : PSs X [st] (rdS (X.K, Z) W m1) := pss_one h
theorem ds_cons (h1 : PS X st (rdS (X.K, Z) W m1)) (h2 : PSs X rest (rdS (X.K, Z) W m2)) : PSs X (st :: rest) (rdS (X.K, Z) W (mSeq m1 m2)) := PSs_imp (pss_cons h1 h2) fun D σ H => by
  rintro ⟨hd, φ, ρ, w, sr, wr, p⟩
  refine ⟨hd, φ, ρ, w, sr, wr, Pst.then isPst p fun r w1 φ1 H1 e1 wr1 p1 => ?_⟩
  obtain ⟨ρ1, fl⟩ := r
  cases fl with
  | nx => exact fun σ1 sr1 => ⟨hd, φ1, ρ1, w1, sr1, wr1, p1⟩
  | ret t => exact p1.ok wr1
  | bk => exact p1.ok wr1
  | ct => exact p1.ok wr1
theorem ds_never : PS X st (rdS (X.K, Z) W fun _ _ => .no) := PS_imp ps_never fun D σ H => by
  rintro ⟨hd, φ, ρ, w, sr, wr, p⟩
  exact p.elim
def mRet (m : ME) : MS := fun ρ w => (m ρ w).bind fun t w1 => .ok (ρ, .ret t) w1
theorem ds_ret {m : ME} (h : PE X e (rdE (X.K, Z) W m)) : PS X (.Return (some e) pos) (rdS (X.K, Z) W (mRet m)) := PS_imp (ps_ret h) fun D σ H => by
  rintro ⟨hd, φ, ρ, w, sr, wr, p⟩
  exact ⟨hd, φ, ρ, w, sr, wr, Pst.then isPst p fun t w1 φ1 H1 e1 wr1 p1 => p1.ok wr1⟩
def mDrop (m : ME) : MS := fun ρ w => (m ρ w).bind fun _ w1 => .ok (ρ, .nx) w1
theorem ds_expr {m : ME} (h : PE X e (rdE (X.K, Z) W m)) (hs : swapsWith e none pos.line X.env = pure false := by rfl) : PS X (.Expr e pos) (rdS (X.K, Z) W (mDrop m)) := PS_imp (ps_expr h hs) fun D σ H => by
  rintro ⟨hd, φ, ρ, w, sr, wr, p⟩
  exact ⟨hd, φ, ρ, w, sr, wr, Pst.then isPst p fun t w1 φ1 H1 e1 wr1 p1 v _ => p1.ok wr1 σ (sr.mono e1)⟩
def mIfS (c : MT) (a b : MS) : MS := fun ρ w => (c ρ w).bind fun k w1 => if k = true then a ρ w1 else b ρ w1
theorem ds_if {mc : MT} {as bs : List Stmt} (hc : PT X c (rdT (X.K, Z) W mc)) (ha : PSs X as (rdS (X.K, Z) W m1)) (hb : PSs X bs (rdS (X.K, Z) W m2)) : PS X (.If c as bs pos) (rdS (X.K, Z) W (mIfS mc m1 m2)) := PS_imp (ps_if hc ha hb) fun D σ H => by
  rintro ⟨hd, φ, ρ, w, sr, wr, p⟩
  refine ⟨hd, φ, ρ, w, sr, wr, Pst.then isPst p fun k w1 φ1 H1 e1 wr1 p1 => ?_⟩
  cases k with
  | true => show (if true = true then _ else _); rw [if_pos rfl] at p1 ⊢; exact ⟨hd, φ1, ρ, w1, sr.mono e1, wr1, p1⟩
  | false => show (if false = true then _ else _); rw [if_neg Bool.false_ne_true] at p1 ⊢; exact ⟨hd, φ1, ρ, w1, sr.mono e1, wr1, p1⟩
theorem ds_break : PS X (.Break pos) (rdS (X.K, Z) W fun ρ w => .ok (ρ, .bk) w) := PS_imp ps_break fun D σ H => by
  rintro ⟨hd, φ, ρ, w, sr, wr, p⟩
  exact p.ok wr σ sr
theorem ds_continue : PS X (.Continue pos) (rdS (X.K, Z) W fun ρ w => .ok (ρ, .ct) w) := PS_imp ps_continue fun D σ H => by
  rintro ⟨hd, φ, ρ, w, sr, wr, p⟩
  exact p.ok wr σ sr

/-! ### targets -/
abbrev MG := T → Env → World → R Env
abbrev CG (K : KT) (hd : List Addr) (S : List Nat) (σ : L2.St) (Q : L2.St → Hp → Prop) : Env → List Addr → Hp → Prop := fun ρ' φ' H' => ∀ σ', SR K hd φ' H' σ' ρ' → (∀ vs : List Nat, (∀ i ∈ S, i ∈ vs) → wipe σ' vs = wipe σ vs) → Q σ' H'
def rdG (K : KT) (W : Option WX) (g : MG) (S : List Nat) : TG := fun v σ H Q => ∃ hd φ ρ w t, SR K hd φ H σ ρ ∧ WR K hd φ H w ∧ Rep K hd φ H t v ∧ Pst K W hd (CG K hd S σ Q) φ H (g t ρ w)
theorem PG_imp {tg : Expr} {t t' : TG} (h : PG X tg t) (i : ∀ v σ H Q, t' v σ H Q → t v σ H Q) : PG X tg t' := ⟨fun pins s σ H v u Q I r q => h.run pins s σ H v u Q I r (i v σ H Q q)⟩
theorem PGs_imp {tg : List Expr} {t t' : TGs} (h : PGs X tg t) (i : ∀ v σ H Q, t' v σ H Q → t v σ H Q) : PGs X tg t' := ⟨fun pins s σ H v u Q I r q => h.run pins s σ H v u Q I r (i v σ H Q q)⟩
theorem wipe_get {σ : L2.St} (vs : List Nat) (i : Nat) : (wipe σ vs)[i]? = if i ∈ vs ∧ i < σ.length then some none else σ[i]? := by
  induction vs with
  | nil => simp [wipe]
  | cons v vs ih =>
    unfold wipe
    rw [List.getElem?_set, wipe_length]
    by_cases h : v = i
    · subst h
      by_cases hl : v < σ.length
      · rw [if_pos rfl, if_pos hl, if_pos ⟨List.mem_cons_self, hl⟩]
      · rw [if_pos rfl, if_neg hl, if_neg (fun z => hl z.2), List.getElem?_eq_none (by omega)]
    · rw [if_neg h, ih]
      have e : (i ∈ v :: vs ∧ i < σ.length) ↔ (i ∈ vs ∧ i < σ.length) := by
        rw [List.mem_cons]
        constructor
        · rintro ⟨z | z, l⟩
          · exact absurd z.symm h
          · exact ⟨z, l⟩
        · rintro ⟨z, l⟩; exact ⟨.inr z, l⟩
      simp only [e]
theorem wipe_set {σ : L2.St} {vs : List Nat} {i : Nat} {o : Option V} (h : i ∈ vs) : wipe (σ.set i o) vs = wipe σ vs := by
  apply List.ext_getElem?
  intro j
  rw [wipe_get, wipe_get, List.length_set, List.getElem?_set]
  by_cases e : i = j
  · subst e
    by_cases hl : i < σ.length
    · rw [if_pos ⟨h, hl⟩, if_pos ⟨h, hl⟩]
    · have e2 : σ[i]? = none := List.getElem?_eq_none (by omega)
      simp [hl, e2]
  · rw [if_neg e]
def mgName (i : Nat) : MG := fun t ρ w => .ok (ρ.set i (some t)) w
theorem dg_name (i : Nat) {x : Str} (hN : X.N.Nodup) (hi : X.N[i]? = some x := by rfl) (hx : Loc X.env.scope x := by first | exact .inl rfl | exact .inr rfl) (hf : X.fn x = true ∨ X.env.scope.names.lookup x = some .local := by first | exact .inl rfl | exact .inr rfl | assumption) : PG X (.Name x pos) (rdG (X.K, Z) W (mgName i) [i]) := PG_imp (pg_name hN hi hx hf) fun v σ H Q => by
  rintro ⟨hd, φ, ρ, w, t, sr, wr, r, p⟩
  exact p.ok wr _ (sr.set r i) fun vs h => wipe_set (h i List.mem_cons_self)
abbrev MGs := List T → Env → World → R Env
def rdGs (K : KT) (W : Option WX) (g : MGs) (S : List Nat) : TGs := fun vs σ H Q => ∃ hd φ ρ w ts, SR K hd φ H σ ρ ∧ WR K hd φ H w ∧ Reps K hd φ H ts vs ∧ Pst K W hd (CG K hd S σ Q) φ H (g ts ρ w)
def mgNil : MGs := fun ts ρ w => match ts with
  | [] => .ok ρ w
  | _ => .no
def mgCons (g : MG) (r : MGs) : MGs := fun ts ρ w => match ts with
  | [] => .no
  | t :: ts => (g t ρ w).bind fun ρ1 w1 => r ts ρ1 w1
theorem dgs_nil : PGs X [] (rdGs (X.K, Z) W mgNil []) := PGs_imp pgs_nil fun v σ H Q => by
  rintro ⟨hd, φ, ρ, w, ts, sr, wr, r, p⟩
  cases ts with
  | nil => unfold Reps at r; exact ⟨r, p.ok wr σ sr fun _ _ => rfl⟩
  | cons _ _ => exact p.elim
theorem dgs_cons {tg : Expr} {tgs : List Expr} {g : MG} {r : MGs} {S S' : List Nat} (h1 : PG X tg (rdG (X.K, Z) W g S)) (h2 : PGs X tgs (rdGs (X.K, Z) W r S')) (hs : (assignEach (tg :: tgs) X.env).map (·.2) = assign tg X.env :: (assignEach tgs X.env).map (·.2) := by rfl) : PGs X (tg :: tgs) (rdGs (X.K, Z) W (mgCons g r) (S ++ S')) := PGs_imp (pgs_cons h1 h2 hs) fun v σ H Q => by
  rintro ⟨hd, φ, ρ, w, ts, sr, wr, rr, p⟩
  cases ts with
  | nil => exact p.elim
  | cons t ts =>
    unfold Reps at rr
    obtain ⟨x, xs, rfl, rx, rxs⟩ := rr
    refine ⟨x, xs, rfl, hd, φ, ρ, w, t, sr, wr, rx, Pst.then isPst p fun ρ1 w1 φ1 H1 e1 wr1 p1 σ1 sr1 hw1 => ?_⟩
    refine ⟨hd, φ1, ρ1, w1, ts, sr1, wr1, rxs.mono e1, p1.imp fun ρ2 φ2 H2 e2 h σ2 sr2 hw2 => h σ2 sr2 fun vs hv => ?_⟩
    rw [hw2 vs fun i hi => hv i (List.mem_append_right _ hi), hw1 vs fun i hi => hv i (List.mem_append_left _ hi)]
def mgTup (n : Nat) (g : MGs) : MG := fun t ρ w => match t with
  | .tup ts => if ts.length = n then g ts ρ w else .no
  | _ => .no
theorem dg_tup {k n : Nat} {tgs : List Expr} {g : MGs} {S : List Nat} (hc : X.calm = true) (h : PGs X tgs (rdGs (X.K, Z) W g S)) (hn : (assignEach tgs X.env).length = n := by rfl) (hst : (assignEach tgs X.env).findIdx? (·.1) = none := by rfl) : PG X (.Tuple tgs k pos) (rdG (X.K, Z) W (mgTup n g) S) := PG_imp (pg_tup hc h hn hst) fun v σ H Q => by
  rintro ⟨hd, φ, ρ, w, t, sr, wr, r, p⟩
  cases t with
  | tup ts =>
    unfold mgTup at p
    simp only at p
    unfold Rep at r
    obtain ⟨a, xs, e1, n1, rs⟩ := r
    split at p
    · rename_i hl
      exact ⟨a, xs, e1, SqT.of n1.1, by rw [← rs.len]; exact hl, hd, φ, ρ, w, ts, sr, wr, rs, p⟩
    · exact p.elim
  | _ => exact p.elim
/-- o[i] = v -/
abbrev S3 := T → T → T → World → R Unit
def OpSet (K : KT) (s : S3) (r : TSet) : Prop := ∀ (W : Option WX) hd φ H w d1 d2 d3 x y z Q, WR K hd φ H w → Rep K hd φ H d1 x → Rep K hd φ H d2 y → Rep K hd φ H d3 z → Pst K W hd (fun _ _ H' => Q H') φ H (s d1 d2 d3 w) → r x y z H Q
def mgSub (s : S3) (o i : ME) : MG := fun t ρ w => (o ρ w).bind fun d1 w1 => (i ρ w1).bind fun d2 w2 => (s d1 d2 t w2).bind fun _ w3 => .ok ρ w3
theorem dg_sub {o i : Expr} {mo mi : ME} {s : S3} {r : TSet} (ho : PE X o (rdE (X.K, Z) W mo)) (hi : PE X i (rdE (X.K, Z) W mi)) (hp : PSet X r) (hs : OpSet (X.K, Z) s r)
    (ha : ∀ v, assign (.Subscript o i pos) X.env v = (do
      let ov ← holding [v] (eval o X.env)
      let iv ← holding [v, ov] (eval i X.env)
      standAt pos
      holding [v, ov, iv] (setItem ov iv v)
      release [v, ov, iv] []) := by exact fun _ => rfl) : PG X (.Subscript o i pos) (rdG (X.K, Z) W (mgSub s mo mi) []) := PG_imp (pg_sub ho hi hp ha) fun v σ H Q => by
  rintro ⟨hd, φ, ρ, w, t, sr, wr, r, p⟩
  refine ⟨hd, φ, ρ, w, sr, wr, Pst.then isPst p fun d1 w1 φ1 H1 e1 wr1 p1 x rx => ?_⟩
  refine ⟨hd, φ1, ρ, w1, sr.mono e1, wr1, Pst.then isPst p1 fun d2 w2 φ2 H2 e2 wr2 p2 y ry => ?_⟩
  refine hs W hd φ2 H2 w2 d1 d2 t x y v _ wr2 (rx.mono e2) ry (r.mono (e1.trans e2)) ?_
  refine Pst.then isPst p2 fun _ w3 φ3 H3 e3 wr3 p3 => ?_
  exact p3.ok wr3 σ (sr.mono ((e1.trans e2).trans e3)) fun _ _ => rfl
def mAsg (m : ME) (g : MG) : MS := fun ρ w => (m ρ w).bind fun t w1 => (g t ρ w1).bind fun ρ1 w2 => .ok (ρ1, .nx) w2
theorem asg_read {K : KT} {W : Option WX} {m : ME} {g : MG} {S : List Nat} : ∀ D σ H, rdS K W (mAsg m g) D σ H → tAsg (rdE K W m) (rdG K W g S) D σ H := fun D σ H => by
  rintro ⟨hd, φ, ρ, w, sr, wr, p⟩
  refine ⟨hd, φ, ρ, w, sr, wr, Pst.then isPst p fun t w1 φ1 H1 e1 wr1 p1 v rv => ?_⟩
  refine ⟨hd, φ1, ρ, w1, t, sr.mono e1, wr1, rv, Pst.then isPst p1 fun ρ1 w2 φ2 H2 e2 wr2 p2 σ1 sr1 _ => ?_⟩
  exact p2.ok wr2 σ1 sr1
theorem ds_asg {tg : Expr} {m : ME} {g : MG} {S : List Nat} (he : PE X e (rdE (X.K, Z) W m)) (hg : PG X tg (rdG (X.K, Z) W g S)) (hs : swapsWithSole [tg] e pos.line X.env = pure false := by rfl) (hw : swappedStores [tg] e X.env = pure none := by rfl)
    (h1 : (assignEach [tg] X.env).map (·.2) = [assign tg X.env] := by rfl) : PS X (.Assign [tg] e pos) (rdS (X.K, Z) W (mAsg m g)) := PS_imp (ps_asg he hg hs hw h1) asg_read
theorem name_read {K : KT} {W : Option WX} {m : ME} {i : Nat} : ∀ D σ H, rdS K W (mAsg m (mgName i)) D σ H → tAsg (rdE K W m) (gName i) D σ H := fun D σ H => by
  rintro ⟨hd, φ, ρ, w, sr, wr, p⟩
  refine ⟨hd, φ, ρ, w, sr, wr, Pst.then isPst p fun t w1 φ1 H1 e1 wr1 p1 v rv => ?_⟩
  exact p1.ok wr1 _ ((sr.mono e1).set rv i)
theorem ds_set (i : Nat) {x : Str} {pos' : Pos} {m : ME} (hN : X.N.Nodup) (he : PE X e (rdE (X.K, Z) W m)) (hi : X.N[i]? = some x := by rfl) (hx : Loc X.env.scope x := by first | exact .inl rfl | exact .inr rfl) (hs : swapsWith e (some (.Name x pos')) pos.line X.env = pure false := by rfl) (hf : X.fn x = true ∨ X.env.scope.names.lookup x = some .local := by first | exact .inl rfl | exact .inr rfl | assumption) :
    PS X (.Assign [.Name x pos'] e pos) (rdS (X.K, Z) W (mAsg m (mgName i))) := PS_imp (ps_set hN hi hx he hs hf) name_read
/-- x, y = a, b: two local names -/
def mPar (i j : Nat) (m : MF) : MS := fun ρ w => (m ρ w).bind fun ts w1 => match ts with
  | [t, u] => .ok ((ρ.set i (some t)).set j (some u), .nx) w1
  | _ => .no
theorem ds_par (i j : Nat) {x y : Str} {m : MF} {px py pt : Pos} {kt k2 : Nat} {pt2 : Pos} (hc : X.calm = true) (hN : X.N.Nodup) (ha : PA X [a, b] (rdA (X.K, Z) W m)) (hi : X.N[i]? = some x := by rfl) (hj : X.N[j]? = some y := by rfl) (hij : i ≠ j := by decide)
    (hx : X.env.scope.names.lookup x = some .local := by rfl) (hy : X.env.scope.names.lookup y = some .local := by rfl)
    (hw : swappedStores [.Tuple [.Name x px, .Name y py] kt pt] (.Tuple [a, b] k2 pt2) X.env = pure (some [x, y]) := by rfl)
    (hs : swapsWithSole [.Tuple [.Name x px, .Name y py] kt pt] (.Tuple [a, b] k2 pt2) pos.line X.env = pure false := by rfl) :
    PS X (.Assign [.Tuple [.Name x px, .Name y py] kt pt] (.Tuple [a, b] k2 pt2) pos) (rdS (X.K, Z) W (mPar i j m)) := PS_imp (ps_par hc hN hi hj hij hx hy ha hw hs) fun D σ H => by
  rintro ⟨hd, φ, ρ, w, sr, wr, p⟩
  refine ⟨hd, φ, ρ, w, sr, wr, Pst.then isPst p fun ts w1 φ1 H1 e1 wr1 p1 vs rvs => ?_⟩
  match ts, p1 with
  | [t, u], p1 =>
    unfold Reps at rvs
    obtain ⟨v1, r1, rfl, q1, rvs⟩ := rvs
    unfold Reps at rvs
    obtain ⟨v2, r2, rfl, q2, rvs⟩ := rvs
    unfold Reps at rvs
    subst rvs
    exact ⟨v1, v2, rfl, p1.ok wr1 _ (((sr.mono e1).set q1 i).set q2 j)⟩
def mPar3 (i j l : Nat) (m : MF) : MS := fun ρ w => (m ρ w).bind fun ts w1 => match ts with
  | [t, u, v] => .ok (((ρ.set i (some t)).set j (some u)).set l (some v), .nx) w1
  | _ => .no
theorem ds_par3 (i j l : Nat) {x y z : Str} {m : MF} {px py pz pt : Pos} {kt k2 : Nat} {pt2 : Pos} (hc : X.calm = true) (hN : X.N.Nodup) (ha : PA X [a, b, c] (rdA (X.K, Z) W m)) (hi : X.N[i]? = some x := by rfl) (hj : X.N[j]? = some y := by rfl) (hl : X.N[l]? = some z := by rfl) (hij : i ≠ j := by decide) (hil : i ≠ l := by decide) (hjl : j ≠ l := by decide)
    (hx : X.env.scope.names.lookup x = some .local := by rfl) (hy : X.env.scope.names.lookup y = some .local := by rfl) (hz : X.env.scope.names.lookup z = some .local := by rfl)
    (hw : swappedStores [.Tuple [.Name x px, .Name y py, .Name z pz] kt pt] (.Tuple [a, b, c] k2 pt2) X.env = pure (some [x, y, z]) := by rfl)
    (hs : swapsWithSole [.Tuple [.Name x px, .Name y py, .Name z pz] kt pt] (.Tuple [a, b, c] k2 pt2) pos.line X.env = pure false := by rfl) :
    PS X (.Assign [.Tuple [.Name x px, .Name y py, .Name z pz] kt pt] (.Tuple [a, b, c] k2 pt2) pos) (rdS (X.K, Z) W (mPar3 i j l m)) := PS_imp (ps_par3 hc hN hi hj hl hij hil hjl hx hy hz ha hw hs) fun D σ H => by
  rintro ⟨hd, φ, ρ, w, sr, wr, p⟩
  refine ⟨hd, φ, ρ, w, sr, wr, Pst.then isPst p fun ts w1 φ1 H1 e1 wr1 p1 vs rvs => ?_⟩
  match ts, p1 with
  | [t, u, z], p1 =>
    unfold Reps at rvs
    obtain ⟨v1, r1, rfl, q1, rvs⟩ := rvs
    unfold Reps at rvs
    obtain ⟨v2, r2, rfl, q2, rvs⟩ := rvs
    unfold Reps at rvs
    obtain ⟨v3, r3, rfl, q3, rvs⟩ := rvs
    unfold Reps at rvs
    subst rvs
    exact ⟨v1, v2, v3, rfl, p1.ok wr1 _ ((((sr.mono e1).set q1 i).set q2 j).set q3 l)⟩

/-! ### while -/
def whl (c : MT) (b : MS) : Nat → Env → World → R (Env × Fl)
  | 0, _, _ => .no
  | n + 1, ρ, w => (c ρ w).bind fun k w1 => if k = true then (b ρ w1).bind fun r w2 => match r.2 with
      | .nx => whl c b n r.1 w2
      | .ct => whl c b n r.1 w2
      | .bk => .ok (r.1, .nx) w2
      | .ret t => .ok (r.1, .ret t) w2
    else .ok (ρ, .nx) w1
def mWhile (n : Nat) (c : MT) (b : MS) : MS := whl c b n
theorem ds_while (n : Nat) {mc : MT} {body : List Stmt} (hp : PassesOwn (model X.prog X.w) X.A X.env X.xe) (hc : PT X c (rdT (X.K, Z) W mc)) (hb : PSs X body (rdS (X.K, Z) W m1)) : PS X (.While c body [] pos) (rdS (X.K, Z) W (mWhile n mc m1)) := PS_imp (ps_while hp hc hb) fun D σ H => by
  rintro ⟨hd, φ, ρ, w, sr, wr, p⟩
  refine ⟨fun m σ H => ∃ φ ρ w, SR (X.K, Z) hd φ H σ ρ ∧ WR (X.K, Z) hd φ H w ∧ Pst (X.K, Z) W hd (CS (X.K, Z) hd D) φ H (whl mc m1 m ρ w), ⟨n, φ, ρ, w, sr, wr, p⟩, fun m σ H => ?_⟩
  rintro ⟨φ, ρ, w, sr, wr, p⟩
  cases m with
  | zero => exact p.elim
  | succ m =>
    refine ⟨hd, φ, ρ, w, sr, wr, Pst.then isPst p fun k w1 φ1 H1 e1 wr1 p1 => ?_⟩
    cases k with
    | false => show (if false = true then _ else _); rw [if_neg Bool.false_ne_true] at p1 ⊢; exact p1.ok wr1 σ (sr.mono e1)
    | true =>
      show (if true = true then _ else _)
      rw [if_pos rfl] at p1 ⊢
      refine ⟨fun σ' H' => ∃ φ ρ w, SR (X.K, Z) hd φ H' σ' ρ ∧ WR (X.K, Z) hd φ H' w ∧ Pst (X.K, Z) W hd (CS (X.K, Z) hd D) φ H' (whl mc m1 m ρ w), fun σ' H' h => ⟨m, Nat.lt_succ_self m, h⟩, hd, φ1, ρ, w1, sr.mono e1, wr1, Pst.then isPst p1 fun r w2 φ2 H2 e2 wr2 p2 => ?_⟩
      obtain ⟨ρ2, fl⟩ := r
      cases fl with
      | nx => exact fun σ2 sr2 => ⟨φ2, ρ2, w2, sr2, wr2, p2⟩
      | ct => exact fun σ2 sr2 => ⟨φ2, ρ2, w2, sr2, wr2, p2⟩
      | bk => exact p2.ok wr2
      | ret t => exact p2.ok wr2
end
end VS

set_option Elab.async false
set_option linter.all false
set_option maxRecDepth 100000
set_option maxHeartbeats 2000000
namespace VS
open PySem PySem.Spec PyProof.Rows L2

/-- as Ext, but the list at D (a comprehension's, held apart) may have grown -/
structure ExtD (D : Option Addr) (hd φ : List Addr) (H : Hp) (hd' φ' : List Addr) (H' : Hp) : Prop where
  pre : ∃ more, φ' = φ ++ more ∧ ∀ p ∈ more, Fr0 H p
  held : ∀ a ∈ hd', a ∈ hd ∨ Fr0 H a
  keep : ∀ b o, H b = some o → b ∉ φ → (∀ ps, o ≠ .tbl ps) → D ≠ some b → H' b = some o
  there : ∀ b o, H b = some o → (∀ ps, o ≠ .tbl ps) → ∃ o', H' b = some o' ∧ ∀ ps, o' ≠ .tbl ps
section
variable {K : KT} {D : Option Addr} {hd hd' φ φ' : List Addr} {H H' : Hp} {t : T} {v : V} {ts : List T} {xs : List V} {w : World} {d : Addr}
theorem Ext.toD (e : Ext hd φ H hd' φ' H') : ExtD D hd φ H hd' φ' H' := ⟨e.pre, e.held, fun b o h n nt _ => e.keep b o h n nt, e.there⟩
theorem ExtD.nin (e : ExtD D hd φ H hd' φ' H') {b : Addr} {o : HO} (h : H b = some o) (hn : b ∉ φ) (ht : ∀ ps, o ≠ .tbl ps) : b ∉ φ' := by
  obtain ⟨m, rfl, n⟩ := e.pre
  rw [List.mem_append]
  rintro (z | z)
  · exact hn z
  · exact fr0_not (n b z) h ht
theorem ExtD.fresh (e : ExtD D hd φ H hd' φ' H') {p : Addr} (h : Fr0 H' p) : Fr0 H p := fun o q => by
  cases o with
  | tbl ps => exact ⟨ps, rfl⟩
  | _ =>
    obtain ⟨o', h', n⟩ := e.there p _ q (fun _ z => nomatch z)
    exact (fr0_not h h' n).elim
theorem ExtD.trans {hd1 hd2 φ1 φ2 : List Addr} {H1 H2 : Hp} (a : ExtD D hd φ H hd1 φ1 H1) (b : ExtD D hd1 φ1 H1 hd2 φ2 H2) : ExtD D hd φ H hd2 φ2 H2 := by
  refine ⟨?_, fun c hc => ?_, fun c o hc hn nt hD => b.keep c o (a.keep c o hc hn nt hD) (a.nin hc hn nt) nt hD, fun c o hc nt => ?_⟩
  · obtain ⟨m1, e1, n1⟩ := a.pre
    obtain ⟨m2, e2, n2⟩ := b.pre
    refine ⟨m1 ++ m2, by rw [e2, e1, List.append_assoc], fun p hp => ?_⟩
    rcases List.mem_append.mp hp with z | z
    · exact n1 p z
    · exact a.fresh (n2 p z)
  · rcases b.held c hc with z | z
    · exact a.held c z
    · exact .inr (a.fresh z)
  · obtain ⟨o', h', n'⟩ := a.there c o hc nt
    exact b.there c o' h' n'
theorem ExtD.grow (hD : d ∈ hd) {o : HO} (ho : ∀ ps, o ≠ .tbl ps := by exact fun _ z => nomatch z) : ExtD (some d) hd φ H hd φ (upd H d o) :=
  ⟨⟨[], by simp, fun _ h => by simp at h⟩, fun _ h => .inl h, fun b u hb _ _ hn => by rw [upd_ne (fun (e : b = d) => hn (by rw [e]))]; exact hb, fun b u hb n => by
    by_cases e : b = d
    · subst e; exact ⟨o, upd_same, ho⟩
    · exact ⟨u, by rw [upd_ne e]; exact hb, n⟩⟩
/-- seen from ahead of D -/
theorem ExtD.plain (e : ExtD (some d) hd φ H hd' φ' H') (h : Fr0 H d) : Ext hd φ H hd' φ' H' :=
  ⟨e.pre, e.held, fun b o hb hn nt => e.keep b o hb hn nt (by rintro ⟨⟩; exact fr0_not h hb nt), e.there⟩
def Off (D : Option Addr) (hd : List Addr) (H : Hp) : Prop := ∀ d, D = some d → d ∈ hd ∨ Fr0 H d
theorem off_none : Off none hd H := fun _ h => nomatch h
theorem Off.ne (hD : Off D hd H) {a : Addr} {o : HO} (h : H a = some o) (n : a ∉ hd) (nt : ∀ ps, o ≠ .tbl ps) : D ≠ some a := fun e => by
  rcases hD a e with z | z
  · exact n z
  · exact fr0_not z h nt
theorem ExtD.nhd (e : ExtD D hd φ H hd' φ' H') {b : Addr} {o : HO} (h : H b = some o) (hn : b ∉ hd) (ht : ∀ ps, o ≠ .tbl ps) : b ∉ hd' := fun z => by
  rcases e.held b z with z | z
  · exact hn z
  · exact fr0_not z h ht
theorem NdX.monoD {a : Addr} {o : HO} (e : ExtD D hd φ H hd' φ' H') (hD : Off D hd H) (n : ∀ ps, o ≠ .tbl ps) (h : NdX hd φ H a o) : NdX hd' φ' H' a o := ⟨e.keep _ _ h.1 h.2.1 n (hD.ne h.1 h.2.2 n), e.nin h.1 h.2.1 n, e.nhd h.1 h.2.2 n⟩
theorem NdT.monoD {a : Addr} (e : ExtD D hd φ H hd' φ' H') (hD : Off D hd H) (h : NdT hd φ H a xs) : NdT hd' φ' H' a xs := ⟨e.keep _ _ h.1 h.2.1 (fun _ z => nomatch z) (hD.ne h.1 h.2.2 fun _ z => nomatch z), e.nin h.1 h.2.1 (fun _ z => nomatch z), e.nhd h.1 h.2.2 (fun _ z => nomatch z)⟩
theorem NdL.monoD {a : Addr} (e : ExtD D hd φ H hd' φ' H') (hD : Off D hd H) (h : NdL hd φ H a xs) : NdL hd' φ' H' a xs := ⟨e.keep _ _ h.1 h.2.1 (fun _ z => nomatch z) (hD.ne h.1 h.2.2 fun _ z => nomatch z), e.nin h.1 h.2.1 (fun _ z => nomatch z), e.nhd h.1 h.2.2 (fun _ z => nomatch z)⟩
theorem NdF.monoD {a : Addr} (e : ExtD D hd φ H hd' φ' H') (hD : Off D hd H) (h : NdF K hd φ H a xs) : NdF K hd' φ' H' a xs := by
  rcases h with ⟨o, h, z, h2, h3⟩ | h
  · have nt : ∀ ps, o ≠ .tbl ps := by rcases z with rfl | ⟨u, rfl⟩ <;> exact fun _ z => nomatch z
    exact .inl ⟨o, e.keep _ _ h h2 nt (hD.ne h h3 nt), z, e.nin h h2 nt, e.nhd h h3 nt⟩
  · exact .inr h
mutual
theorem Rep.monoD (e : ExtD D hd φ H hd' φ' H') (hD : Off D hd H) : ∀ {t : T} {v : V}, Rep K hd φ H t v → Rep K hd' φ' H' t v
  | .non, _, h => h
  | .bl _, _, h => h
  | .int _, _, h => h
  | .str _, _, h => h
  | .ty _, _, h => h
  | .tup ts, v, h => by
    unfold Rep at h ⊢
    obtain ⟨a, xs, e1, n, r⟩ := h
    exact ⟨a, xs, e1, n.monoD e hD, Reps.monoD e hD r⟩
  | .lst ts, v, h => by
    unfold Rep at h ⊢
    obtain ⟨a, xs, e1, n, r⟩ := h
    exact ⟨a, xs, e1, n.monoD e hD, Reps.monoD e hD r⟩
  | .frz ts, v, h => by
    unfold Rep at h ⊢
    obtain ⟨a, xs, e1, n, r⟩ := h
    exact ⟨a, xs, e1, n.monoD e hD, Reps.monoD e hD r⟩
  | .rng n, v, h => by
    unfold Rep at h ⊢
    obtain ⟨a, e1, h1, h2, h3⟩ := h
    exact ⟨a, e1, e.keep _ _ h1 h2 (fun _ z => nomatch z) (hD.ne h1 h3 fun _ z => nomatch z), e.nin h1 h2 (fun _ z => nomatch z), e.nhd h1 h3 (fun _ z => nomatch z)⟩
  | .cell k, v, h => by
    unfold Rep at h ⊢
    obtain ⟨a, e1, hk⟩ := h
    obtain ⟨m, rfl, _⟩ := e.pre
    exact ⟨a, e1, by rw [List.getElem?_append_left (List.getElem?_eq_some_iff.mp hk).1]; exact hk⟩
  | .glb x, v, h => by unfold Rep at h ⊢; exact h
  | .exc x ks ts, v, h => by
    unfold Rep at h ⊢
    obtain ⟨a, C, d, e1, g, n, q⟩ := h
    refine ⟨a, C, d, e1, g, n.monoD e hD exC_ne, ?_⟩
    rcases q with q | ⟨dd, vs, e2, l, n2, r⟩
    · exact .inl q
    · exact .inr ⟨dd, vs, e2, l, n2.monoD e hD (fun _ z => nomatch z), Reps.monoD e hD r⟩
  | .dct ks ts, v, h => by
    unfold Rep at h ⊢
    obtain ⟨a, vs, e1, l, n, r⟩ := h
    exact ⟨a, vs, e1, l, n.monoD e hD (fun _ z => nomatch z), Reps.monoD e hD r⟩
theorem Reps.monoD (e : ExtD D hd φ H hd' φ' H') (hD : Off D hd H) : ∀ {ts : List T} {xs : List V}, Reps K hd φ H ts xs → Reps K hd' φ' H' ts xs
  | [], _, h => by unfold Reps at h ⊢; exact h
  | t :: ts, _, h => by
    unfold Reps at h ⊢
    obtain ⟨x, r, e1, a, b⟩ := h
    exact ⟨x, r, e1, Rep.monoD e hD a, Reps.monoD e hD b⟩
end
theorem CellR.monoD {c : Cell} {a : Addr} (e : ExtD D hd φ H hd' φ' H') (hD : Off D hd H) (ha : H' a = H a) (h : CellR K hd φ H c a) : CellR K hd' φ' H' c a := by
  cases c with
  | lst ts => obtain ⟨xs, h1, h2⟩ := h; exact ⟨xs, ha.trans h1, h2.monoD e hD⟩
  | dic kvs => obtain ⟨ys, h1, h2, h3⟩ := h; exact ⟨ys, ha.trans h1, h2, h3.monoD e hD⟩
  | dit kvs => obtain ⟨ys, h1, h2, h3⟩ := h; exact ⟨ys, ha.trans h1, h2, h3.monoD e hD⟩
  | obj x ks ts => obtain ⟨C, dx, vs, h1, h2, h3, h4, h5⟩ := h; exact ⟨C, dx, vs, ha.trans h1, h2, h3, h4.monoD e hD (fun _ z => nomatch z), h5.monoD e hD⟩
theorem SR.monoD {σ : L2.St} {ρ : Env} (h : SR K hd φ H σ ρ) (e : ExtD D hd φ H hd' φ' H') (hD : Off D hd H) : SR K hd' φ' H' σ ρ := ⟨h.len, fun i t ht => by
  obtain ⟨v, h1, h2⟩ := h.get i t ht
  exact ⟨v, h1, h2.monoD e hD⟩⟩
theorem WR.grow (h : WR K hd φ H w) (hD : d ∈ hd) {o : HO} {v : HO} (hx : H d = some v) (hp : Plain v := by exact trivial) (ho : ∀ ps, o ≠ .tbl ps := by exact fun _ z => nomatch z) : WR K hd φ (upd H d o) w := by
  have e : ExtD (some d) hd φ H hd φ (upd H d o) := ExtD.grow hD ho
  have off : Off (some d) hd H := fun d' hd' => by cases hd'; exact .inl hD
  refine ⟨h.len, h.nd, h.apart, fun a ha => ?_, fun k c a h1 h2 => (h.cells k c a h1 h2).monoD e off ?_, tabs_upd h.tabs fun u q => by rw [hx] at q; cases q; exact hp⟩
  · obtain ⟨u, q, n⟩ := h.there a ha
    exact e.there a u q n
  · rw [upd_ne]
    rintro rfl
    exact h.apart _ (List.mem_of_getElem? h2) hD
end

/-! ### what is walked -/
/-- a cell that is walked stays as it is -/
abbrev OC := Option (Nat × List T)
def Kept (oc : OC) (ts : List T) (w : World) : Prop := ∀ k l, oc = some (k, l) → w[k]? = some (.lst l)
theorem kept_none {ts : List T} {w : World} : Kept none ts w := fun _ _ h => nomatch h
theorem kept_some {k : Nat} {ts l : List T} {w : World} (h : w[k]? = some (.lst l)) : Kept (some (k, l)) ts w := fun j m e => by cases e; exact h
def Src (K : KT) (hd₀ φ₀ : List Addr) (H₀ : Hp) (J : It) (ts : List T) (oc : OC) : Prop :=
  ∀ (D : Option Addr) i hd φ H w, Off D hd₀ H₀ → ExtD D hd₀ φ₀ H₀ hd φ H → WR K hd φ H w → Kept oc ts w →
    (∀ t, ts[i]? = some t → J.go i H ∧ ∀ x H', J.yld i H x H' → Ext hd φ H hd φ H' ∧ WR K hd φ H' w ∧ Rep K hd φ H' t x) ∧ (ts.length ≤ i → J.stop i H)
abbrev MI := Env → World → R (List T × OC)
abbrev CI (K : KT) (hd : List Addr) (Q : It → Hp → Prop) : List T × OC → List Addr → Hp → Prop := fun r φ' H' => ∀ J, Src K hd φ' H' J r.1 r.2 → Q J H'
def rdI (K : KT) (W : Option WX) (m : MI) : TI := fun σ H Q => ∃ hd φ ρ w, SR K hd φ H σ ρ ∧ WR K hd φ H w ∧ Pst K W hd (CI K hd Q) φ H (m ρ w)
section
variable {X : Cx} {e a b c : Expr} {pos : Pos} {tg : Expr} {K : KT} {Z : List (Addr × Str)} {W : Option WX}
theorem PI_imp {t t' : TI} (h : PI X tg e t) (i : ∀ σ H Q, t' σ H Q → t σ H Q) : PI X tg e t' := ⟨fun pins s σ H Q I q => h.run pins s σ H Q I (i σ H Q q)⟩
theorem PI_or {t t' : TI} (h : PI X tg e t) (h' : PI X tg e t') : PI X tg e (fun σ H Q => t σ H Q ∨ t' σ H Q) := ⟨fun pins s σ H Q I q => q.elim (h.run pins s σ H Q I) (h'.run pins s σ H Q I)⟩
/-- the items of a sequence, and its cell -/
def items (w : World) : T → Option (List T × OC)
  | .tup ts => some (ts, none)
  | .lst ts => some (ts, none)
  | .frz ts => some (ts, none)
  | .cell k => match w[k]? with
    | some (.lst ts) => some (ts, some (k, ts))
    | _ => none
  | _ => none
def sItems : T → World → R (List T × OC) := fun t w => match items w t with
  | some r => .ok r w
  | none => .no
def mItems (m : ME) : MI := fun ρ w => (m ρ w).bind sItems
theorem src_list {hd₀ φ₀ : List Addr} {H₀ : Hp} {a : Addr} {ts : List T} {oc : OC}
    (h : ∀ (D : Option Addr) hd φ H w, Off D hd₀ H₀ → ExtD D hd₀ φ₀ H₀ hd φ H → WR K hd φ H w → Kept oc ts w → ∃ xs, SqL K.1 H a xs ∧ Reps K hd φ H ts xs)
 : Src K hd₀ φ₀ H₀ (Itl K.1 a) ts oc := fun D i hd φ H w off e wr kp => by
  obtain ⟨xs, h1, h2⟩ := h D hd φ H w off e wr kp
  refine ⟨fun t ht => ?_, fun hl => ⟨xs, h1, by rw [← h2.len]; exact hl⟩⟩
  obtain ⟨x, hx, rx⟩ := h2.at ht
  refine ⟨⟨xs, x, h1, hx⟩, fun y H' hy => ?_⟩
  obtain ⟨rfl, hy⟩ := hy
  have := (hy xs h1).symm.trans hx
  cases this
  exact ⟨Ext.refl, wr, rx⟩
theorem src_tup {hd₀ φ₀ : List Addr} {H₀ : Hp} {a : Addr} {ts : List T} {oc : OC}
    (h : ∀ (D : Option Addr) hd φ H w, Off D hd₀ H₀ → ExtD D hd₀ φ₀ H₀ hd φ H → WR K hd φ H w → Kept oc ts w → ∃ xs, SqT K.1 H a xs ∧ Reps K hd φ H ts xs) : Src K hd₀ φ₀ H₀ (Itt K.1 a) ts oc := fun D i hd φ H w off e wr kp => by
  obtain ⟨xs, h1, h2⟩ := h D hd φ H w off e wr kp
  refine ⟨fun t ht => ?_, fun hl => ⟨xs, h1, by rw [← h2.len]; exact hl⟩⟩
  obtain ⟨x, hx, rx⟩ := h2.at ht
  refine ⟨⟨xs, x, h1, hx⟩, fun y H' hy => ?_⟩
  obtain ⟨rfl, hy⟩ := hy
  have := (hy xs h1).symm.trans hx
  cases this
  exact ⟨Ext.refl, wr, rx⟩
/-- at later heaps -/
theorem lst_later {hd₀ φ₀ : List Addr} {H₀ : Hp} {t : T} {v : V} {ts : List T} {oc : OC} {w₀ : World} (r : Rep K hd₀ φ₀ H₀ t v) (hs : items w₀ t = some (ts, oc)) (nt : ∀ us, t ≠ .tup us) :
    ∃ a, v = .ref a ∧ Kept oc ts w₀ ∧ ∀ (D : Option Addr) hd φ H w, Off D hd₀ H₀ → ExtD D hd₀ φ₀ H₀ hd φ H → WR K hd φ H w → Kept oc ts w → ∃ xs, SqL K.1 H a xs ∧ Reps K hd φ H ts xs := by
  cases t with
  | tup us => exact absurd rfl (nt us)
  | lst us =>
    cases hs
    unfold Rep at r
    obtain ⟨a, xs, e1, n, rs⟩ := r
    exact ⟨a, e1, kept_none, fun D hd φ H w off e wr kp => ⟨xs, SqL.of (n.monoD e off).1, rs.monoD e off⟩⟩
  | frz us =>
    cases hs
    unfold Rep at r
    obtain ⟨a, xs, e1, n, rs⟩ := r
    refine ⟨a, e1, kept_none, fun D hd φ H w off e wr kp => ⟨xs, ?_, rs.monoD e off⟩⟩
    rcases n.monoD e off with ⟨o, n, rfl | ⟨u, rfl⟩, _⟩ | n
    · exact SqL.of n
    · exact .inl (.inr ⟨u, n⟩)
    · rcases n with (n | ⟨_, n⟩) | n
      · cases n
      · cases n
      · exact .inr n
  | cell k =>
    unfold items at hs
    simp only at hs
    split at hs
    · rename_i us hk
      cases hs
      unfold Rep at r
      obtain ⟨a, e1, ha⟩ := r
      refine ⟨a, e1, kept_some hk, fun D hd φ H w off e wr kp => ?_⟩
      obtain ⟨m, e2, _⟩ := e.pre
      obtain ⟨xs, h1, h2⟩ := wr.cells k _ a (kp k _ rfl) (by rw [e2, List.getElem?_append_left (List.getElem?_eq_some_iff.mp ha).1]; exact ha)
      exact ⟨xs, SqL.of h1, h2⟩
    · cases hs
  | _ => cases hs
theorem di_seq {m : ME} (h : PE X e (rdE (X.K, Z) W m)) : PI X tg e (rdI (X.K, Z) W (mItems m)) := PI_imp (PI_or (pi_list h) (pi_tup h)) fun σ H Q => by
  rintro ⟨hd, φ, ρ, w, sr, wr, p⟩
  unfold mItems at p
  cases q : m ρ w with
  | no => rw [q] at p; exact p.elim
  | ex _ _ _ => (rw [q] at p; first | exact p | (rw [q]; exact p) | exact .inl ⟨hd, φ, ρ, w, sr, wr, by rw [q]; exact p⟩)
  | ok t w1 =>
    rw [q, bind_ok] at p
    unfold sItems at p
    cases q2 : items w1 t with
    | none => rw [q2] at p; exact p.elim
    | some r =>
      rw [q2] at p
      obtain ⟨ts, oc⟩ := r
      have two : (∀ us, t ≠ .tup us) ∨ ∃ us, t = .tup us := by
        cases t with
        | tup us => exact .inr ⟨us, rfl⟩
        | _ => exact .inl fun _ e => nomatch e
      rcases two with nt | ⟨us, rfl⟩
      · refine .inl ⟨hd, φ, ρ, w, sr, wr, ?_⟩
        rw [q]
        intro H' φ' e1 wr1 v rv
        obtain ⟨a, rfl, kp, h1⟩ := lst_later rv q2 nt
        obtain ⟨xs, h2, h3⟩ := h1 none hd φ' H' w1 off_none Ext.refl.toD wr1 kp
        exact ⟨a, rfl, ⟨xs, h2⟩, p H' φ' e1 wr1 _ (src_list h1)⟩
      · refine .inr ⟨hd, φ, ρ, w, sr, wr, ?_⟩
        rw [q]
        intro H' φ' e1 wr1 v rv
        cases q2
        unfold Rep at rv
        obtain ⟨a, xs, rfl, n, rs⟩ := rv
        exact ⟨a, rfl, ⟨xs, SqT.of n.1⟩, p H' φ' e1 wr1 _ (src_tup fun D hd φ H w off e wr kp => ⟨xs, SqT.of (n.monoD e off).1, rs.monoD e off⟩)⟩
/-- range -/
def rgT (lo : Int) (n : Nat) : List T := (List.range n).map fun i => .int (lo + (i : Nat))
theorem rgT_length {lo : Int} {n : Nat} : (rgT lo n).length = n := by unfold rgT; simp
theorem rgT_at {lo : Int} {n i : Nat} {t : T} (h : (rgT lo n)[i]? = some t) : t = .int (lo + i) ∧ i < n := by
  unfold rgT at h
  rw [List.getElem?_map] at h
  cases q : (List.range n)[i]? with
  | none => rw [q] at h; cases h
  | some j =>
    rw [q] at h
    obtain ⟨h1, h2⟩ := List.getElem?_eq_some_iff.mp q
    rw [List.getElem_range] at h2
    subst h2
    exact ⟨(Option.some.inj h).symm, by simpa using h1⟩
theorem src_range {hd₀ φ₀ : List Addr} {H₀ : Hp} {lo : Int} {n : Nat} : Src K hd₀ φ₀ H₀ (Itr lo n) (rgT lo n) none := fun D i hd φ H w off e wr kp => by
  refine ⟨fun t ht => ?_, fun hl => by rw [rgT_length] at hl; exact hl⟩
  obtain ⟨rfl, hi⟩ := rgT_at ht
  refine ⟨hi, fun y H' hy => ?_⟩
  obtain ⟨rfl, rfl⟩ := hy
  exact ⟨Ext.refl, wr, by unfold Rep; rfl⟩
def RgOk (i j : Int) : Prop := -(2 ^ 62) ≤ i ∧ i < 2 ^ 62 ∧ -(2 ^ 62) ≤ j ∧ j < 2 ^ 62
instance {i j : Int} : Decidable (RgOk i j) := by unfold RgOk; infer_instance
def sRange1 : List T → World → R (List T × OC) := fun ts w => match ts with
  | [.int j] => if RgOk 0 j then .ok (rgT 0 j.toNat, none) w else .no
  | _ => .no
def sRange2 : List T → World → R (List T × OC) := fun ts w => match ts with
  | [.int i, .int j] => if RgOk i j then .ok (rgT i (j - i).toNat, none) w else .no
  | _ => .no
def mRange1 (m : MF) : MI := fun ρ w => (m ρ w).bind sRange1
def mRange2 (m : MF) : MI := fun ρ w => (m ρ w).bind sRange2
theorem rep_int {hd φ : List Addr} {H : Hp} {i : Int} {v : V} (h : Rep K hd φ H (.int i) v) : v = .int i := by unfold Rep at h; exact h
theorem reps1 {hd φ : List Addr} {H : Hp} {t : T} {vs : List V} (h : Reps K hd φ H [t] vs) : ∃ v, vs = [v] ∧ Rep K hd φ H t v := by
  unfold Reps at h
  obtain ⟨v, r, rfl, h1, h2⟩ := h
  unfold Reps at h2
  subst h2
  exact ⟨v, rfl, h1⟩
theorem reps2 {hd φ : List Addr} {H : Hp} {t u : T} {vs : List V} (h : Reps K hd φ H [t, u] vs) : ∃ v x, vs = [v, x] ∧ Rep K hd φ H t v ∧ Rep K hd φ H u x := by
  unfold Reps at h
  obtain ⟨v, r, rfl, h1, h2⟩ := h
  obtain ⟨x, rfl, h3⟩ := reps1 h2
  exact ⟨v, x, rfl, h1, h3⟩
theorem di_range1 {p : Pos} {m : MF} (hm : X.mg "range" = none) (ha : PA X [a] (rdA (X.K, Z) W m)) (hg : Gl X "range" := by rfl) (hs : starEach [a] X.env = [(false, eval a X.env)] := by rfl) : PI X tg (.Call (.Name "range" p) [a] [] pos) (rdI (X.K, Z) W (mRange1 m)) := PI_imp (pi_range1 hg hm ha hs) fun σ H Q => by
  rintro ⟨hd, φ, ρ, w, sr, wr, p⟩
  refine ⟨hd, φ, ρ, w, sr, wr, ?_⟩
  unfold mRange1 at p
  cases q : m ρ w with
  | no => rw [q] at p; exact p.elim
  | ex _ _ _ => (rw [q] at p; first | exact p | (rw [q]; exact p) | exact .inl ⟨hd, φ, ρ, w, sr, wr, by rw [q]; exact p⟩)
  | ok ts w1 =>
    rw [q, bind_ok] at p
    intro H' φ' e1 wr1 vs rvs
    unfold sRange1 at p
    match ts, p with
    | [.int j], p =>
      obtain ⟨v, rfl, r1⟩ := reps1 rvs
      cases rep_int r1
      simp only at p
      split at p
      · rename_i ok
        exact ⟨j, rfl, ok.2.2.1, ok.2.2.2, p H' φ' e1 wr1 _ src_range⟩
      · exact p.elim
theorem di_range2 {p : Pos} {m : MF} (hm : X.mg "range" = none) (ha : PA X [a, b] (rdA (X.K, Z) W m)) (hg : Gl X "range" := by rfl) (hs : starEach [a, b] X.env = [(false, eval a X.env), (false, eval b X.env)] := by rfl) (hs2 : starEach [b] X.env = [(false, eval b X.env)] := by rfl) : PI X tg (.Call (.Name "range" p) [a, b] [] pos) (rdI (X.K, Z) W (mRange2 m)) := PI_imp (pi_range2 hg hm ha hs hs2) fun σ H Q => by
  rintro ⟨hd, φ, ρ, w, sr, wr, p⟩
  refine ⟨hd, φ, ρ, w, sr, wr, ?_⟩
  unfold mRange2 at p
  cases q : m ρ w with
  | no => rw [q] at p; exact p.elim
  | ex _ _ _ => (rw [q] at p; first | exact p | (rw [q]; exact p) | exact .inl ⟨hd, φ, ρ, w, sr, wr, by rw [q]; exact p⟩)
  | ok ts w1 =>
    rw [q, bind_ok] at p
    intro H' φ' e1 wr1 vs rvs
    unfold sRange2 at p
    match ts, p with
    | [.int i, .int j], p =>
      obtain ⟨v, x, rfl, r1, r2⟩ := reps2 rvs
      cases rep_int r1
      cases rep_int r2
      simp only at p
      split at p
      · rename_i ok
        exact ⟨i, j, rfl, ok, p H' φ' e1 wr1 _ src_range⟩
      · exact p.elim

/-! ### for -/
open Classical in
noncomputable def forL (g : MG) (b : MS) (oc : OC) (all : List T) : List T → Env → World → R (Env × Fl)
  | [], ρ, w => if Kept oc all w then .ok (ρ, .nx) w else .no
  | t :: ts, ρ, w => if Kept oc all w then (g t ρ w).bind fun ρ1 w1 => (b ρ1 w1).bind fun r w2 => match r.2 with
      | .nx => forL g b oc all ts r.1 w2
      | .ct => forL g b oc all ts r.1 w2
      | .bk => .ok (r.1, .nx) w2
      | .ret t => .ok (r.1, .ret t) w2
    else .no
noncomputable def mFor (it : MI) (g : MG) (b : MS) : MS := fun ρ w => (it ρ w).bind fun r w1 => forL g b r.2 r.1 r.1 ρ w1
variable {m1 : MS}
theorem ds_for {it : MI} {g : MG} {S : List Nat} {body : List Stmt} (hp : PassesOwn (model X.prog X.w) X.A X.env X.xe) (hc : X.calm = true) (hi : PI X tg e (rdI (X.K, Z) W it)) (hg : PG X tg (rdG (X.K, Z) W g S)) (hb : PSs X body (rdS (X.K, Z) W m1)) (hs : ∀ x, foldedSetIterable e X.env x = pure x := by intro _; rfl) :
    PS X (.For tg e body [] pos) (rdS (X.K, Z) W (mFor it g m1)) := PS_imp (ps_for hp hc hi hg hb hs) fun Ds σ H => by
  rintro ⟨hd, φ, ρ, w, sr, wr, p⟩
  refine ⟨hd, φ, ρ, w, sr, wr, Pst.then isPst p fun r w1 φ1 H1 e1 wr1 p1 J src => ?_⟩
  obtain ⟨all, oc⟩ := r
  simp only at p1 src
  refine ⟨fun i m σ H => m + i = all.length ∧ ∃ φ ρ w, Ext hd φ1 H1 hd φ H ∧ SR (X.K, Z) hd φ H σ ρ ∧ WR (X.K, Z) hd φ H w ∧ Pst (X.K, Z) W hd (CS (X.K, Z) hd Ds) φ H (forL g m1 oc all (all.drop i) ρ w), ⟨all.length, by omega, φ1, ρ, w1, Ext.refl, sr.mono e1, wr1, by rw [List.drop_zero]; exact p1⟩, fun i m σ H => ?_⟩
  rintro ⟨hm, φ, ρ, w, ee, sr, wr, p⟩
  by_cases hi : i < all.length
  · have hdr : all.drop i = all[i] :: all.drop (i + 1) := List.drop_eq_getElem_cons hi
    rw [hdr] at p
    unfold forL at p
    split at p
    · rename_i kp
      obtain ⟨s1, _⟩ := src none i hd φ H w off_none ee.toD wr kp
      obtain ⟨go, yl⟩ := s1 all[i] (by simp [hi])
      refine .inr ⟨go, fun σ' H' => ∃ φ ρ w, Ext hd φ1 H1 hd φ H' ∧ SR (X.K, Z) hd φ H' σ' ρ ∧ WR (X.K, Z) hd φ H' w ∧ Pst (X.K, Z) W hd (CS (X.K, Z) hd Ds) φ H' (forL g m1 oc all (all.drop (i + 1)) ρ w), fun σ' H' h => ⟨m - 1, by omega, by omega, h⟩, fun x H' hy => ?_⟩
      obtain ⟨e2, wr2, rx⟩ := yl x H' hy
      refine ⟨hd, φ, ρ, w, all[i], sr.mono e2, wr2, rx, Pst.then isPst (isPst.mono _ _ _ _ _ e2 p) fun ρ1 w3 φ3 H3 e3 wr3 p3 σ3 sr3 _ => ?_⟩
      refine ⟨hd, φ3, ρ1, w3, sr3, wr3, Pst.then isPst p3 fun r w4 φ4 H4 e4 wr4 p4 => ?_⟩
      have e5 := ((ee.trans e2).trans e3).trans e4
      obtain ⟨ρ4, fl⟩ := r
      cases fl with
      | nx => exact fun σ4 sr4 => ⟨φ4, ρ4, w4, e5, sr4, wr4, p4⟩
      | ct => exact fun σ4 sr4 => ⟨φ4, ρ4, w4, e5, sr4, wr4, p4⟩
      | bk => exact p4.ok wr4
      | ret t => exact p4.ok wr4
    · exact p.elim
  · have hdr : all.drop i = [] := List.drop_eq_nil_of_le (by omega)
    rw [hdr] at p
    unfold forL at p
    split at p
    · rename_i kp
      obtain ⟨_, s2⟩ := src none i hd φ H w off_none ee.toD wr kp
      exact .inl ⟨s2 (by omega), p.ok wr σ sr⟩
    · exact p.elim
end
end VS

set_option Elab.async false
set_option linter.all false
set_option maxRecDepth 100000
set_option maxHeartbeats 2000000
namespace VS
open PySem PySem.Spec PyProof.Rows L2

/-! ### list comprehensions -/
def wipeE (ρ : Env) : List Nat → Env
  | [] => ρ
  | v :: vs => (wipeE ρ vs).set v none
section
variable {K : KT} {hd φ : List Addr} {H : Hp} {σ : L2.St} {ρ : Env} {w : World}
theorem SR.unset (h : SR K hd φ H σ ρ) (i : Nat) : SR K hd φ H (σ.set i none) (ρ.set i none) := ⟨by simp [h.len], fun j u hu => by
  rw [List.getElem?_set] at hu
  split at hu
  · split at hu <;> simp at hu
  · rename_i e
    obtain ⟨x, h1, h2⟩ := h.get j u hu
    exact ⟨x, by rw [List.getElem?_set_ne e]; exact h1, h2⟩⟩
theorem SR.wipe (h : SR K hd φ H σ ρ) : ∀ vs : List Nat, SR K hd φ H (wipe σ vs) (wipeE ρ vs)
  | [] => h
  | v :: vs => by unfold L2.wipe wipeE; exact (SR.wipe h vs).unset v
end
open Classical in
noncomputable def compL (g : MG) (c : MT) (e : ME) (oc : OC) (all : List T) (ρ0 : Env) : List T → List T → World → R (List T)
  | [], out, w => if Kept oc all w then .ok out w else .no
  | t :: ts, out, w => if Kept oc all w then (g t ρ0 w).bind fun ρ1 w1 => (c ρ1 w1).bind fun k w2 => if k = true then (e ρ1 w2).bind fun y w3 => if out.length < sizeLine then compL g c e oc all ρ0 ts (out ++ [y]) w3 else .no
      else compL g c e oc all ρ0 ts out w2
    else .no
/-- behind a loop that fills the list at d -/
def PstD (K : KT) (hd : List Addr) (d : Addr) (C : Hp → World → List T → List Addr → Prop) (φ : List Addr) (H : Hp) : R (List T) → Prop
  | .ok out w' => ∀ H' φ' acc, ExtD (some d) hd φ H hd φ' H' → WR K hd φ' H' w' → H' d = some (.lst acc) → Reps K hd φ' H' out acc → C H' w' out φ'
  | .ex _ _ _ => False
  | .no => False
section
variable {X : Cx} {e iter : Expr} {tg : Expr} {K : KT} {Z : List (Addr × Str)} {W : Option WX}
theorem PstD.mono {hd : List Addr} {d : Addr} {C : Hp → World → List T → List Addr → Prop} {φ φ1 : List Addr} {H H1 : Hp} {r : R (List T)} (e : ExtD (some d) hd φ H hd φ1 H1) (p : PstD K hd d C φ H r) : PstD K hd d C φ1 H1 r := by
  cases r with
  | no => exact p
  | ex _ _ _ => exact p
  | ok out w => intro H' φ' acc e' wr hx rs; exact p H' φ' acc (e.trans e') wr hx rs
theorem isPstD {hd : List Addr} {d : Addr} {C : Hp → World → List T → List Addr → Prop} : IsPst K none hd (PstD K hd d C) where
  mono := fun φ H φ1 H1 r e p => p.mono e.toD
  no := fun _ _ h => h
  ex := fun _ _ _ _ _ h => h
theorem wipe_wipe {σ : L2.St} (vs : List Nat) : wipe (wipe σ vs) vs = wipe σ vs := by
  apply List.ext_getElem?
  intro j
  rw [wipe_get, wipe_get, wipe_length]
  split <;> rfl
theorem comp_loop {hd₀ φ₀ hd φ1 : List Addr} {H₀ H1 : Hp} {d : Addr} {J : It} {all : List T} {oc : OC} {g : MG} {S vs : List Nat} {mc : MT} {me : ME} {σ0 : L2.St} {ρ0 : Env} {w1 : World} {out : List T} {acc : List V} {Qd : Hp → Prop}
    (src : Src K hd₀ φ₀ H₀ J all oc) (off : Off (some d) hd₀ H₀) (e0 : ExtD (some d) hd₀ φ₀ H₀ hd φ1 H1) (hdm : d ∈ hd) (sr : SR K hd φ1 H1 σ0 ρ0) (wr : WR K hd φ1 H1 w1) (hx : H1 d = some (.lst acc)) (rs : Reps K hd φ1 H1 out acc)
    (hS : ∀ i ∈ S, i ∈ vs) {σw : L2.St} (hw : wipe σ0 vs = σw) (p : PstD K hd d (fun H' _ _ _ => Qd H') φ1 H1 (compL g mc me oc all ρ0 all out w1)) :
    ∃ W : Nat → Nat → Hp → Prop, (∃ m, W 0 m H1) ∧ ∀ i m H, W i m H →
      (J.stop i H ∧ Qd H) ∨ (J.go i H ∧ ∃ Nx : Hp → Prop, (∀ H', Nx H' → ∃ m', m' < m ∧ W (i + 1) m' H') ∧ ∀ x H', J.yld i H x H' → rdG K none g S x σ0 H' fun σ2 H2 => wipe σ2 vs = σw ∧ rdT K none mc σ2 H2 fun b H3 =>
        if b = true then rdE K none me σ2 H3 fun y H4 => ∃ acc, H4 d = some (.lst acc) ∧ acc.length < sizeLine ∧ Nx (upd H4 d (.lst (acc ++ [y]))) else Nx H3) := by
  have offd : ∀ H', Off (some d) hd H' := fun H' d' h => by cases h; exact .inl hdm
  refine ⟨fun i m H => m + i = all.length ∧ ∃ φ w out acc, ExtD (some d) hd φ1 H1 hd φ H ∧ WR K hd φ H w ∧ H d = some (.lst acc) ∧ Reps K hd φ H out acc ∧ PstD K hd d (fun H' _ _ _ => Qd H') φ H (compL g mc me oc all ρ0 (all.drop i) out w),
    ⟨all.length, by omega, φ1, w1, out, acc, Ext.refl.toD, wr, hx, rs, by rw [List.drop_zero]; exact p⟩, fun i m H => ?_⟩
  rintro ⟨hm, φ, w, out, acc, ee, wr, hx, rs, p⟩
  by_cases hi : i < all.length
  · have hdr : all.drop i = all[i] :: all.drop (i + 1) := List.drop_eq_getElem_cons hi
    rw [hdr] at p
    unfold compL at p
    split at p
    · rename_i kp
      obtain ⟨s1, _⟩ := src (some d) i hd φ H w off (e0.trans ee) wr kp
      obtain ⟨go, yl⟩ := s1 all[i] (by simp [hi])
      refine .inr ⟨go, fun H' => ∃ φ w out acc, ExtD (some d) hd φ1 H1 hd φ H' ∧ WR K hd φ H' w ∧ H' d = some (.lst acc) ∧ Reps K hd φ H' out acc ∧ PstD K hd d (fun H' _ _ _ => Qd H') φ H' (compL g mc me oc all ρ0 (all.drop (i + 1)) out w), fun H' h => ⟨m - 1, by omega, by omega, h⟩, fun x H' hy => ?_⟩
      obtain ⟨e2, wr2, rx⟩ := yl x H' hy
      have dn : ∀ {φ' : List Addr} {H' : Hp} {w' : World}, WR K hd φ' H' w' → d ∉ φ' := fun wr z => wr.apart d z hdm
      have hx2 := e2.keep d _ hx (dn wr) (fun _ z => nomatch z)
      refine ⟨hd, φ, ρ0, w, all[i], sr.monoD (ee.trans e2.toD) (offd H1), wr2, rx, Pst.then isPstD (p.mono e2.toD) fun ρ1 w3 φ3 H3 e3 wr3 p3 σ3 sr3 hw3 => ⟨(hw3 vs hS).trans hw, ?_⟩⟩
      have hx3 := e3.keep d _ hx2 (dn wr2) (fun _ z => nomatch z)
      refine ⟨hd, φ3, ρ1, w3, sr3, wr3, Pst.then isPstD p3 fun k w4 φ4 H4 e4 wr4 p4 => ?_⟩
      have hx4 := e4.keep d _ hx3 (dn wr3) (fun _ z => nomatch z)
      have r4 : Reps K hd φ4 H4 out acc := ((rs.mono e2).mono e3).mono e4
      cases k with
      | false =>
        show (if false = true then _ else _)
        rw [if_neg Bool.false_ne_true] at p4 ⊢
        exact ⟨φ4, w4, out, acc, (((ee.trans e2.toD).trans e3.toD).trans e4.toD), wr4, hx4, r4, p4⟩
      | true =>
        show (if true = true then _ else _)
        rw [if_pos rfl] at p4 ⊢
        refine ⟨hd, φ4, ρ1, w4, sr3.mono e4, wr4, Pst.then isPstD p4 fun y w5 φ5 H5 e5 wr5 p5 v rv => ?_⟩
        have hx5 := e5.keep d _ hx4 (dn wr4) (fun _ z => nomatch z)
        have r5 := r4.mono e5
        split at p5
        · rename_i hl
          have eg : ExtD (some d) hd φ5 H5 hd φ5 (upd H5 d (.lst (acc ++ [v]))) := ExtD.grow hdm
          refine ⟨acc, hx5, by rw [← r5.len]; exact hl, φ5, w5, out ++ [y], acc ++ [v], ((((ee.trans e2.toD).trans e3.toD).trans e4.toD).trans e5.toD).trans eg, wr5.grow hdm hx5, upd_same, ?_, p5.mono eg⟩
          exact (r5.append (Reps.cons rv Reps.nil)).monoD eg (offd H5)
        · exact p5.elim
    · exact p.elim
  · have hdr : all.drop i = [] := List.drop_eq_nil_of_le (by omega)
    rw [hdr] at p
    unfold compL at p
    split at p
    · rename_i kp
      obtain ⟨_, s2⟩ := src (some d) i hd φ H w off (e0.trans ee) wr kp
      exact .inl ⟨s2 (by omega), p H φ acc Ext.refl.toD wr hx rs⟩
    · exact p.elim
/-- no error is let out -/
def noX {α : Type} : R α → R α
  | .ex _ _ _ => .no
  | r => r
theorem noX_ok {α : Type} {a : α} {w : World} : noX (.ok a w) = .ok a w := rfl
noncomputable def mComp (vs : List Nat) (it : MI) (g : MG) (c : MT) (e : ME) : MF := fun ρ w => (it ρ w).bind fun r w1 => noX (compL g c e r.2 r.1 (wipeE ρ vs) r.1 [] w1)
theorem comp_read {it : MI} {g : MG} {S vs : List Nat} {mc : MT} {me : ME} (hS : ∀ i ∈ S, i ∈ vs) : ∀ σ H Q, rdF K W (mComp vs it g mc me) σ H Q → tLc (rdI K W it) (rdG K none g S) (rdT K none mc) (rdE K none me) vs σ H Q := fun σ H Q => by
  rintro ⟨hd, φ, ρ, w, sr, wr, p⟩
  refine ⟨hd, φ, ρ, w, sr, wr, Pst.then isPstF p fun r w1 φ1 H1 e1 wr1 p1 J src D nD => ?_⟩
  obtain ⟨all, oc⟩ := r
  simp only at p1 src
  have eh : Ext hd φ1 H1 (D :: hd) φ1 (upd H1 D (.lst [])) := Ext.hold nD
  have hD : D ∉ hd := (wr1.nin nD).2
  refine comp_loop (hd := D :: hd) (φ1 := φ1) (vs := vs) (σ0 := wipe σ vs) (ρ0 := wipeE ρ vs) (w1 := w1) (out := []) (acc := []) (mc := mc) (me := me) (g := g) (oc := oc) (all := all) (Qd := fun H' => Q (.ref D) H') src (fun d h => by cases h; exact .inr (fr0_none nD)) eh.toD List.mem_cons_self (((sr.mono e1).mono eh).wipe vs) (wr1.hold nD) upd_same Reps.nil hS (wipe_wipe vs) ?_
  cases q : compL g mc me oc all (wipeE ρ vs) all [] w1 with
  | no => rw [q] at p1; exact p1
  | ex _ _ _ => rw [q] at p1; exact p1.elim
  | ok out w' =>
    rw [q] at p1
    intro H' φ' acc e' wr' hx rs
    exact p1 D acc H' φ' ((eh.toD.trans e').plain (fr0_none nD)) wr' (fr0_none nD) hD hx rs
variable {elt : Expr} {ifs : List Expr} {scope : Scope} {own : List (Str × Nat)} {pos : Pos}
/-- what a block is read in -/
abbrev InBlk (X : Cx) (scope : Scope) (F : Cx → Prop) : Prop := ∀ (s : Shared) (H : Hp) (C : Addr) (cl : List (Str × Addr)) (fp : List Addr), F (X.blk s H scope (compEnvC scope cl C X.env) fp)
def PTs_imp {t t' : TT} (h : PTs X ifs t) (i : ∀ σ H Q, t' σ H Q → t σ H Q) : PTs X ifs t' := ⟨fun pins s σ H Q I q => h.run pins s σ H Q I (i σ H Q q)⟩
def mYes : MT := fun _ w => .ok true w
theorem dts_nil : PTs X [] (rdT (X.K, Z) W mYes) := PTs_imp pts_nil fun σ H Q => by
  rintro ⟨hd, φ, ρ, w, sr, wr, p⟩
  exact p.ok wr
theorem dts_one {c : Expr} {m : MT} (h : PT X c (rdT (X.K, Z) W m)) : PTs X [c] (rdT (X.K, Z) W m) := pts_one h
theorem df_comp {it : MI} {g : MG} {S : List Nat} {mc : MT} {me : ME} (hc : X.calm = true) (hN : X.N.Nodup) (hi : PI X tg iter (rdI (X.K, Z) W it)) (ok : blkC X.N X.env.scope scope own = true)
    (hg : InBlk X scope fun Y => PG Y tg (rdG (X.K, Z) none g S)) (ht : InBlk X scope fun Y => PTs Y ifs (rdT (X.K, Z) none mc)) (he : InBlk X scope fun Y => PE Y elt (rdE (X.K, Z) none me)) (hS : ∀ i ∈ S, i ∈ own.map (·.2) := by decide) (hs : ∀ x, foldedSetIterable iter X.env x = pure x := by intro _; rfl) :
    PE X (.ListComp elt [⟨tg, iter, ifs, 0⟩] scope pos) (rdF (X.K, Z) W (mComp (own.map (·.2)) it g mc me)) := PE_imp (pe_lc hc hN hi (blkOk_by ok) hg ht he hs) (comp_read hS)
/-- name = [..], both on one line -/
theorem setF_read {m : MF} {i : Nat} {t : TE} (h : ∀ σ H Q, rdF K W m σ H Q → t σ H Q) (cell : Bool) : ∀ D σ H, rdS K W (mAsg (if cell = true then mCell m else mVal m) (mgName i)) D σ H → tAsg t (gName i) D σ H := fun D σ H => by
  rintro ⟨hd, φ, ρ, w, sr, wr, p⟩
  refine h σ H _ ⟨hd, φ, ρ, w, sr, wr, ?_⟩
  cases cell with
  | false =>
    simp only [Bool.false_eq_true, if_false] at p
    unfold mAsg mVal at p
    cases q : m ρ w with
    | no => rw [q] at p; exact p
    | ex _ _ _ => rw [q] at p; exact p
    | ok ts w1 =>
      rw [q] at p
      intro a xs H' φ' e1 wr1 hn ha hx rs
      refine p H' φ' e1.free wr1.free _ ((sr.mono e1.free).set ?_ i)
      unfold Rep
      exact ⟨a, xs, rfl, ⟨hx, fun z => wr1.apart a z List.mem_cons_self, ha⟩, rs.free⟩
  | true =>
    simp only [if_true] at p
    unfold mAsg mCell at p
    cases q : m ρ w with
    | no => rw [q] at p; exact p
    | ex _ _ _ => rw [q] at p; exact p
    | ok ts w1 =>
      rw [q] at p
      intro a xs H' φ' e1 wr1 hn ha hx rs
      refine p H' (φ' ++ [a]) (e1.cell hn) (wr1.cell ha ⟨xs, hx, rs⟩) _ ((sr.mono (e1.cell hn)).set ?_ i)
      unfold Rep
      refine ⟨a, rfl, ?_⟩
      rw [← wr1.len, List.getElem?_append_right (Nat.le_refl _)]
      simp
theorem ds_setLc (i : Nat) (cell : Bool) {y : Str} {py spos : Pos} {it : MI} {g : MG} {S : List Nat} {mc : MT} {me : ME} (hc : X.calm = true) (hN : X.N.Nodup) (hi : PI X tg iter (rdI (X.K, Z) W it)) (ok : blkC X.N X.env.scope scope own = true)
    (hg : InBlk X scope fun Y => PG Y tg (rdG (X.K, Z) none g S)) (ht : InBlk X scope fun Y => PTs Y ifs (rdT (X.K, Z) none mc)) (he : InBlk X scope fun Y => PE Y elt (rdE (X.K, Z) none me)) (hsw : swapsWith (.ListComp elt [⟨tg, iter, ifs, 0⟩] scope pos) (some (.Name y py)) spos.line X.env = pure true) (hy : X.N[i]? = some y := by rfl) (hyl : X.env.scope.names.lookup y = some .local := by rfl)
    (hS : ∀ i ∈ S, i ∈ own.map (·.2) := by decide) (hs : ∀ x, foldedSetIterable iter X.env x = pure x := by intro _; rfl) :
    PS X (.Assign [.Name y py] (.ListComp elt [⟨tg, iter, ifs, 0⟩] scope pos) spos) (rdS (X.K, Z) W (mAsg (if cell = true then mCell (mComp (own.map (·.2)) it g mc me) else mVal (mComp (own.map (·.2)) it g mc me)) (mgName i))) :=
  PS_imp (ps_setLc hc hN hy hyl hsw hi (blkOk_by ok) hg ht he hs) (setF_read (comp_read hS) cell)

/-! two clauses -/
open Classical in
noncomputable def compL2 (g : MG) (c : MT) (it1 : MI) (vs1 : List Nat) (g1 : MG) (c1 : MT) (e : ME) (oc : OC) (all : List T) (ρ0 : Env) : List T → List T → World → R (List T)
  | [], out, w => if Kept oc all w then .ok out w else .no
  | t :: ts, out, w => if Kept oc all w then (g t ρ0 w).bind fun ρ1 w1 => (c ρ1 w1).bind fun k w2 => if k = true then (it1 ρ1 w2).bind fun r w3 => (compL g1 c1 e r.2 r.1 (wipeE ρ1 vs1) r.1 out w3).bind fun out w4 => compL2 g c it1 vs1 g1 c1 e oc all ρ0 ts out w4
      else compL2 g c it1 vs1 g1 c1 e oc all ρ0 ts out w2
    else .no
noncomputable def mComp2 (vs : List Nat) (it : MI) (g : MG) (c : MT) (it1 : MI) (vs1 : List Nat) (g1 : MG) (c1 : MT) (e : ME) : MF := fun ρ w => (it ρ w).bind fun r w1 => noX (compL2 g c it1 vs1 g1 c1 e r.2 r.1 (wipeE ρ vs) r.1 [] w1)
/-- the inner loop, then f -/
theorem PstD.then {β : Type} {hd φ : List Addr} {H : Hp} {d : Addr} {P : List Addr → Hp → R β → Prop} {C : Hp → World → List T → List Addr → Prop} {r : R (List T)} {f : List T → World → R β} (mono : ∀ φ H φ1 H1 r, ExtD (some d) hd φ H hd φ1 H1 → P φ H r → P φ1 H1 r) (no : ¬ P φ H .no) (ex : ∀ t ρ w, ¬ P φ H (.ex t ρ w)) (p : P φ H (r.bind f))
    (h : ∀ out w1 φ1 H1 acc, ExtD (some d) hd φ H hd φ1 H1 → WR K hd φ1 H1 w1 → H1 d = some (.lst acc) → Reps K hd φ1 H1 out acc → P φ1 H1 (f out w1) → C H1 w1 out φ1) : PstD K hd d C φ H r := by
  cases r with
  | no => exact (no p).elim
  | ex t ρ w => exact (ex _ _ _ p).elim
  | ok d w => intro H1 φ1 acc e wr hx rs; exact h d w φ1 H1 acc e wr hx rs (mono _ _ _ _ _ e p)
theorem comp2_read {it it1 : MI} {g g1 : MG} {S S1 vs vs1 : List Nat} {mc mc1 : MT} {me : ME} (hS : ∀ i ∈ S, i ∈ vs) (hS1 : ∀ i ∈ S1, i ∈ vs1) : ∀ σ H Q, rdF K W (mComp2 vs it g mc it1 vs1 g1 mc1 me) σ H Q → tLc2 (rdI K W it) (rdG K none g S) (rdT K none mc) (rdI K none it1) (rdG K none g1 S1) (rdT K none mc1) (rdE K none me) vs vs1 σ H Q := fun σ H Q => by
  rintro ⟨hd₀, φ, ρ, w, sr, wr, p⟩
  refine ⟨hd₀, φ, ρ, w, sr, wr, Pst.then isPstF p fun r w1 φ1 H1 e1 wr1 p1 J src D nD => ?_⟩
  obtain ⟨all, oc⟩ := r
  simp only at p1 src
  have eh : Ext hd₀ φ1 H1 (D :: hd₀) φ1 (upd H1 D (.lst [])) := Ext.hold nD
  have hD : D ∉ hd₀ := (wr1.nin nD).2
  have offd : ∀ H', Off (some D) (D :: hd₀) H' := fun H' d' h => by cases h; exact .inl List.mem_cons_self
  have dn : ∀ {φ' : List Addr} {H' : Hp} {w' : World}, WR K (D :: hd₀) φ' H' w' → D ∉ φ' := fun wr z => wr.apart D z List.mem_cons_self
  have p1 : PstD K (D :: hd₀) D (fun H' _ _ _ => Q (.ref D) H') φ1 (upd H1 D (.lst [])) (compL2 g mc it1 vs1 g1 mc1 me oc all (wipeE ρ vs) all [] w1) := by
    cases q : compL2 g mc it1 vs1 g1 mc1 me oc all (wipeE ρ vs) all [] w1 with
    | no => rw [q] at p1; exact p1
    | ex _ _ _ => rw [q] at p1; exact p1.elim
    | ok out w' =>
      rw [q] at p1
      intro H' φ' acc e' wr' hx rs
      exact p1 D acc H' φ' ((eh.toD.trans e').plain (fr0_none nD)) wr' (fr0_none nD) hD hx rs
  refine ⟨fun i m H => m + i = all.length ∧ ∃ φ w out acc, ExtD (some D) (D :: hd₀) φ1 (upd H1 D (.lst [])) (D :: hd₀) φ H ∧ WR K (D :: hd₀) φ H w ∧ H D = some (.lst acc) ∧ Reps K (D :: hd₀) φ H out acc ∧ PstD K (D :: hd₀) D (fun H' _ _ _ => Q (.ref D) H') φ H (compL2 g mc it1 vs1 g1 mc1 me oc all (wipeE ρ vs) (all.drop i) out w),
    ⟨all.length, by omega, φ1, w1, [], [], Ext.refl.toD, wr1.hold nD, upd_same, Reps.nil, by rw [List.drop_zero]; exact p1⟩, fun i m H => ?_⟩
  rintro ⟨hm, φ, w, out, acc, ee, wr, hx, rs, p⟩
  have src0 := src (some D) i (D :: hd₀) φ H w (fun d h => by cases h; exact .inr (fr0_none nD)) (eh.toD.trans ee) wr
  by_cases hi : i < all.length
  · have hdr : all.drop i = all[i] :: all.drop (i + 1) := List.drop_eq_getElem_cons hi
    rw [hdr] at p
    unfold compL2 at p
    split at p
    · rename_i kp
      obtain ⟨s1, _⟩ := src0 kp
      obtain ⟨go, yl⟩ := s1 all[i] (by simp [hi])
      refine .inr ⟨go, fun H' => ∃ φ w out acc, ExtD (some D) (D :: hd₀) φ1 (upd H1 D (.lst [])) (D :: hd₀) φ H' ∧ WR K (D :: hd₀) φ H' w ∧ H' D = some (.lst acc) ∧ Reps K (D :: hd₀) φ H' out acc ∧ PstD K (D :: hd₀) D (fun H' _ _ _ => Q (.ref D) H') φ H' (compL2 g mc it1 vs1 g1 mc1 me oc all (wipeE ρ vs) (all.drop (i + 1)) out w), fun H' h => ⟨m - 1, by omega, by omega, h⟩, fun x H' hy => ?_⟩
      obtain ⟨e2, wr2, rx⟩ := yl x H' hy
      have hx2 := e2.keep D _ hx (dn wr) (fun _ z => nomatch z)
      refine ⟨D :: hd₀, φ, wipeE ρ vs, w, all[i], (((sr.mono e1).mono eh).wipe vs).monoD (ee.trans e2.toD) (offd _), wr2, rx, Pst.then isPstD (p.mono e2.toD) fun ρ1 w3 φ3 H3 e3 wr3 p3 σ3 sr3 hw => ⟨(hw vs hS).trans (wipe_wipe vs), ?_⟩⟩
      have hx3 := e3.keep D _ hx2 (dn wr2) (fun _ z => nomatch z)
      refine ⟨D :: hd₀, φ3, ρ1, w3, sr3, wr3, Pst.then isPstD p3 fun k w4 φ4 H4 e4 wr4 p4 => ?_⟩
      have hx4 := e4.keep D _ hx3 (dn wr3) (fun _ z => nomatch z)
      have r4 : Reps K (D :: hd₀) φ4 H4 out acc := ((rs.mono e2).mono e3).mono e4
      have e04 := ((ee.trans e2.toD).trans e3.toD).trans e4.toD
      cases k with
      | false =>
        show (if false = true then _ else _)
        rw [if_neg Bool.false_ne_true] at p4 ⊢
        exact ⟨φ4, w4, out, acc, e04, wr4, hx4, r4, p4⟩
      | true =>
        show (if true = true then _ else _)
        rw [if_pos rfl] at p4 ⊢
        refine ⟨D :: hd₀, φ4, ρ1, w4, sr3.mono e4, wr4, Pst.then isPstD p4 fun r w5 φ5 H5 e5 wr5 p5 J1 src1 => ?_⟩
        obtain ⟨all1, oc1⟩ := r
        simp only at p5 src1
        have hx5 := e5.keep D _ hx4 (dn wr4) (fun _ z => nomatch z)
        refine comp_loop (hd := D :: hd₀) (φ1 := φ5) (vs := vs1) (σ0 := wipe σ3 vs1) (ρ0 := wipeE ρ1 vs1) (w1 := w5) (out := out) (acc := acc) (mc := mc1) (me := me) (g := g1) (oc := oc1) (all := all1) src1 (offd _) Ext.refl.toD List.mem_cons_self (((sr3.mono e4).mono e5).wipe vs1) wr5 hx5 (r4.mono e5) hS1 (wipe_wipe vs1) ?_
        refine PstD.then (P := PstD K (D :: hd₀) D fun H' _ _ _ => Q (.ref D) H') (fun _ _ _ _ _ e p => p.mono e) (fun h => h) (fun _ _ _ h => h) p5 fun out6 w6 φ6 H6 acc6 e6 wr6 hx6 rs6 p6 => ?_
        exact ⟨φ6, w6, out6, acc6, (e04.trans e5.toD).trans e6, wr6, hx6, rs6, p6⟩
    · exact p.elim
  · have hdr : all.drop i = [] := List.drop_eq_nil_of_le (by omega)
    rw [hdr] at p
    unfold compL2 at p
    split at p
    · rename_i kp
      obtain ⟨_, s2⟩ := src0 kp
      exact .inl ⟨s2 (by omega), p H φ acc Ext.refl.toD wr hx rs⟩
    · exact p.elim
theorem df_comp2 {tg1 iter1 : Expr} {ifs1 : List Expr} {vs1 : List Nat} {it it1 : MI} {g g1 : MG} {S S1 : List Nat} {mc mc1 : MT} {me : ME} (hc : X.calm = true) (hN : X.N.Nodup) (hi : PI X tg iter (rdI (X.K, Z) W it)) (ok : blkC X.N X.env.scope scope own = true)
    (hg : InBlk X scope fun Y => PG Y tg (rdG (X.K, Z) none g S)) (ht : InBlk X scope fun Y => PTs Y ifs (rdT (X.K, Z) none mc)) (hi1 : InBlk X scope fun Y => PI Y tg1 iter1 (rdI (X.K, Z) none it1)) (hg1 : InBlk X scope fun Y => PG Y tg1 (rdG (X.K, Z) none g1 S1)) (ht1 : InBlk X scope fun Y => PTs Y ifs1 (rdT (X.K, Z) none mc1)) (he : InBlk X scope fun Y => PE Y elt (rdE (X.K, Z) none me))
    (hv : ∀ i ∈ vs1, i ∈ own.map (·.2) := by decide) (hS : ∀ i ∈ S, i ∈ own.map (·.2) := by decide) (hS1 : ∀ i ∈ S1, i ∈ vs1 := by decide) (hs : ∀ x, foldedSetIterable iter X.env x = pure x := by intro _; rfl) (hs1 : ∀ env x, foldedSetIterable iter1 env x = pure x := by intro _ _; rfl) :
    PE X (.ListComp elt [⟨tg, iter, ifs, 0⟩, ⟨tg1, iter1, ifs1, 0⟩] scope pos) (rdF (X.K, Z) W (mComp2 (own.map (·.2)) it g mc it1 vs1 g1 mc1 me)) := PE_imp (pe_lc2 hc hN hi (blkOk_by ok) hv hg ht hi1 hg1 ht1 he hs hs1) (comp2_read hS hS1)
end
end VS

set_option Elab.async false
set_option linter.all false
set_option maxRecDepth 100000
set_option maxHeartbeats 2000000
namespace VS
open PySem PySem.Spec PyProof.Rows L2
section
variable {X : Cx} {K : KT} {Z : List (Addr × Str)} {W : Option WX} {hd φ : List Addr} {H : Hp} {w : World}
theorem PE_or {e : Expr} {t t' : TE} (h : PE X e t) (h' : PE X e t') : PE X e (fun σ H Q => t σ H Q ∨ t' σ H Q) := ⟨fun pins s σ H Q I q => q.elim (h.run pins s σ H Q I) (h'.run pins s σ H Q I)⟩
theorem PT_or {e : Expr} {t t' : TT} (h : PT X e t) (h' : PT X e t') : PT X e (fun σ H Q => t σ H Q ∨ t' σ H Q) := ⟨fun pins s σ H Q I q => q.elim (h.run pins s σ H Q I) (h'.run pins s σ H Q I)⟩
theorem Pst.int {Q : VK} {i : Int} {w' : World} (p : Pst K W hd (CE K hd Q) φ H (.ok (.int i) w')) (wr : WR K hd φ H w') : Q (.int i) H := p.ok wr _ (by unfold Rep; rfl)
theorem Pst.bl {Q : VK} {i : Bool} {w' : World} (p : Pst K W hd (CE K hd Q) φ H (.ok (.bl i) w')) (wr : WR K hd φ H w') : Q (.bl i) H := p.ok wr _ (by unfold Rep; rfl)
/-- a new tuple -/
theorem Pst.tup {Q : VK} {ts : List T} {xs : List V} {w' : World} (p : Pst K W hd (CE K hd Q) φ H (.ok (.tup ts) w')) (wr : WR K hd φ H w') (r : Reps K hd φ H ts xs) : ∀ q, H q = none → Q (.ref q) (upd H q (.tup xs)) := fun q hq => by
  refine p (upd H q (.tup xs)) φ (Ext.new hq) (wr.new hq) _ ?_
  unfold Rep
  exact ⟨q, xs, rfl, ⟨upd_same, wr.nin hq⟩, r.mono (Ext.new hq)⟩
/-- a new list -/
theorem PstF.new {Q : VK} {ts : List T} {xs : List V} {w' : World} (p : PstF K W hd Q φ H (.ok ts w')) (wr : WR K hd φ H w') (r : Reps K hd φ H ts xs) : ∀ q, H q = none → Q (.ref q) (upd H q (.lst xs)) := fun q hq =>
  p q xs (upd H q (.lst xs)) φ (Ext.hold hq) (wr.hold hq) (fr0_none hq) (wr.nin hq).2 upd_same (r.mono (Ext.hold hq))

/-! ### ints -/
def s2I (C : Int → Int → Prop) [∀ i j, Decidable (C i j)] (g : Int → Int → T) : S2 := fun x y w => match x, y with
  | .int i, .int j => if C i j then .ok (g i j) w else .no
  | _, _ => .no
instance {i j : Int} : Decidable (CMul i j) := by unfold CMul; infer_instance
instance {i j : Int} : Decidable (CDiv i j) := by unfold CDiv; infer_instance
instance {i j : Int} : Decidable (CPow i j) := by unfold CPow; infer_instance
abbrev CTrue : Int → Int → Prop := fun _ _ => True
theorem op2I {C : Int → Int → Prop} [∀ i j, Decidable (C i j)] {g : Int → Int → Int} : Op2 K (s2I C fun i j => .int (g i j)) (rI C fun i j => .int (g i j)) := fun W hd φ H w dx dy x y Q wr rx ry p => by
  cases dx with
  | int i =>
    cases dy with
    | int j =>
      cases rep_int rx
      cases rep_int ry
      unfold s2I at p
      simp only at p
      split at p
      · rename_i hc
        exact ⟨i, j, rfl, rfl, hc, p.int wr⟩
      · exact p.elim
    | _ => exact p.elim
  | _ => exact p.elim
theorem op2I0 {g : Int → Int → Int} : Op2 K (s2I CTrue fun i j => .int (g i j)) (rI0 fun i j => .int (g i j)) := fun W hd φ H w dx dy x y Q wr rx ry p => by
  obtain ⟨i, j, e1, e2, _, q⟩ := op2I W hd φ H w dx dy x y Q wr rx ry p
  exact ⟨i, j, e1, e2, q⟩
theorem op2B0 {g : Int → Int → Bool} : Op2 K (s2I CTrue fun i j => .bl (g i j)) (rI0 fun i j => .bl (g i j)) := fun W hd φ H w dx dy x y Q wr rx ry p => by
  cases dx with
  | int i =>
    cases dy with
    | int j =>
      cases rep_int rx
      cases rep_int ry
      unfold s2I at p
      simp only at p
      rw [if_pos trivial] at p
      exact ⟨i, j, rfl, rfl, p.bl wr⟩
    | _ => exact p.elim
  | _ => exact p.elim
def sSub : S2 := s2I CTrue fun i j => .int (i - j)
def sFdiv : S2 := s2I CDiv fun i j => .int (i / j)
def sMod : S2 := s2I (fun _ j => 0 < j) fun i j => .int (i % j)
def sPow : S2 := s2I CPow fun i j => .int (i ^ j.toNat)
def sShl : S2 := s2I CPow fun i j => .int (i * 2 ^ j.toNat)
def sBor : S2 := s2I CTrue fun i j => .int (Builtin.bitOr i j)
def sBand : S2 := s2I CTrue fun i j => .int (Builtin.bitAnd i j)
def sLt : S2 := s2I CTrue fun i j => .bl (decide (i < j))
def sLe : S2 := s2I CTrue fun i j => .bl (decide (i ≤ j))
def sGt : S2 := s2I CTrue fun i j => .bl (decide (j < i))
def sGe : S2 := s2I CTrue fun i j => .bl (decide (j ≤ i))
variable {a b : Expr} {pos : Pos} {ma mb : ME}
section
variable (ha : PE X a (rdE (X.K, Z) W ma)) (hb : PE X b (rdE (X.K, Z) W mb))
include ha hb
theorem de_sub : PE X (.BinOp a .Sub b pos) (rdE (X.K, Z) W (mOp2 sSub ma mb)) := de_op op_sub op2I0 ha hb
theorem de_fdiv : PE X (.BinOp a .FloorDiv b pos) (rdE (X.K, Z) W (mOp2 sFdiv ma mb)) := de_op op_fdiv op2I ha hb
theorem de_mod : PE X (.BinOp a .Mod b pos) (rdE (X.K, Z) W (mOp2 sMod ma mb)) := de_op op_mod op2I ha hb
theorem de_pow : PE X (.BinOp a .Pow b pos) (rdE (X.K, Z) W (mOp2 sPow ma mb)) := de_op op_pow op2I ha hb
theorem de_shl : PE X (.BinOp a .LShift b pos) (rdE (X.K, Z) W (mOp2 sShl ma mb)) := de_op op_shl op2I ha hb
theorem de_bor : PE X (.BinOp a .BitOr b pos) (rdE (X.K, Z) W (mOp2 sBor ma mb)) := de_op op_or op2I0 ha hb
theorem de_band : PE X (.BinOp a .BitAnd b pos) (rdE (X.K, Z) W (mOp2 sBand ma mb)) := de_op op_and op2I0 ha hb
theorem de_lt : PE X (.Compare a [.Lt] [b] pos) (rdE (X.K, Z) W (mOp2 sLt ma mb)) := de_cmp op_lt op2B0 ha hb (nomark _)
theorem de_le : PE X (.Compare a [.LtE] [b] pos) (rdE (X.K, Z) W (mOp2 sLe ma mb)) := de_cmp op_le op2B0 ha hb (nomark _)
theorem de_gt : PE X (.Compare a [.Gt] [b] pos) (rdE (X.K, Z) W (mOp2 sGt ma mb)) := de_cmp op_gt op2B0 ha hb (nomark _)
theorem de_ge : PE X (.Compare a [.GtE] [b] pos) (rdE (X.K, Z) W (mOp2 sGe ma mb)) := de_cmp op_ge op2B0 ha hb (nomark _)
theorem dt_lt : PT X (.Compare a [.Lt] [b] pos) (rdT (X.K, Z) W (mTest (mOp2 sLt ma mb))) := dt_cmp op_lt op2B0 ha hb (nomark _)
theorem dt_le : PT X (.Compare a [.LtE] [b] pos) (rdT (X.K, Z) W (mTest (mOp2 sLe ma mb))) := dt_cmp op_le op2B0 ha hb (nomark _)
theorem dt_gt : PT X (.Compare a [.Gt] [b] pos) (rdT (X.K, Z) W (mTest (mOp2 sGt ma mb))) := dt_cmp op_gt op2B0 ha hb (nomark _)
theorem dt_ge : PT X (.Compare a [.GtE] [b] pos) (rdT (X.K, Z) W (mTest (mOp2 sGe ma mb))) := dt_cmp op_ge op2B0 ha hb (nomark _)
end
def sNeg : S1 := fun x w => match x with
  | .int i => .ok (.int (-i)) w
  | _ => .no
theorem de_neg (ha : PE X a (rdE (X.K, Z) W ma)) : PE X (.UnaryOp .USub a pos) (rdE (X.K, Z) W (mOp1 sNeg ma)) := de_un un_neg (fun W hd φ H w dx x Q wr rx p => by
  cases dx with
  | int i => cases rep_int rx; exact ⟨i, rfl, p.int wr⟩
  | _ => exact p.elim) ha

/-! ### + and * -/
def sAdd : S2 := fun x y w => match x, y with
  | .int i, .int j => .ok (.int (i + j)) w
  | .str i, .str j => if i.length + j.length ≤ sizeLine then .ok (.str (i ++ j)) w else .no
  | .tup ts, .tup us => if ts.length + us.length ≤ sizeLine then .ok (.tup (ts ++ us)) w else .no
  | _, _ => .no
theorem opAdd : Op2 K sAdd (fun x y H Q => (rI0 fun i j => .int (i + j)) x y H Q ∨ (fun x y H Q => ∃ i j, x = .str i ∧ y = .str j ∧ i.length + j.length ≤ sizeLine ∧ Q (.str (i ++ j)) H) x y H Q ∨ rCatA K.1 x y H Q) := fun W hd φ H w dx dy x y Q wr rx ry p => by
  cases dx with
  | int i =>
    cases dy with
    | int j => cases rep_int rx; cases rep_int ry; exact .inl ⟨i, j, rfl, rfl, p.int wr⟩
    | _ => exact p.elim
  | str i =>
    cases dy with
    | str j =>
      unfold Rep at rx ry
      subst rx ry
      unfold sAdd at p
      simp only at p
      split at p
      · rename_i hl
        exact .inr (.inl ⟨i, j, rfl, rfl, hl, p.ok wr _ (by unfold Rep; rfl)⟩)
      · exact p.elim
    | _ => exact p.elim
  | tup ts =>
    cases dy with
    | tup us =>
      unfold sAdd at p
      simp only at p
      split at p
      · rename_i hl
        have rx' := rx
        have ry' := ry
        unfold Rep at rx ry
        obtain ⟨l, xs, rfl, n1, r1⟩ := rx
        obtain ⟨m, ys, rfl, n2, r2⟩ := ry
        refine .inr (.inr ⟨l, m, xs, ys, rfl, rfl, SqT.of n1.1, SqT.of n2.1, by rw [← r1.len, ← r2.len]; exact hl, fun e => ?_, fun _ e => ?_, fun _ _ => p.tup wr (r1.append r2)⟩)
        · have : ts = [] := List.eq_nil_of_length_eq_zero (by rw [r1.len, e]; rfl)
          subst this
          exact p.ok wr _ ry'
        · have : us = [] := List.eq_nil_of_length_eq_zero (by rw [r2.len, e]; rfl)
          subst this
          rw [List.append_nil] at p
          exact p.ok wr _ rx'
      · exact p.elim
    | _ => exact p.elim
  | _ => exact p.elim
theorem de_add (ha : PE X a (rdE (X.K, Z) W ma)) (hb : PE X b (rdE (X.K, Z) W mb)) : PE X (.BinOp a .Add b pos) (rdE (X.K, Z) W (mOp2 sAdd ma mb)) := de_op (op_add.or (op_add_str.or op_catA)) opAdd ha hb
/-- a list that stands by itself, not the script -/
def lst? (w : World) : T → Option (List T)
  | .lst ts => some ts
  | .cell k => match w[k]? with
    | some (.lst ts) => some ts
    | _ => none
  | _ => none
theorem lst_at (wr : WR K hd φ H w) {t : T} {v : V} {ts : List T} (r : Rep K hd φ H t v) (hs : lst? w t = some ts) : ∃ a xs, v = .ref a ∧ H a = some (.lst xs) ∧ Reps K hd φ H ts xs := by
  cases t with
  | lst us =>
    cases hs
    unfold Rep at r
    obtain ⟨a, xs, e, n, rs⟩ := r
    exact ⟨a, xs, e, n.1, rs⟩
  | cell k =>
    unfold lst? at hs
    simp only at hs
    split at hs
    · rename_i us hk
      cases hs
      obtain ⟨a, e, hk, _, xs, h1, h2⟩ := cell_at wr r hk
      exact ⟨a, xs, e, h1, h2⟩
    · cases hs
  | _ => cases hs
def sCat : S2F := fun x y w => match lst? w x, lst? w y with
  | some ts, some us => if ts.length + us.length ≤ sizeLine then .ok (ts ++ us) w else .no
  | _, _ => .no
theorem df_add (ha : PE X a (rdE (X.K, Z) W ma)) (hb : PE X b (rdE (X.K, Z) W mb)) : PE X (.BinOp a .Add b pos) (rdF (X.K, Z) W (mOp2F sCat ma mb)) := df_op op_cat (fun W hd φ H w dx dy x y Q wr rx ry p => by
  unfold sCat at p
  cases q1 : lst? w dx with
  | none => rw [q1] at p; exact p.elim
  | some ts =>
    cases q2 : lst? w dy with
    | none => rw [q1, q2] at p; exact p.elim
    | some us =>
      rw [q1, q2] at p
      simp only at p
      split at p
      · rename_i hl
        obtain ⟨l, xs, rfl, h1, r1⟩ := lst_at wr rx q1
        obtain ⟨m, ys, rfl, h2, r2⟩ := lst_at wr ry q2
        exact ⟨l, m, xs, ys, rfl, rfl, h1, h2, by rw [← r1.len, ← r2.len]; exact hl, p.new wr (r1.append r2)⟩
      · exact p.elim) ha hb
def sMul : S2 := fun x y w => match x, y with
  | .int i, .int j => if CMul i j then .ok (.int (i * j)) w else .no
  | .tup ts, .int k => if ts ≠ [] ∧ 2 ≤ k ∧ k ≤ 1000 ∧ ts.length ≤ 1000 then .ok (.tup (List.replicate k.toNat ts).flatten) w else .no
  | _, _ => .no
theorem de_mul (ha : PE X a (rdE (X.K, Z) W ma)) (hb : PE X b (rdE (X.K, Z) W mb)) : PE X (.BinOp a .Mult b pos) (rdE (X.K, Z) W (mOp2 sMul ma mb)) := de_op (op_mul.or op_repT) (fun W hd φ H w dx dy x y Q wr rx ry p => by
  cases dx with
  | int i =>
    cases dy with
    | int j =>
      cases rep_int rx
      cases rep_int ry
      unfold sMul at p
      simp only at p
      split at p
      · rename_i hc; exact .inl ⟨i, j, rfl, rfl, hc, p.int wr⟩
      · exact p.elim
    | _ => exact p.elim
  | tup ts =>
    cases dy with
    | int j =>
      cases rep_int ry
      unfold Rep at rx
      obtain ⟨l, xs, rfl, n1, r1⟩ := rx
      unfold sMul at p
      simp only at p
      split at p
      · rename_i hc
        refine .inr ⟨l, j, xs, rfl, rfl, SqT.of n1.1, fun e => hc.1 (List.eq_nil_of_length_eq_zero (by rw [r1.len, e]; rfl)), hc.2.1, hc.2.2.1, by rw [← r1.len]; exact hc.2.2.2, p.tup wr (r1.flat _)⟩
      · exact p.elim
    | _ => exact p.elim
  | _ => exact p.elim) ha hb
def sRep : S2F := fun x y w => match lst? w x, y with
  | some ts, .int k => if -(2 ^ 63) ≤ k ∧ k < 2 ^ 63 ∧ ts.length * k.toNat ≤ sizeLine then .ok (List.replicate k.toNat ts).flatten w else .no
  | _, _ => .no
theorem df_mul (ha : PE X a (rdE (X.K, Z) W ma)) (hb : PE X b (rdE (X.K, Z) W mb)) : PE X (.BinOp a .Mult b pos) (rdF (X.K, Z) W (mOp2F sRep ma mb)) := df_op op_rep (fun W hd φ H w dx dy x y Q wr rx ry p => by
  unfold sRep at p
  cases q1 : lst? w dx with
  | none => rw [q1] at p; exact p.elim
  | some ts =>
    cases dy with
    | int k =>
      rw [q1] at p
      simp only at p
      split at p
      · rename_i hl
        cases rep_int ry
        obtain ⟨l, xs, rfl, h1, r1⟩ := lst_at wr rx q1
        exact ⟨l, k, xs, rfl, rfl, h1, hl.1, hl.2.1, by rw [← r1.len]; exact hl.2.2, p.new wr (r1.flat _)⟩
      · exact p.elim
    | _ => rw [q1] at p; exact p.elim) ha hb

/-! ### == and != -/
mutual
def pd0 : T → Option PyData
  | .non => some .none
  | .bl b => some (.bool b)
  | .int i => some (.int i)
  | .str x => some (.str x)
  | .ty _ => none
  | .tup ts => (pds0 ts).map .tuple
  | .lst ts => (pds0 ts).map .list
  | .frz ts => (pds0 ts).map .list
  | .rng _ => none
  | .glb _ => none
  | .exc _ _ _ => none
  | .dct _ _ => none
  | .cell _ => none
def pds0 : List T → Option (List PyData)
  | [] => some []
  | t :: ts => match pd0 t, pds0 ts with
    | some d, some ds => some (d :: ds)
    | _, _ => none
end
mutual
def pd (w : World) : T → Option PyData
  | .non => some .none
  | .bl b => some (.bool b)
  | .int i => some (.int i)
  | .str x => some (.str x)
  | .ty _ => none
  | .tup ts => (pds w ts).map .tuple
  | .lst ts => (pds w ts).map .list
  | .frz ts => (pds w ts).map .list
  | .rng _ => none
  | .glb _ => none
  | .exc _ _ _ => none
  | .dct _ _ => none
  | .cell k => match w[k]? with
    | some (.lst ts) => (pds0 ts).map .list
    | _ => none
def pds (w : World) : List T → Option (List PyData)
  | [] => some []
  | t :: ts => match pd w t, pds w ts with
    | some d, some ds => some (d :: ds)
    | _, _ => none
end
theorem pds0_cons {t : T} {ts : List T} {ds : List PyData} (h : pds0 (t :: ts) = some ds) : ∃ d r, ds = d :: r ∧ pd0 t = some d ∧ pds0 ts = some r := by
  unfold pds0 at h
  split at h
  · rename_i d r e1 e2; cases h; exact ⟨d, r, rfl, e1, e2⟩
  · cases h
theorem pds_cons {t : T} {ts : List T} {ds : List PyData} (h : pds w (t :: ts) = some ds) : ∃ d r, ds = d :: r ∧ pd w t = some d ∧ pds w ts = some r := by
  unfold pds at h
  split at h
  · rename_i d r e1 e2; cases h; exact ⟨d, r, rfl, e1, e2⟩
  · cases h
theorem map_some {α β : Type} {f : α → β} {o : Option α} {b : β} (h : o.map f = some b) : ∃ a, o = some a ∧ f a = b := by
  cases o with
  | none => cases h
  | some a => exact ⟨a, rfl, Option.some.inj h⟩
theorem frz_sq {a : Addr} {xs : List V} (n : NdF K hd φ H a xs) : SqL K.1 H a xs := by
  rcases n with ⟨o, n, rfl | ⟨u, rfl⟩, _⟩ | n
  · exact SqL.of n
  · exact .inl (.inr ⟨u, n⟩)
  · rcases n with (n | ⟨_, n⟩) | n
    · cases n
    · cases n
    · exact .inr n
mutual
theorem dp0 : ∀ {t : T} {v : V} {d : PyData}, Rep K hd φ H t v → pd0 t = some d → Dp K.1 H v d
  | .non, v, d, r, h => by unfold Rep at r; unfold pd0 at h; subst r; cases h; exact .non
  | .bl b, v, d, r, h => by unfold Rep at r; unfold pd0 at h; subst r; cases h; exact .bl b
  | .int i, v, d, r, h => by unfold Rep at r; unfold pd0 at h; subst r; cases h; exact .int i
  | .str x, v, d, r, h => by unfold Rep at r; unfold pd0 at h; subst r; cases h; exact .str x
  | .ty _, v, d, r, h => by unfold pd0 at h; cases h
  | .rng _, v, d, r, h => by unfold pd0 at h; cases h
  | .glb _, v, d, r, h => by unfold pd0 at h; cases h
  | .exc _ _ _, v, d, r, h => by unfold pd0 at h; cases h
  | .dct _ _, v, d, r, h => by unfold pd0 at h; cases h
  | .cell _, v, d, r, h => by unfold pd0 at h; cases h
  | .tup ts, v, d, r, h => by
    unfold Rep at r; unfold pd0 at h
    obtain ⟨a, xs, rfl, n, rs⟩ := r
    obtain ⟨ds, h1, rfl⟩ := map_some h
    exact .tup (SqT.of n.1) (dps0 rs h1)
  | .lst ts, v, d, r, h => by
    unfold Rep at r; unfold pd0 at h
    obtain ⟨a, xs, rfl, n, rs⟩ := r
    obtain ⟨ds, h1, rfl⟩ := map_some h
    exact .lst (SqL.of n.1) (dps0 rs h1)
  | .frz ts, v, d, r, h => by
    unfold Rep at r; unfold pd0 at h
    obtain ⟨a, xs, rfl, n, rs⟩ := r
    obtain ⟨ds, h1, rfl⟩ := map_some h
    exact .lst (frz_sq n) (dps0 rs h1)
theorem dps0 : ∀ {ts : List T} {vs : List V} {ds : List PyData}, Reps K hd φ H ts vs → pds0 ts = some ds → DpAll K.1 H vs ds
  | [], vs, ds, r, h => by unfold Reps at r; unfold pds0 at h; subst r; cases h; exact .nil
  | t :: ts, vs, ds, r, h => by
    unfold Reps at r
    obtain ⟨x, xs, rfl, r1, r2⟩ := r
    obtain ⟨d, ds', rfl, h1, h2⟩ := pds0_cons h
    exact .cons (dp0 r1 h1) (dps0 r2 h2)
end
mutual
theorem dp (wr : WR K hd φ H w) : ∀ {t : T} {v : V} {d : PyData}, Rep K hd φ H t v → pd w t = some d → Dp K.1 H v d
  | .non, v, d, r, h => by unfold Rep at r; unfold pd at h; subst r; cases h; exact .non
  | .bl b, v, d, r, h => by unfold Rep at r; unfold pd at h; subst r; cases h; exact .bl b
  | .int i, v, d, r, h => by unfold Rep at r; unfold pd at h; subst r; cases h; exact .int i
  | .str x, v, d, r, h => by unfold Rep at r; unfold pd at h; subst r; cases h; exact .str x
  | .ty _, v, d, r, h => by unfold pd at h; cases h
  | .rng _, v, d, r, h => by unfold pd at h; cases h
  | .glb _, v, d, r, h => by unfold pd at h; cases h
  | .exc _ _ _, v, d, r, h => by unfold pd at h; cases h
  | .dct _ _, v, d, r, h => by unfold pd at h; cases h
  | .cell k, v, d, r, h => by
    unfold pd at h
    split at h
    · rename_i ts hk
      obtain ⟨ds, h1, rfl⟩ := map_some h
      obtain ⟨a, rfl, _, _, xs, h2, h3⟩ := cell_at wr r hk
      exact .lst (SqL.of h2) (dps0 h3 h1)
    · cases h
  | .tup ts, v, d, r, h => by
    unfold Rep at r; unfold pd at h
    obtain ⟨a, xs, rfl, n, rs⟩ := r
    obtain ⟨ds, h1, rfl⟩ := map_some h
    exact .tup (SqT.of n.1) (dps wr rs h1)
  | .lst ts, v, d, r, h => by
    unfold Rep at r; unfold pd at h
    obtain ⟨a, xs, rfl, n, rs⟩ := r
    obtain ⟨ds, h1, rfl⟩ := map_some h
    exact .lst (SqL.of n.1) (dps wr rs h1)
  | .frz ts, v, d, r, h => by
    unfold Rep at r; unfold pd at h
    obtain ⟨a, xs, rfl, n, rs⟩ := r
    obtain ⟨ds, h1, rfl⟩ := map_some h
    exact .lst (frz_sq n) (dps wr rs h1)
theorem dps (wr : WR K hd φ H w) : ∀ {ts : List T} {vs : List V} {ds : List PyData}, Reps K hd φ H ts vs → pds w ts = some ds → DpAll K.1 H vs ds
  | [], vs, ds, r, h => by unfold Reps at r; unfold pds at h; subst r; cases h; exact .nil
  | t :: ts, vs, ds, r, h => by
    unfold Reps at r
    obtain ⟨x, xs, rfl, r1, r2⟩ := r
    obtain ⟨d, ds', rfl, h1, h2⟩ := pds_cons h
    exact .cons (dp wr r1 h1) (dps wr r2 h2)
end
def eqT (w : World) (x y : T) : Option Bool := match pd w x, pd w y with
  | some d, some e => if SeqAt.shaped d = true ∧ SeqAt.shaped e = true then some (PyData.eqv d e) else none
  | _, _ => none
def sEq : S2 := fun x y w => match eqT w x y with
  | some b => .ok (.bl b) w
  | none => .no
def sNe : S2 := fun x y w => match eqT w x y with
  | some b => .ok (.bl (!b)) w
  | none => .no
theorem eqT_some {x y : T} {b : Bool} (h : eqT w x y = some b) : ∃ d e, pd w x = some d ∧ pd w y = some e ∧ SeqAt.shaped d = true ∧ SeqAt.shaped e = true ∧ b = PyData.eqv d e := by
  unfold eqT at h
  split at h
  · rename_i d e h1 h2
    split at h
    · rename_i hs; cases h; exact ⟨d, e, h1, h2, hs.1, hs.2, rfl⟩
    · cases h
  · cases h
theorem opEq : Op2 K sEq (rEqD K.1) := fun W hd φ H w dx dy x y Q wr rx ry p => by
  unfold sEq at p
  cases q : eqT w dx dy with
  | none => rw [q] at p; exact p.elim
  | some k =>
    rw [q] at p
    obtain ⟨d, e, h1, h2, h3, h4, rfl⟩ := eqT_some q
    exact ⟨d, e, dp wr rx h1, dp wr ry h2, h3, h4, p.bl wr⟩
theorem opNe : Op2 K sNe (rNeD K.1) := fun W hd φ H w dx dy x y Q wr rx ry p => by
  unfold sNe at p
  cases q : eqT w dx dy with
  | none => rw [q] at p; exact p.elim
  | some k =>
    rw [q] at p
    obtain ⟨d, e, h1, h2, h3, h4, rfl⟩ := eqT_some q
    exact ⟨d, e, dp wr rx h1, dp wr ry h2, h3, h4, p.bl wr⟩
section
variable (hu : X.A.units + 64 < cLine) (ha : PE X a (rdE (X.K, Z) W ma)) (hb : PE X b (rdE (X.K, Z) W mb))
include hu ha hb
theorem de_eq : PE X (.Compare a [.Eq] [b] pos) (rdE (X.K, Z) W (mOp2 sEq ma mb)) := de_cmp (op_eqD hu) opEq ha hb (nomark _)
theorem de_ne : PE X (.Compare a [.NotEq] [b] pos) (rdE (X.K, Z) W (mOp2 sNe ma mb)) := de_cmp (op_neD hu) opNe ha hb (nomark _)
theorem dt_eq : PT X (.Compare a [.Eq] [b] pos) (rdT (X.K, Z) W (mTest (mOp2 sEq ma mb))) := dt_cmp (op_eqD hu) opEq ha hb (nomark _)
theorem dt_ne : PT X (.Compare a [.NotEq] [b] pos) (rdT (X.K, Z) W (mTest (mOp2 sNe ma mb))) := dt_cmp (op_neD hu) opNe ha hb (nomark _)
end
/-! ### is None -/
def isNon : T → Bool
  | .non => true
  | _ => false
theorem isNon_at {t : T} {v : V} (r : Rep K hd φ H t v) : decide (v = .non) = isNon t := by
  cases t with
  | non => unfold Rep at r; subst r; rfl
  | bl b => unfold Rep at r; subst r; rfl
  | int b => unfold Rep at r; subst r; rfl
  | str b => unfold Rep at r; subst r; rfl
  | ty b => unfold Rep at r; subst r; rfl
  | tup ts => unfold Rep at r; obtain ⟨_, _, rfl, _⟩ := r; rfl
  | lst ts => unfold Rep at r; obtain ⟨_, _, rfl, _⟩ := r; rfl
  | frz ts => unfold Rep at r; obtain ⟨_, _, rfl, _⟩ := r; rfl
  | rng n => unfold Rep at r; obtain ⟨_, rfl, _⟩ := r; rfl
  | glb n => unfold Rep at r; obtain ⟨_, rfl, _⟩ := r; rfl
  | exc _ _ _ => unfold Rep at r; obtain ⟨_, _, _, rfl, _⟩ := r; rfl
  | dct _ _ => unfold Rep at r; obtain ⟨_, _, rfl, _⟩ := r; rfl
  | cell k => unfold Rep at r; obtain ⟨_, rfl, _⟩ := r; rfl
def sIs : S2 := fun x y w => match y with
  | .non => .ok (.bl (isNon x)) w
  | _ => .no
def sIsNot : S2 := fun x y w => match y with
  | .non => .ok (.bl (!isNon x)) w
  | _ => .no
theorem opIs : Op2 K sIs (fun x y H Q => y = .non ∧ Q (.bl (decide (x = .non))) H) := fun W hd φ H w dx dy x y Q wr rx ry p => by
  cases dy with
  | non => unfold Rep at ry; exact ⟨ry, by rw [isNon_at rx]; exact p.bl wr⟩
  | _ => exact p.elim
theorem opIsNot : Op2 K sIsNot (fun x y H Q => y = .non ∧ Q (.bl (!decide (x = .non))) H) := fun W hd φ H w dx dy x y Q wr rx ry p => by
  cases dy with
  | non => unfold Rep at ry; exact ⟨ry, by rw [isNon_at rx]; exact p.bl wr⟩
  | _ => exact p.elim
section
variable (ha : PE X a (rdE (X.K, Z) W ma)) (hb : PE X b (rdE (X.K, Z) W mb))
include ha hb
theorem de_is : PE X (.Compare a [.Is] [b] pos) (rdE (X.K, Z) W (mOp2 sIs ma mb)) := de_cmp op_isN opIs ha hb (nomark _)
theorem de_isnot : PE X (.Compare a [.IsNot] [b] pos) (rdE (X.K, Z) W (mOp2 sIsNot ma mb)) := de_cmp op_notN opIsNot ha hb (nomark _)
theorem dt_is : PT X (.Compare a [.Is] [b] pos) (rdT (X.K, Z) W (mTest (mOp2 sIs ma mb))) := dt_cmp op_isN opIs ha hb (nomark _)
theorem dt_isnot : PT X (.Compare a [.IsNot] [b] pos) (rdT (X.K, Z) W (mTest (mOp2 sIsNot ma mb))) := dt_cmp op_notN opIsNot ha hb (nomark _)
end
end
end VS

set_option Elab.async false
set_option linter.all false
set_option maxRecDepth 100000
set_option maxHeartbeats 2000000
namespace VS
open PySem PySem.Spec PyProof.Rows L2
section
variable {X : Cx} {K : KT} {hd φ : List Addr} {H : Hp} {w : World} {a b : Expr} {pos : Pos} {ma mb : ME} {Z : List (Addr × Str)} {W : Option WX}

/-! ### dicts -/
def keyT : T → Option Key
  | .int i => some (.inl i)
  | .str x => some (.inr x)
  | _ => none
def keysT : List T → Option (List Key)
  | [] => some []
  | t :: ts => match keyT t, keysT ts with
    | some k, some ks => some (k :: ks)
    | _, _ => none
def valT {κ : Type} [DecidableEq κ] (kvs : List (κ × T)) (k : κ) : Option T := (kvs.find? fun kv => decide (kv.1 = k)).map (·.2)
def putT {κ : Type} [DecidableEq κ] (kvs : List (κ × T)) (k : κ) (t : T) : List (κ × T) := if (kvs.any fun kv => decide (kv.1 = k)) = true then kvs.map fun kv => if kv.1 = k then (kv.1, t) else kv else kvs ++ [(k, t)]
theorem key_at {t : T} {v : V} {k : Key} (r : Rep K hd φ H t v) (h : keyT t = some k) : v = kV k := by
  cases t with
  | int i => cases h; unfold Rep at r; exact r
  | str i => cases h; unfold Rep at r; exact r
  | _ => cases h
theorem keys_at : ∀ {ts : List T} {vs : List V} {ks : List Key}, Reps K hd φ H ts vs → keysT ts = some ks → vs = ks.map kV
  | [], vs, ks, r, h => by cases h; unfold Reps at r; exact r
  | t :: ts, vs, ks, r, h => by
    unfold Reps at r
    obtain ⟨x, xs, rfl, r1, r2⟩ := r
    unfold keysT at h
    split at h
    · rename_i k ks' h1 h2
      cases h
      rw [key_at r1 h1, keys_at r2 h2]
      rfl
    · cases h
theorem valT_at {κ : Type} [DecidableEq κ] : ∀ {kvs : List (κ × T)} {ys : List (κ × V)}, ys.map (·.1) = kvs.map (·.1) → Reps K hd φ H (kvs.map (·.2)) (ys.map (·.2)) → ∀ k : κ,
    (match valT kvs k with | some t => ∃ v, valV ys k = some v ∧ Rep K hd φ H t v | none => valV ys k = none)
  | [], ys, e, r, k => by
    have : ys = [] := by cases ys with
      | nil => rfl
      | cons _ _ => simp at e
    subst this
    rfl
  | (k', t) :: kvs, [], e, r, k => by simp at e
  | (k', t) :: kvs, (k2, v) :: ys, e, r, k => by
    have e1 : k2 = k' := by simpa using congrArg List.head? e
    have e2 : ys.map (·.1) = kvs.map (·.1) := by simpa using congrArg List.tail e
    subst e1
    have r' : Reps K hd φ H (t :: kvs.map (·.2)) (v :: ys.map (·.2)) := r
    unfold Reps at r'
    obtain ⟨x, xs, e3, r1, r2⟩ := r'
    cases e3
    by_cases h : k2 = k
    · have h1 : valT ((k2, t) :: kvs) k = some t := by simp [valT, List.find?_cons, h]
      rw [h1]
      exact ⟨v, valV_pos h, r1⟩
    · have h1 : valT ((k2, t) :: kvs) k = valT kvs k := by simp [valT, List.find?_cons, h]
      rw [h1, valV_neg h]
      exact valT_at e2 r2 k
theorem putT_at {κ : Type} [DecidableEq κ] {kvs : List (κ × T)} {ys : List (κ × V)} (e : ys.map (·.1) = kvs.map (·.1)) (r : Reps K hd φ H (kvs.map (·.2)) (ys.map (·.2))) (k : κ) {t : T} {v : V} (rt : Rep K hd φ H t v) :
    (putK ys k v).map (·.1) = (putT kvs k t).map (·.1) ∧ Reps K hd φ H ((putT kvs k t).map (·.2)) ((putK ys k v).map (·.2)) := by
  have ea : (ys.any fun kv => decide (kv.1 = k)) = kvs.any fun kv => decide (kv.1 = k) := by
    have h1 : ∀ {α : Type} (l : List (κ × α)), (l.any fun kv => decide (kv.1 = k)) = (l.map (·.1)).any fun x => decide (x = k) := fun l => by rw [List.any_map]; rfl
    rw [h1, h1, e]
  unfold putK putT
  rw [ea]
  split
  · refine ⟨?_, ?_⟩
    · have h1 : ∀ {α : Type} (l : List (κ × α)) (x : α), (l.map fun kv => if kv.1 = k then (kv.1, x) else kv).map (·.1) = l.map (·.1) := fun l x => by
        rw [List.map_map]
        apply List.map_congr_left
        intro p _
        show (if p.1 = k then (p.1, x) else p).1 = p.1
        split <;> rfl
      rw [h1, h1, e]
    · clear ea
      rename_i hany
      clear hany
      induction kvs generalizing ys with
      | nil =>
        have : ys = [] := by cases ys with
          | nil => rfl
          | cons _ _ => simp at e
        subst this
        exact Reps.nil
      | cons p kvs ih =>
        cases ys with
        | nil => simp at e
        | cons q ys =>
          have e1 : q.1 = p.1 := by simpa using congrArg List.head? e
          have e2 : ys.map (·.1) = kvs.map (·.1) := by simpa using congrArg List.tail e
          have r' : Reps K hd φ H (p.2 :: kvs.map (·.2)) (q.2 :: ys.map (·.2)) := r
          unfold Reps at r'
          obtain ⟨x, xs, e3, r1, r2⟩ := r'
          cases e3
          show Reps K hd φ H ((if p.1 = k then (p.1, t) else p).2 :: _) ((if q.1 = k then (q.1, v) else q).2 :: _)
          refine Reps.cons ?_ (ih e2 r2)
          rw [e1]
          split
          · exact rt
          · exact r1
  · refine ⟨by rw [List.map_append, List.map_append, e]; rfl, ?_⟩
    rw [List.map_append, List.map_append]
    exact r.append (Reps.cons rt Reps.nil)
/-! ### subscripts -/
def sIx : S2 := fun x y w => match x, y with
  | .cell k, y => match w[k]?, y with
    | some (.lst ts), .int i => match atI ts i with
      | some t => .ok t w
      | none => .no
    | some (.dic kvs), y => match keyT y with
      | some key => match valT kvs key with
        | some t => .ok t w
        | none => .no
      | none => .no
    | some (.dit kvs), .tup us => match keysT us with
      | some key => match valT kvs key with
        | some t => .ok t w
        | none => .no
      | none => .no
    | _, _ => .no
  | x, .int i => match seq? w x with
    | some ts => match atI ts i with
      | some t => .ok t w
      | none => .no
    | none => .no
  | _, _ => .no
theorem Reps.atI {ts : List T} {xs : List V} {i : Int} {t : T} (h : Reps K hd φ H ts xs) (ht : L2.atI ts i = some t) : ∃ v, L2.atI xs i = some v ∧ Rep K hd φ H t v := by
  unfold L2.atI at ht ⊢
  rw [← h.len]
  cases q : ixN ts.length i with
  | none => rw [q] at ht; cases ht
  | some j =>
    rw [q] at ht
    exact h.at ht
theorem opIx (x y : V) (Q : VK) (wr : WR K hd φ H w) {dx dy : T} (rx : Rep K hd φ H dx x) (ry : Rep K hd φ H dy y) (p : Pst K W hd (CE K hd Q) φ H (sIx dx dy w)) :
    rIx K.1 x y H Q ∨ ∃ a v, x = .ref a ∧ DGet H a y (some v) ∧ Q v H := by
  have sq : ∀ ts i, seq? w dx = some ts → dy = .int i → Pst K W hd (CE K hd Q) φ H (match atI ts i with | some t => .ok t w | none => .no) → rIx K.1 x y H Q := fun ts i h1 h2 p => by
    rename Pst K W hd (CE K hd Q) φ H (sIx dx dy w) => p0
    clear p0
    subst h2
    cases rep_int ry
    obtain ⟨a, xs, rfl, h3, h4⟩ := seq_at wr rx h1
    cases q : atI ts i with
    | none => rw [q] at p; exact p.elim
    | some t =>
      rw [q] at p
      obtain ⟨v, h5, h6⟩ := h4.atI q
      rcases h3 with h3 | h3
      · exact .inl ⟨a, xs, i, v, rfl, rfl, h3, h5, p.ok wr v h6⟩
      · exact .inr (.inl ⟨a, xs, i, v, rfl, rfl, h3, h5, p.ok wr v h6⟩)
  cases dx with
  | cell k =>
    unfold sIx at p
    simp only at p
    cases q : w[k]? with
    | none => rw [q] at p; exact p.elim
    | some c =>
      rw [q] at p
      cases c with
      | lst ts =>
        cases dy with
        | int i => exact .inl (sq ts i (by unfold seq?; simp only [q]) rfl p)
        | _ => exact p.elim
      | dic kvs =>
        simp only at p
        cases q2 : keyT dy with
        | none => rw [q2] at p; exact p.elim
        | some key =>
          rw [q2] at p
          simp only at p
          obtain ⟨l, rfl, _, _, ys, h1, h2, h3⟩ := cell_at wr rx q
          have h4 := valT_at h2 h3 key
          cases q3 : valT kvs key with
          | none => rw [q3] at p; exact p.elim
          | some t =>
            rw [q3] at p h4
            obtain ⟨v, h5, h6⟩ := h4
            rw [key_at ry q2]
            exact .inr ⟨l, v, rfl, by rw [← h5]; exact DGet.k h1, p.ok wr v h6⟩
      | dit kvs =>
        cases dy with
        | tup us =>
          simp only at p
          cases q2 : keysT us with
          | none => rw [q2] at p; exact p.elim
          | some key =>
            rw [q2] at p
            simp only at p
            obtain ⟨l, rfl, _, _, ys, h1, h2, h3⟩ := cell_at wr rx q
            have h4 := valT_at h2 h3 key
            cases q3 : valT kvs key with
            | none => rw [q3] at p; exact p.elim
            | some t =>
              rw [q3] at p h4
              obtain ⟨v, h5, h6⟩ := h4
              unfold Rep at ry
              obtain ⟨m, zs, rfl, n, rz⟩ := ry
              have e := keys_at rz q2
              subst e
              exact .inr ⟨l, v, rfl, by rw [← h5]; exact DGet.t h1 n.1, p.ok wr v h6⟩
        | _ => exact p.elim
      | obj x ks ts => cases dy <;> exact p.elim
  | tup ts =>
    cases dy with
    | int i => exact .inl (sq ts i rfl rfl p)
    | _ => exact p.elim
  | lst ts =>
    cases dy with
    | int i => exact .inl (sq ts i rfl rfl p)
    | _ => exact p.elim
  | frz ts =>
    cases dy with
    | int i => exact .inl (sq ts i rfl rfl p)
    | _ => exact p.elim
  | _ => cases dy <;> exact p.elim
def rIxD : R2 := fun x y H Q => ∃ a v, x = .ref a ∧ DGet H a y (some v) ∧ Q v H
theorem ix_dict (hu : X.A.units + 1 < cLine) : IxR X rIxD := by
  intro value slice pins s σ H x y v u Q I rx ry h hs
  obtain ⟨a, z, rfl, g, q⟩ := h
  obtain rfl : v = Value.ref a := rx
  have hT := dict_typeIs I g
  unfold subscriptTail
  refine wpAny_bind ?_
  rw [getitemInPython_of_ne hT.not_modules]
  refine wpAny_bind (wpAny_specialOf hT PySem.F.slot_dict_getitem.lookup ?_)
  have h₂ : wpAny (model X.prog X.w) X.A (getItem (.ref a) u) (EP X pins σ Q) X.xe s := d_getItem hu I g ry fun w' s3 I3 rw' => ⟨z, H, I3, rw', q⟩
  have fin : wpAny (model X.prog X.w) X.A (subscripted slice false (.ref a) u) (fun r s₃ => wpAny (model X.prog X.w) X.A (letTemporaryGo value (.ref a) r >>= fun _ => pure r) (EP X pins σ Q) X.xe s₃) X.xe s := by
    rw [hs]
    exact wpAny_operating (wpAny_mono h₂ (fun r s₃ h₃ => wpAny_bind (wpAny_letTemporaryGo (wpAny_pure h₃))) fun _ _ x => x)
  first
    | exact wpAny_pure (wpAny_bind fin)
    | exact wpAny_bind (wpAny_pure (wpAny_bind fin))
    | exact wpAny_bind fin
theorem de_sub' (hu : X.A.units + 1 < cLine) (ha : PE X a (rdE (X.K, Z) W ma)) (hb : PE X b (rdE (X.K, Z) W mb)) (hp : PlainIx b := by exact fun _ _ => rfl) : PE X (.Subscript a b pos) (rdE (X.K, Z) W (mOp2 sIx ma mb)) :=
  de_ix (ix_seq.or (ix_dict hu)) (fun W hd φ H w dx dy x y Q wr rx ry p => opIx x y Q wr rx ry p) ha hb hp
/-! ### slices -/
abbrev MO := Env → World → R (Option Int)
abbrev CO (Q : Option Int → Hp → Prop) : Option Int → List Addr → Hp → Prop := fun d _ H' => Q d H'
def rdO (K : KT) (W : Option WX) (m : MO) : TO := fun σ H Q => ∃ hd φ ρ w, SR K hd φ H σ ρ ∧ WR K hd φ H w ∧ Pst K W hd (CO Q) φ H (m ρ w)
theorem PO_imp {e : Option Expr} {t t' : TO} (h : PO X e t) (i : ∀ σ H Q, t' σ H Q → t σ H Q) : PO X e t' := ⟨fun pins s σ H Q I q => h.run pins s σ H Q I (i σ H Q q)⟩
def mNoPart : MO := fun _ w => .ok none w
def mPart (m : ME) : MO := fun ρ w => (m ρ w).bind fun t w1 => match t with
  | .int i => .ok (some i) w1
  | _ => .no
theorem do_none : PO X none (rdO (X.K, Z) W mNoPart) := PO_imp po_none fun σ H Q => by
  rintro ⟨hd, φ, ρ, w, sr, wr, p⟩
  exact p.ok wr
theorem do_some (h : PE X a (rdE (X.K, Z) W ma)) : PO X (some a) (rdO (X.K, Z) W (mPart ma)) := PO_imp (po_some h) fun σ H Q => by
  rintro ⟨hd, φ, ρ, w, sr, wr, p⟩
  refine ⟨hd, φ, ρ, w, sr, wr, Pst.then isPst p fun d w1 φ1 H1 e1 wr1 p1 v rv => ?_⟩
  cases d with
  | int i => cases rep_int rv; exact ⟨i, rfl, p1.ok wr1⟩
  | _ => exact p1.elim
def cutT (xs : List T) (lo hi : Option Int) : List T := (xs.drop (HT.sIx xs.length 0 lo)).take (HT.sIx xs.length xs.length hi - HT.sIx xs.length 0 lo)
theorem Reps.cut {ts : List T} {xs : List V} (h : Reps K hd φ H ts xs) (lo hi : Option Int) : Reps K hd φ H (cutT ts lo hi) (cutV xs lo hi) := by
  unfold cutT cutV
  rw [h.len]
  exact (h.drop _).take _
def mSlT (a : ME) (lo hi : MO) : ME := fun ρ w => (a ρ w).bind fun t w1 => (lo ρ w1).bind fun l w2 => (hi ρ w2).bind fun u w3 => match t with
  | .tup ts => .ok (.tup (cutT ts l u)) w3
  | _ => .no
def mSlL (a : ME) (lo hi : MO) : MF := fun ρ w => (a ρ w).bind fun t w1 => (lo ρ w1).bind fun l w2 => (hi ρ w2).bind fun u w3 => match lst? w3 t with
  | some ts => .ok (cutT ts l u) w3
  | _ => .no
theorem de_slice {lo hi : Option Expr} {ml mh : MO} {p2 : Pos} (ha : PE X a (rdE (X.K, Z) W ma)) (hl : PO X lo (rdO (X.K, Z) W ml)) (hh : PO X hi (rdO (X.K, Z) W mh)) : PE X (.Subscript a (.Slice lo hi none p2) pos) (rdE (X.K, Z) W (mSlT ma ml mh)) := PE_imp (pe_slice sl_tupA ha hl hh) fun σ H Q => by
  rintro ⟨hd, φ, ρ, w, sr, wr, p⟩
  refine ⟨hd, φ, ρ, w, sr, wr, Pst.then isPst p fun t w1 φ1 H1 e1 wr1 p1 v rv => ?_⟩
  refine ⟨hd, φ1, ρ, w1, sr.mono e1, wr1, Pst.then isPst p1 fun l w2 φ2 H2 e2 wr2 p2 => ?_⟩
  refine ⟨hd, φ2, ρ, w2, sr.mono (e1.trans e2), wr2, Pst.then isPst p2 fun u w3 φ3 H3 e3 wr3 p3 => ?_⟩
  cases t with
  | tup ts =>
    have rv3 := (rv.mono e2).mono e3
    unfold Rep at rv3
    obtain ⟨q, xs, rfl, n, rs⟩ := rv3
    refine ⟨q, xs, rfl, SqT.of n.1, fun e => ?_, fun _ => p3.tup wr3 (rs.cut l u)⟩
    have e4 : cutT ts l u = ts := by
      unfold cutT
      rw [rs.len, e.1, e.2, List.drop_zero, Nat.sub_zero, ← rs.len]
      exact List.take_length
    simp only at p3
    rw [e4] at p3
    exact p3.ok wr3 _ (by unfold Rep; exact ⟨q, xs, rfl, n, rs⟩)
  | _ => exact p3.elim
theorem df_slice {lo hi : Option Expr} {ml mh : MO} {p2 : Pos} (ha : PE X a (rdE (X.K, Z) W ma)) (hl : PO X lo (rdO (X.K, Z) W ml)) (hh : PO X hi (rdO (X.K, Z) W mh)) : PE X (.Subscript a (.Slice lo hi none p2) pos) (rdF (X.K, Z) W (mSlL ma ml mh)) := PE_imp (pe_slice sl_list ha hl hh) fun σ H Q => by
  rintro ⟨hd, φ, ρ, w, sr, wr, p⟩
  refine ⟨hd, φ, ρ, w, sr, wr, Pst.then isPstF p fun t w1 φ1 H1 e1 wr1 p1 v rv => ?_⟩
  refine ⟨hd, φ1, ρ, w1, sr.mono e1, wr1, Pst.then isPstF p1 fun l w2 φ2 H2 e2 wr2 p2 => ?_⟩
  refine ⟨hd, φ2, ρ, w2, sr.mono (e1.trans e2), wr2, Pst.then isPstF p2 fun u w3 φ3 H3 e3 wr3 p3 => ?_⟩
  cases q : lst? w3 t with
  | none => rw [q] at p3; exact p3.elim
  | some ts =>
    rw [q] at p3
    obtain ⟨l', xs, rfl, h1, h2⟩ := lst_at wr3 ((rv.mono e2).mono e3) q
    exact ⟨l', xs, rfl, SqL.of h1, p3.new wr3 (h2.cut l u)⟩
/-! ### built-in functions -/
variable {e e2 : Expr} {es : List Expr} {p : Pos} {m : MF}
def sLen : SC := fun ds w => match ds with
  | [.cell k] => match w[k]? with
    | some (.lst ts) => .ok (.int ts.length) w
    | some (.dic kvs) => .ok (.int kvs.length) w
    | _ => .no
  | [t] => match seq? w t with
    | some ts => .ok (.int ts.length) w
    | none => .no
  | _ => .no
theorem opLen : OpC K sLen (fun xs H Q => (∃ p ys, xs = [.ref p] ∧ (SqL K.1 H p ys ∨ SqT K.1 H p ys) ∧ Q (.int ys.length) H) ∨ ∃ a kvs, xs = [V.ref a] ∧ H a = some (.dK kvs) ∧ Q (.int kvs.length) H) := fun W hd φ H w ds xs Q wr rx p => by
  have sq : ∀ t ts, ds = [t] → seq? w t = some ts → Pst K W hd (CE K hd Q) φ H (.ok (.int ts.length) w) → ∃ p ys, xs = [.ref p] ∧ (SqL K.1 H p ys ∨ SqT K.1 H p ys) ∧ Q (.int ys.length) H := fun t ts e1 h pp => by
    rw [e1] at rx
    obtain ⟨v, rfl, r⟩ := reps1 rx
    obtain ⟨a, xs, rfl, h1, h2⟩ := seq_at wr r h
    exact ⟨a, xs, rfl, h1, by rw [← h2.len]; exact pp.int wr⟩
  cases ds with
  | nil => exact p.elim
  | cons t r =>
    cases r with
    | cons u r => cases t <;> exact p.elim
    | nil =>
      cases t with
      | cell k =>
        unfold sLen at p
        simp only at p
        cases q : w[k]? with
        | none => rw [q] at p; exact p.elim
        | some c =>
          rw [q] at p
          cases c with
          | lst ts => exact .inl (sq _ ts rfl (by unfold seq?; simp only [q]) p)
          | dic kvs =>
            obtain ⟨v, rfl, r⟩ := reps1 rx
            obtain ⟨a, rfl, _, _, ys, h1, h2, h3⟩ := cell_at wr r q
            have e : ys.length = kvs.length := by simpa using congrArg List.length h2
            exact .inr ⟨a, ys, rfl, h1, by rw [e]; exact p.int wr⟩
          | dit kvs => exact p.elim
          | obj x ks ts => exact p.elim
      | tup ts => exact .inl (sq _ ts rfl rfl p)
      | lst ts => exact .inl (sq _ ts rfl rfl p)
      | frz ts => exact .inl (sq _ ts rfl rfl p)
      | _ => exact p.elim
theorem de_len (hm : X.mg "len" = none) (ha : PA X [e] (rdA (X.K, Z) W m)) (hg : Gl X "len" := by rfl) (he : starEach [e] X.env = (false, eval e X.env) :: starEach [] X.env := by rfl) (hpl : (backTo pos (starEach [] X.env)).any (·.1) = false := by rfl) : PE X (.Call (.Name "len" p) [e] [] pos) (rdE (X.K, Z) W (mCall sLen m)) :=
  de_callB (call_len_seq.or call_lenD) opLen hm PySem.boot_len ha hg (by decide) (by decide) he hpl
def sAbs : SC := fun ds w => match ds with
  | [.int i] => .ok (.int (if i < 0 then -i else i)) w
  | _ => .no
theorem de_abs (hm : X.mg "abs" = none) (ha : PA X [e] (rdA (X.K, Z) W m)) (hg : Gl X "abs" := by rfl) (he : starEach [e] X.env = (false, eval e X.env) :: starEach [] X.env := by rfl) (hpl : (backTo pos (starEach [] X.env)).any (·.1) = false := by rfl) : PE X (.Call (.Name "abs" p) [e] [] pos) (rdE (X.K, Z) W (mCall sAbs m)) :=
  de_callB call_abs (fun W hd φ H w ds xs Q wr rx p => by
    match ds, p with
    | [.int i], p => obtain ⟨v, rfl, r⟩ := reps1 rx; cases rep_int r; exact ⟨i, rfl, p.int wr⟩) hm (by decide +kernel) ha hg (by decide) (by decide) he hpl
def s2i (g : Int → Int → Int) : SC := fun ds w => match ds with
  | [.int i, .int j] => .ok (.int (g i j)) w
  | _ => .no
theorem op2i {g : Int → Int → Int} : OpC K (s2i g) (fun xs H Q => ∃ i j, xs = [.int i, .int j] ∧ Q (.int (g i j)) H) := fun W hd φ H w ds xs Q wr rx p => by
  match ds, p with
  | [.int i, .int j], p => obtain ⟨v, u, rfl, r1, r2⟩ := reps2 rx; cases rep_int r1; cases rep_int r2; exact ⟨i, j, rfl, p.int wr⟩
def sMax2 : SC := s2i fun i j => if j > i then j else i
def sMin2 : SC := s2i fun i j => if j < i then j else i
theorem de_max2 (hc : X.calm = true) (hm : X.mg "max" = none) (ha : PA X [e, e2] (rdA (X.K, Z) W m)) (hg : Gl X "max" := by rfl) (he : starEach [e, e2] X.env = (false, eval e X.env) :: starEach [e2] X.env := by rfl) (hpl : (backTo pos (starEach [e2] X.env)).any (·.1) = false := by rfl) : PE X (.Call (.Name "max" p) [e, e2] [] pos) (rdE (X.K, Z) W (mCall sMax2 m)) :=
  de_callB (call_max2 hc) op2i hm (by decide +kernel) ha hg (by decide) (by decide) he hpl
theorem de_min2 (hc : X.calm = true) (hm : X.mg "min" = none) (ha : PA X [e, e2] (rdA (X.K, Z) W m)) (hg : Gl X "min" := by rfl) (he : starEach [e, e2] X.env = (false, eval e X.env) :: starEach [e2] X.env := by rfl) (hpl : (backTo pos (starEach [e2] X.env)).any (·.1) = false := by rfl) : PE X (.Call (.Name "min" p) [e, e2] [] pos) (rdE (X.K, Z) W (mCall sMin2 m)) :=
  de_callB (call_min2 hc) op2i hm (by decide +kernel) ha hg (by decide) (by decide) he hpl
def sInt : SC := fun ds w => match ds with
  | [.int i] => .ok (.int i) w
  | [.bl k] => .ok (.int (if k then 1 else 0)) w
  | _ => .no
theorem de_int1 (hm : X.mg "int" = none) (ha : PA X [e] (rdA (X.K, Z) W m)) (hg : Gl X "int" := by rfl) (he : starEach [e] X.env = (false, eval e X.env) :: starEach [] X.env := by rfl) (hpl : (backTo pos (starEach [] X.env)).any (·.1) = false := by rfl) : PE X (.Call (.Name "int" p) [e] [] pos) (rdE (X.K, Z) W (mCall sInt m)) :=
  de_callTy call_int1 (fun W hd φ H w ds xs Q wr rx p => by
    match ds, p with
    | [.int i], p => obtain ⟨v, rfl, r⟩ := reps1 rx; cases rep_int r; exact .inl ⟨i, rfl, p.int wr⟩
    | [.bl k], p => obtain ⟨v, rfl, r⟩ := reps1 rx; unfold Rep at r; subst r; exact .inr ⟨k, rfl, p.int wr⟩) hm (by decide +kernel) ha hg (by decide) (by decide) he hpl
def sList : SCF := fun ds w => match ds with
  | [t] => match seq? w t with
    | some ts => .ok ts w
    | none => .no
  | _ => .no
theorem df_list (hm : X.mg "list" = none) (ha : PA X [e] (rdA (X.K, Z) W m)) (hg : Gl X "list" := by rfl) (he : starEach [e] X.env = (false, eval e X.env) :: starEach [] X.env := by rfl) (hpl : (backTo pos (starEach [] X.env)).any (·.1) = false := by rfl) : PE X (.Call (.Name "list" p) [e] [] pos) (rdF (X.K, Z) W (mCallF sList m)) :=
  df_callTy call_list_of (fun W hd φ H w ds xs Q wr rx p => by
    match ds, p with
    | [t], p =>
      unfold sList at p
      simp only at p
      cases q : seq? w t with
      | none => rw [q] at p; exact p.elim
      | some ts =>
        rw [q] at p
        obtain ⟨v, rfl, r⟩ := reps1 rx
        obtain ⟨a, xs, rfl, h1, h2⟩ := seq_at wr r q
        exact ⟨a, xs, rfl, h1, p.new wr h2⟩) hm (by decide +kernel) ha hg (by decide) (by decide) he hpl
def sTup : SC := fun ds w => match ds with
  | [t] => match seq? w t with
    | some ts => .ok (.tup ts) w
    | none => .no
  | _ => .no
theorem de_tuple (hm : X.mg "tuple" = none) (ha : PA X [e] (rdA (X.K, Z) W m)) (hg : Gl X "tuple" := by rfl) (he : starEach [e] X.env = (false, eval e X.env) :: starEach [] X.env := by rfl) (hpl : (backTo pos (starEach [] X.env)).any (·.1) = false := by rfl) : PE X (.Call (.Name "tuple" p) [e] [] pos) (rdE (X.K, Z) W (mCall sTup m)) :=
  de_callTy call_tuple_of (fun W hd φ H w ds xs Q wr rx p => by
    match ds, p with
    | [t], p =>
      unfold sTup at p
      simp only at p
      cases q : seq? w t with
      | none => rw [q] at p; exact p.elim
      | some ts =>
        rw [q] at p
        obtain ⟨v, rfl, r⟩ := reps1 rx
        have r' := r
        cases t with
        | tup us =>
          cases q
          unfold Rep at r
          obtain ⟨a, xs, rfl, n, rs⟩ := r
          exact ⟨a, xs, rfl, .inr ⟨SqT.of n.1, p.ok wr _ r'⟩⟩
        | lst us =>
          cases q
          unfold Rep at r
          obtain ⟨a, xs, rfl, n, rs⟩ := r
          exact ⟨a, xs, rfl, .inl ⟨SqL.of n.1, p.tup wr rs⟩⟩
        | frz us =>
          cases q
          unfold Rep at r
          obtain ⟨a, xs, rfl, n, rs⟩ := r
          exact ⟨a, xs, rfl, .inl ⟨frz_sq n, p.tup wr rs⟩⟩
        | cell k =>
          unfold seq? at q
          simp only at q
          split at q
          · rename_i us hk
            cases q
            obtain ⟨a, rfl, _, _, xs, h1, h2⟩ := cell_at wr r hk
            exact ⟨a, xs, rfl, .inl ⟨SqL.of h1, p.tup wr h2⟩⟩
          · cases q
        | _ => cases q) hm (by decide +kernel) ha hg (by decide) (by decide) he hpl
def blsT : List T → Option (List Bool)
  | [] => some []
  | .bl b :: ts => (blsT ts).map (b :: ·)
  | _ :: _ => none
theorem bls_at : ∀ {ts : List T} {vs : List V} {bs : List Bool}, Reps K hd φ H ts vs → blsT ts = some bs → vs = bs.map V.bl
  | [], vs, bs, r, h => by cases h; unfold Reps at r; exact r
  | .bl b :: ts, vs, bs, r, h => by
    unfold Reps at r
    obtain ⟨x, xs, rfl, r1, r2⟩ := r
    unfold Rep at r1
    subst r1
    obtain ⟨cs, h1, rfl⟩ := map_some h
    rw [bls_at r2 h1]
    rfl
  | .non :: ts, vs, bs, r, h => by cases h
  | .int _ :: ts, vs, bs, r, h => by cases h
  | .str _ :: ts, vs, bs, r, h => by cases h
  | .ty _ :: ts, vs, bs, r, h => by cases h
  | .tup _ :: ts, vs, bs, r, h => by cases h
  | .lst _ :: ts, vs, bs, r, h => by cases h
  | .frz _ :: ts, vs, bs, r, h => by cases h
  | .rng _ :: ts, vs, bs, r, h => by cases h
  | .glb _ :: ts, vs, bs, r, h => by cases h
  | .exc _ _ _ :: ts, vs, bs, r, h => by cases h
  | .dct _ _ :: ts, vs, bs, r, h => by cases h
  | .cell _ :: ts, vs, bs, r, h => by cases h
def sAll : SC := fun ds w => match ds with
  | [t] => match lst? w t with
    | some ts => match blsT ts with
      | some bs => .ok (.bl (bs.all id)) w
      | none => .no
    | none => .no
  | _ => .no
def sAny : SC := fun ds w => match ds with
  | [t] => match lst? w t with
    | some ts => match blsT ts with
      | some bs => .ok (.bl (bs.any id)) w
      | none => .no
    | none => .no
  | _ => .no
theorem de_all (hc : X.calm = true) (hm : X.mg "all" = none) (ha : PA X [e] (rdA (X.K, Z) W m)) (hg : Gl X "all" := by rfl) (he : starEach [e] X.env = (false, eval e X.env) :: starEach [] X.env := by rfl) (hpl : (backTo pos (starEach [] X.env)).any (·.1) = false := by rfl) : PE X (.Call (.Name "all" p) [e] [] pos) (rdE (X.K, Z) W (mCall sAll m)) :=
  de_callB (cr_all hc) (fun W hd φ H w ds xs Q wr rx p => by
    match ds, p with
    | [t], p =>
      unfold sAll at p
      simp only at p
      cases q : lst? w t with
      | none => rw [q] at p; exact p.elim
      | some ts =>
        cases q2 : blsT ts with
        | none => simp only [q, q2] at p; exact p.elim
        | some bs =>
          simp only [q, q2] at p
          obtain ⟨v, rfl, r⟩ := reps1 rx
          obtain ⟨a, xs, rfl, h1, h2⟩ := lst_at wr r q
          have e := bls_at h2 q2
          subst e
          exact ⟨a, bs, rfl, SqL.of h1, p.bl wr⟩) hm (by decide +kernel) ha hg (by decide) (by decide) he hpl
theorem de_any (hc : X.calm = true) (hm : X.mg "any" = none) (ha : PA X [e] (rdA (X.K, Z) W m)) (hg : Gl X "any" := by rfl) (he : starEach [e] X.env = (false, eval e X.env) :: starEach [] X.env := by rfl) (hpl : (backTo pos (starEach [] X.env)).any (·.1) = false := by rfl) : PE X (.Call (.Name "any" p) [e] [] pos) (rdE (X.K, Z) W (mCall sAny m)) :=
  de_callB (cr_any hc) (fun W hd φ H w ds xs Q wr rx p => by
    match ds, p with
    | [t], p =>
      unfold sAny at p
      simp only at p
      cases q : lst? w t with
      | none => rw [q] at p; exact p.elim
      | some ts =>
        cases q2 : blsT ts with
        | none => simp only [q, q2] at p; exact p.elim
        | some bs =>
          simp only [q, q2] at p
          obtain ⟨v, rfl, r⟩ := reps1 rx
          obtain ⟨a, xs, rfl, h1, h2⟩ := lst_at wr r q
          have e := bls_at h2 q2
          subst e
          exact ⟨a, bs, rfl, SqL.of h1, p.bl wr⟩) hm (by decide +kernel) ha hg (by decide) (by decide) he hpl
/-! ### isinstance -/
def kindT (w : World) : T → Option String
  | .non => some "NoneType"
  | .bl _ => some "bool"
  | .int _ => some "int"
  | .str _ => some "str"
  | .tup _ => some "tuple"
  | .lst _ => some "list"
  | .dct _ _ => some "dict"
  | .cell k => match w[k]? with
    | some (.lst _) => some "list"
    | some (.dic _) => some "dict"
    | some (.dit _) => some "dict"
    | _ => none
  | _ => none
def kinds : List String := ["NoneType", "bool", "int", "str", "tuple", "list", "dict"]
def isiB (a n : String) : Bool := a == n || (a == "bool" && n == "int")
theorem kit_tab : ∀ a ∈ kinds, ∀ n ∈ kinds, kitB a n = some (isiB a n) := by decide +kernel
theorem kindT_mem {t : T} {a : String} (h : kindT w t = some a) : a ∈ kinds := by
  unfold kindT at h
  split at h <;> first | (cases h; decide) | (split at h <;> first | (cases h; decide) | cases h) | cases h
theorem kind_at (wr : WR K hd φ H w) {t : T} {v : V} {a : String} (r : Rep K hd φ H t v) (h : kindT w t = some a) : TyX K.1 H v (.type a) := by
  cases t with
  | non => cases h; unfold Rep at r; subst r; exact .base .non
  | bl b => cases h; unfold Rep at r; subst r; exact .base (.bl b)
  | int i => cases h; unfold Rep at r; subst r; exact .base (.int i)
  | str i => cases h; unfold Rep at r; subst r; exact .base (.str i)
  | tup ts => cases h; unfold Rep at r; obtain ⟨l, xs, rfl, n, _⟩ := r; exact .base (.tup n.1)
  | lst ts => cases h; unfold Rep at r; obtain ⟨l, xs, rfl, n, _⟩ := r; exact .base (.lst n.1)
  | dct ks ts => cases h; unfold Rep at r; obtain ⟨l, xs, rfl, _, n, _⟩ := r; exact .base (.dK n.1)
  | cell k =>
    unfold kindT at h
    simp only at h
    cases q : w[k]? with
    | none => rw [q] at h; cases h
    | some c =>
      rw [q] at h
      cases c with
      | lst ts => cases h; obtain ⟨l, rfl, _, _, xs, h1, _⟩ := cell_at wr r q; exact .base (.lst h1)
      | dic kvs => cases h; obtain ⟨l, rfl, _, _, xs, h1, _⟩ := cell_at wr r q; exact .base (.dK h1)
      | dit kvs => cases h; obtain ⟨l, rfl, _, _, xs, h1, _⟩ := cell_at wr r q; exact .base (.dT h1)
      | obj x ks ts => cases h
  | _ => cases h
def tysT : List T → Option (List String)
  | [] => some []
  | .ty n :: ts => (tysT ts).map (n :: ·)
  | _ :: _ => none
def sIsi : SC := fun ds w => match ds with
  | [t, .ty n] => match kindT w t with
    | some a => if n ∈ kinds then .ok (.bl (isiB a n)) w else .no
    | none => .no
  | [t, .tup ts] => match kindT w t, tysT ts with
    | some a, some ns => if ∀ n ∈ ns, n ∈ kinds then .ok (.bl (ns.any fun n => isiB a n)) w else .no
    | _, _ => .no
  | _ => .no
theorem tys_at : ∀ {ts : List T} {vs : List V} {ns : List String}, Reps K hd φ H ts vs → tysT ts = some ns → vs = ns.map V.ty
  | [], vs, bs, r, h => by cases h; unfold Reps at r; exact r
  | .ty b :: ts, vs, bs, r, h => by
    unfold Reps at r
    obtain ⟨x, xs, rfl, r1, r2⟩ := r
    unfold Rep at r1
    subst r1
    obtain ⟨cs, h1, rfl⟩ := map_some h
    rw [tys_at r2 h1]
    rfl
  | .non :: ts, vs, bs, r, h => by cases h
  | .int _ :: ts, vs, bs, r, h => by cases h
  | .str _ :: ts, vs, bs, r, h => by cases h
  | .bl _ :: ts, vs, bs, r, h => by cases h
  | .tup _ :: ts, vs, bs, r, h => by cases h
  | .lst _ :: ts, vs, bs, r, h => by cases h
  | .frz _ :: ts, vs, bs, r, h => by cases h
  | .rng _ :: ts, vs, bs, r, h => by cases h
  | .glb _ :: ts, vs, bs, r, h => by cases h
  | .exc _ _ _ :: ts, vs, bs, r, h => by cases h
  | .dct _ _ :: ts, vs, bs, r, h => by cases h
  | .cell _ :: ts, vs, bs, r, h => by cases h
theorem kit_any {a : String} (ha : a ∈ kinds) : ∀ {ns : List String}, (∀ n ∈ ns, n ∈ kinds) → PySem.W.kitAny K.1 (.type a) (ns.map Value.type) = some (ns.any fun n => isiB a n)
  | [], _ => kitAny_nil
  | n :: ns, h => by
    have h1 := kit_ty (K := K.1) (kit_tab a ha n (h n List.mem_cons_self))
    have h2 := kit_any ha fun m hm => h m (List.mem_cons_of_mem _ hm)
    refine kitAny_cons h1 (fun e => ?_) (fun e => ?_)
    · rw [h2, List.any_cons, e, Bool.false_or]
    · rw [List.any_cons, e, Bool.true_or]
theorem cls_all : ∀ ns : List String, Paired ClsV (ns.map V.ty) (ns.map Value.type)
  | [] => .nil
  | n :: ns => .cons (.ty n) (cls_all ns)
theorem opIsi : OpC K sIsi (fun xs H Q => rIsi K.1 xs H Q ∨ rIsiT K.1 xs H Q) := fun W hd φ H w ds xs Q wr rx p => by
  match ds, p with
  | [t, .ty n], p =>
    unfold sIsi at p
    simp only at p
    cases q : kindT w t with
    | none => rw [q] at p; exact p.elim
    | some a =>
      rw [q] at p
      simp only at p
      split at p
      · rename_i hn
        obtain ⟨v, u, rfl, r1, r2⟩ := reps2 rx
        unfold Rep at r2
        subst r2
        exact .inl ⟨v, .ty n, .type a, .type n, isiB a n, rfl, .ty n, kind_at wr r1 q, kit_ty (kit_tab a (kindT_mem q) n hn), p.bl wr⟩
      · exact p.elim
  | [t, .tup ts], p =>
    unfold sIsi at p
    simp only at p
    cases q : kindT w t with
    | none => simp only [q] at p; exact p.elim
    | some a =>
      cases q2 : tysT ts with
      | none => simp only [q, q2] at p; exact p.elim
      | some ns =>
        simp only [q, q2] at p
        split at p
        · rename_i hn
          obtain ⟨v, u, rfl, r1, r2⟩ := reps2 rx
          unfold Rep at r2
          obtain ⟨l, ys, rfl, n2, r3⟩ := r2
          have e := tys_at r3 q2
          subst e
          exact .inr ⟨v, l, ns.map V.ty, .type a, ns.map Value.type, _, rfl, n2.1, cls_all ns, kind_at wr r1 q, kit_any (kindT_mem q) hn, p.bl wr⟩
        · exact p.elim
theorem de_isi (hm : X.mg "isinstance" = none) (ha : PA X [e, e2] (rdA (X.K, Z) W m)) (hg : Gl X "isinstance" := by rfl) (he : starEach [e, e2] X.env = (false, eval e X.env) :: starEach [e2] X.env := by rfl) (hpl : (backTo pos (starEach [e2] X.env)).any (·.1) = false := by rfl) : PE X (.Call (.Name "isinstance" p) [e, e2] [] pos) (rdE (X.K, Z) W (mCall sIsi m)) :=
  de_callB (call_isi.or call_isiT) opIsi hm (by decide +kernel) ha hg (by decide) (by decide) he hpl
end
end VS

set_option Elab.async false
set_option linter.all false
set_option maxRecDepth 100000
set_option maxHeartbeats 2000000
namespace VS
open PySem PySem.Spec PyProof.Rows L2
section
variable {X : Cx} {K : KT} {hd φ : List Addr} {H : Hp} {w : World} {a b o e : Expr} {es : List Expr} {pos : Pos} {ma mb mo : ME} {m : MF} {Z : List (Addr × Str)} {W : Option WX}
theorem reps_rg (lo : Int) (n : Nat) : Reps K hd φ H (rgT lo n) ((List.range n).map fun i => V.int (lo + (i : Nat))) := by
  unfold rgT
  refine Reps.iff.mpr ⟨by simp, fun i t x h1 h2 => ?_⟩
  rw [List.getElem?_map] at h1 h2
  cases q : (List.range n)[i]? with
  | none => rw [q] at h1; cases h1
  | some j => rw [q] at h1 h2; cases h1; cases h2; unfold Rep; rfl
instance {i j : Int} : Decidable (L2.RgOk i j) := by unfold L2.RgOk; infer_instance
def mLRg1 (m : ME) : MF := fun ρ w => (m ρ w).bind fun t w1 => match t with
  | .int n => if L2.RgOk 0 n then .ok (rgT 0 n.toNat) w1 else .no
  | _ => .no
theorem df_listRg1 {p p2 q2 : Pos} (hc : X.calm = true) (hm : X.mg "list" = none) (hm2 : X.mg "range" = none) (ha : PE X a (rdE (X.K, Z) W ma)) (hg : Gl X "list" := by rfl) (hg2 : Gl X "range" := by rfl) (na : starEach [a] X.env = (false, eval a X.env) :: starEach [] X.env := by rfl)
    (na2 : starEach [.Call (.Name "range" p2) [a] [] q2] X.env = (false, eval (.Call (.Name "range" p2) [a] [] q2) X.env) :: starEach [] X.env := by rfl) : PE X (.Call (.Name "list" p) [.Call (.Name "range" p2) [a] [] q2] [] pos) (rdF (X.K, Z) W (mLRg1 ma)) := PE_imp (pe_listRg hc hg hm (prg_1 hg2 hm2 ha na) na2) fun σ H Q => by
  rintro ⟨hd, φ, ρ, w, sr, wr, p⟩
  refine ⟨hd, φ, ρ, w, sr, wr, Pst.then isPstF p fun d w1 φ1 H1 e1 wr1 p1 v rv => ?_⟩
  cases d with
  | int n =>
    cases rep_int rv
    simp only at p1
    split at p1
    · rename_i ok
      refine ⟨n, rfl, ok, fun q hq => p1.new wr1 ?_ q hq⟩
      have := reps_rg (K := (X.K, Z)) (hd := hd) (φ := φ1) (H := H1) 0 n.toNat
      unfold rgV
      rw [Int.sub_zero]
      exact this
    · exact p1.elim
  | _ => exact p1.elim
def mLRg2 (m m2 : ME) : MF := fun ρ w => (m ρ w).bind fun t w1 => (m2 ρ w1).bind fun u w2 => match t, u with
  | .int i, .int j => if L2.RgOk i j then .ok (rgT i (j - i).toNat) w2 else .no
  | _, _ => .no
theorem df_listRg2 {p p2 q2 : Pos} (hc : X.calm = true) (hm : X.mg "list" = none) (hm2 : X.mg "range" = none) (ha : PE X a (rdE (X.K, Z) W ma)) (hb : PE X b (rdE (X.K, Z) W mb)) (hg : Gl X "list" := by rfl) (hg2 : Gl X "range" := by rfl) (na : starEach [a, b] X.env = (false, eval a X.env) :: starEach [b] X.env := by rfl) (nb : starEach [b] X.env = (false, eval b X.env) :: starEach [] X.env := by rfl) (hp2 : (backTo q2 (starEach [b] X.env)).any (·.1) = false := by rfl)
    (na2 : starEach [.Call (.Name "range" p2) [a, b] [] q2] X.env = (false, eval (.Call (.Name "range" p2) [a, b] [] q2) X.env) :: starEach [] X.env := by rfl) : PE X (.Call (.Name "list" p) [.Call (.Name "range" p2) [a, b] [] q2] [] pos) (rdF (X.K, Z) W (mLRg2 ma mb)) := PE_imp (pe_listRg hc hg hm (prg_2 hg2 hm2 ha hb na nb hp2) na2) fun σ H Q => by
  rintro ⟨hd, φ, ρ, w, sr, wr, p⟩
  refine ⟨hd, φ, ρ, w, sr, wr, Pst.then isPstF p fun d w1 φ1 H1 e1 wr1 p1 v rv => ?_⟩
  refine ⟨hd, φ1, ρ, w1, sr.mono e1, wr1, Pst.then isPstF p1 fun d2 w2 φ2 H2 e2 wr2 p2 v2 rv2 => ?_⟩
  cases d with
  | int i =>
    cases d2 with
    | int j =>
      cases rep_int rv
      cases rep_int rv2
      simp only at p2
      split at p2
      · rename_i ok
        exact ⟨i, j, rfl, rfl, ok, fun q hq => p2.new wr2 (reps_rg i (j - i).toNat) q hq⟩
      · exact p2.elim
    | _ => exact p2.elim
  | _ => exact p2.elim

/-! ### methods of lists -/
abbrev SM := T → List T → World → R T
def OpM (K : KT) (s : SM) (r : V → List V → Hp → VK → Prop) : Prop := ∀ (W : Option WX) hd φ H w d ds x xs Q, WR K hd φ H w → Rep K hd φ H d x → Reps K hd φ H ds xs → Pst K W hd (CE K hd Q) φ H (s d ds w) → r x xs H Q
def mMeth (s : SM) (o : ME) (m : MF) : ME := fun ρ w => (o ρ w).bind fun d w1 => match lst? w1 d with
  | some _ => (m ρ w1).bind fun ds w2 => s d ds w2
  | none => .no
theorem meth_read {s : SM} {r : V → List V → Hp → VK → Prop} (hs : OpM K s r) : ∀ σ H Q, rdE K W (mMeth s mo m) σ H Q → tBM K.1 "list" r (rdE K W mo) (rdA K W m) σ H Q := fun σ H Q => by
  rintro ⟨hd, φ, ρ, w, sr, wr, p⟩
  refine ⟨hd, φ, ρ, w, sr, wr, Pst.then isPst p fun d w1 φ1 H1 e1 wr1 p1 x rx => ?_⟩
  cases q : lst? w1 d with
  | none => rw [q] at p1; exact p1.elim
  | some ts =>
    rw [q] at p1
    obtain ⟨l, xs, e, h1, h2⟩ := lst_at wr1 rx q
    refine ⟨by rw [e]; exact .inl ⟨rfl, xs, SqL.of h1⟩, hd, φ1, ρ, w1, sr.mono e1, wr1, Pst.then isPst p1 fun ds w2 φ2 H2 e2 wr2 p2 vs rvs => ?_⟩
    exact hs W hd φ2 H2 w2 d ds x vs Q wr2 (rx.mono e2) rvs p2
/-- a cell that is a list, written -/
theorem Pst.write {Q : VK} {k : Nat} {l : Addr} {xs ys : List V} {us : List T} {t : T} {v : V} (wr : WR K hd φ H w) (hk : φ[k]? = some l) (rs : Reps K hd φ H us ys) (rt : Rep K hd φ H t v)
    (p : Pst K W hd (CE K hd Q) φ H (.ok t (w.set k (.lst us)))) : Q v (upd H l (.lst ys)) := by
  have e : Ext hd φ H hd φ (upd H l (.lst ys)) := Ext.write (List.mem_of_getElem? hk)
  exact p _ _ e (wr.write hk ⟨ys, upd_same, rs.mono e⟩) _ (rt.mono e)
def sAppend : SM := fun d ds w => match d, ds with
  | .cell k, [t] => match w[k]? with
    | some (.lst ts) => if ts.length < sizeLine then .ok .non (w.set k (.lst (ts ++ [t]))) else .no
    | _ => .no
  | _, _ => .no
theorem opAppend : OpM K sAppend rAppend := fun W hd φ H w d ds x xs Q wr rx rxs p => by
  cases d with
  | cell k =>
    cases ds with
    | nil => exact p.elim
    | cons t r =>
      cases r with
      | cons _ _ => exact p.elim
      | nil =>
        unfold sAppend at p
        simp only at p
        cases q : w[k]? with
        | none => rw [q] at p; exact p.elim
        | some c =>
          rw [q] at p
          cases c with
          | lst ts =>
            simp only at p
            split at p
            · rename_i hl
              obtain ⟨l, rfl, hk, _, ys, h1, h2⟩ := cell_at wr rx q
              obtain ⟨v, rfl, rt⟩ := reps1 rxs
              exact ⟨l, ys, v, rfl, rfl, h1, by rw [← h2.len]; exact hl, Pst.write (xs := ys) wr hk (h2.append (Reps.cons rt Reps.nil)) (by unfold Rep; rfl) p⟩
            · exact p.elim
          | _ => exact p.elim
  | _ => exact p.elim
theorem de_append {apos : Pos} (ho : PE X o (rdE (X.K, Z) W mo)) (ha : PA X [e] (rdA (X.K, Z) W m))
    (hbase : attributeBase o "append" X.env (eval o X.env) = eval o X.env := by rfl) (hline : (apos.endLine == pos.line) = true := by rfl)
    (hfew : ((backTo pos (starEach [e] X.env)).all (fun x => !x.1) && (backToKw pos (keywordEach [] X.env)).all (fun x => x.1.isSome)
      && decide (([e] : List Expr).length + ([] : List Keyword).length + (if ([] : List Keyword).isEmpty then 0 else 1) < 30)) = true := by rfl)
    (hs : starEach [e] X.env = (false, eval e X.env) :: starEach [] X.env := by rfl) (hplain : (backTo pos (starEach [] X.env)).any (·.1) = false := by rfl) :
    PE X (.Call (.Attribute o "append" apos) [e] [] pos) (rdE (X.K, Z) W (mMeth sAppend mo m)) :=
  PE_imp (pe_bm PySem.F.plainAttrs_list PySem.F.slot_list_append PySem.F.type_list_append mt_append ho ha hbase hfew hline hs hplain) (meth_read opAppend)
def sPopAt : SM := fun d ds w => match d, ds with
  | .cell k, [.int i] => match w[k]? with
    | some (.lst ts) => if -(2 ^ 63) ≤ i ∧ i < 2 ^ 63 then match seqIndex? i ts.length with
        | some j => match ts[j]? with
          | some t => .ok t (w.set k (.lst (ts.eraseIdx j)))
          | none => .no
        | none => .no
      else .no
    | _ => .no
  | _, _ => .no
theorem opPopAt : OpM K sPopAt rPopAt := fun W hd φ H w d ds x xs Q wr rx rxs p => by
  cases d with
  | cell k =>
    cases ds with
    | nil => exact p.elim
    | cons t r =>
      cases r with
      | cons _ _ => cases t <;> exact p.elim
      | nil =>
        cases t with
        | int i =>
          unfold sPopAt at p
          simp only at p
          cases q : w[k]? with
          | none => rw [q] at p; exact p.elim
          | some c =>
            rw [q] at p
            cases c with
            | lst ts =>
              simp only at p
              split at p
              · rename_i hl
                obtain ⟨l, rfl, hk, _, ys, h1, h2⟩ := cell_at wr rx q
                obtain ⟨v, rfl, rt⟩ := reps1 rxs
                cases rep_int rt
                cases q2 : seqIndex? i ts.length with
                | none => rw [q2] at p; exact p.elim
                | some j =>
                  rw [q2] at p
                  simp only at p
                  cases q3 : ts[j]? with
                  | none => rw [q3] at p; exact p.elim
                  | some t =>
                    rw [q3] at p
                    obtain ⟨y, h3, h4⟩ := h2.at q3
                    exact ⟨l, ys, i, j, y, rfl, rfl, h1, hl.1, hl.2, by rw [← h2.len]; exact q2, h3, Pst.write (xs := ys) wr hk (h2.eraseIdx j) h4 p⟩
              · exact p.elim
            | _ => exact p.elim
        | _ => exact p.elim
  | _ => exact p.elim
theorem de_popAt {apos : Pos} (ho : PE X o (rdE (X.K, Z) W mo)) (ha : PA X [e] (rdA (X.K, Z) W m))
    (hbase : attributeBase o "pop" X.env (eval o X.env) = eval o X.env := by rfl) (hline : (apos.endLine == pos.line) = true := by rfl)
    (hfew : ((backTo pos (starEach [e] X.env)).all (fun x => !x.1) && (backToKw pos (keywordEach [] X.env)).all (fun x => x.1.isSome)
      && decide (([e] : List Expr).length + ([] : List Keyword).length + (if ([] : List Keyword).isEmpty then 0 else 1) < 30)) = true := by rfl)
    (hs : starEach [e] X.env = (false, eval e X.env) :: starEach [] X.env := by rfl) (hplain : (backTo pos (starEach [] X.env)).any (·.1) = false := by rfl) :
    PE X (.Call (.Attribute o "pop" apos) [e] [] pos) (rdE (X.K, Z) W (mMeth sPopAt mo m)) :=
  PE_imp (pe_bm PySem.F.plainAttrs_list PySem.F.slot_list_pop PySem.F.type_list_pop mt_popAt ho ha hbase hfew hline hs hplain) (meth_read opPopAt)

/-! ### o[i] = v -/
def rSetD : TSet := fun o i v H Q => ∃ a H', o = .ref a ∧ DPut H a i v H' ∧ Q H'
theorem set_dict (hu : X.A.units + 1 < cLine) : PSet X rSetD := by
  intro pins s σ H o i v ov iv u Q I ro ri rv h
  obtain ⟨a, H', rfl, g, q⟩ := h
  obtain rfl : ov = Value.ref a := ro
  exact d_setItem hu I g ri rv fun s' I' => ⟨H', I', q⟩
theorem PSet.or {t t' : TSet} (h : PSet X t) (h' : PSet X t') : PSet X (fun o i v H Q => t o i v H Q ∨ t' o i v H Q) := by
  intro pins s σ H o i v ov iv u Q I ro ri rv q
  rcases q with q | q
  · exact h pins s σ H o i v ov iv u Q I ro ri rv q
  · exact h' pins s σ H o i v ov iv u Q I ro ri rv q
def sSet : S3 := fun o i t w => match o with
  | .cell k => match w[k]? with
    | some (.lst ts) => match i with
      | .int n => match ixN ts.length n with
        | some j => .ok () (w.set k (.lst (ts.set j t)))
        | none => .no
      | _ => .no
    | some (.dic kvs) => match keyT i with
      | some key => if kvs.length < sizeLine then .ok () (w.set k (.dic (putT kvs key t))) else .no
      | none => .no
    | some (.dit kvs) => match i with
      | .tup us => match keysT us with
        | some key => if kvs.length < sizeLine then .ok () (w.set k (.dit (putT kvs key t))) else .no
        | none => .no
      | _ => .no
    | _ => .no
  | _ => .no
theorem opSet : OpSet K sSet (fun o i v H Q => rSetL o i v H Q ∨ rSetD o i v H Q) := fun W hd φ H w d1 d2 d3 x y z Q wr r1 r2 r3 p => by
  cases d1 with
  | cell k =>
    unfold sSet at p
    simp only at p
    cases q : w[k]? with
    | none => rw [q] at p; exact p.elim
    | some c =>
      rw [q] at p
      cases c with
      | lst ts =>
        cases d2 with
        | int n =>
          cases rep_int r2
          simp only at p
          cases q2 : ixN ts.length n with
          | none => rw [q2] at p; exact p.elim
          | some j =>
            rw [q2] at p
            obtain ⟨l, rfl, hk, hm, ys, h1, h2⟩ := cell_at wr r1 q
            have e : Ext hd φ H hd φ (upd H l (.lst (ys.set j z))) := Ext.write hm
            exact .inl ⟨l, ys, n, j, rfl, rfl, h1, by rw [← h2.len]; exact q2, p _ _ e (wr.write hk ⟨_, upd_same, (h2.set r3 j).mono e⟩)⟩
        | _ => exact p.elim
      | dic kvs =>
        simp only at p
        cases q2 : keyT d2 with
        | none => rw [q2] at p; exact p.elim
        | some key =>
          rw [q2] at p
          simp only at p
          split at p
          · rename_i hl
            obtain ⟨l, rfl, hk, hm, ys, h1, h2, h3⟩ := cell_at wr r1 q
            have e : Ext hd φ H hd φ (upd H l (.dK (putK ys key z))) := Ext.write hm
            have hlen : ys.length = kvs.length := by simpa using congrArg List.length h2
            obtain ⟨g1, g2⟩ := putT_at h2 h3 key r3
            rw [key_at r2 q2]
            exact .inr ⟨l, _, rfl, DPut.k h1 (by rw [hlen]; exact hl), p _ _ e (wr.write hk ⟨_, upd_same, g1, g2.mono e⟩)⟩
          · exact p.elim
      | dit kvs =>
        cases d2 with
        | tup us =>
          simp only at p
          cases q2 : keysT us with
          | none => rw [q2] at p; exact p.elim
          | some key =>
            rw [q2] at p
            simp only at p
            split at p
            · rename_i hl
              obtain ⟨l, rfl, hk, hm, ys, h1, h2, h3⟩ := cell_at wr r1 q
              have e : Ext hd φ H hd φ (upd H l (.dT (putK ys key z))) := Ext.write hm
              have hlen : ys.length = kvs.length := by simpa using congrArg List.length h2
              obtain ⟨g1, g2⟩ := putT_at h2 h3 key r3
              unfold Rep at r2
              obtain ⟨m, zs, rfl, n, rz⟩ := r2
              have e' := keys_at rz q2
              subst e'
              exact .inr ⟨l, _, rfl, DPut.t h1 n.1 (by rw [hlen]; exact hl), p _ _ e (wr.write hk ⟨_, upd_same, g1, g2.mono e⟩)⟩
            · exact p.elim
        | _ => exact p.elim
      | obj x ks ts => exact p.elim
  | _ => exact p.elim
theorem dg_item (hu : X.A.units + 1 < cLine) {i : Expr} {mi : ME} (ho : PE X o (rdE (X.K, Z) W mo)) (hi : PE X i (rdE (X.K, Z) W mi))
    (ha : ∀ v, assign (.Subscript o i pos) X.env v = (do
      let ov ← holding [v] (eval o X.env)
      let iv ← holding [v, ov] (eval i X.env)
      standAt pos
      holding [v, ov, iv] (setItem ov iv v)
      release [v, ov, iv] []) := by exact fun _ => rfl) : PG X (.Subscript o i pos) (rdG (X.K, Z) W (mgSub sSet mo mi) []) := dg_sub ho hi (PSet.or set_list (set_dict hu)) opSet ha

/-! ### {} and {k: v, ..} -/
/-- a dict held apart becomes a cell -/
def mDict0 : ME := fun _ w => .ok (.cell w.length) (w ++ [.dic []])
def mDictT0 : ME := fun _ w => .ok (.cell w.length) (w ++ [.dit []])
theorem new_cell {Q : VK} {o : HO} {c : Cell} (wr : WR K hd φ H w) (p : Pst K W hd (CE K hd Q) φ H (.ok (.cell w.length) (w ++ [c]))) (hc : ∀ l, H l = none → CellR K (l :: hd) φ (upd H l o) c l) (ho : ∀ ps, o ≠ .tbl ps := by exact fun _ z => nomatch z) : ∀ l, H l = none → Q (.ref l) (upd H l o) := fun l hl => by
  refine p _ (φ ++ [l]) ((Ext.hold hl).cell (fr0_none hl)) ((wr.hold hl ho).cell (wr.nin hl).2 (hc l hl)) _ ?_
  unfold Rep
  refine ⟨l, rfl, ?_⟩
  rw [← wr.len, List.getElem?_append_right (Nat.le_refl _)]
  simp
theorem de_dict0 : PE X (.Dict [] [] pos) (rdE (X.K, Z) W mDict0) := PE_imp pe_dnewK fun σ H Q => by
  rintro ⟨hd, φ, ρ, w, sr, wr, p⟩
  exact new_cell wr p fun l hl => ⟨[], upd_same, rfl, Reps.nil⟩
theorem de_dictT0 : PE X (.Dict [] [] pos) (rdE (X.K, Z) W mDictT0) := PE_imp pe_dnewT fun σ H Q => by
  rintro ⟨hd, φ, ρ, w, sr, wr, p⟩
  exact new_cell wr p fun l hl => ⟨[], upd_same, rfl, Reps.nil⟩
/-- the pairs of a display: keys are written texts or ints -/
abbrev MPs := Env → World → R (List (Key × T))
def mpNil : MPs := fun _ w => .ok [] w
def mpCons (k v : ME) (r : MPs) : MPs := fun ρ w => (k ρ w).bind fun kt w1 => (v ρ w1).bind fun t w2 => (r ρ w2).bind fun ps w3 => match keyT kt with
  | some key => .ok ((key, t) :: ps) w3
  | none => .no
def rdP (K : KT) (W : Option WX) (m : MPs) : L2.St → Hp → (List (V × V) → Hp → Prop) → Prop := fun σ H Q => ∃ hd φ ρ w, SR K hd φ H σ ρ ∧ WR K hd φ H w ∧
  Pst K W hd (fun kvs φ' H' => ∀ ys : List (Key × V), ys.map (·.1) = kvs.map (·.1) → Reps K hd φ' H' (kvs.map (·.2)) (ys.map (·.2)) → Q (ys.map fun kv => (kV kv.1, kv.2)) H') φ H (m ρ w)
structure DPs (X : Cx) (Z : List (Addr × Str)) (W : Option WX) (pos : Pos) (keys : List (Option Expr)) (values : List Expr) (m : MPs) : Prop where
  ex : ∃ trs, PPs X pos keys values trs ∧ ∀ σ H Q, rdP (X.K, Z) W m σ H Q → tPairs trs σ H Q
theorem dp_nil : DPs X Z W pos [] [] mpNil := ⟨[], pps_nil, fun σ H Q => by
  rintro ⟨hd, φ, ρ, w, sr, wr, p⟩
  exact p.ok wr [] rfl Reps.nil⟩
theorem dp_cons {k v : Expr} {ks : List (Option Expr)} {vs : List Expr} {mk mv : ME} {mr : MPs} (hk : PE X k (rdE (X.K, Z) W mk)) (hv : PE X v (rdE (X.K, Z) W mv)) (hr : DPs X Z W pos ks vs mr) : DPs X Z W pos (some k :: ks) (v :: vs) (mpCons mk mv mr) := by
  obtain ⟨trs, h1, h2⟩ := hr.ex
  refine ⟨_, pps_cons hk hv h1, fun σ H Q => ?_⟩
  rintro ⟨hd, φ, ρ, w, sr, wr, p⟩
  refine ⟨hd, φ, ρ, w, sr, wr, Pst.then isPst p fun kt w1 φ1 H1 e1 wr1 p1 x rx => ?_⟩
  refine ⟨hd, φ1, ρ, w1, sr.mono e1, wr1, Pst.then isPst p1 fun t w2 φ2 H2 e2 wr2 p2 y ry => ?_⟩
  refine h2 σ H2 _ ⟨hd, φ2, ρ, w2, sr.mono (e1.trans e2), wr2, Pst.then isPst p2 fun ps w3 φ3 H3 e3 wr3 p3 ys g1 g2 => ?_⟩
  cases q : keyT kt with
  | none => rw [q] at p3; exact p3.elim
  | some key =>
    rw [q] at p3
    have := p3.ok wr3 ((key, y) :: ys) (by simp [g1]) (Reps.cons (ry.mono e3) g2)
    rw [key_at rx q]
    exact this
def mDict (m : MPs) : ME := fun ρ w => (m ρ w).bind fun kvs w1 => if kvs.length ≤ 15 ∧ (kvs.map (·.1)).Nodup then .ok (.cell w1.length) (w1 ++ [.dic kvs]) else .no
theorem merge_id : ∀ (ys acc : List (Key × V)), ((acc ++ ys).map (·.1)).Nodup → mergeK acc ys = acc ++ ys
  | [], acc, _ => by rw [List.append_nil]; rfl
  | p :: ys, acc, h => by
    show mergeK (putK acc p.1 p.2) ys = _
    have hn : valV acc p.1 = none := by
      cases q : valV acc p.1 with
      | none => rfl
      | some v =>
        exfalso
        have h1 : (acc.any fun kv => decide (kv.1 = p.1)) = true := by rw [valV_any, q]; rfl
        obtain ⟨z, hz, e⟩ := List.any_eq_true.mp h1
        have e := of_decide_eq_true e
        rw [List.map_append, List.nodup_append] at h
        exact h.2.2 z.1 (List.mem_map.mpr ⟨z, hz, rfl⟩) p.1 (by simp) e
    rw [putK_new _ hn, merge_id ys (acc ++ [(p.1, p.2)]) (by simpa using h)]
    simp
theorem de_dict {keys : List (Option Expr)} {values : List Expr} {m : MPs} (h : DPs X Z W pos keys values m) (hall : keys.all (·.isSome) = true := by rfl) (hl : keys.length = values.length := by rfl) (h0 : keys ≠ [] := by exact fun h => nomatch h) (h15 : keys.length ≤ 15 := by decide) : PE X (.Dict keys values pos) (rdE (X.K, Z) W (mDict m)) := by
  obtain ⟨trs, h1, h2⟩ := h.ex
  refine PE_imp (pe_disp h1 hall hl h0 h15) fun σ H Q => ?_
  rintro ⟨hd, φ, ρ, w, sr, wr, p⟩
  intro l hln
  have eh : Ext hd φ H (l :: hd) φ (upd H l (.dK [])) := Ext.hold hln
  refine h2 σ _ _ ⟨l :: hd, φ, ρ, w, sr.mono eh, wr.hold hln, ?_⟩
  unfold mDict at p
  cases q : m ρ w with
  | no => rw [q] at p; exact p.elim
  | ex t ρ' w' => rw [q] at p; exact PstX.hold hln p
  | ok kvs w1 =>
    rw [q, bind_ok] at p
    intro H' φ' e1 wr1 ys g1 g2
    have hx : H' l = some (.dK []) := e1.keep l _ upd_same (wr.hold (o := .dK []) hln |>.apart l · List.mem_cons_self) (fun _ z => nomatch z)
    split at p
    · rename_i hc
      refine ⟨hx, ys, rfl, by rw [show ys.length = kvs.length by simpa using congrArg List.length g1]; exact hc.1, ?_⟩
      have em : mergeK [] ys = ys := merge_id ys [] (by simpa [g1] using hc.2)
      rw [em]
      have eg : ExtD (some l) (l :: hd) φ' H' (l :: hd) φ' (upd H' l (.dK ys)) := ExtD.grow List.mem_cons_self
      have off : Off (some l) (l :: hd) H' := fun d h => by cases h; exact .inl List.mem_cons_self
      have e2 : Ext hd φ H (l :: hd) φ' (upd H' l (.dK ys)) := ((eh.toD.trans e1.toD).trans eg).plain (fr0_none hln)
      refine p _ (φ' ++ [l]) (e2.cell (fr0_none hln)) ((wr1.grow List.mem_cons_self hx).cell (wr.nin hln).2 ⟨ys, upd_same, g1, g2.monoD eg off⟩) _ ?_
      unfold Rep
      refine ⟨l, rfl, ?_⟩
      rw [← wr1.len, List.getElem?_append_right (Nat.le_refl _)]
      simp
    · exact p.elim
end
end VS

set_option Elab.async false
set_option linter.all false
set_option maxRecDepth 100000
set_option maxHeartbeats 2000000
namespace VS
open PySem PySem.Spec PyProof.Rows L2

/-! ### defs -/
/-- a body as a function of the arguments -/
def runB (n : Nat) (b : MS) : Sem := fun ds w => match b (ds.map some ++ List.replicate (n - ds.length) none) w with
  | .ok (_, .ret t) w' => .ok t w'
  | .ok (_, .nx) w' => .ok .non w'
  | .ex t _ w' => .ex t [] w'
  | _ => .no
/-! cells of the world ahead alone -/
mutual
def NoRef (n : Nat) : T → Prop
  | .cell k => k < n
  | .tup ts => NoRefs n ts
  | .lst ts => NoRefs n ts
  | .frz ts => NoRefs n ts
  | .exc _ _ ts => NoRefs n ts
  | .dct _ ts => NoRefs n ts
  | _ => True
def NoRefs (n : Nat) : List T → Prop
  | [] => True
  | t :: ts => NoRef n t ∧ NoRefs n ts
end
def NoRefC (n : Nat) : Cell → Prop
  | .lst ts => NoRefs n ts
  | .dic kvs => NoRefs n (kvs.map (·.2))
  | .dit kvs => NoRefs n (kvs.map (·.2))
  | .obj _ _ ts => NoRefs n ts
mutual
def mapC (g : Nat → T) : T → T
  | .cell k => g k
  | .tup ts => .tup (mapCs g ts)
  | .lst ts => .lst (mapCs g ts)
  | .frz ts => .frz (mapCs g ts)
  | .non => .non
  | .bl b => .bl b
  | .int i => .int i
  | .str x => .str x
  | .ty n => .ty n
  | .rng n => .rng n
  | .glb x => .glb x
  | .exc x ks ts => .exc x ks (mapCs g ts)
  | .dct ks ts => .dct ks (mapCs g ts)
def mapCs (g : Nat → T) : List T → List T
  | [] => []
  | t :: ts => mapC g t :: mapCs g ts
end
/-- the cells from n on read out -/
def fz (n : Nat) (w : World) : Nat → T → T
  | 0, t => t
  | f + 1, t => mapC (fun k => if k < n then .cell k else match w[k]? with
    | some (.lst ts) => .lst (ts.map (fz n w f))
    | _ => .cell k) t
def GcOk (w w' : World) : Prop := w.length ≤ w'.length ∧ ∀ (k : Nat) c, k < w.length → w'[k]? = some c → w[k]? = some c ∨ NoRefC w.length c
open Classical in
noncomputable def gcR (w : World) : R T → R T
  | .ok t w' => if GcOk w w' ∧ NoRef w.length (fz w.length w' 3 t) then .ok (fz w.length w' 3 t) (w'.take w.length) else .no
  | .ex t _ w' => if GcOk w w' ∧ NoRef w.length t then .ex t [] (w'.take w.length) else .no
  | .no => .no
noncomputable def gc (f : Sem) : Sem := fun ds w => gcR w (f ds w)
section
variable {K : KT} {hd φ φ' : List Addr} {H H' : Hp} {w w' : World} {n : Nat}
mutual
theorem noRef_of : ∀ {t : T} {v : V}, Rep K hd φ H t v → NoRef φ.length t
  | .non, _, _ => by unfold NoRef; trivial
  | .bl _, _, _ => by unfold NoRef; trivial
  | .int _, _, _ => by unfold NoRef; trivial
  | .str _, _, _ => by unfold NoRef; trivial
  | .ty _, _, _ => by unfold NoRef; trivial
  | .rng _, _, _ => by unfold NoRef; trivial
  | .glb _, _, _ => by unfold NoRef; trivial
  | .exc x ks ts, v, h => by
    unfold Rep at h; unfold NoRef
    obtain ⟨_, _, _, _, _, _, q⟩ := h
    rcases q with ⟨_, rfl, _⟩ | ⟨_, _, _, _, _, r⟩
    · unfold NoRefs; trivial
    · exact noRefs_of r
  | .dct ks ts, v, h => by unfold Rep at h; unfold NoRef; obtain ⟨_, _, _, _, _, r⟩ := h; exact noRefs_of r
  | .tup ts, v, h => by unfold Rep at h; unfold NoRef; obtain ⟨_, _, _, _, r⟩ := h; exact noRefs_of r
  | .lst ts, v, h => by unfold Rep at h; unfold NoRef; obtain ⟨_, _, _, _, r⟩ := h; exact noRefs_of r
  | .frz ts, v, h => by unfold Rep at h; unfold NoRef; obtain ⟨_, _, _, _, r⟩ := h; exact noRefs_of r
  | .cell k, v, h => by unfold Rep at h; unfold NoRef; obtain ⟨_, _, r⟩ := h; exact (List.getElem?_eq_some_iff.mp r).1
theorem noRefs_of : ∀ {ts : List T} {vs : List V}, Reps K hd φ H ts vs → NoRefs φ.length ts
  | [], _, _ => by unfold NoRefs; trivial
  | t :: ts, _, h => by unfold Reps at h; unfold NoRefs; obtain ⟨_, _, _, r1, r2⟩ := h; exact ⟨noRef_of r1, noRefs_of r2⟩
end
theorem noRefC_of {c : Cell} {a : Addr} (h : CellR K hd φ H c a) : NoRefC φ.length c := by
  cases c with
  | lst ts => obtain ⟨_, _, r⟩ := h; exact noRefs_of r
  | dic kvs => obtain ⟨_, _, _, r⟩ := h; exact noRefs_of r
  | dit kvs => obtain ⟨_, _, _, r⟩ := h; exact noRefs_of r
  | obj x ks ts => obtain ⟨_, _, _, _, _, _, _, r⟩ := h; exact noRefs_of r
/-! back to the cells ahead -/
mutual
theorem Rep.back (nn : ∀ a, a ∉ φ' → a ∉ φ) (g : ∀ (k : Nat) (a : Addr), k < n → φ'[k]? = some a → φ[k]? = some a) : ∀ {t : T} {v : V}, Rep K hd φ' H t v → NoRef n t → Rep K hd φ H t v
  | .non, _, h, _ => h
  | .bl _, _, h, _ => h
  | .int _, _, h, _ => h
  | .str _, _, h, _ => h
  | .ty _, _, h, _ => h
  | .tup ts, v, h, q => by
    unfold Rep at h ⊢; unfold NoRef at q
    obtain ⟨a, xs, e, ⟨n1, n2, n3⟩, r⟩ := h
    exact ⟨a, xs, e, ⟨n1, nn a n2, n3⟩, Reps.back nn g r q⟩
  | .lst ts, v, h, q => by
    unfold Rep at h ⊢; unfold NoRef at q
    obtain ⟨a, xs, e, ⟨n1, n2, n3⟩, r⟩ := h
    exact ⟨a, xs, e, ⟨n1, nn a n2, n3⟩, Reps.back nn g r q⟩
  | .frz ts, v, h, q => by
    unfold Rep at h ⊢; unfold NoRef at q
    obtain ⟨a, xs, e, n0, r⟩ := h
    refine ⟨a, xs, e, ?_, Reps.back nn g r q⟩
    rcases n0 with ⟨u, n1, z, n2, n3⟩ | n0
    · exact .inl ⟨u, n1, z, nn a n2, n3⟩
    · exact .inr n0
  | .rng n, v, h, q => by
    unfold Rep at h ⊢
    obtain ⟨a, e, h1, h2, h3⟩ := h
    exact ⟨a, e, h1, nn a h2, h3⟩
  | .glb x, v, h, q => by unfold Rep at h ⊢; exact h
  | .exc x ks ts, v, h, q => by
    unfold Rep at h ⊢; unfold NoRef at q
    obtain ⟨a, C, d, e, gl, ⟨n1, n2, n3⟩, z⟩ := h
    refine ⟨a, C, d, e, gl, ⟨n1, nn a n2, n3⟩, ?_⟩
    rcases z with z | ⟨dd, vs, e2, l, ⟨m1, m2, m3⟩, r⟩
    · exact .inl z
    · exact .inr ⟨dd, vs, e2, l, ⟨m1, nn dd m2, m3⟩, Reps.back nn g r q⟩
  | .dct ks ts, v, h, q => by
    unfold Rep at h ⊢; unfold NoRef at q
    obtain ⟨a, vs, e, l, ⟨n1, n2, n3⟩, r⟩ := h
    exact ⟨a, vs, e, l, ⟨n1, nn a n2, n3⟩, Reps.back nn g r q⟩
  | .cell k, v, h, q => by
    unfold Rep at h ⊢; unfold NoRef at q
    obtain ⟨a, e, hk⟩ := h
    exact ⟨a, e, g k a q hk⟩
theorem Reps.back (nn : ∀ a, a ∉ φ' → a ∉ φ) (g : ∀ (k : Nat) (a : Addr), k < n → φ'[k]? = some a → φ[k]? = some a) : ∀ {ts : List T} {vs : List V}, Reps K hd φ' H ts vs → NoRefs n ts → Reps K hd φ H ts vs
  | [], _, h, _ => by unfold Reps at h ⊢; exact h
  | t :: ts, _, h, q => by
    unfold Reps at h ⊢; unfold NoRefs at q
    obtain ⟨x, r, e, a, b⟩ := h
    exact ⟨x, r, e, Rep.back nn g a q.1, Reps.back nn g b q.2⟩
end
mutual
theorem Rep.mapC (nn : ∀ a, a ∉ φ' → a ∉ φ) {g : Nat → T} (gg : ∀ (k : Nat) v, Rep K hd φ' H (.cell k) v → NoRef n (g k) → Rep K hd φ H (g k) v) : ∀ {t : T} {v : V}, Rep K hd φ' H t v → NoRef n (VS.mapC g t) → Rep K hd φ H (VS.mapC g t) v
  | .non, _, h, _ => by unfold VS.mapC; exact h
  | .bl _, _, h, _ => by unfold VS.mapC; exact h
  | .int _, _, h, _ => by unfold VS.mapC; exact h
  | .str _, _, h, _ => by unfold VS.mapC; exact h
  | .ty _, _, h, _ => by unfold VS.mapC; exact h
  | .tup ts, v, h, q => by
    unfold VS.mapC at q ⊢; unfold Rep at h ⊢; unfold NoRef at q
    obtain ⟨a, xs, e, ⟨n1, n2, n3⟩, r⟩ := h
    exact ⟨a, xs, e, ⟨n1, nn a n2, n3⟩, Reps.mapC nn gg r q⟩
  | .lst ts, v, h, q => by
    unfold VS.mapC at q ⊢; unfold Rep at h ⊢; unfold NoRef at q
    obtain ⟨a, xs, e, ⟨n1, n2, n3⟩, r⟩ := h
    exact ⟨a, xs, e, ⟨n1, nn a n2, n3⟩, Reps.mapC nn gg r q⟩
  | .frz ts, v, h, q => by
    unfold VS.mapC at q ⊢; unfold Rep at h ⊢; unfold NoRef at q
    obtain ⟨a, xs, e, n0, r⟩ := h
    refine ⟨a, xs, e, ?_, Reps.mapC nn gg r q⟩
    rcases n0 with ⟨u, n1, z, n2, n3⟩ | n0
    · exact .inl ⟨u, n1, z, nn a n2, n3⟩
    · exact .inr n0
  | .rng n, v, h, q => by
    unfold VS.mapC; unfold Rep at h ⊢
    obtain ⟨a, e, h1, h2, h3⟩ := h
    exact ⟨a, e, h1, nn a h2, h3⟩
  | .glb x, v, h, q => by unfold VS.mapC; unfold Rep at h ⊢; exact h
  | .exc x ks ts, v, h, q => by
    unfold VS.mapC at q ⊢; unfold Rep at h ⊢; unfold NoRef at q
    obtain ⟨a, C, d, e, gl, ⟨n1, n2, n3⟩, z⟩ := h
    refine ⟨a, C, d, e, gl, ⟨n1, nn a n2, n3⟩, ?_⟩
    rcases z with ⟨z1, z2, z3⟩ | ⟨dd, vs, e2, l, ⟨m1, m2, m3⟩, r⟩
    · subst z2; exact .inl ⟨z1, by unfold VS.mapCs; rfl, z3⟩
    · have r' := Reps.mapC nn gg r q
      exact .inr ⟨dd, vs, e2, ⟨l.1, by rw [l.2, r.len, r'.len]⟩, ⟨m1, nn dd m2, m3⟩, r'⟩
  | .dct ks ts, v, h, q => by
    unfold VS.mapC at q ⊢; unfold Rep at h ⊢; unfold NoRef at q
    obtain ⟨a, vs, e, l, ⟨n1, n2, n3⟩, r⟩ := h
    have r' := Reps.mapC nn gg r q
    exact ⟨a, vs, e, by rw [l, r.len, r'.len], ⟨n1, nn a n2, n3⟩, r'⟩
  | .cell k, v, h, q => by
    unfold VS.mapC at q ⊢
    exact gg k v h q
theorem Reps.mapC (nn : ∀ a, a ∉ φ' → a ∉ φ) {g : Nat → T} (gg : ∀ (k : Nat) v, Rep K hd φ' H (.cell k) v → NoRef n (g k) → Rep K hd φ H (g k) v) : ∀ {ts : List T} {vs : List V}, Reps K hd φ' H ts vs → NoRefs n (VS.mapCs g ts) → Reps K hd φ H (VS.mapCs g ts) vs
  | [], _, h, _ => by unfold VS.mapCs; unfold Reps at h ⊢; exact h
  | t :: ts, _, h, q => by
    unfold VS.mapCs at q ⊢; unfold Reps at h ⊢; unfold NoRefs at q
    obtain ⟨x, r, e, a, b⟩ := h
    exact ⟨x, r, e, Rep.mapC nn gg a q.1, Reps.mapC nn gg b q.2⟩
end
theorem Rep.fz (wr : WR K hd φ' H w') (nn : ∀ a, a ∉ φ' → a ∉ φ) (g : ∀ (k : Nat) (a : Addr), k < n → φ'[k]? = some a → φ[k]? = some a) (far : ∀ (k : Nat) (a : Addr), n ≤ k → φ'[k]? = some a → a ∉ φ) :
    ∀ (f : Nat) {t : T} {v : V}, Rep K hd φ' H t v → NoRef n (VS.fz n w' f t) → Rep K hd φ H (VS.fz n w' f t) v
  | 0, t, v, h, q => Rep.back nn g h q
  | f + 1, t, v, h, q => by
    unfold VS.fz at q ⊢
    refine Rep.mapC nn (fun k v h q => ?_) h q
    split at q
    · rename_i hk
      rw [if_pos hk]
      exact Rep.back nn g h q
    · rename_i hk
      rw [if_neg hk]
      split at q
      · rename_i ts hw
        obtain ⟨a, rfl, ha, hm, xs, h1, h2⟩ := cell_at wr h hw
        show Rep K hd φ H (.lst (ts.map (VS.fz n w' f))) (.ref a)
        unfold Rep
        refine ⟨a, xs, rfl, ⟨h1, far k a (by omega) ha, wr.apart a hm⟩, ?_⟩
        unfold NoRef at q
        clear h1 hw h
        induction ts generalizing xs with
        | nil => unfold Reps at h2; subst h2; exact Reps.nil
        | cons t ts ih =>
          unfold Reps at h2
          obtain ⟨x, r, rfl, r1, r2⟩ := h2
          unfold List.map NoRefs at q
          exact Reps.cons (Rep.fz wr nn g far f r1 q.1) (ih r r2 q.2)
      · exfalso
        unfold NoRef at q
        exact hk q
theorem sr_nil : SR K hd φ H [] [] := ⟨rfl, fun i t h => by simp at h⟩
/-- the cells made since φ are let go -/
theorem gc_back (wr : WR K hd φ H w) (ok : GcOk w w') (e : Ext hd φ H hd φ' H') (wr' : WR K hd φ' H' w') :
    Ext hd φ H hd φ H' ∧ WR K hd φ H' (w'.take w.length) ∧ (∀ a, a ∉ φ' → a ∉ φ) ∧ (∀ (k : Nat) (a : Addr), k < w.length → φ'[k]? = some a → φ[k]? = some a) ∧ (∀ (k : Nat) (a : Addr), w.length ≤ k → φ'[k]? = some a → a ∉ φ) := by
  obtain ⟨hl, hc⟩ := ok
  obtain ⟨more, e1, fresh⟩ := e.pre
  have hlen : φ.length = w.length := wr.len
  have nn : ∀ a, a ∉ φ' → a ∉ φ := fun a h z => h (by rw [e1]; exact List.mem_append_left _ z)
  have g : ∀ (k : Nat) (a : Addr), k < w.length → φ'[k]? = some a → φ[k]? = some a := fun k a hk h => by
    rw [e1, List.getElem?_append_left (by omega)] at h
    exact h
  have far : ∀ (k : Nat) (a : Addr), w.length ≤ k → φ'[k]? = some a → a ∉ φ := fun k a hk h z => by
    rw [e1, List.getElem?_append_right (by omega)] at h
    have nd := wr'.nd
    rw [e1, List.nodup_append] at nd
    exact nd.2.2 a z a (List.mem_of_getElem? h) rfl
  refine ⟨⟨⟨[], by simp, fun _ h => by simp at h⟩, fun _ h => .inl h, e.keep, e.there⟩, ⟨?_, wr.nd, wr.apart, fun a ha => ?_, fun k c a h1 h2 => ?_, wr'.tabs⟩, nn, g, far⟩
  · rw [List.length_take, hlen]; omega
  · obtain ⟨o, ho, nt⟩ := wr.there a ha
    exact e.there a o ho nt
  · rw [List.getElem?_take] at h1
    split at h1
    · rename_i hk
      have h2' : φ'[k]? = some a := by rw [e1, List.getElem?_append_left (by omega)]; exact h2
      have cr := wr'.cells k c a h1 h2'
      have nr : NoRefC w.length c := by
        rcases hc k c hk h1 with z | z
        · have := noRefC_of (wr.cells k c a z h2)
          rw [hlen] at this
          exact this
        · exact z
      cases c with
      | lst ts => obtain ⟨xs, h3, h4⟩ := cr; exact ⟨xs, h3, Reps.back nn g h4 nr⟩
      | dic kvs => obtain ⟨ys, h3, h4, h5⟩ := cr; exact ⟨ys, h3, h4, Reps.back nn g h5 nr⟩
      | dit kvs => obtain ⟨ys, h3, h4, h5⟩ := cr; exact ⟨ys, h3, h4, Reps.back nn g h5 nr⟩
      | obj x ks ts => obtain ⟨C, dx, vs, h1, h2, h3, ⟨m1, m2, m3⟩, h5⟩ := cr; exact ⟨C, dx, vs, h1, h2, h3, ⟨m1, nn dx m2, m3⟩, Reps.back nn g h5 nr⟩
    · cases h1
theorem RepX.back (nn : ∀ a, a ∉ φ' → a ∉ φ) (g : ∀ (k : Nat) (a : Addr), k < n → φ'[k]? = some a → φ[k]? = some a) {t : T} {cls : Value} {d : Option Addr} (h : RepX K hd φ' H t cls d) (q : NoRef n t) : RepX K hd φ H t cls d := by
  obtain ⟨x, ks, ts, C, rfl, e2, gl, z⟩ := h
  unfold NoRef at q
  refine ⟨x, ks, ts, C, rfl, e2, gl, ?_⟩
  rcases z with z | ⟨dd, vs, e3, l, ⟨m1, m2, m3⟩, r⟩
  · exact .inl z
  · exact .inr ⟨dd, vs, e3, l, ⟨m1, nn dd m2, m3⟩, Reps.back nn g r q⟩
theorem gc_read {Q : VK} {E : XK} {r : R T} (wr : WR K hd φ H w) (p : Pst K (some fun cls d _ H' => E cls d H') hd (CE K hd Q) φ H (gcR w r)) : Pst K (some fun cls d _ H' => E cls d H') hd (CE K hd Q) φ H r := by
  cases r with
  | no => exact p
  | ex t ρ w' =>
    unfold gcR at p
    simp only at p
    by_cases ok : GcOk w w' ∧ NoRef w.length t
    · rw [if_pos ok] at p
      intro H' φ' σ' e wr' _ cls d rx
      obtain ⟨e1, wr1, nn, g, far⟩ := gc_back wr ok.1 e wr'
      exact p H' φ [] e1 wr1 sr_nil cls d (rx.back nn g ok.2)
    · rw [if_neg ok] at p; exact p.elim
  | ok t w' =>
    unfold gcR at p
    simp only at p
    by_cases ok : GcOk w w' ∧ NoRef w.length (fz w.length w' 3 t)
    · rw [if_pos ok] at p
      intro H' φ' e wr' v rv
      obtain ⟨e1, wr1, nn, g, far⟩ := gc_back wr ok.1 e wr'
      exact p H' φ e1 wr1 v (Rep.fz wr' nn g far 3 rv ok.2)
    · rw [if_neg ok] at p; exact p.elim
end

/-! ### from the text to what a def is worth -/
/-- a def's body, read in every call -/
def Bd (P : Program) (w : PySem.World) (K : PySem.W.Frag) (Z : List (Addr × Str)) (mg : Str → Option Value) (base : Heap) (N : List Str) (qual : Str) (st : Stmt) (cdv : Value) (k : Nat) (m : MS) : Prop :=
  ∀ (f : Addr) (A : Around) (outer : List PySem.Env) (s : Shared) (H : Hp) (E : XK) (W : Option WX), Room k (A.deeper (envOfC qual (defScope st) s.heap.objs.size f cdv)) → TakesO (cxOf (L2.CX P w) P w K mg base N qual (defScope st) f cdv A outer s H E) W →
    PSs (cxOf (L2.CX P w) P w K mg base N qual (defScope st) f cdv A outer s H E) (defBody st) (rdS (K, Z) W m)
section
variable {P : Program} {w : PySem.World} {K : PySem.W.Frag} {Z : List (Addr × Str)} {mg : Str → Option Value} {base : Heap}
/-- a def at f, its code object told -/
structure FunC (K : PySem.W.Frag) (x qual : Str) (st : Stmt) (f : Addr) (fd : FuncData) (cdv : Value) : Prop where
  ex : ∃ (oc : Value) (od : Option Addr) (kV doc pm : Value) (an : Option Addr) (ct : Value) (osl : Array (Option Value)), fd = PySem.W.fnOf x qual (defArgs st) (defBody st) (defScope st) .none kV doc pm an cdv ct ∧
    K.lookup f = some ⟨oc, od, .func fd, osl⟩ ∧ PySem.W.codeIn K cdv qual = true
theorem ok_of {x : Str} {st : Stmt} {f : Addr} {fd : FuncData} {cdv : Value} {N ps : List Str} {k : Nat} {m : MS} (F : FunC K x x st f fd cdv) (S : FnScope N ps (defScope st)) (body : Bd P w K Z mg base N x st cdv k m) : FnOk P w K mg base (L2.CX P w) (k + 1) f fd ps (spOf (K, Z) ps.length (runB N.length m)) := by
  obtain ⟨oc, od, kV, doc, pm, an, ct, osl, rfl, lk, hcd⟩ := F.ex
  refine fn_of lk hcd S spOf_len fun A outer s H vs Q E hr hsp => ⟨rdS (K, Z) (some fun cls d _ H' => E cls d H') m, body f A outer s H E _ hr (show Takes _ _ from takes_of rfl rfl rfl rfl), ?_⟩
  obtain ⟨hd, φ, w, ds, l, wr, rs, p⟩ := hsp
  refine ⟨hd, φ, ds.map some ++ List.replicate (N.length - ds.length) none, w, ?_, wr, ?_⟩
  · unfold L2.start
    rw [← rs.len]
    exact SR.start rs _
  · unfold runB at p
    cases q : m (ds.map some ++ List.replicate (N.length - ds.length) none) w with
    | no => rw [q] at p; exact p
    | ex t ρ w' =>
      rw [q] at p
      intro H' φ' σ' e wr' _ cls d rx
      exact p H' φ' [] e wr' sr_nil cls d rx
    | ok r w' =>
      rw [q] at p
      obtain ⟨ρ, fl⟩ := r
      cases fl with
      | nx => intro H' φ' e wr' σ' sr'; exact p H' φ' e wr' _ (by unfold Rep; rfl)
      | ret t => intro H' φ' e wr'; exact p H' φ' e wr'
      | bk => exact p.elim
      | ct => exact p.elim
theorem df_gc {x : Str} {ps : List Str} {k : Nat} {g : Sem} (D : Df P w K Z mg base k x ps g) : Df P w K Z mg base k x ps (gc g) := by
  obtain ⟨f, fd, ok, hm, hk, hb⟩ := D.ex
  refine ⟨f, fd, ok.imp fun vs H Q E h => ?_, hm, hk, hb⟩
  obtain ⟨hd, φ, w, ds, l, wr, rs, p⟩ := h
  exact ⟨hd, φ, w, ds, l, wr, rs, gc_read wr p⟩
/-- more stack -/
theorem Df.mono {x : Str} {ps : List Str} {j k : Nat} {g : Sem} (D : Df P w K Z mg base j x ps g) (h : j ≤ k) : Df P w K Z mg base k x ps g := by
  obtain ⟨f, fd, ok, hm, hk, hb⟩ := D.ex
  exact ⟨f, fd, ok.mono h, hm, hk, hb⟩
/-- a def of the text as the top has left it; its code object -/
structure At (K : PySem.W.Frag) (x : Str) (st : Stmt) (cd : Value) : Prop where
  ex : ∃ (f : Addr) (oc : Value) (od an : Option Addr) (sl : Array (Option Value)) (kV dc pm ct : Value), PySem.W.nsIn K mainGlobals x = some (some (.ref f)) ∧
    K.lookup f = some ⟨oc, od, .func (PySem.W.fnOf x x (defArgs st) (defBody st) (defScope st) .none kV dc pm an cd ct), sl⟩ ∧ PySem.W.codeIn K cd x = true ∧ PySem.W.keepIn K (.ref f) = true
theorem At.df {x : Str} {st : Stmt} {cd : Value} {N ps : List Str} {k : Nat} {m : MS} {h : Heap} (a : At K x st cd) (X : K.In h) (G : h.Ns mainGlobals mg) (S : FnScope N ps (defScope st))
    (hb : ∀ (kV doc pm : Value) (an : Option Addr) (cdv ct : Value) (us : List Value), us.length = ps.length → bindArgs (PySem.W.fnOf x x (defArgs st) (defBody st) (defScope st) .none kV doc pm an cdv ct) ⟨us, []⟩ = pure (ps.zip us))
    (body : Bd P w K Z mg base N x st cd k m) : Df P w K Z mg base (k + 1) x ps (runB N.length m) := by
  obtain ⟨f, oc, od, an, sl, kV, dc, pm, ct, h1, h2, h3, h4⟩ := a.ex
  have F := fun_mk (st := st) h2 h3 h4
  exact ⟨f, _, ok_of ⟨_, _, _, _, _, _, _, _, rfl, h2, h3⟩ S body, PySem.W.mg_of X G h1, h4, F.binds hb⟩
/-- the law's promise -/
def spL (K : PySem.W.Frag) (Z : List (Addr × Str)) : Sp := fun vs H Q _ => ∃ (a : Addr) (ns : List Int), vs = [.ref a] ∧ SqL K H a (ns.map V.int) ∧ ns.length ≤ 63 ∧ LamX.Tabs Z H ∧ ∀ H', Q (.bl true) H'
theorem reps_ints {K : KT} {hd φ : List Addr} {H : Hp} : ∀ ns : List Int, Reps K hd φ H (ns.map T.int) (ns.map V.int)
  | [] => Reps.nil
  | n :: ns => Reps.cons (by unfold Rep; rfl) (reps_ints ns)
theorem law_ok {k : Nat} {f : Addr} {fd : FuncData} {sem : Sem} (F : FnOk P w K mg base (L2.CX P w) k f fd ["script"] (spOf (K, Z) 1 sem)) (h : ∀ ns : List Int, ns.length ≤ 63 → ∃ w', sem [.frz (ns.map T.int)] [] = .ok (.bl true) w') : FnOk P w K mg base (L2.CX P w) k f fd ["script"] (spL K Z) := F.imp fun vs H Q E => by
  rintro ⟨a, ns, rfl, hS, hl, hT, q⟩
  obtain ⟨w', e⟩ := h ns hl
  refine ⟨[], [], [], [.frz (ns.map T.int)], rfl, ⟨rfl, List.nodup_nil, fun _ h => by simp at h, fun _ h => by simp at h, fun k c a h1 h2 => by simp at h1, hT⟩, Reps.cons ?_ Reps.nil, ?_⟩
  · unfold Rep
    refine ⟨a, ns.map V.int, rfl, ?_, reps_ints ns⟩
    rcases hS with (hS | ⟨o, hS⟩) | hS
    · exact .inl ⟨_, hS, .inl rfl, by simp, by simp⟩
    · exact .inl ⟨_, hS, .inr ⟨o, rfl⟩, by simp, by simp⟩
    · exact .inr (.inr hS)
  · rw [e]
    intro H' φ' _ _ v rv
    unfold Rep at rv
    subst rv
    exact q H'
theorem At.law {k : Nat} {m : MS} {N : List Str} {st : Stmt} {cd : Value} {h : Heap} {fa : Addr} (a : At K "law" st cd) (X : K.In h) (G : h.Ns mainGlobals mg) (hfa : mg "law" = some (.ref fa)) (S : FnScope N ["script"] (defScope st))
    (hb : ∀ (kV doc pm : Value) (an : Option Addr) (cdv ct : Value) (u : Value), bindArgs (PySem.W.fnOf "law" "law" (defArgs st) (defBody st) (defScope st) .none kV doc pm an cdv ct) ⟨[u], []⟩ = pure [(("script" : Str), u)])
    (C : Heap → Prop) (body : ∀ base : Heap, K.In base → base.Ns mainGlobals mg → C base → Bd P w K Z mg base N "law" st cd k m)
    (hl : ∀ ns : List Int, ns.length ≤ 63 → ∃ w', runB N.length m [.frz (ns.map T.int)] [] = .ok (.bl true) w') :
    ∃ fd : FuncData, (∀ (s : Shared) (u : Value), BindsTo s fd ⟨[u], []⟩ [("script", u)]) ∧ ∀ base : Heap, K.In base → base.Ns mainGlobals mg → C base → FnOk P w K mg base (L2.CX P w) (k + 1) fa fd ["script"] (spL K Z) := by
  obtain ⟨f, oc, od, an, sl, kV, dc, pm, ct, h1, h2, h3, h4⟩ := a.ex
  have e := hfa.symm.trans (PySem.W.mg_of X G h1)
  cases e
  exact ⟨_, fun s u => .of_eq (hb _ _ _ _ _ _ u), fun base b1 b2 b3 => law_ok (ok_of ⟨_, _, _, _, _, _, _, _, rfl, h2, h3⟩ S (body base b1 b2 b3)) hl⟩
theorem law_cx {H : Hp} {s : Shared} {e : Value} {s' : Shared} (h : L2.CX P w [] H s (fun _ _ _ => False) e s') : False := by
  obtain ⟨_, _, _, _, _, _, _, _, _, _, _, _, z⟩ := h
  exact z
end
end VS

set_option Elab.async false
set_option linter.all false
set_option maxRecDepth 100000
set_option maxHeartbeats 2000000
namespace VS
open PySem PySem.Spec PyProof.Rows L2
section
variable {X : Cx} {e : Expr} {es : List Expr} {x : Str} {p pos kpos : Pos} {nm : Option Str} {kws : List Keyword} {Z : List (Addr × Str)} {W : Option WX}
theorem de_gint' {i : Int} (h : ∃ t, X.mg x = some (.int i t)) (hg : Gl X x := by rfl) (hd : (x == ("__debug__" : Str)) = false := by decide) : PE X (.Name x pos) (rdE (X.K, Z) W (mC (.int i))) := by
  obtain ⟨t, h⟩ := h
  exact de_gint h ⟨t, rfl⟩ hg hd

/-! ### keywords, in the parameters' order -/
theorem PK_imp {t t' : TA} (h : PK X kws t) (i : ∀ σ H Q, t' σ H Q → t σ H Q) : PK X kws t' := ⟨fun po pins s σ H Q I q => h.run po pins s σ H Q I (i σ H Q q)⟩
theorem dk_nil : PK X [] (rdA (X.K, Z) W mNil) := PK_imp pk_nil fun σ H Q => by
  rintro ⟨hd, φ, ρ, w, sr, wr, p⟩
  exact p.ok wr _ Reps.nil
theorem dk_cons {ma : ME} {mr : MF} (ha : PE X e (rdE (X.K, Z) W ma)) (hr : PK X kws (rdA (X.K, Z) W mr)) : PK X (⟨nm, e, kpos⟩ :: kws) (rdA (X.K, Z) W (mCons ma mr)) := PK_imp (pk_cons ha hr) fun σ H Q => by
  rintro ⟨hd, φ, ρ, w, sr, wr, p⟩
  refine ⟨hd, φ, ρ, w, sr, wr, Pst.then isPst p fun x w1 φ1 H1 e1 wr1 p1 v rv => ?_⟩
  refine ⟨hd, φ1, ρ, w1, sr.mono e1, wr1, Pst.then isPst p1 fun xs w2 φ2 H2 e2 wr2 p2 vs rvs => ?_⟩
  exact p2.ok wr2 _ (Reps.cons (rv.mono e2) rvs)
end
theorem at_mk {K : PySem.W.Frag} {x : Str} {st : Stmt} {f : Addr} {oc : Value} {od an : Option Addr} {sl : Array (Option Value)} {kV dc pm cd ct : Value} (h1 : PySem.W.nsIn K mainGlobals x = some (some (.ref f)))
    (h2 : K.lookup f = some ⟨oc, od, .func (PySem.W.fnOf x x (defArgs st) (defBody st) (defScope st) .none kV dc pm an cd ct), sl⟩) (h3 : PySem.W.codeIn K cd x = true) (h4 : PySem.W.keepIn K (.ref f) = true) : At K x st cd := ⟨⟨_, _, _, _, _, _, _, _, _, h1, h2, h3, h4⟩⟩
end VS

set_option Elab.async false
set_option linter.all false
set_option maxRecDepth 100000
namespace VE
open PySem PySem.Spec PyProof.Rows L2
/-! enumerate(tuple), walked -/
set_option maxHeartbeats 1000000 in
theorem new_meets {v : Value} {o : Obj} {C : Heap → Prop} (B : Begins v o C) : Meets (Builtin.«enumerate.__new__» ⟨[.type "enumerate", v], []⟩) (fun _ R s => C s.heap ∧
      R (.ok (.ret (.ref (s.heap.push o).objs.size))) { s with heap := (s.heap.push o).push ⟨.type "enumerate", none, .fields #[.none, .bool false, .ref s.heap.objs.size, rawInt 0, .none, .none], #[]⟩ }) :=
  .of_wp fun prog w A R s h => by
    obtain ⟨hp, g, d, tk, os⟩ := s
    obtain ⟨hv, hR⟩ := h
    have hs' := sub_enumerate
    have it1 : ∀ {B' : Around} {E Q : Value → Shared → Prop}, Q (.ref hp.objs.size) ⟨hp.push o, g, d, tk, os⟩ → wpAny (model prog w) B' (pyIter v) Q E ⟨hp, g, d, tk, os⟩ := fun q => B.iter prog w _ _ ⟨hp, g, d, tk, os⟩ _ hv q
    wp_walk using it1
    refine wpAny_stack_any fun st => wpAny_pure ?_
    split
    · rename_i cc _ _ _ _ _
      cases (cc == Value.type "enumerate") <;> (wp_walk using it1) <;> exact ⟨_, rfl, hR⟩
    · wp_walk using it1
      exact ⟨_, rfl, hR⟩
section
variable {prog : Program} {w : PySem.World} {A : Around} {E : Value → Shared → Prop} {s : Shared}
theorem begins {v : Value} {o : Obj} {C : Heap → Prop} {Q : Value → Shared → Prop} (B : Begins v o C) (hC : C s.heap)
    (h : ∀ h', IsEnum h' (s.heap.objs.size + 1) s.heap.objs.size 0 .none → h'.get? s.heap.objs.size = some o → (∀ b u, s.heap.get? b = some u → h'.get? b = some u) → Q (.ref (s.heap.objs.size + 1)) { s with heap := h' }) : wpAny (model prog w) A (call (.type "enumerate") [v]) Q E s := by
  refine callType_new F.called_enumerate (by decide) (F.typeCall_enumerate_1 _) (F.newCall_enumerate_1 _) (fun ob => F.args_object_init_2 ob _) F.entry_enumerate_new (new_meets B) ⟨hC, ?_⟩
  have z : (s.heap.push o).objs.size = s.heap.objs.size + 1 := Heap.size_push ..
  show _ ∧ _
  rw [z]
  have e := Heap.get?_push_size (s.heap.push o) (o := ⟨.type "enumerate", none, .fields #[.none, .bool false, .ref s.heap.objs.size, rawInt 0, .none, .none], #[]⟩) rfl
  rw [z] at e
  exact ⟨⟨_, e, rfl⟩, h _ e (Heap.get?_push_of_some _ (Heap.get?_push_size _ B.free)) fun b u x => Heap.get?_push_of_some _ (Heap.get?_push_of_some _ x)⟩
end
/-- the items of the tuple at a with their numbers, each in a new pair -/
def IteT (K : PySem.W.Frag) (a : Addr) (n : Nat) : It :=
  ⟨fun i H => ∃ (xs : List V) (x : V), SqT K H a xs ∧ xs.length = n ∧ xs[i]? = some x, fun i H v H' => ∃ T x, v = .ref T ∧ H T = none ∧ H' = upd H T (.tup [.int (i : Nat), x]) ∧ (∀ xs, SqT K H a xs → xs[i]? = some x),
   fun i H => ∃ xs : List V, SqT K H a xs ∧ xs.length = n ∧ n ≤ i⟩
def tnT (a e it : Addr) (n : Nat) : Nat → Heap → Prop := fun i h => (∃ old, IsEnum h e it ((i : Nat) : Int) old) ∧ h.IsTupleIter it a i ∧ i ≤ n
theorem apart_ei {h : Heap} {a e it : Addr} {i j : Nat} {old : Value} (he : IsEnum h e it ((i : Nat) : Int) old) (hi : h.IsTupleIter it a j) : e ≠ it := by
  rintro rfl
  obtain ⟨o, h1, h2, _⟩ := hi
  rw [he] at h1
  cases h1
  exact absurd (Value.type.inj h2) (by decide)
theorem apart_ai {h : Heap} {a it : Addr} {j : Nat} {vs : Array Value} (ht : h.IsTuple a vs) (hi : h.IsTupleIter it a j) : a ≠ it := by
  rintro rfl
  obtain ⟨o, h1, h2, _⟩ := hi
  obtain ⟨o', g1, g2, _⟩ := ht
  rw [g1] at h1
  cases h1
  rw [g2] at h2
  exact absurd (Value.type.inj h2) (by decide)
theorem apart_ea {h : Heap} {a e it : Addr} {i : Nat} {old : Value} {vs : Array Value} (he : IsEnum h e it ((i : Nat) : Int) old) (ht : h.IsTuple a vs) : e ≠ a := by
  rintro rfl
  obtain ⟨o', g1, g2, _⟩ := ht
  rw [he] at g1
  cases g1
  exact absurd (Value.type.inj g2) (by decide)
theorem turnT {P : Program} {w : PySem.World} {K : PySem.W.Frag} {elts : List Expr} {kk : Nat} {tpos : Pos} (a e it : Addr) (n : Nat) : Turn P w K (.Tuple elts kk tpos) (IteT K a n) [e, it] e (tnT a e it n) where
  mem := List.mem_cons_self ..
  obj := fun i h st b hb => by
    obtain ⟨⟨old, he⟩, ⟨o, ho, hc, hd⟩, _⟩ := st
    rcases List.mem_cons.mp hb with rfl | hb
    · exact ⟨_, he, fun v q => nomatch q⟩
    · cases List.mem_singleton.mp hb
      exact ⟨o, ho, fun v q => by rw [hd] at q; cases q⟩
  keep := fun i h h' st k => ⟨⟨_, k e (List.mem_cons_self ..) _ st.1.choose_spec⟩, st.2.1.at fun o q => k it (List.mem_cons_of_mem _ (List.mem_cons_self ..)) o q, st.2.2⟩
  item := by
    intro X hP hw hK hc i pins s σ H E I hf st hg
    subst hP hw hK
    obtain ⟨⟨old, he⟩, hit, hin⟩ := st
    obtain ⟨xs, x, hq, hxl, hx⟩ := hg
    obtain ⟨its, rv, p, hz⟩ := I.tuple hq
    obtain ⟨u, hu, ru⟩ := rv.get hx
    have p' : s.heap.IsTuple a its.toArray := p
    have hlen := rv.length
    have hi : i < xs.length := (List.getElem?_eq_some_iff.mp hx).1
    have h0 := apart_ei he hit
    have D := Draws.tuple (prog := X.prog) (w := X.w) (A := X.A.in1) (show X.A.in1.handled = none from I.ok.hd hc) it a (apart_ai p' hit) its.toArray
    have hel : e < s.heap.objs.size := Heap.lt_size he
    refine wpAny_pyNext_enum_itemD (n := its.toArray.size) D he ⟨hit, p'⟩ (by simp; omega) h0 (fun hm => ?_) fun y h' tk py ho hst hT hsz hk => ?_
    · rcases List.mem_cons.mp hm with z | hm
      · exact h0 z
      · exact apart_ea he p' (List.mem_singleton.mp hm)
    · have hy : y = u := by
        have : its.toArray[i]? = some y := py
        rw [List.getElem?_toArray, hu] at this
        exact (Option.some.inj this).symm
      subst hy
      refine ⟨_, rfl, wpAny_letOwnedTupleGo_enum (s := { s with heap := h', toks := tk + 1 }) ho fun h2 he2 sb => ?_⟩
      have hT2 := (sb.2 _ (Nat.ne_of_gt hel)).trans hT
      have nw : ObjOk X.prog X.w (upd H s.heap.objs.size (.tup [.int (i : Nat), x])) h2 s.heap.objs.size (.tup [.int (i : Nat), x]) := ⟨(by decide : 2 ≤ sizeLine), [.int i tk, y], .cons ⟨_, rfl⟩ (.cons ru .nil), ⟨_, hT2, rfl, _, rfl⟩⟩
      have I1 : Inv X pins σ (upd H s.heap.objs.size (.tup [.int (i : Nat), x])) { s with heap := h2, toks := tk + 1 } := I.turnedNew (ch := [e, it]) (fun b o hb q => (sb.2 b (fun z => hb (by simp [z]))).trans (hk b o (fun z => hb (by simp [z])) (fun z => hb (by simp [z])) q)) hf (Nat.le_refl _) nw
      refine ⟨.ref s.heap.objs.size, _, I1, rfl, ⟨_, x, rfl, I.hok.fresh (Nat.le_refl _), rfl, fun ys hy => by rw [I.tuple_inj hy hq]; exact hx⟩, ⟨⟨y, by rw [show ((i + 1 : Nat) : Int) = (i : Int) + 1 from rfl]; exact he2⟩, hst.1.at fun o q => (sb.2 it (Ne.symm h0)).trans q, by omega⟩, fun b hb => ?_⟩
      have hlt : b < s.heap.objs.size := by
        rcases List.mem_cons.mp hb with rfl | hb
        · exact hel
        · cases List.mem_singleton.mp hb
          obtain ⟨_, q, _⟩ := hit
          exact Heap.lt_size q
      exact (upd_ne (Nat.ne_of_lt hlt)).trans (hf b hb).1
  done := by
    intro X hP hw hK hc i pins s σ H E I hf st hg
    subst hP hw hK
    obtain ⟨⟨old, he⟩, hit, hin⟩ := st
    obtain ⟨xs, hq, hxl, hni⟩ := hg
    obtain ⟨its, rv, p, hz⟩ := I.tuple hq
    have p' : s.heap.IsTuple a its.toArray := p
    have hlen := rv.length
    obtain ⟨f0, f1, f2, f3, f4, f5⟩ := hf it (by simp)
    have D := Draws.tuple (prog := X.prog) (w := X.w) (A := X.A.in1) (show X.A.in1.handled = none from I.ok.hd hc) it a (apart_ai p' hit) its.toArray
    have ei : i = its.toArray.size := by simp; omega
    exact wpAny_pyNext_enum_endD D he ⟨ei ▸ hit, p'⟩ fun h' eb => ⟨rfl, I.turned (t' := s.toks) (fun b o hb q => eb b o hb q) f0 f1 f3 f4 f5⟩
  self := fun A i s Q E st h => wpAny_pyIter_enum st.1.choose_spec h
def iEnT (K : PySem.W.Frag) (ta : TA) : TI := fun σ H R => ta σ H fun vs H1 => ∃ (a : Addr) (xs : List V), vs = [.ref a] ∧ SqT K H1 a xs ∧ R (IteT K a xs.length) H1
theorem pi_enT {X : Cx} {e : Expr} {ta : TA} {p pos tpos : Pos} {elts : List Expr} {kk : Nat} (hg : Gl X "enumerate") (hm : X.mg "enumerate" = none) (ha : PA X [e] ta) (hs : starEach [e] X.env = [(false, eval e X.env)] := by rfl) : PI X (.Tuple elts kk tpos) (.Call (.Name "enumerate" p) [e] [] pos) (iEnT X.K ta) := by
  refine ⟨fun pins s σ H R I h => ?_⟩
  refine Call_ (ld_blt I hg hm boot_enumerate (PyProof.Rows.callWith_type1 (thn (ha.run pos pins s σ H _ I h) fun us s1 ⟨vs, H1, I1, r1, q1⟩ => ?_) hs rfl))
  obtain ⟨a, xs, rfl, hq, q⟩ := q1
  cases r1 with
  | cons r1 rr =>
    cases rr
    cases r1
    obtain ⟨its, rv, p', hz⟩ := I1.tuple hq
    refine begins (begins_tuple a its.toArray) p' fun h' he hit hk => wpAny_pyIter_enum he ?_
    refine ⟨s1.heap.objs.size + 1, [s1.heap.objs.size + 1, s1.heap.objs.size], _, _, H1, rfl, I1.kept (t' := s1.toks) hk, turnT a (s1.heap.objs.size + 1) s1.heap.objs.size xs.length, ⟨⟨.none, he⟩, ⟨_, hit, rfl, rfl⟩, Nat.zero_le _⟩, fun b hb => ?_, q⟩
    have hle : s1.heap.objs.size ≤ b := by
      rcases List.mem_cons.mp hb with rfl | hb
      · exact Nat.le_add_right _ _
      · cases List.mem_singleton.mp hb
        exact Nat.le_refl _
    exact I1.fpOk hle (I1.hok.fresh hle)
end VE

set_option Elab.async false
set_option linter.all false
set_option maxRecDepth 100000
set_option maxHeartbeats 2000000
namespace VS
open PySem PySem.Spec PyProof.Rows L2
/-! ### enumerate -/
def enT : Nat → List T → List T
  | _, [] => []
  | i, t :: ts => .tup [.int (i : Int), t] :: enT (i + 1) ts
theorem enT_len : ∀ (ts : List T) (i : Nat), (enT i ts).length = ts.length
  | [], i => rfl
  | t :: ts, i => by unfold enT; simp [enT_len ts]
theorem enT_at : ∀ {ts : List T} {i j : Nat} {u : T}, (enT i ts)[j]? = some u → ∃ t, ts[j]? = some t ∧ u = .tup [.int ((i + j : Nat) : Int), t]
  | [], i, j, u, h => by unfold enT at h; cases h
  | t :: ts, i, 0, u, h => by unfold enT at h; cases h; exact ⟨t, rfl, rfl⟩
  | t :: ts, i, j + 1, u, h => by
    unfold enT at h
    obtain ⟨s, h1, h2⟩ := enT_at (ts := ts) (i := i + 1) (j := j) h
    refine ⟨s, h1, ?_⟩
    rw [h2, show i + 1 + j = i + (j + 1) by omega]
section
variable {X : Cx} {tg : Expr} {K : KT} {e : Expr} {pos : Pos} {Z : List (Addr × Str)} {W : Option WX}
theorem src_enT {hd₀ φ₀ : List Addr} {H₀ : Hp} {a : Addr} {ts : List T} {n : Nat} (hn : ts.length = n)
    (h : ∀ (D : Option Addr) hd φ H w, Off D hd₀ H₀ → ExtD D hd₀ φ₀ H₀ hd φ H → WR K hd φ H w → ∃ xs, SqT K.1 H a xs ∧ Reps K hd φ H ts xs) : Src K hd₀ φ₀ H₀ (VE.IteT K.1 a n) (enT 0 ts) none := fun D i hd φ H w off e wr kp => by
  obtain ⟨xs, h1, h2⟩ := h D hd φ H w off e wr
  have hl := h2.len
  refine ⟨fun t ht => ?_, fun hl' => ⟨xs, h1, by omega, by rw [enT_len] at hl'; omega⟩⟩
  obtain ⟨s, hs, rfl⟩ := enT_at ht
  obtain ⟨x, hx, rx⟩ := h2.at hs
  refine ⟨⟨xs, x, h1, by omega, hx⟩, fun y H' hy => ?_⟩
  obtain ⟨p, z, rfl, hp, rfl, hy⟩ := hy
  cases (hy xs h1).symm.trans hx
  refine ⟨Ext.new hp, wr.new hp, ?_⟩
  unfold Rep
  exact ⟨p, [.int (i : Nat), x], rfl, ⟨upd_same, wr.nin hp⟩, Reps.cons (by unfold Rep; rw [Nat.zero_add]) (Reps.cons (rx.mono (Ext.new hp)) Reps.nil)⟩
theorem src_enL {hd₀ φ₀ : List Addr} {H₀ : Hp} {a : Addr} {ts : List T} {oc : OC}
    (h : ∀ (D : Option Addr) hd φ H w, Off D hd₀ H₀ → ExtD D hd₀ φ₀ H₀ hd φ H → WR K hd φ H w → Kept oc ts w → ∃ xs, SqL K.1 H a xs ∧ Reps K hd φ H ts xs) : Src K hd₀ φ₀ H₀ (Ite K.1 a) (enT 0 ts) oc := fun D i hd φ H w off e wr kp => by
  obtain ⟨xs, h1, h2⟩ := h D hd φ H w off e wr kp
  have hl := h2.len
  refine ⟨fun t ht => ?_, fun hl' => ⟨xs, h1, by rw [enT_len] at hl'; omega⟩⟩
  obtain ⟨s, hs, rfl⟩ := enT_at ht
  obtain ⟨x, hx, rx⟩ := h2.at hs
  refine ⟨⟨xs, x, h1, hx⟩, fun y H' hy => ?_⟩
  obtain ⟨p, z, rfl, hp, rfl, hy⟩ := hy
  cases (hy xs h1).symm.trans hx
  refine ⟨Ext.new hp, wr.new hp, ?_⟩
  unfold Rep
  exact ⟨p, [.int (i : Nat), x], rfl, ⟨upd_same, wr.nin hp⟩, Reps.cons (by unfold Rep; rw [Nat.zero_add]) (Reps.cons (rx.mono (Ext.new hp)) Reps.nil)⟩
def sEnum : List T → World → R (List T × OC) := fun ts w => match ts with
  | [t] => match items w t with
    | some (us, oc) => .ok (enT 0 us, oc) w
    | none => .no
  | _ => .no
def mEnum (m : MF) : MI := fun ρ w => (m ρ w).bind sEnum
theorem di_enum {p tpos : Pos} {elts : List Expr} {kk : Nat} {m : MF} (hm : X.mg "enumerate" = none) (ha : PA X [e] (rdA (X.K, Z) W m)) (hg : Gl X "enumerate" := by rfl) (hs : starEach [e] X.env = [(false, eval e X.env)] := by rfl) : PI X (.Tuple elts kk tpos) (.Call (.Name "enumerate" p) [e] [] pos) (rdI (X.K, Z) W (mEnum m)) := PI_imp (PI_or (pi_enum hg hm ha hs) (VE.pi_enT hg hm ha hs)) fun σ H Q => by
  rintro ⟨hd, φ, ρ, w, sr, wr, p⟩
  unfold mEnum at p
  cases q : m ρ w with
  | no => rw [q] at p; exact p.elim
  | ex _ _ _ => rw [q] at p; exact .inl ⟨hd, φ, ρ, w, sr, wr, by rw [q]; exact p⟩
  | ok ts w1 =>
    rw [q, bind_ok] at p
    unfold sEnum at p
    match ts, p with
    | [t], p =>
      simp only at p
      cases hi : items w1 t with
      | none => rw [hi] at p; exact p.elim
      | some r =>
        rw [hi] at p
        obtain ⟨us, oc⟩ := r
        have two : (∀ vs, t ≠ .tup vs) ∨ ∃ vs, t = .tup vs := by
          cases t with
          | tup vs => exact .inr ⟨vs, rfl⟩
          | _ => exact .inl fun _ e => nomatch e
        rcases two with nt | ⟨vs, rfl⟩
        · refine .inl ⟨hd, φ, ρ, w, sr, wr, ?_⟩
          rw [q]
          intro H' φ' e1 wr1 vs rvs
          obtain ⟨v, rfl, rv⟩ := reps1 rvs
          obtain ⟨a, rfl, kp, h1⟩ := lst_later rv hi nt
          obtain ⟨xs, h2, h3⟩ := h1 none hd φ' H' w1 off_none Ext.refl.toD wr1 kp
          exact ⟨a, xs, rfl, h2, p H' φ' e1 wr1 _ (src_enL h1)⟩
        · cases hi
          refine .inr ⟨hd, φ, ρ, w, sr, wr, ?_⟩
          rw [q]
          intro H' φ' e1 wr1 vs rvs
          obtain ⟨v, rfl, rv⟩ := reps1 rvs
          unfold Rep at rv
          obtain ⟨a, xs, rfl, n, rs⟩ := rv
          exact ⟨a, xs, rfl, SqT.of n.1, p H' φ' e1 wr1 _ (src_enT rs.len fun D hd φ H w off e wr => ⟨xs, SqT.of (n.monoD e off).1, rs.monoD e off⟩)⟩
end
end VS

set_option Elab.async false
set_option linter.all false
set_option maxRecDepth 100000
set_option maxHeartbeats 2000000
namespace VS
open PySem PySem.Spec PyProof.Rows L2
section
variable {X : Cx} {K : KT} {hd φ : List Addr} {H : Hp} {w : World} {a b e : Expr} {es : List Expr} {ma mb : ME} {kws : List Keyword} {x : Str} {p pos : Pos} {Z : List (Addr × Str)} {W : Option WX}
/-! ### is True -/
def sIsB : S2 := fun x y w => match x, y with
  | .bl i, .bl j => .ok (.bl (decide (i = j))) w
  | _, _ => .no
theorem opIsB : Op2 K sIsB rIsB := fun W hd φ H w dx dy x y Q wr rx ry p => by
  cases dx with
  | bl i =>
    cases dy with
    | bl j =>
      unfold Rep at rx ry
      exact ⟨i, j, rx, ry, p.bl wr⟩
    | _ => exact p.elim
  | _ => exact p.elim
theorem de_isB (ha : PE X a (rdE (X.K, Z) W ma)) (hb : PE X b (rdE (X.K, Z) W mb)) : PE X (.Compare a [.Is] [b] pos) (rdE (X.K, Z) W (mOp2 sIsB ma mb)) := de_cmp op_isBl opIsB ha hb (nomark _)
theorem dt_isB (ha : PE X a (rdE (X.K, Z) W ma)) (hb : PE X b (rdE (X.K, Z) W mb)) : PT X (.Compare a [.Is] [b] pos) (rdT (X.K, Z) W (mTest (mOp2 sIsB ma mb))) := dt_cmp op_isBl opIsB ha hb (nomark _)
/-! ### xs[::-1] -/
theorem Reps.rev {ts : List T} {xs : List V} (h : Reps K hd φ H ts xs) : Reps K hd φ H ts.reverse xs.reverse := by
  induction ts generalizing xs with
  | nil => unfold Reps at h; subst h; exact Reps.nil
  | cons t ts ih =>
    unfold Reps at h
    obtain ⟨v, vs, rfl, h1, h2⟩ := h
    rw [List.reverse_cons, List.reverse_cons]
    exact (ih h2).append (Reps.cons h1 Reps.nil)
def mRevL (a : ME) : MF := fun ρ w => (a ρ w).bind fun t w1 => match lst? w1 t with
  | some ts => .ok ts.reverse w1
  | _ => .no
theorem df_revL {k : Nat} {p1 p2 p3 : Pos} (ha : PE X a (rdE (X.K, Z) W ma)) : PE X (.Subscript a (.Slice none none (some (.UnaryOp .USub (.Constant (.int 1) k p1) p2)) p3) pos) (rdF (X.K, Z) W (mRevL ma)) := PE_imp (pe_revL ha) fun σ H Q => by
  rintro ⟨hd, φ, ρ, w, sr, wr, p⟩
  refine ⟨hd, φ, ρ, w, sr, wr, Pst.then isPstF p fun t w1 φ1 H1 e1 wr1 p1 v rv => ?_⟩
  cases q : lst? w1 t with
  | none => rw [q] at p1; exact p1.elim
  | some ts =>
    rw [q] at p1
    obtain ⟨l', xs, rfl, h1, h2⟩ := lst_at wr1 rv q
    exact ⟨l', xs, rfl, SqL.of h1, p1.new wr1 h2.rev⟩
/-! ### calls by keywords in any sequence -/
def prm {α : Type} (ix : List Nat) (zs : List α) : List α := ix.filterMap fun i => zs[i]?
def gP {α : Type} (np nk : Nat) (ix : List Nat) (us ws : List α) : List α := if us.length = np ∧ ws.length = nk then prm ix (us ++ ws) else []
theorem prm_vals {vs : List V} {us : List Value} (h : Vals vs us) : ∀ ix : List Nat, Vals (prm ix vs) (prm ix us)
  | [] => .nil
  | i :: ix => by
    have ih := prm_vals h ix
    unfold prm at ih ⊢
    rw [List.filterMap_cons, List.filterMap_cons]
    cases q : vs[i]? with
    | none =>
      have : us[i]? = none := by rw [List.getElem?_eq_none_iff] at q ⊢; rw [← h.length]; exact q
      rw [this]
      exact ih
    | some v =>
      obtain ⟨u, hu, r⟩ := h.get q
      rw [hu]
      exact .cons r ih
theorem prm_reps {ts : List T} {vs : List V} (h : Reps K hd φ H ts vs) : ∀ ix : List Nat, Reps K hd φ H (prm ix ts) (prm ix vs)
  | [] => Reps.nil
  | i :: ix => by
    have ih := prm_reps h ix
    unfold prm at ih ⊢
    rw [List.filterMap_cons, List.filterMap_cons]
    cases q : ts[i]? with
    | none =>
      have : vs[i]? = none := by rw [List.getElem?_eq_none_iff] at q ⊢; rw [← h.len]; exact q
      rw [this]
      exact ih
    | some t =>
      obtain ⟨v, hv, r⟩ := h.at q
      rw [hv]
      exact Reps.cons r ih
theorem gP_rel {np nk : Nat} {ix : List Nat} {vs : List V} {us : List Value} {zs : List V} {ws : List Value} (a : Vals vs us) (b : Vals zs ws) : Vals (gP np nk ix vs zs) (gP np nk ix us ws) := by
  unfold gP
  rw [a.length, b.length]
  split
  · exact prm_vals (a.append b) ix
  · exact .nil
structure DfP (P : Program) (w : PySem.World) (K : PySem.W.Frag) (Z : List (Addr × Str)) (mg : Str → Option Value) (base : Heap) (k : Nat) (x : Str) (n np : Nat) (ks : List Str) (ix : List Nat) (f : Sem) : Prop where
  ex : ∃ (ad : Addr) (fd : FuncData) (ps : List Str), ps.length = n ∧ FnOk P w K mg base (L2.CX P w) k ad fd ps (spOf (K, Z) n f) ∧ mg x = some (.ref ad) ∧ PySem.W.keepIn K (.ref ad) = true ∧ KBinds K fd ps ks (gP np ks.length ix) (gP np ks.length ix)
def mDefP (n np nk : Nat) (ix : List Nat) (f : Sem) (m mk : MF) : ME := fun ρ w => (m ρ w).bind fun ds w1 => (mk ρ w1).bind fun es w2 => if ds.length = np ∧ es.length = nk ∧ (prm ix (ds ++ es)).length = n then (f (prm ix (ds ++ es)) w2).at ρ else .no
/-- run_fnk, where an error is told at the slots -/
theorem run_fnkO {CX : CXT} {f : Addr} {fd : FuncData} {ps ks : List Str} {k : Nat} {sp : Sp} {g : List Value → List Value → List Value} {gV : List V → List V → List V} {pins : List (Addr × Obj)} {σ : L2.St} {H : Hp} {s : Shared} {Q : VK} {E : L2.St → XK} {us ws : List Value} {vs zs : List V}
    (F : FnOk X.prog X.w X.K X.mg X.base CX k f fd ps sp) (hr : Room k X.A) (hb : KBinds X.K fd ps ks g gV) (hx : PassesAt CX X σ (E σ))
    (I : Inv X pins σ H s) (r : Vals vs us) (rz : Vals zs ws) (h : sp (gV vs zs) H Q (E σ)) : wpAny (model X.prog X.w) X.A (call (.ref f) us (ks.zip ws)) (EP X pins σ Q) X.xe s := by
  have r2 := hb.rel r rz
  have hl : (g us ws).length = ps.length := by rw [← r2.length]; exact F.len _ _ _ _ h
  refine wpAny_call (codeAny_mono (F.run X.A X.stack s H ⟨us, ks.zip ws⟩ (g us ws) (gV vs zs) Q (E σ) hr I.env0 (hb.to s us ws I.kIn hl) r2 h) fun r s' hq => ?_)
  cases r with
  | error e => exact hx pins H s e s' I hq
  | ok fl =>
    cases fl with
    | ret u => exact I.after hq
    | next => exact False.elim hq
    | brk => exact False.elim hq
    | cont => exact False.elim hq
def tCallKO (sp : Sp) (gV : List V → List V → List V) (E : L2.St → XK) (t tk : TA) : TE := fun σ H Q => t σ H fun vs H1 => tk σ H1 fun zs H2 => sp (gV vs zs) H2 Q (E σ)
theorem defP_read {k n np : Nat} {ks : List Str} {ix : List Nat} {f : Sem} {m mk : MF} (σ : L2.St) (H : Hp) (Q : VK) (h : rdE (X.K, Z) W (mDefP n np ks.length ix f m mk) σ H Q) : tCallKO (spOf (X.K, Z) n f) (gP np ks.length ix) (wE W) (rdA (X.K, Z) W m) (rdA (X.K, Z) W mk) σ H Q := by
  obtain ⟨hd, φ, ρ, w, sr, wr, q⟩ := h
  refine ⟨hd, φ, ρ, w, sr, wr, Pst.then isPst q fun ds w1 φ1 H1 e1 wr1 p1 xs rx => ?_⟩
  refine ⟨hd, φ1, ρ, w1, sr.mono e1, wr1, ?_⟩
  cases q2 : mk ρ w1 with
  | no => rw [q2] at p1; exact p1.elim
  | ex _ _ _ => rw [q2] at p1; exact p1
  | ok zs w2 =>
    rw [q2, bind_ok] at p1
    intro H2 φ2 e2 wr2 vz rz
    by_cases hc : ds.length = np ∧ zs.length = ks.length ∧ (prm ix (ds ++ zs)).length = n
    · rw [if_pos hc] at p1
      have e : gP np ks.length ix xs vz = prm ix (xs ++ vz) := by unfold gP; rw [if_pos ⟨by rw [← rx.len]; exact hc.1, by rw [← rz.len]; exact hc.2.1⟩]
      rw [e]
      exact ⟨hd, φ2, w2, prm ix (ds ++ zs), hc.2.2, wr2, prm_reps ((rx.mono e2).append rz) ix, (isPst.mono _ _ _ _ _ e2 p1).callee ((sr.mono e1).mono e2)⟩
    · rw [if_neg hc] at p1; exact p1.elim
theorem de_defP {k n np nk : Nat} {ks : List Str} {ix : List Nat} {f : Sem} {m mk : MF} (F : DfP X.prog X.w X.K Z X.mg X.base k x n np ks ix f) (tk : TakesO X W) (hr : Room k X.A) (ha : PA X (e :: es) (rdA (X.K, Z) W m)) (hkw : PK X kws (rdA (X.K, Z) W mk)) (hg : Gl X x := by rfl)
    (hall : (backToKw pos (keywordEach kws X.env)).all (·.1.isSome) = true := by rfl) (hks : (backToKw pos (keywordEach kws X.env)).filterMap (·.1) = ks := by rfl)
    (hdb : (x == ("__debug__" : Str)) = false := by decide) (he : starEach (e :: es) X.env = (false, eval e X.env) :: starEach es X.env := by rfl)
    (hpl : ((backTo pos (starEach (e :: es) X.env)).any (·.1) || (backToKw pos (keywordEach kws X.env)).any (·.1.isNone)) = false := by rfl) (hnk : ks.length = nk := by rfl) : PE X (.Call (.Name x p) (e :: es) kws pos) (rdE (X.K, Z) W (mDefP n np nk ix f m mk)) := by
  subst hnk
  obtain ⟨ad, fd, ps, hn, ok, hm, hk, hb⟩ := F.ex
  refine PE_imp (t := tCallKO (spOf (X.K, Z) n f) (gP np ks.length ix) (wE W) (rdA (X.K, Z) W m) (rdA (X.K, Z) W mk)) ⟨fun pins s σ H Q I h => ?_⟩ (defP_read (k := k))
  refine wpAny_Call_Name_kw (ld_glob I hg hm ?_ hdb)
  refine PySem.W.callWith_KW (h₀ := X.base) I.ok.mod.kin hk hall (thn (ha.run pos pins s σ H _ I h) fun us s1 ⟨vs, H1, I1, r, q⟩ => ?_) hpl he
  refine thn (hkw.run pos pins s1 σ H1 _ I1 q) fun ws s2 ⟨zs, H2, I2, rz, q2⟩ => ⟨I2.kIn, ?_⟩
  rw [hks]
  exact run_fnkO ok hr hb (passO tk σ) I2 r rz q2
theorem de_defP0 {k n nk : Nat} {ks : List Str} {ix : List Nat} {f : Sem} {mk : MF} (F : DfP X.prog X.w X.K Z X.mg X.base k x n 0 ks ix f) (tk : TakesO X W) (hr : Room k X.A) (hkw : PK X kws (rdA (X.K, Z) W mk)) (hg : Gl X x := by rfl)
    (hall : (backToKw pos (keywordEach kws X.env)).all (·.1.isSome) = true := by rfl) (hks : (backToKw pos (keywordEach kws X.env)).filterMap (·.1) = ks := by rfl)
    (hdb : (x == ("__debug__" : Str)) = false := by decide)
    (hpl : ((backTo pos (starEach [] X.env)).any (·.1) || (backToKw pos (keywordEach kws X.env)).any (·.1.isNone)) = false := by rfl) (hnk : ks.length = nk := by rfl) : PE X (.Call (.Name x p) [] kws pos) (rdE (X.K, Z) W (mDefP n 0 nk ix f mNil mk)) := by
  subst hnk
  obtain ⟨ad, fd, ps, hn, ok, hm, hk, hb⟩ := F.ex
  refine ⟨fun pins s σ H Q I h => ?_⟩
  obtain ⟨hd, φ, ρ, w, sr, wr, q⟩ := defP_read (k := k) (m := mNil) σ H Q h
  have q := q H φ Ext.refl wr [] Reps.nil
  refine wpAny_Call_Name_kw (ld_glob I hg hm ?_ hdb)
  refine PySem.W.callWith_KW0 (h₀ := X.base) I.ok.mod.kin hk hall (thn (hkw.run pos pins s σ H _ I q) fun ws s2 ⟨zs, H2, I2, rz, q2⟩ => ⟨I2.kIn, ?_⟩) hpl
  rw [hks]
  exact run_fnkO (us := []) ok hr hb (passO tk σ) I2 .nil rz q2
end
theorem At.dfP {P : Program} {w : PySem.World} {K : PySem.W.Frag} {Z : List (Addr × Str)} {cd : Value} {mg : Str → Option Value} {base : Heap} {x : Str} {st : Stmt} {N ps ks : List Str} {k np : Nat} {ix : List Nat} {m : MS} {h : Heap} (a : At K x st cd) (X : K.In h) (G : h.Ns mainGlobals mg) (S : FnScope N ps (defScope st)) (hne : ps ≠ [])
    (hb : ∀ (kV doc pm : Value) (an : Option Addr) (cdv ct : Value) (us ws : List Value), us.length = np → ws.length = ks.length → bindArgs (PySem.W.fnOf x x (defArgs st) (defBody st) (defScope st) .none kV doc pm an cdv ct) ⟨us, ks.zip ws⟩ = pure (ps.zip (prm ix (us ++ ws))))
    (body : Bd P w K Z mg base N x st cd k m) : DfP P w K Z mg base (k + 1) x ps.length np ks ix (runB N.length m) := by
  obtain ⟨f, oc, od, an, sl, kV, dc, pm, ct, h1, h2, h3, h4⟩ := a.ex
  refine ⟨f, _, ps, rfl, ok_of ⟨_, _, _, _, _, _, _, _, rfl, h2, h3⟩ S body, PySem.W.mg_of X G h1, h4, ⟨fun s us ws _ hl => ?_, fun a b => gP_rel a b⟩⟩
  unfold gP at hl ⊢
  split at hl
  · rename_i hc
    rw [if_pos hc]
    exact .of_eq (hb _ _ _ _ _ _ us ws hc.1 hc.2)
  · exfalso
    exact hne (List.eq_nil_of_length_eq_zero (by simpa using hl.symm))
end VS

set_option Elab.async false
set_option linter.all false
set_option maxRecDepth 100000
set_option maxHeartbeats 2000000
/-! VS13: dicts asked (in, not in, get), a display with one tuple for a key, range down. -/
namespace VS
open PySem PySem.Spec PyProof.Rows L2
/-- what a dict holds of a key; none where it is no dict, or no key -/
def getD? (w : World) (d y : T) : Option (Option T) := match d with
  | .cell k => match w[k]? with
    | some (.dic kvs) => match keyT y with
      | some key => some (valT kvs key)
      | none => none
    | some (.dit kvs) => match y with
      | .tup us => match keysT us with
        | some key => some (valT kvs key)
        | none => none
      | _ => none
    | _ => none
  | _ => none
def isDct (w : World) (d : T) : Bool := match d with
  | .cell k => match w[k]? with
    | some (.dic _) => true
    | some (.dit _) => true
    | _ => false
  | _ => false
def sIn : S2 := fun y d w => match getD? w d y with
  | some o => .ok (.bl o.isSome) w
  | none => .no
def sNotIn : S2 := fun y d w => match getD? w d y with
  | some o => .ok (.bl (!o.isSome)) w
  | none => .no
section
variable {K : KT} {hd φ : List Addr} {H : Hp} {w : World}
theorem dget_at (wr : WR K hd φ H w) {d y : T} {x z : V} {o : Option T} (rd : Rep K hd φ H d x) (ry : Rep K hd φ H y z) (h : getD? w d y = some o) :
    ∃ a o', x = .ref a ∧ DGet H a z o' ∧ o'.isSome = o.isSome ∧ ∀ t, o = some t → ∃ v, o' = some v ∧ Rep K hd φ H t v := by
  cases d with
  | cell k =>
    unfold getD? at h
    simp only at h
    cases q : w[k]? with
    | none => rw [q] at h; cases h
    | some c =>
      rw [q] at h
      cases c with
      | lst ts => cases h
      | obj x ks ts => first | cases h | (cases y <;> cases h)
      | dic kvs =>
        simp only at h
        cases q2 : keyT y with
        | none => rw [q2] at h; cases h
        | some key =>
          rw [q2] at h
          cases h
          obtain ⟨l, rfl, _, _, ys, h1, h2, h3⟩ := cell_at wr rd q
          have h4 := valT_at h2 h3 key
          rw [key_at ry q2]
          refine ⟨l, valV ys key, rfl, DGet.k h1, ?_, fun t ht => ?_⟩
          · cases q3 : valT kvs key with
            | none => rw [q3] at h4; rw [h4]; rfl
            | some t =>
              rw [q3] at h4
              obtain ⟨v, h5, h6⟩ := h4
              rw [h5]; rfl
          · rw [ht] at h4
            exact h4
      | dit kvs =>
        cases y with
        | tup us =>
          simp only at h
          cases q2 : keysT us with
          | none => rw [q2] at h; cases h
          | some key =>
            rw [q2] at h
            cases h
            obtain ⟨l, rfl, _, _, ys, h1, h2, h3⟩ := cell_at wr rd q
            have h4 := valT_at h2 h3 key
            unfold Rep at ry
            obtain ⟨m, zs, rfl, n, rz⟩ := ry
            have e := keys_at rz q2
            subst e
            refine ⟨l, valV ys key, rfl, DGet.t h1 n.1, ?_, fun t ht => ?_⟩
            · cases q3 : valT kvs key with
              | none => rw [q3] at h4; rw [h4]; rfl
              | some t =>
                rw [q3] at h4
                obtain ⟨v, h5, h6⟩ := h4
                rw [h5]; rfl
            · rw [ht] at h4
              exact h4
        | _ => cases h
  | _ => cases h
theorem isD_of (wr : WR K hd φ H w) {d : T} {x : V} (rd : Rep K hd φ H d x) (h : isDct w d = true) : ∃ a, x = .ref a ∧ IsD H a := by
  cases d with
  | cell k =>
    unfold isDct at h
    simp only at h
    cases q : w[k]? with
    | none => rw [q] at h; cases h
    | some c =>
      rw [q] at h
      cases c with
      | lst ts => cases h
      | obj x ks ts => first | cases h | (cases y <;> cases h)
      | dic kvs =>
        obtain ⟨l, rfl, _, _, ys, h1, _⟩ := cell_at wr rd q
        exact ⟨l, rfl, .inl ⟨ys, .inl h1⟩⟩
      | dit kvs =>
        obtain ⟨l, rfl, _, _, ys, h1, _⟩ := cell_at wr rd q
        exact ⟨l, rfl, .inr ⟨ys, .inl h1⟩⟩
  | _ => cases h
variable {X : Cx} {e a b c o i : Expr} {pos apos cpos : Pos} {ma mb mo mi : ME} {Z : List (Addr × Str)} {W : Option WX}
theorem in_read : ∀ σ H Q, rdE (X.K, Z) W (mOp2 sIn ma mb) σ H Q → tDIn (rdE (X.K, Z) W ma) (rdE (X.K, Z) W mb) σ H Q := fun σ H Q => by
  rintro ⟨hd, φ, ρ, w, sr, wr, p⟩
  refine ⟨hd, φ, ρ, w, sr, wr, Pst.then isPst p fun dx w1 φ1 H1 e1 wr1 p1 x rx => ?_⟩
  refine ⟨hd, φ1, ρ, w1, sr.mono e1, wr1, Pst.then isPst p1 fun dy w2 φ2 H2 e2 wr2 p2 y ry => ?_⟩
  unfold sIn at p2
  cases q : getD? w2 dy dx with
  | none => rw [q] at p2; exact p2.elim
  | some o =>
    rw [q] at p2
    obtain ⟨l, o', rfl, g, hs, _⟩ := dget_at wr2 ry (rx.mono e2) q
    exact ⟨l, o', rfl, g, p2.ok wr2 _ (by unfold Rep; rw [hs])⟩
theorem notin_read : ∀ σ H Q, rdE (X.K, Z) W (mOp2 sNotIn ma mb) σ H Q → tDNotIn (rdE (X.K, Z) W ma) (rdE (X.K, Z) W mb) σ H Q := fun σ H Q => by
  rintro ⟨hd, φ, ρ, w, sr, wr, p⟩
  refine ⟨hd, φ, ρ, w, sr, wr, Pst.then isPst p fun dx w1 φ1 H1 e1 wr1 p1 x rx => ?_⟩
  refine ⟨hd, φ1, ρ, w1, sr.mono e1, wr1, Pst.then isPst p1 fun dy w2 φ2 H2 e2 wr2 p2 y ry => ?_⟩
  unfold sNotIn at p2
  cases q : getD? w2 dy dx with
  | none => rw [q] at p2; exact p2.elim
  | some o =>
    rw [q] at p2
    obtain ⟨l, o', rfl, g, hs, _⟩ := dget_at wr2 ry (rx.mono e2) q
    exact ⟨l, o', rfl, g, p2.ok wr2 _ (by unfold Rep; rw [hs])⟩
theorem de_din (hu : X.A.units + 1 < cLine) (ha : PE X a (rdE (X.K, Z) W ma)) (hb : PE X b (rdE (X.K, Z) W mb)) (hm : behindInMarks .In b = false := by rfl) : PE X (.Compare a [.In] [b] pos) (rdE (X.K, Z) W (mOp2 sIn ma mb)) := PE_imp (pe_cmp (pc_din hu ha hb) hm) in_read
theorem de_dnotin (hu : X.A.units + 1 < cLine) (ha : PE X a (rdE (X.K, Z) W ma)) (hb : PE X b (rdE (X.K, Z) W mb)) (hm : behindInMarks .NotIn b = false := by rfl) : PE X (.Compare a [.NotIn] [b] pos) (rdE (X.K, Z) W (mOp2 sNotIn ma mb)) := PE_imp (pe_cmp (pc_dnotin hu ha hb) hm) notin_read
theorem dt_din (hu : X.A.units + 1 < cLine) (ha : PE X a (rdE (X.K, Z) W ma)) (hb : PE X b (rdE (X.K, Z) W mb)) (hm : behindInMarks .In b = false := by rfl) : PT X (.Compare a [.In] [b] pos) (rdT (X.K, Z) W (mTest (mOp2 sIn ma mb))) := PT_imp (pt_cmp (pc_din hu ha hb) hm) fun σ H Q h => in_read σ H _ (test_read σ H Q h)
theorem dt_dnotin (hu : X.A.units + 1 < cLine) (ha : PE X a (rdE (X.K, Z) W ma)) (hb : PE X b (rdE (X.K, Z) W mb)) (hm : behindInMarks .NotIn b = false := by rfl) : PT X (.Compare a [.NotIn] [b] pos) (rdT (X.K, Z) W (mTest (mOp2 sNotIn ma mb))) := PT_imp (pt_cmp (pc_dnotin hu ha hb) hm) fun σ H Q h => notin_read σ H _ (test_read σ H Q h)
/-- d.get(y) -/
def mDGet (a b : ME) : ME := fun ρ w => (a ρ w).bind fun d w1 => if isDct w1 d = true then (b ρ w1).bind fun y w2 => match getD? w2 d y with
  | some (some t) => .ok t w2
  | some none => .ok .non w2
  | none => .no
  else .no
theorem de_dget (hu : X.A.units + 1 < cLine) (ho : PE X o (rdE (X.K, Z) W mo)) (he : PE X e (rdE (X.K, Z) W mi)) (m : M1 X o "get" apos e cpos := by exact ⟨rfl, rfl, rfl, rfl⟩) : PE X (.Call (.Attribute o "get" apos) [e] [] cpos) (rdE (X.K, Z) W (mDGet mo mi)) := PE_imp (pe_dget1 hu ho he m) fun σ H Q => by
  rintro ⟨hd, φ, ρ, w, sr, wr, p⟩
  refine ⟨hd, φ, ρ, w, sr, wr, Pst.then isPst p fun d w1 φ1 H1 e1 wr1 p1 x rx => ?_⟩
  split at p1
  · rename_i hD
    obtain ⟨l, rfl, hl⟩ := isD_of wr1 rx hD
    refine ⟨l, rfl, hl, ⟨hd, φ1, ρ, w1, sr.mono e1, wr1, Pst.then isPst p1 fun y w2 φ2 H2 e2 wr2 p2 z rz => ?_⟩⟩
    cases q : getD? w2 d y with
    | none => rw [q] at p2; exact p2.elim
    | some o =>
      rw [q] at p2
      obtain ⟨l', o', hl', g, hs, hv⟩ := dget_at wr2 (rx.mono e2) rz q
      cases hl'
      refine ⟨o', g, ?_⟩
      cases o with
      | none =>
        cases o' with
        | none => exact p2.ok wr2 _ (by unfold Rep; rfl)
        | some v => cases hs
      | some t =>
        obtain ⟨v, rfl, rv⟩ := hv t rfl
        exact p2.ok wr2 v rv
  · exact p1.elim
/-! range down -/
def rgD (hi : Int) (n : Nat) : List T := (List.range n).map fun i => .int (hi + (i : Nat) * (-1))
theorem rgD_length {hi : Int} {n : Nat} : (rgD hi n).length = n := by unfold rgD; simp
theorem rgD_at {hi : Int} {n i : Nat} {t : T} (h : (rgD hi n)[i]? = some t) : t = .int (hi + (i : Nat) * (-1)) ∧ i < n := by
  unfold rgD at h
  rw [List.getElem?_map] at h
  cases q : (List.range n)[i]? with
  | none => rw [q] at h; cases h
  | some j =>
    rw [q] at h
    obtain ⟨h1, h2⟩ := List.getElem?_eq_some_iff.mp q
    rw [List.getElem_range] at h2
    subst h2
    exact ⟨(Option.some.inj h).symm, by simpa using h1⟩
theorem src_rangeD {hd₀ φ₀ : List Addr} {H₀ : Hp} {hi : Int} {n : Nat} : Src K hd₀ φ₀ H₀ (Itc hi (-1) n) (rgD hi n) none := fun D i hd φ H w off e wr kp => by
  refine ⟨fun t ht => ?_, fun hl => by rw [rgD_length] at hl; exact hl⟩
  obtain ⟨rfl, hi⟩ := rgD_at ht
  refine ⟨hi, fun y H' hy => ?_⟩
  obtain ⟨rfl, rfl⟩ := hy
  exact ⟨Ext.refl, wr, by unfold Rep; rfl⟩
def sRangeD : List T → World → R (List T × OC) := fun ts w => match ts with
  | [.int i, .int j, .int c] => if c = -1 ∧ RgOk i j then .ok (rgD i (i - j).toNat, none) w else .no
  | _ => .no
def mRangeD (m : MF) : MI := fun ρ w => (m ρ w).bind sRangeD
theorem reps3 {hd φ : List Addr} {H : Hp} {t u s : T} {vs : List V} (h : Reps K hd φ H [t, u, s] vs) : ∃ v x y, vs = [v, x, y] ∧ Rep K hd φ H t v ∧ Rep K hd φ H u x ∧ Rep K hd φ H s y := by
  unfold Reps at h
  obtain ⟨v, r, rfl, h1, h2⟩ := h
  obtain ⟨x, y, rfl, h3, h4⟩ := reps2 h2
  exact ⟨v, x, y, rfl, h1, h3, h4⟩
theorem di_rangeD {tg : Expr} {p : Pos} {m : MF} (hm : X.mg "range" = none) (ha : PA X [a, b, c] (rdA (X.K, Z) W m)) (hg : Gl X "range" := by rfl) (hs : starEach [a, b, c] X.env = (false, eval a X.env) :: starEach [b, c] X.env := by rfl) (hpl : (backTo pos (starEach [b, c] X.env)).any (·.1) = false := by rfl) : PI X tg (.Call (.Name "range" p) [a, b, c] [] pos) (rdI (X.K, Z) W (mRangeD m)) := PI_imp (pi_range3 hg hm ha hs hpl) fun σ H Q => by
  rintro ⟨hd, φ, ρ, w, sr, wr, p⟩
  refine ⟨hd, φ, ρ, w, sr, wr, ?_⟩
  unfold mRangeD at p
  cases q : m ρ w with
  | no => rw [q] at p; exact p.elim
  | ex _ _ _ => (rw [q] at p; first | exact p | (rw [q]; exact p))
  | ok ts w1 =>
    rw [q, bind_ok] at p
    intro H' φ' e1 wr1 vs rvs
    unfold sRangeD at p
    match ts, p with
    | [.int i, .int j, .int c], p =>
      obtain ⟨v, x, y, rfl, r1, r2, r3⟩ := reps3 rvs
      cases rep_int r1
      cases rep_int r2
      cases rep_int r3
      simp only at p
      split at p
      · rename_i ok
        obtain ⟨rfl, o1, o2, o3, o4⟩ := ok
        exact ⟨i, j, -1, (i - j).toNat, rfl, RgC.neg o1 o2 o3 o4, p H' φ' e1 wr1 _ src_rangeD⟩
      · exact p.elim
/-! {(a, b): v}: one pair, the key a tuple -/
def tDispT1 (tk tv : TE) : TE := fun σ H Q => ∀ p, H p = none → tk σ (upd H p (.dT [])) fun x H1 => tv σ H1 fun y H2 => H2 p = some (.dT []) ∧ ∃ b key, x = .ref b ∧ H2 b = some (.tup ((key : List Key).map kV)) ∧ Q (.ref p) (upd H2 p (.dT [(key, y)]))
theorem pe_dispT1 {k v : Expr} {tk tv : TE} (hu : X.A.units + 1 < cLine) (hk : PE X k tk) (hv : PE X v tv) : PE X (.Dict [some k] [v] pos) (tDispT1 tk tv) := by
  refine ⟨fun pins s σ H Q I q => ?_⟩
  have hn := I.hok.fresh (Nat.le_refl s.heap.objs.size)
  have I1 := I.laid (a := s.heap.objs.size) (o := .dT []) (h' := s.heap.push { cls := .type "dict", data := .dict #[] }) (t' := s.toks) (fun _ _ q => Heap.get?_push_of_some _ q) (Nat.le_refl _) (dt_empty s.heap I.big)
  have hlen : (pairTrees [some k] [v] X.env pos).length = 1 := by rw [pairTrees_length [some k] [v] X.env pos rfl rfl]; rfl
  rw [arm_eval_Dict, zip_pairTrees [some k] [v] X.env pos rfl rfl, dictDisplay_pairs (pairTrees [some k] [v] X.env pos) (fun h => by rw [h] at hlen; cases hlen) (by rw [hlen]; decide)]
  refine wpAny_bind (wpAny_standAt (wpAny_bind (wpAny_subDictH (knd := tupleKind (mixKind X.prog X.w)) (show X.A.units < cLine from Nat.lt_of_succ_lt hu) (by rw [hlen]; decide) (thn ((pps_cons hk hv (pps_nil (X := X) (pos := pos))).run pins _ σ _ (fun ps H2 => match ps with
    | [(x, y)] => H2 s.heap.objs.size = some (.dT []) ∧ ∃ b key, x = .ref b ∧ H2 b = some (.tup ((key : List Key).map kV)) ∧ Q (.ref s.heap.objs.size) (upd H2 s.heap.objs.size (.dT [(key, y)]))
    | _ => False) I1 (q _ hn)) fun ws s2 ⟨ps, H2, I2, rel, q2⟩ => ?_))))
  match ps, rel, q2 with
  | [(x, y)], rel, ⟨e, b, key, ex, eb, q2⟩ =>
    subst ex
    cases rel with
    | @cons a c as cs r rt =>
      cases rt
      obtain ⟨kv, u⟩ := c
      obtain ⟨r1, r2⟩ := r
      obtain rfl : kv = Value.ref b := r1
      obtain ⟨z, hd, xs, rx, dd⟩ := dt_of I2.hok e
      cases rx
      refine ⟨[(key, b, u)], ⟨rfl, rfl, key_of I2.hok eb, trivial⟩, dd, fun h' tk dd' hs => wpAny_pure ?_⟩
      have dd2 : h'.DictOfH (tupleKind (mixKind X.prog X.w)) s.heap.objs.size [(key, b, u)] := dd'
      obtain ⟨o, es, ep, ho, h2, h3, h4, _, h5⟩ := dd2
      refine ⟨.ref s.heap.objs.size, _, d_write (ob := .dT [(key, y)]) I2 (by rw [e]; exact True.intro) hs ⟨o, ho⟩ ⟨by rw [sizeLine_eq]; show 1 ≤ _; omega, hd, [(key, b, u)], .cons ⟨rfl, ?_, r2⟩ .nil, o, es, ep, ho, h2, h3, h4, h5⟩, rfl, q2⟩
      show upd H2 _ _ b = _
      rw [upd_ne (ne_of eb e (fun z => nomatch z))]
      exact eb
def mDictT1 (a b : ME) : ME := fun ρ w => (a ρ w).bind fun kt w1 => (b ρ w1).bind fun t w2 => match kt with
  | .tup us => match keysT us with
    | some key => .ok (.cell w2.length) (w2 ++ [.dit [(key, t)]])
    | none => .no
  | _ => .no
theorem de_dictT1 {k v : Expr} (hu : X.A.units + 1 < cLine) (hk : PE X k (rdE (X.K, Z) W ma)) (hv : PE X v (rdE (X.K, Z) W mb)) : PE X (.Dict [some k] [v] pos) (rdE (X.K, Z) W (mDictT1 ma mb)) := PE_imp (pe_dispT1 hu hk hv) fun σ H Q => by
  rintro ⟨hd, φ, ρ, w, sr, wr, p⟩
  intro l hln
  have eh : Ext hd φ H (l :: hd) φ (upd H l (.dT [])) := Ext.hold hln
  refine ⟨l :: hd, φ, ρ, w, sr.mono eh, wr.hold hln, ?_⟩
  unfold mDictT1 at p
  cases q : ma ρ w with
  | no => rw [q] at p; exact p.elim
  | ex _ _ _ => rw [q] at p; exact PstX.hold hln p
  | ok kt w1 =>
    rw [q, bind_ok] at p
    intro H1 φ1 e1 wr1 x rx
    refine ⟨l :: hd, φ1, ρ, w1, (sr.mono eh).mono e1, wr1, ?_⟩
    cases q2 : mb ρ w1 with
    | no => rw [q2] at p; exact p.elim
    | ex _ _ _ => rw [q2] at p; exact (PstX.hold hln p).mono e1
    | ok t w2 =>
      rw [q2, bind_ok] at p
      intro H2 φ2 e2 wr2 y ry
      have e12 := e1.trans e2
      have hx : H2 l = some (.dT []) := e12.keep l _ upd_same (wr.hold (o := .dT []) hln |>.apart l · List.mem_cons_self) (fun _ z => nomatch z)
      cases kt with
      | tup us =>
        simp only at p
        cases q3 : keysT us with
        | none => rw [q3] at p; exact p.elim
        | some key =>
          rw [q3] at p
          have rx2 := rx.mono e2
          unfold Rep at rx2
          obtain ⟨b, zs, rfl, n, rz⟩ := rx2
          have e' := keys_at rz q3
          subst e'
          refine ⟨hx, b, key, rfl, n.1, ?_⟩
          have eg : ExtD (some l) (l :: hd) φ2 H2 (l :: hd) φ2 (upd H2 l (.dT [(key, y)])) := ExtD.grow List.mem_cons_self
          have off : Off (some l) (l :: hd) H2 := fun d h => by cases h; exact .inl List.mem_cons_self
          have e3 : Ext hd φ H (l :: hd) φ2 (upd H2 l (.dT [(key, y)])) := ((eh.toD.trans e12.toD).trans eg).plain (fr0_none hln)
          refine p _ (φ2 ++ [l]) (e3.cell (fr0_none hln)) ((wr2.grow List.mem_cons_self hx).cell (wr.nin hln).2 ⟨[(key, y)], upd_same, rfl, (Reps.cons ry Reps.nil).monoD eg off⟩) _ ?_
          unfold Rep
          refine ⟨l, rfl, ?_⟩
          rw [← wr2.len, List.getElem?_append_right (Nat.le_refl _)]
          simp
      | _ => exact p.elim
end
end VS

set_option Elab.async false
set_option linter.all false
set_option maxRecDepth 100000
set_option maxHeartbeats 2000000
/-! VS14: x in a sequence, len(set(xs)), range as a value, a starred item, sorted(tuples of ints). -/
namespace VS
open PySem PySem.Spec PyProof.Rows L2
section
variable {X : Cx} {K : KT} {hd φ : List Addr} {H : Hp} {w : World} {e a b c : Expr} {es : List Expr} {pos p p2 q : Pos} {ma mb m0 : ME} {m : MF} {tg : Expr} {Z : List (Addr × Str)} {W : Option WX}
/-! ### x in a sequence -/
def rInQ (K : PySem.W.Frag) (f : Bool → Bool) : R2 := fun x y H Q => ∃ d ds, Dp K H x d ∧ (Dp K H y (.list ds) ∨ Dp K H y (.tuple ds)) ∧ SeqAt.shaped d = true ∧ SeqAt.shaped (.list ds) = true ∧ Q (.bl (f (ds.any fun z => PyData.eqv z d))) H
theorem op_inQ (hu : X.A.units + 65 < cLine) : OpR X (compareOp .In) (rInQ X.K id) := by
  intro pins s σ H x y v u Q I rx ry h
  obtain ⟨d, ds, hd, he, sd, se, q⟩ := h
  obtain ⟨as, r1⟩ := Dp.reads I d x v hd rx
  rcases he with he | he
  · obtain ⟨bs, r2⟩ := Dp.reads I (.list ds) y u he ry
    exact SeqAt.in_list_reads r2 r1 (SeqAt.canLay_of_shaped se) (SeqAt.canLay_of_shaped sd) (room_in_shaped sd hu) ⟨.bl _, H, I, rfl, q⟩
  · obtain ⟨bs, r2⟩ := Dp.reads I (.tuple ds) y u he ry
    exact SeqAt.in_tuple_reads r2 r1 (SeqAt.canLay_of_shaped se) (SeqAt.canLay_of_shaped sd) (room_in_shaped sd hu) ⟨.bl _, H, I, rfl, q⟩
theorem op_notInQ (hu : X.A.units + 65 < cLine) : OpR X (compareOp .NotIn) (rInQ X.K not) := by
  intro pins s σ H x y v u Q I rx ry h
  obtain ⟨d, ds, hd, he, sd, se, q⟩ := h
  obtain ⟨as, r1⟩ := Dp.reads I d x v hd rx
  rcases he with he | he
  · obtain ⟨bs, r2⟩ := Dp.reads I (.list ds) y u he ry
    exact SeqAt.notIn_list_reads r2 r1 (SeqAt.canLay_of_shaped se) (SeqAt.canLay_of_shaped sd) (room_in_shaped sd hu) ⟨.bl _, H, I, rfl, q⟩
  · obtain ⟨bs, r2⟩ := Dp.reads I (.tuple ds) y u he ry
    exact SeqAt.notIn_tuple_reads r2 r1 (SeqAt.canLay_of_shaped se) (SeqAt.canLay_of_shaped sd) (room_in_shaped sd hu) ⟨.bl _, H, I, rfl, q⟩
def inT (w : World) (x y : T) : Option Bool := match pd w x, pd w y with
  | some d, some (.list ds) => if SeqAt.shaped d = true ∧ SeqAt.shaped (.list ds) = true then some (ds.any fun z => PyData.eqv z d) else none
  | some d, some (.tuple ds) => if SeqAt.shaped d = true ∧ SeqAt.shaped (.list ds) = true then some (ds.any fun z => PyData.eqv z d) else none
  | _, _ => none
def sInQ : S2 := fun x y w => match inT w x y with
  | some b => .ok (.bl b) w
  | none => .no
def sNotInQ : S2 := fun x y w => match inT w x y with
  | some b => .ok (.bl (!b)) w
  | none => .no
theorem inT_at (wr : WR K hd φ H w) {dx dy : T} {x y : V} {b : Bool} (rx : Rep K hd φ H dx x) (ry : Rep K hd φ H dy y) (h : inT w dx dy = some b) :
    ∃ d ds, Dp K.1 H x d ∧ (Dp K.1 H y (.list ds) ∨ Dp K.1 H y (.tuple ds)) ∧ SeqAt.shaped d = true ∧ SeqAt.shaped (.list ds) = true ∧ b = ds.any fun z => PyData.eqv z d := by
  unfold inT at h
  split at h
  · rename_i d ds h1 h2
    split at h
    · rename_i hs; cases h; exact ⟨d, ds, dp wr rx h1, .inl (dp wr ry h2), hs.1, hs.2, rfl⟩
    · cases h
  · rename_i d ds h1 h2
    split at h
    · rename_i hs; cases h; exact ⟨d, ds, dp wr rx h1, .inr (dp wr ry h2), hs.1, hs.2, rfl⟩
    · cases h
  · cases h
theorem opInQ : Op2 K sInQ (rInQ K.1 id) := fun W hd φ H w dx dy x y Q wr rx ry p => by
  unfold sInQ at p
  cases q : inT w dx dy with
  | none => rw [q] at p; exact p.elim
  | some k =>
    rw [q] at p
    obtain ⟨d, ds, h1, h2, h3, h4, rfl⟩ := inT_at wr rx ry q
    exact ⟨d, ds, h1, h2, h3, h4, p.bl wr⟩
theorem opNotInQ : Op2 K sNotInQ (rInQ K.1 not) := fun W hd φ H w dx dy x y Q wr rx ry p => by
  unfold sNotInQ at p
  cases q : inT w dx dy with
  | none => rw [q] at p; exact p.elim
  | some k =>
    rw [q] at p
    obtain ⟨d, ds, h1, h2, h3, h4, rfl⟩ := inT_at wr rx ry q
    exact ⟨d, ds, h1, h2, h3, h4, p.bl wr⟩
section
variable (hu : X.A.units + 65 < cLine) (ha : PE X a (rdE (X.K, Z) W ma)) (hb : PE X b (rdE (X.K, Z) W mb))
include hu ha hb
theorem de_inq (hm : behindInMarks .In b = false := by rfl) : PE X (.Compare a [.In] [b] pos) (rdE (X.K, Z) W (mOp2 sInQ ma mb)) := de_cmp (op_inQ hu) opInQ ha hb hm
theorem de_notinq (hm : behindInMarks .NotIn b = false := by rfl) : PE X (.Compare a [.NotIn] [b] pos) (rdE (X.K, Z) W (mOp2 sNotInQ ma mb)) := de_cmp (op_notInQ hu) opNotInQ ha hb hm
theorem dt_inq (hm : behindInMarks .In b = false := by rfl) : PT X (.Compare a [.In] [b] pos) (rdT (X.K, Z) W (mTest (mOp2 sInQ ma mb))) := dt_cmp (op_inQ hu) opInQ ha hb hm
theorem dt_notinq (hm : behindInMarks .NotIn b = false := by rfl) : PT X (.Compare a [.NotIn] [b] pos) (rdT (X.K, Z) W (mTest (mOp2 sNotInQ ma mb))) := dt_cmp (op_notInQ hu) opNotInQ ha hb hm
end
/-! ### len(set(xs)), ints -/
def unlike (ns : List Int) : Nat := (firstMet (fun i => ns.getD i 0) ns.length).length
def tLenSet (K : PySem.W.Frag) (ta : TE) : TE := fun σ H Q => ta σ H fun x H1 => ∃ (l : Addr) (ns : List Int), x = .ref l ∧ SqL K H1 l (ns.map V.int) ∧ ns.length ≤ 4000 ∧ Q (.int (unlike ns : Nat)) H1
theorem pe_lenSet' {ta : TE} (hg : Gl X "len") (hm : X.mg "len" = none) (hg2 : Gl X "set") (hm2 : X.mg "set" = none) (ha : PE X a ta) (hc : X.calm = true := by rfl)
    (na : starEach [a] X.env = (false, eval a X.env) :: starEach [] X.env := by rfl) : PE X (.Call (.Name "len" p) [.Call (.Name "set" p2) [a] [] q] [] pos) (tLenSet X.K ta) := by
  refine ⟨fun pins s σ H Q I h => ?_⟩
  refine Call_ (ld_blt I hg hm boot_len ?_)
  refine PyProof.Rows.callWith_builtin1 (PyProof.Rows.args_cons ?_ rfl) rfl rfl
  refine Call_ (ld_blt I hg2 hm2 boot_set ?_)
  refine PyProof.Rows.callWith_type1 (PyProof.Rows.args_cons (thn (ha.run pins s σ H _ I h) fun v s1 ⟨x, H1, I1, r1, q1⟩ => PyProof.Rows.args_nil ?_) na) na rfl
  obtain ⟨l, ns, rfl, hq, hl, q1⟩ := q1
  cases r1
  obtain ⟨its, r, pl, hz⟩ := I1.list hq
  have hlen : its.toArray.size = ns.length := by rw [List.size_toArray, ← r.length, List.length_map]
  refine call_set_list (I1.ok.hd hc) pl.isList (by simpa using RZ.intsAre_vals r) (by rw [hlen]; unfold scanBound; omega) fun h' tk hS hk => ?_
  refine PyProof.Rows.args_nil ?_
  rw [hlen] at hS
  have hle := firstMet_length_le (fun i => ns.getD i 0) ns.length
  obtain ⟨o, es, ep, t, ho, hex, hd, _, _, _, hf, hn⟩ := hS
  have I2 : Inv X pins σ H1 { s1 with heap := h', toks := tk } := I1.kept fun b o e => hk b o (Heap.lt_size e) e
  exact call_len_set ho hex hd hf (by rw [hn] <;> omega) ⟨.int _, H1, I2.tok _, ⟨_, by rw [hn] <;> rfl⟩, q1⟩
def intsT : List T → Option (List Int)
  | [] => some []
  | .int i :: ts => (intsT ts).map (i :: ·)
  | _ => none
theorem intV_at : ∀ {ts : List T} {vs : List V} {ns : List Int}, Reps K hd φ H ts vs → intsT ts = some ns → vs = ns.map V.int
  | [], vs, ns, r, h => by cases h; unfold Reps at r; exact r
  | .int i :: ts, vs, ns, r, h => by
    unfold Reps at r
    obtain ⟨x, xs, rfl, r1, r2⟩ := r
    cases rep_int r1
    obtain ⟨cs, h1, rfl⟩ := map_some h
    rw [intV_at r2 h1]
    rfl
  | .non :: ts, vs, bs, r, h => by cases h
  | .bl _ :: ts, vs, bs, r, h => by cases h
  | .str _ :: ts, vs, bs, r, h => by cases h
  | .ty _ :: ts, vs, bs, r, h => by cases h
  | .tup _ :: ts, vs, bs, r, h => by cases h
  | .lst _ :: ts, vs, bs, r, h => by cases h
  | .frz _ :: ts, vs, bs, r, h => by cases h
  | .rng _ :: ts, vs, bs, r, h => by cases h
  | .glb _ :: ts, vs, bs, r, h => by cases h
  | .exc _ _ _ :: ts, vs, bs, r, h => by cases h
  | .dct _ _ :: ts, vs, bs, r, h => by cases h
  | .cell _ :: ts, vs, bs, r, h => by cases h
def mLenSet (a : ME) : ME := fun ρ w => (a ρ w).bind fun t w1 => match lst? w1 t with
  | some ts => match intsT ts with
    | some ns => if ns.length ≤ 4000 then .ok (.int (unlike ns : Nat)) w1 else .no
    | none => .no
  | none => .no
theorem de_lenset (hm : X.mg "len" = none) (hm2 : X.mg "set" = none) (ha : PE X a (rdE (X.K, Z) W ma)) (hg : Gl X "len" := by rfl) (hg2 : Gl X "set" := by rfl) (hc : X.calm = true := by rfl)
    (na : starEach [a] X.env = (false, eval a X.env) :: starEach [] X.env := by rfl) : PE X (.Call (.Name "len" p) [.Call (.Name "set" p2) [a] [] q] [] pos) (rdE (X.K, Z) W (mLenSet ma)) := PE_imp (pe_lenSet' hg hm hg2 hm2 ha hc na) fun σ H Q => by
  rintro ⟨hd, φ, ρ, w, sr, wr, p⟩
  refine ⟨hd, φ, ρ, w, sr, wr, Pst.then isPst p fun t w1 φ1 H1 e1 wr1 p1 x rx => ?_⟩
  cases q1 : lst? w1 t with
  | none => rw [q1] at p1; exact p1.elim
  | some ts =>
    rw [q1] at p1
    simp only at p1
    cases q2 : intsT ts with
    | none => rw [q2] at p1; exact p1.elim
    | some ns =>
      rw [q2] at p1
      simp only at p1
      split at p1
      · rename_i hl
        obtain ⟨l, xs, rfl, h1, h2⟩ := lst_at wr1 rx q1
        cases intV_at h2 q2
        exact ⟨l, ns, rfl, SqL.of h1, hl, p1.int wr1⟩
      · exact p1.elim
/-! ### range(n) as a value -/
theorem cr_range1 : CallR X (.type "range") (fun vs H Q => ∃ j, vs = [V.int j] ∧ ∀ p, H p = none → Q (.ref p) (upd H p (.rng 0 j))) := by
  intro pins s σ H vs us Q I r h
  obtain ⟨j, rfl, q⟩ := h
  cases r with
  | cons r1 rt =>
    cases rt
    obtain ⟨t, rfl⟩ := r1
    refine call_range_1 ⟨.ref s.heap.objs.size, upd H s.heap.objs.size (.rng 0 j), I.laid (t' := s.toks + 1 + 1) (fun b o e => Heap.get?_push_of_some _ e) (Nat.le_refl _) ?_, rfl, q _ (I.hok.fresh (Nat.le_refl _))⟩
    exact ⟨s.toks, t, s.toks + 1, Heap.get?_push_size _ rfl⟩
def sRng : SC := fun ds w => match ds with
  | [.int j] => if 0 ≤ j then .ok (.rng j.toNat) w else .no
  | _ => .no
theorem opRng : OpC K sRng (fun vs H Q => ∃ j, vs = [V.int j] ∧ ∀ p, H p = none → Q (.ref p) (upd H p (.rng 0 j))) := fun W hd φ H w ds xs Q wr rx p => by
  unfold sRng at p
  match ds, p with
  | [.int j], p =>
    obtain ⟨v, rfl, r⟩ := reps1 rx
    cases rep_int r
    simp only at p
    split at p
    · rename_i hj
      refine ⟨j, rfl, fun q hq => ?_⟩
      refine p (upd H q (.rng 0 j)) φ (Ext.new hq) (wr.new hq) _ ?_
      unfold Rep
      exact ⟨q, rfl, by rw [upd_same, Int.toNat_of_nonneg hj], (wr.nin hq).1, (wr.nin hq).2⟩
    · exact p.elim
theorem de_range1 (hm : X.mg "range" = none) (ha : PA X [e] (rdA (X.K, Z) W m)) (hg : Gl X "range" := by rfl) (he : starEach [e] X.env = (false, eval e X.env) :: starEach [] X.env := by rfl) (hpl : (backTo pos (starEach [] X.env)).any (·.1) = false := by rfl) : PE X (.Call (.Name "range" p) [e] [] pos) (rdE (X.K, Z) W (mCall sRng m)) :=
  de_callTy cr_range1 opRng hm boot_range ha hg (by decide) (by decide) he hpl
def iRngV (te : TE) : TI := fun σ H R => te σ H fun x H1 => ∃ a hi, x = .ref a ∧ H1 a = some (.rng 0 hi) ∧ 0 ≤ hi ∧ hi < 2 ^ 62 ∧ R (Itr 0 hi.toNat) H1
theorem pi_rngV {te : TE} (he : PE X e te) : PI X tg e (iRngV te) := by
  refine ⟨fun pins s σ H R I h => ?_⟩
  refine thn (he.run pins s σ H _ I h) fun v s1 ⟨x, H1, I1, r1, q1⟩ => ?_
  obtain ⟨a, hi, rfl, ha, h0, h1, q⟩ := q1
  cases r1
  obtain ⟨t, u, k, ho⟩ := I1.hok a _ ha
  have hr : IsRange s1.heap a 0 hi 1 t u k := ho
  refine wpAny_pyIter_range hr (small_one (by decide) (by decide) (by omega) h1) ?_
  refine ⟨s1.heap.objs.size, [s1.heap.objs.size], _, _, H1, rfl, I1.kept (t' := s1.toks) fun b o e => Heap.get?_push_of_some _ e, turn_range _ 0 hi.toNat, ?_, fun b hb => ?_, q⟩
  · have e1 : (0 : Int) + ((0 : Nat) : Int) * 1 = 0 := by simp
    have e2 : ((hi.toNat : Nat) : Int) - ((0 : Nat) : Int) = Builtin.Range.rangeSize 0 hi 1 := by rw [rangeSize_one]; split <;> omega
    show IsRangeIter _ _ ((0 : Int) + ((0 : Nat) : Int) * 1) (((hi.toNat : Nat) : Int) - ((0 : Nat) : Int)) 1
    rw [e1, e2]
    exact Heap.get?_push_size _ rfl
  · have e : b = s1.heap.objs.size := by simpa using hb
    subst e
    exact I1.fpOk (Nat.le_refl _) (I1.hok.fresh (Nat.le_refl _))
def mItemsR (m : ME) : MI := fun ρ w => (m ρ w).bind fun t w1 => match t with
  | .rng n => if (n : Int) < 2 ^ 62 then .ok (rgT 0 n, none) w1 else .no
  | _ => .no
theorem di_rng (h : PE X e (rdE (X.K, Z) W m0)) : PI X tg e (rdI (X.K, Z) W (mItemsR m0)) := PI_imp (pi_rngV h) fun σ H Q => by
  rintro ⟨hd, φ, ρ, w, sr, wr, p⟩
  refine ⟨hd, φ, ρ, w, sr, wr, ?_⟩
  unfold mItemsR at p
  cases q : m0 ρ w with
  | no => rw [q] at p; exact p.elim
  | ex _ _ _ => (rw [q] at p; first | exact p | (rw [q]; exact p))
  | ok t w1 =>
    rw [q, bind_ok] at p
    intro H' φ' e1 wr1 v rv
    cases t with
    | rng n =>
      simp only at p
      split at p
      · rename_i hn
        unfold Rep at rv
        obtain ⟨a, rfl, h1, _⟩ := rv
        refine ⟨a, n, rfl, h1, by omega, hn, ?_⟩
        have e2 : ((n : Int)).toNat = n := by simp
        rw [e2]
        exact p H' φ' e1 wr1 _ src_range
      · exact p.elim
    | _ => exact p.elim
/-! ### a starred item -/
def mStar (a : ME) (m : MF) : MF := fun ρ w => (a ρ w).bind fun t w1 => match seq? w1 t with
  | some ts => (m ρ w1).bind fun us w2 => .ok (ts ++ us) w2
  | none => .no
theorem da_star (ha : PE X a (rdE (X.K, Z) W ma)) (hr : PA X es (rdA (X.K, Z) W m)) (hs : starEach (.Starred a p :: es) X.env = (true, eval a X.env) :: starEach es X.env := by rfl) : PA X (.Starred a p :: es) (rdA (X.K, Z) W (mStar ma m)) := PA_imp (StX.pa_star ha hr hs) fun σ H Q => by
  rintro ⟨hd, φ, ρ, w, sr, wr, p⟩
  refine ⟨hd, φ, ρ, w, sr, wr, Pst.then isPst p fun x w1 φ1 H1 e1 wr1 p1 v rv => ?_⟩
  cases q : seq? w1 x with
  | none => rw [q] at p1; exact p1.elim
  | some ts =>
    rw [q] at p1
    simp only at p1
    obtain ⟨l, xs, rfl, h1, h2⟩ := seq_at wr1 rv q
    refine ⟨l, xs, rfl, h1.symm, hd, φ1, ρ, w1, sr.mono e1, wr1, Pst.then isPst p1 fun us w2 φ2 H2 e2 wr2 p2 vs rvs => ?_⟩
    exact p2.ok wr2 _ ((h2.mono e2).append rvs)
/-! ### sorted(xs), tuples of ints -/
def rowsT : List T → Option (List (List Int))
  | [] => some []
  | .tup us :: ts => match intsT us, rowsT ts with
    | some r, some rs => some (r :: rs)
    | _, _ => none
  | _ => none
def rowT (r : List Int) : T := .tup (r.map T.int)
theorem intsT_map : ∀ {ts : List T} {ns : List Int}, intsT ts = some ns → ts = ns.map T.int
  | [], ns, h => by cases h; rfl
  | .int i :: ts, ns, h => by
    obtain ⟨cs, h1, rfl⟩ := map_some h
    rw [intsT_map h1]
    rfl
  | .non :: ts, _, h => by cases h
  | .bl _ :: ts, _, h => by cases h
  | .str _ :: ts, _, h => by cases h
  | .ty _ :: ts, _, h => by cases h
  | .tup _ :: ts, _, h => by cases h
  | .lst _ :: ts, _, h => by cases h
  | .frz _ :: ts, _, h => by cases h
  | .rng _ :: ts, _, h => by cases h
  | .glb _ :: ts, _, h => by cases h
  | .exc _ _ _ :: ts, _, h => by cases h
  | .dct _ _ :: ts, _, h => by cases h
  | .cell _ :: ts, _, h => by cases h
theorem rowsT_map : ∀ {ts : List T} {rs : List (List Int)}, rowsT ts = some rs → ts = rs.map rowT
  | [], ns, h => by cases h; rfl
  | .tup us :: ts, rs, h => by
    unfold rowsT at h
    split at h
    · rename_i r rs' h1 h2
      cases h
      rw [rowsT_map h2, intsT_map h1]
      rfl
    · cases h
  | .non :: ts, _, h => by cases h
  | .bl _ :: ts, _, h => by cases h
  | .str _ :: ts, _, h => by cases h
  | .ty _ :: ts, _, h => by cases h
  | .int _ :: ts, _, h => by cases h
  | .lst _ :: ts, _, h => by cases h
  | .frz _ :: ts, _, h => by cases h
  | .rng _ :: ts, _, h => by cases h
  | .glb _ :: ts, _, h => by cases h
  | .exc _ _ _ :: ts, _, h => by cases h
  | .dct _ _ :: ts, _, h => by cases h
  | .cell _ :: ts, _, h => by cases h
theorem intsT_of : ∀ ns : List Int, intsT (ns.map T.int) = some ns
  | [] => rfl
  | n :: ns => by show (intsT (ns.map T.int)).map _ = _; rw [intsT_of ns]; rfl
theorem rowsT_of : ∀ rs : List (List Int), rowsT (rs.map rowT) = some rs
  | [] => rfl
  | r :: rs => by
    show (match intsT (r.map T.int), rowsT (rs.map rowT) with
      | some r, some rs => some (r :: rs)
      | _, _ => none) = _
    rw [intsT_of, rowsT_of rs]
def bdT : Int := 2 ^ 64
def bdRow (d : Nat) (r : List Int) : Prop := r.length = d ∧ TS.Bd bdT r
theorem code_inj {B : Int} : ∀ {r q : List Int}, r.length = q.length → TS.Bd B r → TS.Bd B q → TS.code B r = TS.code B q → r = q
  | [], [], _, _, _, _ => rfl
  | d :: r, e :: q, hl, h1, h2, h => by
    have hl' : r.length = q.length := by simpa using hl
    rcases Int.lt_trichotomy d e with c | c | c
    · exact absurd h (Int.ne_of_lt (TS.code_lt hl' h1.tail h2.tail c))
    · subst c
      have i1 := (TS.code_same (B := B) (d := d) hl').mpr
      have i2 := (TS.code_same (B := B) (d := d) hl'.symm).mpr
      rw [code_inj hl' h1.tail h2.tail]
      omega
    · exact absurd h.symm (Int.ne_of_lt (TS.code_lt hl'.symm h2.tail h1.tail c))
  | [], _ :: _, hl, _, _, _ => by simp at hl
  | _ :: _, [], hl, _, _, _ => by simp at hl
theorem reps_perm {f : List Int → T} : ∀ {ys xs : List V}, ys.Perm xs → ∀ {rs : List (List Int)}, Reps K hd φ H (rs.map f) xs → ∃ qs : List (List Int), qs.Perm rs ∧ Reps K hd φ H (qs.map f) ys := fun {ys xs} h => by
  induction h with
  | nil => intro rs r; exact ⟨rs, .refl _, r⟩
  | @cons x l1 l2 _ ih =>
    intro rs r
    cases rs with
    | nil => unfold Reps at r; cases r
    | cons q rs =>
      rw [List.map_cons] at r
      unfold Reps at r
      obtain ⟨z, zs, ez, r1, r2⟩ := r
      cases ez
      obtain ⟨qs, p1, p2⟩ := ih r2
      exact ⟨q :: qs, .cons _ p1, Reps.cons r1 p2⟩
  | @swap x y l =>
    intro rs r
    match rs, r with
    | [], r => unfold Reps at r; cases r
    | [q], r =>
      rw [List.map_cons] at r
      unfold Reps at r
      obtain ⟨z, zs, ez, r1, r2⟩ := r
      cases ez
      unfold List.map Reps at r2
      cases r2
    | q1 :: q2 :: rs, r =>
      rw [List.map_cons, List.map_cons] at r
      unfold Reps at r
      obtain ⟨z, zs, ez, r1, r2⟩ := r
      cases ez
      unfold Reps at r2
      obtain ⟨z, zs, ez, r3, r4⟩ := r2
      cases ez
      exact ⟨q2 :: q1 :: rs, .swap _ _ _, Reps.cons r3 (Reps.cons r1 r4)⟩
  | trans _ _ ih1 ih2 =>
    intro rs r
    obtain ⟨qs, p1, p2⟩ := ih2 r
    obtain ⟨qs', p3, p4⟩ := ih1 p2
    exact ⟨qs', p3.trans p1, p4⟩
def sortR (rs : List (List Int)) : List (List Int) := rs.mergeSort fun a b => decide (TS.code bdT a ≤ TS.code bdT b)
theorem sortR_perm (rs : List (List Int)) : (sortR rs).Perm rs := List.mergeSort_perm _ _
theorem sortR_pw (rs : List (List Int)) : (sortR rs).Pairwise fun a b => TS.code bdT a ≤ TS.code bdT b := by
  have h := List.pairwise_mergeSort (le := fun a b : List Int => decide (TS.code bdT a ≤ TS.code bdT b)) (fun a b c h1 h2 => by simp at h1 h2 ⊢; omega) (fun a b => by simp; omega) rs
  exact h.imp fun h => by simpa using h
open Classical in
noncomputable def sSortT (d : Nat) : SCF := fun ds w => match ds with
  | [t] => match lst? w t with
    | some ts => match rowsT ts with
      | some rs => if rs.length < 64 ∧ ∀ r ∈ rs, bdRow d r then .ok ((sortR rs).map rowT) w else .no
      | none => .no
    | none => .no
  | _ => .no
theorem opSortT {d : Nat} : OpCF K (sSortT d) (rSortU K.1 d bdT) := fun W hd φ H w ds xs Q wr rx p => by
  unfold sSortT at p
  match ds, p with
  | [t], p =>
    simp only at p
    cases q : lst? w t with
    | none => rw [q] at p; exact p.elim
    | some ts =>
      rw [q] at p
      simp only at p
      cases q2 : rowsT ts with
      | none => rw [q2] at p; exact p.elim
      | some rs =>
        rw [q2] at p
        simp only at p
        split at p
        · rename_i hc
          obtain ⟨h64, hb⟩ := hc
          obtain ⟨v, rfl, r⟩ := reps1 rx
          obtain ⟨l, ys, rfl, h1, h2⟩ := lst_at wr r q
          rw [rowsT_map q2] at h2
          have tu : ∀ (r : List Int) (x : V), Rep K hd φ H (rowT r) x → TupI K.1 H x r := fun r x h => by
            unfold rowT Rep at h
            obtain ⟨a, xs, rfl, n, rs⟩ := h
            have := intV_at rs (intsT_of r)
            subst this
            exact ⟨a, rfl, SqT.of n.1⟩
          refine ⟨l, ys, rfl, SqL.of h1, ?_, fun x hx => ?_, fun zs p0 hp hw hn => ?_⟩
          · rw [← h2.len, List.length_map]; exact h64
          · obtain ⟨i, hi⟩ := List.mem_iff_getElem?.mp hx
            obtain ⟨t, ht, rt⟩ := h2.at' hi
            rw [List.getElem?_map] at ht
            cases e : rs[i]? with
            | none => rw [e] at ht; cases ht
            | some r =>
              rw [e] at ht
              cases ht
              exact ⟨r, tu r x rt, hb r (List.mem_of_getElem? e)⟩
          · obtain ⟨qs, pq, rq⟩ := reps_perm hp h2
            have bq : ∀ r ∈ qs, bdRow d r := fun r hr => hb r (pq.mem_iff.mp hr)
            have pw : qs.Pairwise fun a b => TS.code bdT a ≤ TS.code bdT b := by
              rw [List.pairwise_iff_getElem]
              intro i j hi hj hij
              have e1 : (qs.map rowT)[i]? = some (rowT qs[i]) := by simp [hi]
              have e2 : (qs.map rowT)[j]? = some (rowT qs[j]) := by simp [hj]
              obtain ⟨x, hx, rx⟩ := rq.at e1
              obtain ⟨y, hy, ry⟩ := rq.at e2
              obtain ⟨li, ex⟩ := List.getElem?_eq_some_iff.mp hx
              obtain ⟨lj, ey⟩ := List.getElem?_eq_some_iff.mp hy
              refine List.pairwise_iff_getElem.mp hw i j li lj hij _ _ ?_ ?_
              · rw [ex]; exact tu _ _ rx
              · rw [ey]; exact tu _ _ ry
            have e : qs = sortR rs := List.Perm.eq_of_pairwise (le := fun a b => TS.code bdT a ≤ TS.code bdT b) (fun a b ha hb' h1 h2 => code_inj (by rw [(bq a ha).1, (hb b ((sortR_perm rs).mem_iff.mp hb')).1]) (bq a ha).2 (hb b ((sortR_perm rs).mem_iff.mp hb')).2 (Int.le_antisymm h1 h2)) pw (sortR_pw rs) (pq.trans (sortR_perm rs).symm)
            rw [e] at rq
            exact p.new wr rq p0 hn
        · exact p.elim
theorem df_sortT {d : Nat} (hm : X.mg "sorted" = none) (ha : PA X [e] (rdA (X.K, Z) W m)) (hd : 1 ≤ d := by decide) (hg : Gl X "sorted" := by rfl) (he : starEach [e] X.env = (false, eval e X.env) :: starEach [] X.env := by rfl) (hpl : (backTo pos (starEach [] X.env)).any (·.1) = false := by rfl) : PE X (.Call (.Name "sorted" p) [e] [] pos) (rdF (X.K, Z) W (mCallF (sSortT d) m)) :=
  df_callB (cr_sortT hd) opSortT hm (by decide +kernel) ha hg (by decide) (by decide) he hpl
theorem hu65 {k : Nat} (hr : Room k X.A) : X.A.units + 65 < cLine := by have := hr.un; omega
/-! ### f() -/
def mDef0 (f : Sem) : ME := fun ρ w => (f [] w).at ρ
theorem de_def0 {k : Nat} {x : Str} {f : Sem} (F : Df X.prog X.w X.K Z X.mg X.base k x [] f) (tk : TakesO X W) (hr : Room k X.A) (hg : Gl X x := by rfl) (hdb : (x == ("__debug__" : Str)) = false := by decide) : PE X (.Call (.Name x p) [] [] pos) (rdE (X.K, Z) W (mDef0 f)) := by
  obtain ⟨ad, fd, ok, hm, hk, hb⟩ := F.ex
  refine ⟨fun pins s σ H Q I h => ?_⟩
  obtain ⟨hd, φ, ρ, w, sr, wr, q⟩ := h
  refine wpAny_Call_Name_kw (ld_glob I hg hm ?_ hdb)
  exact PySem.W.callWith_K0 I.kIn hk (run_fnS (E := wE W) ok hr hb (passO tk σ) I .nil ⟨hd, φ, w, [], rfl, wr, Reps.nil, q.callee sr⟩)
theorem dfP_gc {P : Program} {w : PySem.World} {K : PySem.W.Frag} {mg : Str → Option Value} {base : Heap} {x : Str} {n np k : Nat} {ks : List Str} {ix : List Nat} {g : Sem} (D : DfP P w K Z mg base k x n np ks ix g) : DfP P w K Z mg base k x n np ks ix (gc g) := by
  obtain ⟨f, fd, ps, e1, ok, hm, hk, hb⟩ := D.ex
  refine ⟨f, fd, ps, e1, ok.imp fun vs H Q E h => ?_, hm, hk, hb⟩
  obtain ⟨hd, φ, w, ds, l, wr, rs, p⟩ := h
  exact ⟨hd, φ, w, ds, l, wr, rs, gc_read wr p⟩
end
end VS

set_option Elab.async false
set_option linter.all false
set_option maxRecDepth 100000
set_option maxHeartbeats 2000000
/-! VS15: defs that call themselves: worked out so deep (fuel); below that nothing is promised. -/
namespace VS
open PySem PySem.Spec PyProof.Rows L2
noncomputable def fuelS (c : Bool) (N : Nat) (F : Sem → MS) : Nat → Sem
  | 0 => runB N fun _ _ => .no
  | n + 1 => if c = true then gc (runB N (F (fuelS c N F n))) else runB N (F (fuelS c N F n))
theorem fuel_gc {N : Nat} {F : Sem → MS} {n : Nat} : fuelS true N F (n + 1) = gc (runB N (F (fuelS true N F n))) := rfl
theorem fuel_run {N : Nat} {F : Sem → MS} {n : Nat} : fuelS false N F (n + 1) = runB N (F (fuelS false N F n)) := rfl
section
variable {P : Program} {w : PySem.World} {K : PySem.W.Frag} {Z : List (Addr × Str)} {W : Option WX} {cd : Value} {mg : Str → Option Value} {base : Heap}
theorem ss_no {X : Cx} : ∀ {b : List Stmt}, PSs X b (rdS (X.K, Z) W fun _ _ => .no)
  | [] => PSs_imp (ds_nil (Z := Z) (W := W)) fun D σ H => by
    rintro ⟨hd, φ, ρ, w, sr, wr, p⟩
    exact p.elim
  | s :: b => PSs_imp (ds_cons (Z := Z) (W := W) (ds_never (st := s)) (ss_no (b := b))) fun D σ H => by
    rintro ⟨hd, φ, ρ, w, sr, wr, p⟩
    exact p.elim
theorem bd_no {N : List Str} {x : Str} {st : Stmt} {k : Nat} : Bd P w K Z mg base N x st cd k fun _ _ => .no := fun f A outer s H E W hr tk => ss_no
/-- the def's worth, so deep: one level more for each turn -/
theorem df_fuel {x : Str} {st : Stmt} {N ps : List Str} {k : Nat} {c : Bool} {F : Sem → MS} {h : Heap} (a : At K x st cd) (X : K.In h) (G : h.Ns mainGlobals mg) (S : FnScope N ps (defScope st))
    (hb : ∀ (kV doc pm : Value) (an : Option Addr) (cdv ct : Value) (us : List Value), us.length = ps.length → bindArgs (PySem.W.fnOf x x (defArgs st) (defBody st) (defScope st) .none kV doc pm an cdv ct) ⟨us, []⟩ = pure (ps.zip us))
    (body : ∀ (L : Nat) (g : Sem), k ≤ L → Df P w K Z mg base L x ps g → Bd P w K Z mg base N x st cd L (F g)) : ∀ n : Nat, Df P w K Z mg base (k + 1 + n) x ps (fuelS c N.length F n)
  | 0 => At.df a X G S hb bd_no
  | n + 1 => by
    have D := At.df a X G S hb (body (k + 1 + n) _ (by omega) (df_fuel (c := c) a X G S hb body n))
    cases c with
    | true => exact df_gc D
    | false => exact D
/-- two levels for each turn: a helper between -/
theorem df_fuel2 {x : Str} {st : Stmt} {N ps : List Str} {k : Nat} {c : Bool} {F : Sem → MS} {h : Heap} (a : At K x st cd) (X : K.In h) (G : h.Ns mainGlobals mg) (S : FnScope N ps (defScope st))
    (hb : ∀ (kV doc pm : Value) (an : Option Addr) (cdv ct : Value) (us : List Value), us.length = ps.length → bindArgs (PySem.W.fnOf x x (defArgs st) (defBody st) (defScope st) .none kV doc pm an cdv ct) ⟨us, []⟩ = pure (ps.zip us))
    (body : ∀ (L : Nat) (g : Sem), k ≤ L → Df P w K Z mg base L x ps g → Bd P w K Z mg base N x st cd (L + 1) (F g)) : ∀ n : Nat, Df P w K Z mg base (k + 1 + 2 * n) x ps (fuelS c N.length F n)
  | 0 => At.df a X G S hb bd_no
  | n + 1 => by
    have D := At.df a X G S hb (body (k + 1 + 2 * n) _ (by omega) (df_fuel2 (c := c) a X G S hb body n))
    cases c with
    | true => exact df_gc D
    | false => exact D
end
end VS

set_option Elab.async false
set_option linter.all false
set_option maxRecDepth 100000
set_option maxHeartbeats 2000000
/-! VS16: max, min, sum of one list of ints; d.get(y, z). -/
namespace VS
open PySem PySem.Spec PyProof.Rows L2
def maxI (n : Int) : List Int → Int
  | [] => n
  | m :: ms => maxI (if m > n then m else n) ms
def minI (n : Int) : List Int → Int
  | [] => n
  | m :: ms => minI (if m < n then m else n) ms
theorem maxI_spec : ∀ (ms : List Int) (n : Int), (maxI n ms = n ∨ maxI n ms ∈ ms) ∧ n ≤ maxI n ms ∧ ∀ y ∈ ms, y ≤ maxI n ms
  | [], n => ⟨.inl rfl, Int.le_refl _, fun _ h => nomatch h⟩
  | m :: ms, n => by
    obtain ⟨h1, h2, h3⟩ := maxI_spec ms (if m > n then m else n)
    show (maxI (if m > n then m else n) ms = n ∨ _) ∧ n ≤ maxI (if m > n then m else n) ms ∧ ∀ y ∈ m :: ms, y ≤ maxI (if m > n then m else n) ms
    refine ⟨?_, ?_, fun y hy => ?_⟩
    · rcases h1 with h1 | h1
      · by_cases c : m > n
        · rw [if_pos c] at h1; exact .inr (by show maxI (if m > n then m else n) ms ∈ m :: ms; rw [if_pos c, h1]; exact .head _)
        · rw [if_neg c] at h1; exact .inl (by rw [if_neg c]; exact h1)
      · exact .inr (.tail _ h1)
    · refine Int.le_trans ?_ h2; split <;> omega
    · rcases List.mem_cons.mp hy with rfl | hy
      · refine Int.le_trans ?_ h2; split <;> omega
      · exact h3 y hy
theorem minI_spec : ∀ (ms : List Int) (n : Int), (minI n ms = n ∨ minI n ms ∈ ms) ∧ minI n ms ≤ n ∧ ∀ y ∈ ms, minI n ms ≤ y
  | [], n => ⟨.inl rfl, Int.le_refl _, fun _ h => nomatch h⟩
  | m :: ms, n => by
    obtain ⟨h1, h2, h3⟩ := minI_spec ms (if m < n then m else n)
    show (minI (if m < n then m else n) ms = n ∨ _) ∧ minI (if m < n then m else n) ms ≤ n ∧ ∀ y ∈ m :: ms, minI (if m < n then m else n) ms ≤ y
    refine ⟨?_, ?_, fun y hy => ?_⟩
    · rcases h1 with h1 | h1
      · by_cases c : m < n
        · rw [if_pos c] at h1; exact .inr (by show minI (if m < n then m else n) ms ∈ m :: ms; rw [if_pos c, h1]; exact .head _)
        · rw [if_neg c] at h1; exact .inl (by rw [if_neg c]; exact h1)
      · exact .inr (.tail _ h1)
    · refine Int.le_trans h2 ?_; split <;> omega
    · rcases List.mem_cons.mp hy with rfl | hy
      · refine Int.le_trans h2 ?_; split <;> omega
      · exact h3 y hy
/-- a call on one list of ints -/
def sInts (f : List Int → Option Int) : SC := fun ds w => match ds with
  | [t] => match lst? w t with
    | some ts => match intsT ts with
      | some ns => match f ns with
        | some i => .ok (.int i) w
        | none => .no
      | none => .no
    | none => .no
  | _ => .no
def fMax : List Int → Option Int
  | [] => none
  | n :: ns => some (maxI n ns)
def fMin : List Int → Option Int
  | [] => none
  | n :: ns => some (minI n ns)
def fSum : List Int → Option Int := fun ns => some ns.sum
section
variable {X : Cx} {K : KT} {e a b c o i j : Expr} {pos apos cpos p : Pos} {m : MF} {ma mb mc mo mi mj : ME} {Z : List (Addr × Str)} {W : Option WX}
theorem opInts {f : List Int → Option Int} {r : List V → Hp → VK → Prop} (h : ∀ (l : Addr) (ns : List Int) (i : Int) (H : Hp) (Q : VK), SqL K.1 H l (ns.map V.int) → f ns = some i → Q (.int i) H → r [V.ref l] H Q) : OpC K (sInts f) r := fun W hd φ H w ds xs Q wr rx p => by
  unfold sInts at p
  match ds, p with
  | [t], p =>
    simp only at p
    cases q1 : lst? w t with
    | none => rw [q1] at p; exact p.elim
    | some ts =>
      rw [q1] at p
      simp only at p
      cases q2 : intsT ts with
      | none => rw [q2] at p; exact p.elim
      | some ns =>
        rw [q2] at p
        simp only at p
        cases q3 : f ns with
        | none => rw [q3] at p; exact p.elim
        | some i =>
          rw [q3] at p
          obtain ⟨v, rfl, r1⟩ := reps1 rx
          obtain ⟨l, ys, rfl, h1, h2⟩ := lst_at wr r1 q1
          cases intV_at h2 q2
          exact h l ns i H Q (SqL.of h1) q3 (p.int wr)
theorem opMaxL : OpC K (sInts fMax) (rMax K.1) := opInts fun l ns i H Q hs hf q => by
  cases ns with
  | nil => cases hf
  | cons n ns =>
    cases hf
    refine ⟨l, n :: ns, rfl, hs, by simp, fun m hm hb => ?_⟩
    obtain ⟨h1, h2, h3⟩ := maxI_spec ns n
    have e : m = maxI n ns := by
      refine Int.le_antisymm ?_ (hb _ (h1.elim (fun h => by rw [h]; exact .head _) (fun h => .tail _ h)))
      rcases List.mem_cons.mp hm with rfl | hm
      · exact h2
      · exact h3 m hm
    rw [e]
    exact q
theorem opMinL : OpC K (sInts fMin) (rMin K.1) := opInts fun l ns i H Q hs hf q => by
  cases ns with
  | nil => cases hf
  | cons n ns =>
    cases hf
    refine ⟨l, n :: ns, rfl, hs, by simp, fun m hm hb => ?_⟩
    obtain ⟨h1, h2, h3⟩ := minI_spec ns n
    have e : m = minI n ns := by
      refine Int.le_antisymm (hb _ (h1.elim (fun h => by rw [h]; exact .head _) (fun h => .tail _ h))) ?_
      rcases List.mem_cons.mp hm with rfl | hm
      · exact h2
      · exact h3 m hm
    rw [e]
    exact q
theorem opSumL : OpC K (sInts fSum) (rSum K.1) := opInts fun l ns i H Q hs hf q => by
  cases hf
  exact ⟨l, ns, rfl, hs, q⟩
theorem de_maxL (hc : X.calm = true) (hm : X.mg "max" = none) (ha : PA X [e] (rdA (X.K, Z) W m)) (hg : Gl X "max" := by rfl) (he : starEach [e] X.env = (false, eval e X.env) :: starEach [] X.env := by rfl) (hpl : (backTo pos (starEach [] X.env)).any (·.1) = false := by rfl) : PE X (.Call (.Name "max" p) [e] [] pos) (rdE (X.K, Z) W (mCall (sInts fMax) m)) :=
  de_callB (cr_max hc) opMaxL hm (by decide +kernel) ha hg (by decide) (by decide) he hpl
theorem de_minL (hc : X.calm = true) (hm : X.mg "min" = none) (ha : PA X [e] (rdA (X.K, Z) W m)) (hg : Gl X "min" := by rfl) (he : starEach [e] X.env = (false, eval e X.env) :: starEach [] X.env := by rfl) (hpl : (backTo pos (starEach [] X.env)).any (·.1) = false := by rfl) : PE X (.Call (.Name "min" p) [e] [] pos) (rdE (X.K, Z) W (mCall (sInts fMin) m)) :=
  de_callB (cr_min hc) opMinL hm (by decide +kernel) ha hg (by decide) (by decide) he hpl
theorem de_sumL (hc : X.calm = true) (hm : X.mg "sum" = none) (ha : PA X [e] (rdA (X.K, Z) W m)) (hg : Gl X "sum" := by rfl) (he : starEach [e] X.env = (false, eval e X.env) :: starEach [] X.env := by rfl) (hpl : (backTo pos (starEach [] X.env)).any (·.1) = false := by rfl) : PE X (.Call (.Name "sum" p) [e] [] pos) (rdE (X.K, Z) W (mCall (sInts fSum) m)) :=
  de_callB (cr_sum hc) opSumL hm (by decide +kernel) ha hg (by decide) (by decide) he hpl
/-- d.get(y, z) -/
def mDGet2 (a b c : ME) : ME := fun ρ w => (a ρ w).bind fun d w1 => if isDct w1 d = true then (b ρ w1).bind fun y w2 => (c ρ w2).bind fun z w3 => match getD? w3 d y with
  | some (some t) => .ok t w3
  | some none => .ok z w3
  | none => .no
  else .no
theorem de_dget2 (hu : X.A.units + 1 < cLine) (ho : PE X o (rdE (X.K, Z) W mo)) (he : PE X i (rdE (X.K, Z) W mi)) (hf : PE X j (rdE (X.K, Z) W mj)) (m : M2 X o "get" apos i j cpos := by exact ⟨rfl, rfl, rfl, rfl⟩) : PE X (.Call (.Attribute o "get" apos) [i, j] [] cpos) (rdE (X.K, Z) W (mDGet2 mo mi mj)) := PE_imp (pe_dget2 hu ho he hf m) fun σ H Q => by
  rintro ⟨hd, φ, ρ, w, sr, wr, p⟩
  refine ⟨hd, φ, ρ, w, sr, wr, Pst.then isPst p fun d w1 φ1 H1 e1 wr1 p1 x rx => ?_⟩
  split at p1
  · rename_i hD
    obtain ⟨l, rfl, hl⟩ := isD_of wr1 rx hD
    refine ⟨l, rfl, hl, ⟨hd, φ1, ρ, w1, sr.mono e1, wr1, Pst.then isPst p1 fun y w2 φ2 H2 e2 wr2 p2 z rz => ?_⟩⟩
    refine ⟨hd, φ2, ρ, w2, (sr.mono e1).mono e2, wr2, Pst.then isPst p2 fun u w3 φ3 H3 e3 wr3 p3 v rv => ?_⟩
    cases q : getD? w3 d y with
    | none => rw [q] at p3; exact p3.elim
    | some o =>
      rw [q] at p3
      obtain ⟨l', o', hl', g, hs, hv⟩ := dget_at wr3 ((rx.mono e2).mono e3) (rz.mono e3) q
      cases hl'
      refine ⟨o', g, ?_⟩
      cases o with
      | none =>
        cases o' with
        | none => exact p3.ok wr3 _ rv
        | some v => cases hs
      | some t =>
        obtain ⟨v', rfl, rv'⟩ := hv t rfl
        exact p3.ok wr3 v' rv'
  · exact p1.elim
end
end VS

set_option Elab.async false
set_option linter.all false
set_option maxRecDepth 100000
set_option maxHeartbeats 2000000
/-! VW17: raise, a caught error as a value, a lambda that is called under a try. -/
namespace VS
open PySem PySem.Spec PyProof.Rows L2

/-! ### a caught error, known from then on -/
section
variable {X : Cx} {pins : List (Addr × Obj)} {σ : L2.St} {H : Hp} {sI sx : Shared} {B : Heap}
theorem Inv.landedT (I : Inv X pins σ H sI) (nb : ∀ b o, sI.heap.get? b = some o → b ∉ frs X.stack → B.get? b = some o) (st : B.StaysIn sx.heap) (up : sI.heap.UpToSlots sx.heap) (os : sx.os = sI.os) (ag : AllBare sx.gens)
    {a : Addr} {o : HO} (ha : sI.heap.get? a = none) (hn : H a = none) (new : ObjOk X.prog X.w (upd H a o) sx.heap a o) : Inv X pins σ (upd H a o) sx := by
  have fr : ∀ b ∈ frs X.stack, ∀ ob, sI.heap.get? b = some ob → ∃ sl, sx.heap.get? b = some { ob with slots := sl } := fun b hb ob q => by
    obtain ⟨_, ob', q', nf⟩ := I.stack.mem hb
    rw [q] at q'
    cases q'
    exact up b ob q nf
  have ne : ∀ b ob, sI.heap.get? b = some ob → b ≠ a := fun b ob q z => by subst z; rw [ha] at q; cases q
  have un : Un (frs X.stack) [] H (upd H a o) sI.heap sx.heap := by
    refine ⟨fun b ob q _ hb _ => st b ob (nb b ob q hb), fun b ob q _ hb _ => fr b hb ob q, fun b ob q n _ => ?_, fun b ob q _ => ?_, fun b xs q => ?_, fun b ob u q => ?_, fun b ps q => ⟨#[], ?_⟩⟩
    · rw [upd_ne (ne b ob q)]; exact n
    · by_cases hb : b ∈ frs X.stack
      · obtain ⟨sl, z⟩ := fr b hb ob q
        exact ⟨_, z⟩
      · exact ⟨ob, st b ob (nb b ob q hb)⟩
    · rw [upd_ne (ne_of_none q hn)]; exact q
    · rw [upd_ne (ne_of_none q hn)]; exact q
    · rw [upd_ne (ne_of_none q hn), q]; simp
  exact I.call' os un (HOk.laidN ((I.inGround nb).kept st) (fun _ _ z => z) hn new) ag fun b z => absurd z (by simp)
/-- an except suite's context: the error is among what is known -/
abbrev Cx.suiteT (X : Cx) (a : Addr) : Cx := { X with A := X.A.mark (some (.ref a)), calm := false, xe := fun _ _ => False }
theorem Cx.Ok.suiteT (ok : X.Ok) (a : Addr) : (Cx.suiteT X a).Ok :=
  ⟨ok.mod, ok.kind, ok.glob, ok.blt, ok.above, ok.inj, ok.has, ok.cab, fun z => (nomatch (show false = true from z)), ok.frames, ok.stk, ok.exf, ok.bs, ok.bsz, ok.noex, ok.exfs, ok.funs, ok.frf⟩
theorem Inv.suiteT {s : Shared} (I : Inv X pins σ H s) (a : Addr) : Inv (Cx.suiteT X a) pins σ H s :=
  ⟨Cx.Ok.suiteT I.ok a, I.os, I.bare, I.base, I.loc, I.cell, I.free, I.freeC, I.pin, I.hok, I.len⟩
theorem Inv.unsuiteT {s : Shared} {a : Addr} (ok : X.Ok) (I : Inv (Cx.suiteT X a) pins σ H s) : Inv X pins σ H s :=
  ⟨ok, I.os, I.bare, I.base, I.loc, I.cell, I.free, I.freeC, I.pin, I.hok, I.len⟩
end
/-- what 'except x as n' wishes, n in slot i -/
def wAsT (K : PySem.W.Frag) (c : Value) (i : Nat) (ts : Addr → Value → Option Addr → TS) (Wout : WX) (D : Ends) : WX := fun cls d σ H =>
  ∃ b, PySem.W.exmOne K cls c = some b ∧ (b = false → Wout cls d σ H) ∧
    (b = true → ∀ a, H a = none → ts a cls d ⟨fun σ' H' => D.nx (σ'.set i none) H', D.rt, fun σ' H' => D.bk (σ'.set i none) H', fun σ' H' => D.ct (σ'.set i none) H'⟩ (σ.set i (some (.ref a))) (upd H a (ExC cls d a)))
section
variable {X : Cx} {x n : Str} {c : Value} {i : Nat} {body suite : List Stmt} {b₀ : Stmt} {np pos hpos : Pos} {tb : WX → TS} {ts : Addr → Value → Option Addr → TS} {Wout : WX}
theorem ps_try_asT (e1 : X.stack = X.env :: X.outer) (e2 : X.env.frame = some X.env.locals) (nd : X.N.Nodup) (hi : X.N[i]? = some n) (hl : X.env.kindOf n = some .local) (hc : Names X x c) (tk : Takes X Wout)
    (hb : ∀ (W : WX) (pn : List (Addr × Obj)) (xe : Value → Shared → Prop), Takes (X.tr pn xe) W → PassesOwn (model X.prog X.w) X.A X.env xe → PSs (X.tr pn xe) body (tb W))
    (hsu : ∀ (a : Addr) (cls : Value) (d : Option Addr), PSs (Cx.suiteT X a) (b₀ :: suite) (ts a cls d)) :
    PS X (.Try body [.ExceptHandler (some (.Name x np)) (some n) (b₀ :: suite) hpos] [] [] pos) (fun D σ H => tb (wAsT X.K c i ts Wout D) D σ H) := by
  refine ⟨fun pins s0 σ0 H0 D I0 h0 => ?_⟩
  have xok := I0.ok
  have frA : X.A.frames = some (X.env :: X.outer) := xok.frames.trans (congrArg some e1)
  refine wpAny_Try_except ?_
  have run := (hb (wAsT X.K c i ts Wout D) (X.pn ++ pins) (fun e s₁ => wpAny (model X.prog X.w) X.A (noteFrame e X.env) (fun _ s₂ => wpAny (model X.prog X.w) X.A (setFlight e none) (fun _ s₃ =>
      wpAny (model X.prog X.w) X.A (handleBy e X.env [.ExceptHandler (some (.Name x np)) (some n) (b₀ :: suite) hpos]) (SP X pins D) X.xe s₃) X.xe s₂) X.xe s₁) (fun u sx caught => ?_) PassesOwn.looking).run [] s0 σ0 H0 D (I0.toTry _) h0
  · refine wpAny_mono run (fun fl s1 end_ => ?_) (fun e s1 he => he)
    cases fl with
    | next =>
      obtain ⟨σ1, H1, J, q⟩ := end_
      exact wpAny_execs_nil ⟨σ1, H1, J.ofTry xok, q⟩
    | brk => obtain ⟨σ1, H1, J, q⟩ := end_; exact ⟨σ1, H1, J.ofTry xok, q⟩
    | cont => obtain ⟨σ1, H1, J, q⟩ := end_; exact ⟨σ1, H1, J.ofTry xok, q⟩
    | ret v => obtain ⟨y, σ1, H1, J, r, q⟩ := end_; exact ⟨y, σ1, H1, J.ofTry xok, r, q⟩
  · obtain ⟨a, B, sI, pins1, σ1, H1, cls, d, rfl, J1, nb, up, sky, na, os, ag, b, hb1, no, yes⟩ := caught
    have J : Inv X pins σ1 H1 sI := J1.ofTry xok
    have sky1 : Sky B (X.env :: X.outer) a (Zc cls d) X.env.locals sx.heap := e1 ▸ sky
    show wpAny (model X.prog X.w) X.A (noteFrame (.ref a) X.env) _ _ _
    refine Sky.land Zc.steady frA e2 sky1 fun h3 fly up3 => ?_
    have J3 : Inv X pins σ1 H1 { sx with heap := h3 } := J.landed nb fly.1 (up.trans up3) os ag
    obtain ⟨o3, vs3, get3, z3, dat3⟩ := fly.there
    have off : a ∉ frs (X.env :: X.outer) := fun hm => by
      obtain ⟨_, ob, q, nf⟩ := fly.2.2.1.mem hm
      rw [get3] at q
      cases q
      exact nf _ dat3
    have newA : sI.heap.get? a = none := by
      cases q : sI.heap.get? a with
      | none => rfl
      | some ob =>
        have q2 := nb a ob q (by rw [e1]; exact off)
        rw [fly.2.1] at q2
        cases q2
    refine wpAny_handleBy_cons (codeAny_handlers_test ?_) (fun z => nomatch z)
    have look : PySem.W.Looks (model X.prog X.w) h3 (typeOf (.ref a)) cls := fun A' Q' E' s' k q => wpAny_typeOf_ref (k _ _ get3) (by rw [z3.1]; exact q)
    have meets := PySem.W.exm_one (M := model X.prog X.w) (J3.kIn) look hb1
    have named : ∀ {Q : Value → Shared → Prop} {E : Value → Shared → Prop}, Q c { sx with heap := h3 } → wpAny (model X.prog X.w) (X.A.mark (some (.ref a))) (eval (.Name x np) X.env) Q E { sx with heap := h3 } := fun {Q E} q => by
      obtain ⟨g1, g2, g3 | ⟨g3, g4, g5⟩⟩ := hc
      · exact ld_glob (X := Cx.suiteT X a) (Inv.suiteT J3 a) g1 g3 q g2
      · exact ld_blt (X := Cx.suiteT X a) (Inv.suiteT J3 a) g1 g3 g4 q g5 g2
    refine named (meets.here ?_)
    cases b with
    | false =>
      show wpAny _ X.A (handleBy (.ref a) X.env []) _ _ _
      refine wpAny_handleBy_nil ?_
      obtain ⟨_, _, _, oe, vs, Tb, oT, tvs, g1, g2, g3, g4, _⟩ := id fly
      unfold PySem.passOn
      refine wpAny_bind (wpAny_field g1 g3 g4 ?_)
      rw [if_neg (show ¬ ((Value.ref Tb == Value.none) = true) from by simp)]
      have on : wpAny (model X.prog X.w) X.A (setFlight (.ref a) X.env.frame) (fun _ s4 => wpAny (model X.prog X.w) X.A (throw (.ref a) : PySem.Sem Flow) (SP X pins D) X.xe s4) X.xe { sx with heap := h3 } := by
        rw [e2]
        exact HandSPX.setFlight_upZ fly fun h4 held up4 => wpAny_throw (tk _ _ ⟨a, B, sI, pins, σ1, H1, cls, d, rfl, J, nb, (up.trans up3).trans up4, .inr (.inr (by rw [e1]; exact held)), na, os, ag, no rfl⟩)
      first
        | exact wpAny_bind (wpAny_pure (wpAny_bind on))
        | exact wpAny_bind on
    | true =>
      refine codeAny_handlers_suite_as (HandSPX.lands_againZ fly fun h4 fly4 up4 => ?_)
      obtain ⟨o4, vs4, get4, z4, dat4⟩ := fly4.there
      have J4 : Inv X pins σ1 (upd H1 a (ExC cls d a)) { sx with heap := h4 } :=
        Inv.landedT (sx := { sx with heap := h4 }) J nb fly4.1 ((up.trans up3).trans up4) os ag newA na (exC_ok (h := h4) get4 z4 dat4)
      have loc : Loc X.env.scope n := .inl hl
      refine store_ok (X := Cx.suiteT X a) (v := .ref a) (Inv.suiteT J4 a) nd hi loc rfl (fun s5 S5 => ?_) (.inr hl)
      refine wpAny_mono ((hsu a cls d).run pins s5 _ _ _ S5 (yes rfl a na)) (fun fl s6 en => ?_) (fun _ _ z => False.elim z)
      have fin : ∀ {σ6 : L2.St} {H6 : Hp} {Q : Shared → Prop}, Inv (Cx.suiteT X a) pins σ6 H6 s6 → (∀ s7, Inv X pins (σ6.set i none) H6 s7 → Q s7) →
          wpAny (model X.prog X.w) X.A (do bindName X.env n .none; unbindBehindTheSuite X.env n hpos) (fun _ s7 => Q s7) X.xe s6 := fun {σ6 H6 Q} S6 hq => gone_ok (Inv.unsuiteT xok S6) nd hi hl hq
      cases fl with
      | next => obtain ⟨σ6, H6, S6, q⟩ := en; exact fin S6 fun s7 J7 => ⟨_, _, J7, q⟩
      | brk => obtain ⟨σ6, H6, S6, q⟩ := en; exact fin S6 fun s7 J7 => ⟨_, _, J7, q⟩
      | cont => obtain ⟨σ6, H6, S6, q⟩ := en; exact fin S6 fun s7 J7 => ⟨_, _, J7, q⟩
      | ret u => obtain ⟨y, σ6, H6, S6, r, q⟩ := en; exact fin S6 fun s7 J7 => ⟨_, _, _, J7, r, q⟩
end
end VS

set_option Elab.async false
set_option linter.all false
set_option maxRecDepth 100000
set_option maxHeartbeats 2000000
/-! VW18: raise X('..'); a def that calls what it gets under a try, handed a lambda. -/
namespace VS
open PySem PySem.Spec PyProof.Rows L2
/-! ### raise -/
/-- an own class of errors without an __init__ of its own -/
structure ErrC (K : PySem.W.Frag) (mg : Str → Option Value) (x : Str) : Prop where
  ex : ∃ C : Addr, GlbAt K x C ∧ mg x = some (.ref C) ∧ PySem.W.excIn K C [.type "ValueError", .type "Exception", .type "BaseException", .type "object"] "ValueError.__new__" = true ∧ PySem.W.keepIn K (.ref C) = true ∧
    PySem.W.subIn K (.ref C) (.type "BaseException") = some true ∧ PySem.W.typeIn K (.ref C) = some (.type "type")
def mRaise (x : Str) : MS := fun ρ w => .ex (.exc x [] []) ρ w
theorem ds_raise {X : Cx} {Z : List (Addr × Str)} {W : Option WX} {x m : Str} {j : Nat} {p p2 pos rpos : Pos} (C : ErrC X.K X.mg x) (hc : X.calm = true) (tk : TakesO X W) (hg : Gl X x := by rfl) (hdb : (x == ("__debug__" : Str)) = false := by decide) :
    PS X (.Raise (some (.Call (.Name x p) [.Constant (.str m) j p2] [] pos)) none rpos) (rdS (X.K, Z) W (mRaise x)) := by
  obtain ⟨C, g, hm, xc, kp, sub, ty⟩ := C.ex
  cases W with
  | none => exact PS_imp ps_never fun D σ H => by rintro ⟨hd, φ, ρ, w, sr, wr, p⟩; exact p.elim
  | some W =>
    refine PS_imp (ps_raise hc tk (pmk_own PySem.F.excBase_ValueError xc hm kp (raises_own sub ty) hg hdb)) fun D σ H => ?_
    rintro ⟨hd, φ, ρ, w, sr, wr, p⟩
    exact p H φ σ Ext.refl wr sr _ _ ⟨x, [], [], C, rfl, rfl, g, .inl ⟨rfl, rfl, rfl⟩⟩
/-! ### the def that calls what it gets -/
/-- its words -/
abbrev caughtB (S : Str) (p1 p2 p3 p4 p5 p6 p7 p8 p9 p10 p11 p12 p13 p14 : Pos) (j : Nat) : List Stmt :=
  [.Assign [.Name "caught" p1] (.Constant .none j p2) p3,
   .Try [.Expr (.Call (.Name "work" p4) [] [] p5) p6] [.ExceptHandler (some (.Name S p7)) (some "error") [.Assign [.Name "caught" p8] (.Name "error" p9) p10] p11] [] [] p12,
   .Return (some (.Name "caught" p13)) p14]
structure CaughtT (st : Stmt) (S : Str) : Prop where
  sc : FnScope ["work", "caught", "error"] ["work"] (defScope st)
  lw : (defScope st).names.lookup ("work" : Str) = some .local
  lc : (defScope st).names.lookup ("caught" : Str) = some .local
  le : (defScope st).names.lookup ("error" : Str) = some .local
  ls : (defScope st).names.lookup S = some .globalImplicit
  hd : (S == ("__debug__" : Str)) = false
  body : ∃ p1 p2 p3 p4 p5 p6 p7 p8 p9 p10 p11 p12 p13 p14 j, defBody st = caughtB S p1 p2 p3 p4 p5 p6 p7 p8 p9 p10 p11 p12 p13 p14 j
theorem takes_len {X : Cx} {W : WX} (t : Takes X W) : Takes X (fun cls d σ H => σ.length = X.N.length → W cls d σ H) := fun u s' ⟨a, B, sI, pins, σ, H, cls, d, e, I, nb, up, sky, na, os, ag, w⟩ =>
  t u s' ⟨a, B, sI, pins, σ, H, cls, d, e, I, nb, up, sky, na, os, ag, w I.len⟩
/-- told of what it is handed: nothing raised, or the error -/
def TTc (K : PySem.W.Frag) (CS : Addr) : (XK → Hp → VK → Prop) → Hp → VK → Prop := fun tl H Q =>
  tl (fun cls d H' => PySem.W.exmOne K cls (.ref CS) = some true ∧ ∀ a, H' a = none → Q (.ref a) (upd H' a (ExC cls d a))) H fun _ H' => Q .non H'
/-- a reading with a wish of its own -/
theorem PE_up {X : Cx} {e : Expr} {t : TE} (h : PE X e t) : PE X e (fun σ H Q => ∃ Q' : VK, t σ H Q' ∧ ∀ v H', Q' v H' → Q v H') := ⟨fun pins s σ H Q I ⟨Q', h1, h2⟩ =>
  wpAny_mono (h.run pins s σ H Q' I h1) (fun u s1 ⟨v, H1, I1, r1, q1⟩ => ⟨v, H1, I1, r1, h2 v H1 q1⟩) fun _ _ z => z⟩
theorem caught_gives {X : Cx} {st : Stmt} {S q : Str} {g CS : Addr} {cdg : Value} (T : CaughtT st S) (hm : X.mg S = some (.ref CS)) : LamX.GivesTo X ["work", "caught", "error"] "_law_caught" (defScope st) g cdg (defBody st) "work" q (TTc X.K CS) := by
  obtain ⟨p1, p2, p3, p4, p5, p6, p7, p8, p9, p10, p11, p12, p13, p14, j, hB⟩ := T.body
  intro f c' s H Q tl act hc h
  rw [hB]
  refine ⟨_, pss_cons (ps_set (i := 1) T.sc.nd rfl (.inl T.lc) pe_non (by rfl) (.inr T.lc)) (pss_cons (ps_try_asT (i := 2) (c := .ref CS) (Wout := fun _ _ _ _ => False)
      (tb := fun W D σ H => ∃ Ech : XK, (∀ cls d (σ' : L2.St) H', Ech cls d H' → σ'.length = 3 → W cls d σ' H') ∧ ∃ Q' : VK, (σ[0]? = some (some (.ref f)) ∧ H c' = some (LamX.CodeO c' q) ∧ tl Ech H Q') ∧ ∀ v H1, Q' v H1 → D.nx σ H1)
      (ts := fun a cls d => tAsg (tVar 2) (gName 1)) rfl rfl T.sc.nd rfl T.le ⟨T.ls, T.hd, .inl hm⟩ takes0 (fun W pn xe tk _ => ?_) (fun a cls d => ?_)) (pss_one (ps_ret (pe_var (i := 1) rfl (.inl T.lc))))), ?_⟩
  · refine ⟨fun pins s' σ H' D I h' => ?_⟩
    obtain ⟨Ech, hW, h1⟩ := h'
    have hp := act _ pn xe Ech p4 p5 (takes_len tk) (fun cls d σ' H' e hl => hW cls d σ' H' e hl)
    exact (pss_one (ps_expr (PE_up hp) (by rfl))).run pins s' σ H' D I h1
  · exact pss_one (ps_set (i := 1) T.sc.nd rfl (.inl T.lc) (pe_var (i := 2) rfl (.inl T.le)) (by rfl) (.inr T.lc))
  · refine ⟨fun cls d H' => PySem.W.exmOne X.K cls (.ref CS) = some true ∧ ∀ a, H' a = none → Q (.ref a) (upd H' a (ExC cls d a)), fun cls d σ' H' hE hl => ⟨true, hE.1, (fun z => nomatch z), fun _ a ha => ?_⟩, _, ⟨rfl, hc, h⟩, fun _ H1 hq => ⟨_, rfl, hq⟩⟩
    match σ', hl with
    | [x, y, z], _ => exact ⟨_, rfl, _, rfl, hE.2 a ha⟩
end VS

set_option Elab.async false
set_option linter.all false
set_option maxRecDepth 100000
set_option maxHeartbeats 2000000
/-! VW19: _law_caught(lambda: e); isinstance of an error. -/
namespace VS
open PySem PySem.Spec PyProof.Rows L2
/-- a def's code object and its table, in which the lambdas of the name q are kept -/
structure LamAt (Z : List (Addr × Str)) (base : Heap) (mg : Str → Option Value) (cd : Value) (q : Str) : Prop where
  ex : ∃ c P, cd = .ref c ∧ LamX.TabB base mg c P ∧ (P, q) ∈ Z ∧ ∀ p ∈ Z, p.1 = P → p.2 = q
/-- the def that calls what it gets under a try; cs: the errors that it catches -/
structure CaughtD (K : PySem.W.Frag) (mg : Str → Option Value) (cs : List Str) : Prop where
  ex : ∃ (st : Stmt) (S : Str) (g CS : Addr) (oc : Value) (od an : Option Addr) (sl : Array (Option Value)) (kV dc pm cd ct : Value), CaughtT st S ∧ mg "_law_caught" = some (.ref g) ∧ PySem.W.keepIn K (.ref g) = true ∧
    K.lookup g = some ⟨oc, od, .func (PySem.W.fnOf "_law_caught" "_law_caught" (defArgs st) (defBody st) (defScope st) .none kV dc pm an cd ct), sl⟩ ∧ PySem.W.codeIn K cd "_law_caught" = true ∧
    L2.Binds K (PySem.W.fnOf "_law_caught" "_law_caught" (defArgs st) (defBody st) (defScope st) .none kV dc pm an cd ct) ["work"] [] ∧ mg S = some (.ref CS) ∧ ∀ x ∈ cs, ∀ C, GlbAt K x C → PySem.W.exmOne K (.ref C) (.ref CS) = some true
def mCaught (cs : List Str) (m : ME) : ME := fun ρ w => match m ρ w with
  | .ok _ w' => .ok .non w'
  | .ex (.exc x ks ts) _ w' => if x ∈ cs then .ok (.exc x ks ts) w' else .no
  | _ => .no
theorem rep_exc {K : KT} {hd φ : List Addr} {H : Hp} {w : World} {x : Str} {ks : List Str} {ts : List T} {cls : Value} {d : Option Addr} {a : Addr} (wr : WR K hd φ H w) (h : RepX K hd φ H (.exc x ks ts) cls d) (ha : H a = none) :
    Ext hd φ H hd φ (upd H a (ExC cls d a)) ∧ WR K hd φ (upd H a (ExC cls d a)) w ∧ Rep K hd φ (upd H a (ExC cls d a)) (.exc x ks ts) (.ref a) := by
  have e : Ext hd φ H hd φ (upd H a (ExC cls d a)) := Ext.new ha
  refine ⟨e, wr.new ha, ?_⟩
  obtain ⟨x', ks', ts', C, e1, e2, g, q⟩ := h
  cases e1
  subst e2
  unfold Rep
  refine ⟨a, C, d, rfl, g, ⟨upd_same, wr.nin ha⟩, ?_⟩
  rcases q with q | ⟨dd, vs, e3, l, n, r⟩
  · exact .inl q
  · exact .inr ⟨dd, vs, e3, l, n.mono e (fun _ z => nomatch z), r.mono e⟩
theorem de_caught {X : Cx} {Z : List (Addr × Str)} {W : Option WX} {cs : List Str} {m : ME} {k : Nat} {params : Arguments} {body : Expr} {scope : Scope} {p lpos pos : Pos} (D : CaughtD X.K X.mg cs) (L : LamAt Z X.base X.mg X.env.code (X.env.qual ++ "<lambda>")) (hr : Room (k + 2) X.A)
    (hbody : ∀ (A : Around) (outer : List PySem.Env) (s : Shared) (H : Hp) (E : XK) (f c' : Addr), Room k (A.deeper (LamX.lamEnv X scope s.heap.objs.size f c')) → TakesO (LamX.lamCx X A outer s H E scope f c') (some fun cls d _ H => E cls d H) →
      PE (LamX.lamCx X A outer s H E scope f c') body (rdE (X.K, Z) (some fun cls d _ H => E cls d H) m))
    (LS : LamX.lamSB X.env.scope scope = true := by decide +kernel) (hg : Gl X "_law_caught" := by rfl) (hdef : defaultsOf params X.env = ([], []) := by rfl)
    (hbind : ∀ (q : Str) (cl : List (Str × Addr)) (pm cv ctv : Value), bindArgs (PySem.W.kla_fn "<lambda>" q params body scope cl pm cv ctv) ⟨[], []⟩ = pure [] := by intro _ _ _ _ _; rfl) :
    PE X (.Call (.Name "_law_caught" p) [.Lambda params body scope lpos] [] pos) (rdE (X.K, Z) W (mCaught cs m)) := by
  obtain ⟨st, S, g, CS, oc, od, an, sl, kV, dc, pm, cd, ct, T, hm, kp, lk, hcd, hb, hS, hx⟩ := D.ex
  obtain ⟨c, P, hcode, TB, mZ, uZ⟩ := L.ex
  refine PE_imp (LamX.pe_lamcall (T := Z) (TT := TTc X.K CS) (t := fun E => rdE (X.K, Z) (some fun cls d _ H => E cls d H) m) hg hm kp lk hcd hb T.sc rfl (.inl T.lw) (caught_gives T hS) TB hcode mZ uZ hr (LamX.lamS_by LS) hdef hbind
    (fun A outer s H E f c' hr' => hbody A outer s H E f c' hr' (show Takes _ _ from takes_of rfl rfl rfl rfl))) fun σ H Q => ?_
  rintro ⟨hd, φ, ρ, w, sr, wr, q⟩
  refine ⟨wr.tabs, fun H1 eN T1 => ?_⟩
  have e1 : Ext hd φ H hd φ H1 := Ext.tables eN
  have wr1 : WR (X.K, Z) hd φ H1 w := wr.tables eN T1
  refine ⟨hd, φ, ρ, w, sr.mono e1, wr1, ?_⟩
  unfold mCaught at q
  cases hq : m ρ w with
  | no => rw [hq] at q; exact q.elim
  | ok t w' =>
    rw [hq] at q
    intro H' φ' e' wr' v rv
    exact q H' φ' (e1.trans e') wr' .non (by unfold Rep; rfl)
  | ex t ρ' w' =>
    rw [hq] at q
    cases t with
    | exc x ks ts =>
      simp only at q
      split at q
      · rename_i hin
        intro H' φ' σ' e' wr' _ cls d rx
        refine ⟨?_, fun a ha => ?_⟩
        · obtain ⟨x', ks', ts', C, z1, z2, gl, _⟩ := rx
          cases z1
          subst z2
          exact hx x hin C gl
        · obtain ⟨e2, wr2, r2⟩ := rep_exc wr' rx ha
          exact q _ _ ((e1.trans e').trans e2) wr2 _ r2
      · exact q.elim
    | _ => exact q.elim
/-! ### isinstance(e, X) -/
/-- what isinstance must know of the error's class -/
structure IsE (K : PySem.W.Frag) (x : Str) : Prop where
  ex : ∀ C, GlbAt K x C → ExcC K C
theorem inst_of {H : Hp} {P : Program} {wd : PySem.World} {h : Heap} {C a : Addr} (x : ObjOk P wd H h a (ExC (.ref C) none a)) : ∃ oe, PySem.W.InstAt h a oe C none := by
  obtain ⟨⟨oe, vs, h1, h2, h3⟩, _⟩ := x
  obtain ⟨oc, od, oda, osl⟩ := oe
  obtain ⟨z1, z2⟩ := h2
  dsimp only at z1 z2 h3
  subst z1 z2 h3
  exact ⟨_, h1, rfl, rfl, trivial⟩
/-- isinstance(e, c): e a known error, c an own class -/
def rIsX (K : PySem.W.Frag) : List V → Hp → VK → Prop := fun xs H Q => ∃ (a D C : Addr) (b : Bool), xs = [.ref a, .ref C] ∧ H a = some (ExC (.ref D) none a) ∧ ExcC K D ∧ PySem.W.kitOne K (.ref D) (.ref C) = some b ∧ Q (.bl b) H
theorem call_isX {X : Cx} : CallR X (.builtin "isinstance") (rIsX X.K) := by
  intro pins s σ H xs us Q I r h
  obtain ⟨a, D, C, b, rfl, ha, EC, e, q⟩ := h
  cases r with
  | cons rx rr =>
    cases rr with
    | cons rt rr =>
      cases rr
      cases rx
      cases rt
      obtain ⟨oe, J⟩ := inst_of (I.hok a _ ha)
      exact PySem.W.kia_one (PySem.W.handS_kitx_exc EC.hg EC.hk EC.hs EC.hd EC.ha EC.hn EC.ht EC.hm) I.kIn J e (fun z => nomatch z) fun tk => ⟨.bl b, H, I.kept (t' := tk) fun _ _ z => z, rfl, q⟩
end VS

set_option Elab.async false
set_option linter.all false
set_option maxRecDepth 100000
set_option maxHeartbeats 2000000
/-! VW20: sorted(set(xs)), xs a list of ints. -/
namespace VS
open PySem PySem.Spec PyProof.Rows L2
section
variable {P : Program} {w : PySem.World} {A : Around} {E : Value → Shared → Prop} {s : Shared}
/-- a set, just made -/
abbrev emptyO (w : PySem.World) : Obj := { cls := .type "set", dict := none, data := .set #[] 0 (.fresh 0 0 (!w.params.followText "set-order")) }
set_option maxHeartbeats 4000000 in
/-- set(xs): its members are those of the list -/
theorem set_of_ints {l : Addr} {items : Array Value} (ns : List Int) {Q : Value → Shared → Prop} (nh : A.handled = none) (isl : s.heap.IsList l items) (its : IntsAre items.toList ns) (few : ns.length + 1 < scanBound)
    (k : ∀ (g : Heap) (tok n : Nat), SetR w g s.heap.objs.size (fun j => decide (j ∈ ns)) n → n ≤ ns.length → (∀ b o, s.heap.get? b = some o → g.get? b = some o) → Q (.ref s.heap.objs.size) { s with heap := g, toks := tok }) :
    wpAny (model P w) A (call (.type "set") [.ref l]) Q E s := by
  have sz : items.size = ns.length := by have q := IntsAre.length its; rwa [Array.length_toList] at q
  obtain ⟨c, tl, hmro⟩ := F.called_set.mro
  have f1 := F.called_set.made
  have f2 := F.called_set.sub
  have f3 := F.called_set.notType
  have f4 := F.called_set.canCreate
  have f5 := F.typeCall_set_1 (.ref l)
  refine wpAny_call (codeAny_of_tree ?_)
  show wpAny _ _ (callAny (.type "set") ⟨[.ref l], []⟩) _ _ _
  refine wpAny_pure ⟨Code.quiet_builtin _ (by decide +kernel), codeAny_builtin F.entry_type_call ?_⟩
  rw [Around.under_plain (weight_type_call_type "set" [.ref l] []) rfl]
  repeat (any_goals (first | assumption | wp_step))
  refine codeAny_mono (code_set_led1 (.ref l) (E := E) (Q₁ := fun obj s₁ => obj = .ref s.heap.objs.size ∧ s₁ = { s with heap := s.heap.push (emptyO w) }) ⟨rfl, rfl⟩) fun r sn hr => ?_
  match r, hr with
  | .error e, hr => exact hr
  | .ok (.ret obj), hr =>
    obtain ⟨rfl, rfl⟩ := hr
    have atS : (s.heap.push (emptyO w)).get? s.heap.objs.size = some (emptyO w) := Heap.get?_push_size _ rfl
    have tyS : Shared.TypeIs { s with heap := s.heap.push (emptyO w) } (.ref s.heap.objs.size) "set" := ⟨_, atS, rfl⟩
    have g1 := F.called_set.init.lookup
    have g2 := F.called_set.init.bind (.ref s.heap.objs.size)
    repeat (any_goals (first | assumption | wp_step))
    refine codeAny_mono (codeAny_call_builtin (R := wants (fun r sm => r = .none ∧ ∃ g tok n, sm = { s with heap := g, toks := tok } ∧ SetR w g s.heap.objs.size (fun j => decide (j ∈ ns)) n ∧ n ≤ ns.length ∧
        (∀ b o, s.heap.get? b = some o → g.get? b = some o)) E) F.called_set.init.plain F.entry_set_init (check_set_init_1 tyS ?_)) fun r2 sm hr2 => ?_
    · obtain ⟨ol, hol, hcl, nl, hdl⟩ := isl
      obtain ⟨ocls, odict, odata, oslots⟩ := ol
      simp only at hcl hdl
      subst hcl hdl
      have ltl : l < s.heap.objs.size := Heap.lt_size hol
      have hol1 : (s.heap.push (emptyO w)).get? l = some { cls := .type "list", dict := odict, data := .seq items nl, slots := oslots } := Heap.get?_push_of_some _ hol
      have isl1 : (s.heap.push (emptyO w)).IsList l items := ⟨_, hol1, rfl, nl, rfl⟩
      have n1 := F.sub_list_set
      have n2 := F.sub_list_frozenset
      have n3 : (Value.type "list" == Value.type "dict") = false := by decide
      unfold Builtin.«set.__init__» noKeywords Builtin.Frozenset.updateFrom
      generalize hPI : pyIter = PI
      wp_walk
      subst hPI
      refine wpAny_pyIter_list isl1 (wpAny_bind (wpAny_runValue ?_))
      have nh3 : A.in1.in1.in1.handled = none := by simp [nh]
      have szP : (s.heap.push (emptyO w)).objs.size = s.heap.objs.size + 1 := Heap.size_push ..
      have neI : l ≠ (s.heap.push (emptyO w)).objs.size := by rw [szP]; exact Nat.ne_of_lt (Nat.lt_succ_of_lt ltl)
      have offS : s.heap.objs.size ∉ [(s.heap.push (emptyO w)).objs.size, l] := by
        rw [szP]
        simp only [List.mem_cons, List.not_mem_nil, or_false, not_or]
        exact ⟨Nat.ne_of_lt (Nat.lt_succ_self _), Nat.ne_of_gt ltl⟩
      have vals : ∀ (i : Nat) (v : Value), items[i]? = some v → ∃ z t, ns[i]? = some z ∧ v = .int z t := fun i v hv => by
        have hi : i < ns.length := by rw [← sz]; exact (Array.getElem?_eq_some_iff.mp hv).1
        obtain ⟨t, e⟩ := PyProof.Rows.IntsAre.int_at its i v (by rw [Array.getElem?_toList]; exact hv)
        refine ⟨ns[i], t, List.getElem?_eq_getElem hi, ?_⟩
        rw [e, List.getD_eq_getElem?_getD, List.getElem?_eq_getElem hi] <;> rfl
      refine set_update_ints ((Walks.list nh3 _ l neI items).toS) s.heap.objs.size offS ns sz few vals (items.size - 0) 0 _ (by omega) (Nat.zero_le _)
        ⟨⟨_, Heap.get?_push_size _ rfl, rfl, rfl⟩, isl1.push _⟩ ⟨0, Nat.le_refl 0, setR_new_at (Heap.get?_push_of_some _ atS)⟩ ?hR
      case hR =>
        intro sx n hm hn hS
        obtain ⟨gx, g2, dx, tx, ox⟩ := sx
        have eg : g2 = s.gens := hm.gens
        have ed : dx = s.drawn := hm.drawn
        have eo : ox = s.os := hm.os
        subst eg ed eo
        show wpAny _ _ _ _ _ _
        refine wpAny_pure ?_
        show wpAny _ _ (ret Value.none) _ _ _
        refine wpAny_pure ⟨rfl, gx, tx, n, rfl, hS, by rw [← sz]; exact hn, fun b o e => ?_⟩
        have hb : b < s.heap.objs.size := Heap.lt_size e
        refine hm.heap b o ?_ (Heap.get?_push_of_some _ (Heap.get?_push_of_some _ e))
        rw [szP]
        simp only [List.mem_cons, List.not_mem_nil, or_false, not_or]
        exact ⟨Nat.ne_of_lt hb, Nat.ne_of_lt (Nat.lt_succ_of_lt hb)⟩
    · match r2, hr2 with
      | .error e, hr2 => exact hr2
      | .ok (.ret r), hr2 =>
        obtain ⟨rfl, g, tok, n, rfl, a1, a2, a3⟩ := hr2
        repeat (any_goals (first | assumption | wp_step))
        exact k _ _ _ a1 a2 a3
end
/-! ### sorted(set(xs)) -/
variable {X : Cx} {a : Expr} {pos p p2 q : Pos} {Z : List (Addr × Str)} {W : Option WX} {m0 : ME}
def tSortSet (K : PySem.W.Frag) (ta : TE) : TE := fun σ H Q => ta σ H fun x H1 => ∃ (l : Addr) (ns : List Int), x = .ref l ∧ SqL K H1 l (ns.map V.int) ∧ ns.length < 64 ∧ ∀ (ms : List Int) (b : Addr), ms.Pairwise (· < ·) → (∀ k, k ∈ ms ↔ k ∈ ns) → H1 b = none → Q (.ref b) (upd H1 b (.lst (ms.map V.int)))
theorem pe_sortSet {ta : TE} (hg : Gl X "sorted") (hm : X.mg "sorted" = none) (hg2 : Gl X "set") (hm2 : X.mg "set" = none) (ha : PE X a ta) (hc : X.calm = true := by rfl)
    (na : starEach [a] X.env = (false, eval a X.env) :: starEach [] X.env := by rfl) : PE X (.Call (.Name "sorted" p) [.Call (.Name "set" p2) [a] [] q] [] pos) (tSortSet X.K ta) := by
  refine ⟨fun pins s σ H Q I h => ?_⟩
  refine Call_ (ld_blt I hg hm (show bootBuiltins ("sorted" : Str) = some (.builtin "sorted") by decide +kernel) ?_)
  refine PyProof.Rows.callWith_builtin1 (PyProof.Rows.args_cons ?_ rfl) rfl rfl
  refine Call_ (ld_blt I hg2 hm2 boot_set ?_)
  refine PyProof.Rows.callWith_type1 (PyProof.Rows.args_cons (thn (ha.run pins s σ H _ I h) fun v s1 ⟨x, H1, I1, r1, q1⟩ => PyProof.Rows.args_nil ?_) na) na rfl
  obtain ⟨l, ns, rfl, hq, hl, q1⟩ := q1
  cases r1
  obtain ⟨its, r, pl, hz⟩ := I1.list hq
  refine set_of_ints ns (I1.ok.hd hc) pl.isList (by simpa using RZ.intsAre_vals r) (by unfold scanBound; omega) fun g tok n R hn hk => ?_
  refine PyProof.Rows.args_nil ?_
  have I2 : Inv X pins σ H1 { s1 with heap := g, toks := tok } := I1.kept hk
  refine sorted_set (s := { s1 with heap := g, toks := tok }) R (I2.ok.hd hc) (by omega) fun s' b out c ms k eg eo hp hget hi hs hm hlen => ?_
  have hn : H1 b = none := I2.hok.fresh hp
  have J : Inv X pins σ (upd H1 b (.lst (ms.map V.int))) { s1 with heap := s'.heap, gens := s'.gens, drawn := s'.drawn, toks := s'.toks } :=
    Inv.call (s := { s1 with heap := g, toks := tok }) (ch := []) I2 (Un.laid (h := g) k hp hn) (I2.hok.laid k hp ⟨by rw [List.length_map, hlen, sizeLine_eq]; omega, out.toList, c, vals_of_ints hi, hget⟩) (by rw [eg]; exact I2.bare) (fun _ z => nomatch z)
  have e : s' = { s1 with heap := s'.heap, gens := s'.gens, drawn := s'.drawn, toks := s'.toks } := by
    obtain ⟨_, _, _, _, _⟩ := s'
    simp only at eo
    subst eo
    rfl
  rw [e]
  exact ⟨.ref b, _, J, rfl, q1 ms b hs (fun j => (hm j).trans (by simp)) hn⟩
/-- the members, rising -/
def riseI (ns : List Int) : List Int := ns.foldr insI []
where insI (i : Int) : List Int → List Int
  | [] => [i]
  | j :: js => if i < j then i :: j :: js else if i = j then j :: js else j :: insI i js
theorem insI_mem {i k : Int} : ∀ {l : List Int}, k ∈ riseI.insI i l ↔ k = i ∨ k ∈ l
  | [] => by unfold riseI.insI; simp
  | j :: js => by
    unfold riseI.insI
    split
    · simp
    · split
      · rename_i h; subst h; simp
      · rw [List.mem_cons, insI_mem, List.mem_cons]
        constructor
        · rintro (h | h | h) <;> simp [h]
        · rintro (h | h | h) <;> simp [h]
theorem insI_rise {i : Int} : ∀ {l : List Int}, l.Pairwise (· < ·) → (riseI.insI i l).Pairwise (· < ·)
  | [], _ => by unfold riseI.insI; simp
  | j :: js, h => by
    unfold riseI.insI
    rw [List.pairwise_cons] at h
    split
    · rename_i hij
      rw [List.pairwise_cons, List.pairwise_cons]
      exact ⟨fun b hb => by rcases List.mem_cons.mp hb with rfl | hb; exact hij; exact Int.lt_trans hij (h.1 b hb), h⟩
    · split
      · rw [List.pairwise_cons]; exact h
      · rename_i h1 h2
        rw [List.pairwise_cons]
        refine ⟨fun b hb => ?_, insI_rise h.2⟩
        rcases insI_mem.mp hb with rfl | hb
        · omega
        · exact h.1 b hb
theorem rise_mem {k : Int} : ∀ {ns : List Int}, k ∈ riseI ns ↔ k ∈ ns
  | [] => by unfold riseI; simp
  | n :: ns => by
    show k ∈ riseI.insI n (riseI ns) ↔ _
    rw [insI_mem, rise_mem, List.mem_cons]
theorem rise_rise : ∀ ns : List Int, (riseI ns).Pairwise (· < ·)
  | [] => List.Pairwise.nil
  | n :: ns => insI_rise (rise_rise ns)
theorem rise_unique {as bs : List Int} (ha : as.Pairwise (· < ·)) (hb : bs.Pairwise (· < ·)) (h : ∀ k, k ∈ as ↔ k ∈ bs) : as = bs := by
  induction as generalizing bs with
  | nil =>
    cases bs with
    | nil => rfl
    | cons b bs => exact absurd ((h b).mpr List.mem_cons_self) (by simp)
  | cons a as ih =>
    cases bs with
    | nil => exact absurd ((h a).mp List.mem_cons_self) (by simp)
    | cons b bs =>
      rw [List.pairwise_cons] at ha hb
      have e : a = b := by
        rcases List.mem_cons.mp ((h a).mp List.mem_cons_self) with z | z
        · exact z
        · rcases List.mem_cons.mp ((h b).mpr List.mem_cons_self) with y | y
          · exact y.symm
          · have := hb.1 a z; have := ha.1 b y; omega
      subst e
      rw [ih ha.2 hb.2 fun k => ?_]
      have hk := h k
      rw [List.mem_cons, List.mem_cons] at hk
      constructor
      · intro z
        rcases hk.mp (.inr z) with y | y
        · have := ha.1 k z; omega
        · exact y
      · intro z
        rcases hk.mpr (.inr z) with y | y
        · have := hb.1 k z; omega
        · exact y
def mSortSet (m : ME) : MF := fun ρ w => (m ρ w).bind fun t w1 => match lst? w1 t with
  | some ts => match intsT ts with
    | some ns => if ns.length < 64 then .ok ((riseI ns).map T.int) w1 else .no
    | none => .no
  | none => .no
theorem df_sortSet (hm : X.mg "sorted" = none) (hm2 : X.mg "set" = none) (ha : PE X a (rdE (X.K, Z) W m0)) (hg : Gl X "sorted" := by rfl) (hg2 : Gl X "set" := by rfl) (hc : X.calm = true := by rfl)
    (na : starEach [a] X.env = (false, eval a X.env) :: starEach [] X.env := by rfl) : PE X (.Call (.Name "sorted" p) [.Call (.Name "set" p2) [a] [] q] [] pos) (rdF (X.K, Z) W (mSortSet m0)) := PE_imp (pe_sortSet hg hm hg2 hm2 ha hc na) fun σ H Q => by
  rintro ⟨hd, φ, ρ, w, sr, wr, p⟩
  refine ⟨hd, φ, ρ, w, sr, wr, Pst.then isPstF p fun t w1 φ1 H1 e1 wr1 p1 v rv => ?_⟩
  cases h1 : lst? w1 t with
  | none => rw [h1] at p1; exact p1.elim
  | some ts =>
    cases h2 : intsT ts with
    | none => simp only [h1, h2] at p1; exact p1.elim
    | some ns =>
      simp only [h1, h2] at p1
      split at p1
      · rename_i hl
        obtain ⟨l, xs, rfl, g1, g2⟩ := lst_at wr1 rv h1
        have e := intV_at g2 h2
        subst e
        refine ⟨l, ns, rfl, SqL.of g1, hl, fun ms b hs hm hb => ?_⟩
        have e := rise_unique hs (rise_rise ns) fun k => (hm k).trans rise_mem.symm
        subst e
        exact p1.new wr1 (reps_ints _) b hb
      · exact p1.elim
end VS

set_option Elab.async false
set_option linter.all false
set_option maxRecDepth 100000
set_option maxHeartbeats 2000000
/-! VW21: sorted(xs) of data that can be compared, xs a list or a tuple. -/
namespace VS
open PySem PySem.Spec PyProof.Rows L2
mutual
theorem reads_in {h : Heap} : ∀ {v : Value} {d : PyData} {as : List Addr}, Reads h v d as → ∀ x ∈ as, x < h.objs.size
  | _, _, _, .none, _, hx => absurd hx (by simp)
  | _, _, _, .bool _, _, hx => absurd hx (by simp)
  | _, _, _, .int _ _, _, hx => absurd hx (by simp)
  | _, _, _, .str _ _, _, hx => absurd hx (by simp)
  | _, _, _, .list h1 _ _ h4, x, hx => by
    rcases List.mem_cons.mp hx with rfl | hx
    · exact Heap.lt_size h1
    · exact readsAll_in h4 x hx
  | _, _, _, .tuple h1 _ _ h4, x, hx => readsAll_in h4 x hx
  | _, _, _, .dict h1 _ _ h4 h5, x, hx => by
    rcases List.mem_append.mp hx with hx | hx
    · rcases List.mem_cons.mp hx with rfl | hx
      · exact Heap.lt_size h1
      · exact readsAll_in h4 x hx
    · exact readsAll_in h5 x hx
theorem readsAll_in {h : Heap} : ∀ {vs : List Value} {ds : List PyData} {as : List Addr}, ReadsAll h vs ds as → ∀ x ∈ as, x < h.objs.size
  | _, _, _, .nil, _, hx => absurd hx (by simp)
  | _, _, _, .cons h1 h2, x, hx => by
    rcases List.mem_append.mp hx with hx | hx
    · exact reads_in h1 x hx
    · exact readsAll_in h2 x hx
end
section
variable {prog : Program} {w : PySem.World} {A : Around} {E : Value → Shared → Prop} {s : Shared} {β : Type} {R : Value → β → Prop} {enc : β → PyData} {vs : List Value} {bs : List β}
/-- sorted(xs), xs a list or a tuple -/
theorem sorted_seq {it : Addr} {ty : String} {o : Obj} {items : Array Value} {n : Nat} {Q : Value → Shared → Prop} (hT : ty = "list" ∨ ty = "tuple") (ho : s.heap.get? it = some o) (hc : o.cls = .type ty) (hd : o.data = .seq items n) (hi : items.toList = vs)
    (e : PySem.W.EachIs R vs bs) (er : PySem.W.EachIs (fun v b => ∃ as, Reads s.heap v (enc b) as) vs bs) (hal : PySem.W.AllAlike (bs.map enc)) (hk : PySem.W.Sortable (bs.map enc)) (hL : bs.length ≤ sizeLine)
    (hu : ∀ b, b ∈ bs → A.units + 2 + (enc b).depth < cLine)
    (k : ∀ (g : Heap) (p : Addr) (out : List Value) (ep : Nat), s.heap.get? p = none → (∀ b u, s.heap.get? b = some u → g.get? b = some u) → PySem.W.EachIs R out (bs.mergeSort (PySem.W.dataLe false enc)) → out.length = bs.length → g.get? p = some (seqObj "list" out.toArray ep) → Q (.ref p) { s with heap := g }) :
    wpAny (model prog w) A (call (.builtin "sorted") [.ref it]) Q E s := by
  have hlv : vs.length = bs.length := e.length
  refine Calls.call_function_entry kind_sorted plain_sorted entry_sorted (args_sorted1 _) ?_
  unfold Builtin.«sorted»
  refine wpAny_bind (m := checkCount "sorted" 1 1 _) (wpAny_pure ?_)
  refine wpAny_bind (wpAny_collect_seq it hT ho hc hd (fun g kg => ?_) (by rw [← Array.length_toList, hi, hlv]; exact hL))
  rw [hi]
  refine wpAny_bind (wpAny_newList ?_ (by rw [hlv]; exact hL))
  refine wpAny_bind (wpAny_holding ?_)
  have new : (g.push (seqObj "list" vs.toArray 0)).get? g.objs.size = some (seqObj "list" vs.toArray 0) := Heap.get?_push_size _ rfl
  have kept : ∀ b u, s.heap.get? b = some u → (g.push (seqObj "list" vs.toArray 0)).get? b = some u := fun b u q => Heap.get?_push_of_some _ (kg b u q)
  have gone : s.heap.get? g.objs.size = none := by
    cases q : s.heap.get? g.objs.size with
    | none => rfl
    | some u => exact absurd (Heap.lt_size (kg _ u q)) (Nat.lt_irrefl _)
  have er2 : PySem.W.EachIs (fun v b => ∃ as, Reads (g.push (seqObj "list" vs.toArray 0)) v (enc b) as ∧ g.objs.size ∉ as) vs bs := er.mono fun v b ⟨as, r⟩ =>
    ⟨as, PyProof.Rows.Reads.keeps kept r, fun hm => absurd (reads_in (PyProof.Rows.Reads.keeps kg r) _ hm) (Nat.lt_irrefl _)⟩
  refine PySem.W.list_sort_data (s := { s with heap := g.push (seqObj "list" vs.toArray 0) }) (n := 0) new e er2 hal hk hL hu fun out hl ho' => ?_
  show wpAny _ _ (ret (Value.ref g.objs.size)) _ _ _
  obtain ⟨ep, at_⟩ := sortedHeap_at (vs := vs) (out := out.toArray) new
  refine wpAny_pure ⟨_, rfl, k _ _ out ep gone (fun b u q => ?_) ho' hl at_⟩
  have hb : b < g.objs.size := Heap.lt_size (kg b u q)
  rw [sortedHeap_old (Nat.ne_of_lt hb) (by show b < (g.push _).objs.size; rw [Heap.size_push]; exact Nat.lt_succ_of_lt hb)]
  exact kept b u q
end
end VS

set_option Elab.async false
set_option linter.all false
set_option maxRecDepth 100000
set_option maxHeartbeats 2000000
/-! VW22: the module's classes; isinstance of an error by a table; the walk. -/
namespace VS
open PySem PySem.Spec PyProof.Rows L2
/-! ### a name of the module as a value -/
structure GlbD (K : PySem.W.Frag) (mg : Str → Option Value) (x : Str) : Prop where
  ex : ∃ a, mg x = some (.ref a) ∧ GlbAt K x a
theorem de_glb {X : Cx} {Z : List (Addr × Str)} {W : Option WX} {x : Str} {pos : Pos} (g : GlbD X.K X.mg x) (hg : Gl X x := by rfl) (hd : (x == ("__debug__" : Str)) = false := by decide) : PE X (.Name x pos) (rdE (X.K, Z) W (mC (.glb x))) := by
  obtain ⟨a, h1, h2⟩ := g.ex
  refine PE_imp (pe_glob hg h1 (v := .ref a) rfl hd) fun σ H Q => ?_
  rintro ⟨hd, φ, ρ, w, sr, wr, p⟩
  exact p.ok wr _ (by unfold Rep; exact ⟨a, rfl, h2⟩)
/-! ### own classes of errors -/
/-- what the written part says of the class x -/
structure ClsAt (K : PySem.W.Frag) (x : Str) (C : Addr) : Prop where
  c1 : PySem.W.nsIn K mainGlobals x = some (some (.ref C))
  c2 : PySem.W.keepIn K (.ref C) = true
  c3 : PySem.W.subIn K (.ref C) (.type "BaseException") = some true
  c4 : PySem.W.typeIn K (.ref C) = some (.type "type")
  c5 : PySem.W.hasDictIn K C = true
  c6 : PySem.W.isClsIn K C = true
  c7 : PySem.W.findIn K (.ref C) "__getattribute__" = some (some (.builtin "BaseException.__getattribute__"))
  c8 : PySem.W.findIn K (.ref C) "__getattr__" = some none
  c9 : PySem.W.findIn K (.ref C) "__class__" = some (some (.builtin "object.__class__"))
  c10 : PySem.W.mroIn K C (.type "object") = some true
  c11 : PySem.W.subIn K (.ref C) (.ref C) = some true
/-- what it says of an object's class -/
structure ObjG (K : PySem.W.Frag) : Prop where
  o1 : PySem.W.specialIn K (.builtin "object.__class__") "__get__" = some (some (.builtin "getset_descriptor.__get__"))
  o2 : PySem.W.takesIn K (.builtin "object.__class__") = some true
section
variable {K : PySem.W.Frag} {mg : Str → Option Value} {h : Heap} {x y : Str} {C D : Addr} {b : Bool}
theorem ClsAt.glb (q : ClsAt K x C) (X : K.In h) (G : h.Ns mainGlobals mg) : GlbD K mg x := ⟨C, PySem.W.mg_of X G q.c1, q.c1⟩
theorem At.glb {st : Stmt} {cd : Value} (a : At K x st cd) (X : K.In h) (G : h.Ns mainGlobals mg) : GlbD K mg x := by
  obtain ⟨f, _, _, _, _, _, _, _, _, h1, _⟩ := a.ex
  exact ⟨f, PySem.W.mg_of X G h1, h1⟩
theorem ClsAt.err (q : ClsAt K x C) (X : K.In h) (G : h.Ns mainGlobals mg) (e : PySem.W.excIn K C [.type "ValueError", .type "Exception", .type "BaseException", .type "object"] "ValueError.__new__" = true) : ErrC K mg x :=
  ⟨C, q.c1, PySem.W.mg_of X G q.c1, e, q.c2, q.c3, q.c4⟩
theorem ClsAt.exc (q : ClsAt K x C) (o : ObjG K) : ExcC K C := ⟨q.c7, q.c8, q.c3, q.c5, q.c9, o.o1, o.o2, q.c10⟩
theorem ClsAt.kit {t : Value} (q : ClsAt K x C) (s : PySem.W.subIn K t (.ref C) = some b) : PySem.W.kitOne K t (.ref C) = some b := by
  unfold PySem.W.kitOne
  split
  · rename_i e
    have e2 : t = .ref C := by
      cases t with
      | ref a => exact congrArg Value.ref (by simpa using e)
      | _ => exact absurd e (by first | decide | (intro z; cases z) | simp)
    subst e2
    exact q.c11.symm.trans s
  · unfold PySem.W.kitCls
    have e : ((PySem.W.clsIn K C).isSome && PySem.W.typeIn K (.ref C) == some (.type "type")) = true := by
      have := q.c6
      unfold PySem.W.isClsIn at this
      rw [this, q.c4]
      rfl
    simp only [e, if_true]
    exact s
theorem ClsAt.caught (q : ClsAt K x C) (S : ClsAt K y D) (s : PySem.W.subIn K (.ref C) (.ref D) = some true) : ∀ C', GlbAt K x C' → PySem.W.exmOne K (.ref C') (.ref D) = some true := fun C' g => by
  have e : C' = C := GlbAt.inj g q.c1
  subst e
  exact PySem.W.exm_ref S.c3 S.c5 S.c4 s
theorem caughtD_mk {st : Stmt} {cd : Value} {S : Str} {CS : Addr} {cs : List Str} (a : At K "_law_caught" st cd) (X : K.In h) (G : h.Ns mainGlobals mg) (T : CaughtT st S) (q : ClsAt K S CS) (hx : ∀ x ∈ cs, ∀ C, GlbAt K x C → PySem.W.exmOne K (.ref C) (.ref CS) = some true)
    (hb : ∀ (kV doc pm : Value) (an : Option Addr) (cdv ct : Value) (us : List Value), us.length = 1 → bindArgs (PySem.W.fnOf "_law_caught" "_law_caught" (defArgs st) (defBody st) (defScope st) .none kV doc pm an cdv ct) ⟨us, []⟩ = pure ([("work" : Str)].zip us)) : CaughtD K mg cs := by
  obtain ⟨f, oc, od, an, sl, kV, dc, pm, ct, h1, h2, h3, h4⟩ := a.ex
  exact ⟨st, S, f, CS, oc, od, an, sl, kV, dc, pm, cd, ct, T, PySem.W.mg_of X G h1, h4, h2, h3, (fun_mk (st := st) h2 h3 h4).binds hb, PySem.W.mg_of X G q.c1, hx⟩
end
/-! ### isinstance of an error, by a table -/
def lookB : List (Str × Str × Bool) → Str → Str → Option Bool
  | [], _, _ => none
  | (a, b, v) :: r, x, c => if a = x ∧ b = c then some v else lookB r x c
/-- a row: the class of the error ("" for None), the class asked of, the answer -/
def IsRow (K : PySem.W.Frag) (r : Str × Str × Bool) : Prop := ∃ C, GlbAt K r.2.1 C ∧ if r.1 = "" then PySem.W.kitOne K (.type "NoneType") (.ref C) = some r.2.2 else ∃ D, GlbAt K r.1 D ∧ ExcC K D ∧ PySem.W.kitOne K (.ref D) (.ref C) = some r.2.2
structure IsTab (K : PySem.W.Frag) (tab : List (Str × Str × Bool)) : Prop where
  rows : ∀ r ∈ tab, IsRow K r
theorem lookB_mem : ∀ {tab : List (Str × Str × Bool)} {x c : Str} {b : Bool}, lookB tab x c = some b → (x, c, b) ∈ tab
  | [], x, c, b, h => by cases h
  | (a, d, v) :: r, x, c, b, h => by
    unfold lookB at h
    split at h
    · rename_i e
      obtain ⟨rfl, rfl⟩ := e
      cases h
      exact List.mem_cons_self
    · exact List.mem_cons_of_mem _ (lookB_mem h)
theorem isTab_nil {K : PySem.W.Frag} : IsTab K [] := ⟨fun r h => by cases h⟩
theorem isTab_cons {K : PySem.W.Frag} {x c : Str} {b : Bool} {C D : Addr} {tab : List (Str × Str × Bool)} (o : ObjG K) (q : ClsAt K x D) (p : ClsAt K c C) (s : PySem.W.subIn K (.ref D) (.ref C) = some b) (r : IsTab K tab) (hx : ¬ x = "" := by decide) : IsTab K ((x, c, b) :: tab) := ⟨fun u hu => by
  rcases List.mem_cons.mp hu with rfl | hu
  · refine ⟨C, p.c1, ?_⟩
    rw [if_neg hx]
    exact ⟨D, q.c1, q.exc o, p.kit s⟩
  · exact r.rows u hu⟩
theorem isTab_none {K : PySem.W.Frag} {c : Str} {b : Bool} {C : Addr} {tab : List (Str × Str × Bool)} (p : ClsAt K c C) (s : PySem.W.subIn K (.type "NoneType") (.ref C) = some b) (r : IsTab K tab) : IsTab K (("", c, b) :: tab) := ⟨fun u hu => by
  rcases List.mem_cons.mp hu with rfl | hu
  · refine ⟨C, p.c1, ?_⟩
    rw [if_pos rfl]
    exact p.kit s
  · exact r.rows u hu⟩
def sIsX (tab : List (Str × Str × Bool)) : SC := fun ds w => match ds with
  | [.exc x [] _, .glb c] => if x = "" then .no else match lookB tab x c with
    | some b => .ok (.bl b) w
    | none => .no
  | [.non, .glb c] => match lookB tab "" c with
    | some b => .ok (.bl b) w
    | none => .no
  | _ => .no
/-- isinstance(None, c), c an own class -/
def rIsN (K : PySem.W.Frag) : List V → Hp → VK → Prop := fun xs H Q => ∃ (C : Addr) (b : Bool), xs = [.non, .ref C] ∧ PySem.W.kitOne K (.type "NoneType") (.ref C) = some b ∧ Q (.bl b) H
section
variable {X : Cx} {e e2 : Expr} {m : MF} {p pos : Pos} {Z : List (Addr × Str)} {W : Option WX} {tab : List (Str × Str × Bool)} {K : KT}
theorem call_isN : CallR X (.builtin "isinstance") (rIsN X.K) := by
  intro pins s σ H xs us Q I r h
  obtain ⟨C, b, rfl, e, q⟩ := h
  exact call_isi pins s σ H _ us Q I r ⟨.non, .ref C, .type "NoneType", .ref C, b, rfl, .own _, .base .non, e, q⟩
theorem opIsX (T : IsTab K.1 tab) : OpC K (sIsX tab) (fun xs H Q => rIsX K.1 xs H Q ∨ rIsN K.1 xs H Q) := fun W hd φ H w ds xs Q wr rx p => by
  unfold sIsX at p
  split at p
  · rename_i x ts c
    split at p
    · exact p.elim
    · rename_i hx
      cases h1 : lookB tab x c with
      | none => rw [h1] at p; exact p.elim
      | some b =>
        rw [h1] at p
        obtain ⟨v, u, rfl, r1, r2⟩ := reps2 rx
        obtain ⟨C, g1, g2⟩ := T.rows _ (lookB_mem h1)
        dsimp only at g1 g2
        rw [if_neg hx] at g2
        obtain ⟨D, g3, g4, g5⟩ := g2
        unfold Rep at r1 r2
        obtain ⟨C', rfl, g6⟩ := r2
        cases GlbAt.inj g1 g6
        obtain ⟨a, D', d, rfl, g7, g8, g9⟩ := r1
        cases GlbAt.inj g3 g7
        rcases g9 with ⟨_, _, rfl⟩ | ⟨dd, vs, rfl, l, n, rr⟩
        · exact .inl ⟨a, D, C, b, rfl, g8.1, g4, g5, p.bl wr⟩
        · exact absurd rfl l.1
  · rename_i c
    cases h1 : lookB tab "" c with
    | none => rw [h1] at p; exact p.elim
    | some b =>
      rw [h1] at p
      obtain ⟨v, u, rfl, r1, r2⟩ := reps2 rx
      obtain ⟨C, g1, g2⟩ := T.rows _ (lookB_mem h1)
      dsimp only at g1 g2
      rw [if_pos rfl] at g2
      unfold Rep at r1 r2
      obtain ⟨C', rfl, g6⟩ := r2
      cases GlbAt.inj g1 g6
      subst r1
      exact .inr ⟨C, b, rfl, g2, p.bl wr⟩
  · exact p.elim
theorem de_isX (T : IsTab X.K tab) (hm : X.mg "isinstance" = none) (ha : PA X [e, e2] (rdA (X.K, Z) W m)) (hg : Gl X "isinstance" := by rfl) (he : starEach [e, e2] X.env = (false, eval e X.env) :: starEach [e2] X.env := by rfl) (hpl : (backTo pos (starEach [e2] X.env)).any (·.1) = false := by rfl) : PE X (.Call (.Name "isinstance" p) [e, e2] [] pos) (rdE (X.K, Z) W (mCall (sIsX tab) m)) :=
  de_callB (call_isX.or call_isN) (opIsX T) hm (by decide +kernel) ha hg (by decide) (by decide) he hpl
end
end VS

set_option Elab.async false
set_option linter.all false
set_option maxRecDepth 100000
set_option maxHeartbeats 2000000
/-! VW23: the law's walk, where the law's lambdas lie in tables. -/
namespace VS
open PySem PySem.Spec PyProof.Rows L2
theorem walk_ofZ {l : PySem.W.OpenLaw} {n k : Nat} {q : Program} {loose : List Str} {XP : (Str → Option Value) → Heap → Prop} {YP : PySem.World → Heap → Prop} {d : DefRec} {K : Params → PySem.W.Frag} {CX : PySem.World → CXT} {x : Str}
    (hn : l.most = some n) (hn2 : n ≤ sizeLine) (hdf : d.params.defaults = []) (hr : Room k callerA) (hY : ∀ (w : PySem.World) (h : Heap), YP w h → (K w.params).In h)
    (F : ∀ (w : PySem.World) (mg mb : Str → Option Value) (fa : Addr) (h : Heap) (lo : List Str) (mean : ExcName → Option Value), (K w.params).In h → Top q lo mean mg mb h → mg d.name = some (.ref fa) → LamX.LawAtS l w (K w.params) (CX w) k n x mg fa h)
    (hCX : ∀ (w : PySem.World) (H : Hp) (s : Shared) (e : Value) (s' : Shared), CX w [] H s (fun _ _ _ => False) e s' → False) :
    PySem.W.WalkO q loose XP YP l.row.toRowW d [] (fun f vs => PySem.call f vs) := by
  refine Att.attach_callB hn hdf fun w s₀ s₁ mg mb fa o pm cd doc a vs ns G Y ho hd hcd hmg hobj hints hlen hbits hg => ?_
  have KX := hY w _ Y
  obtain ⟨fd, cs, sp, hT, nT, C, hb, hsp, hF⟩ := F w mg mb fa _ _ _ KX G.T hmg
  exact LamX.law_callTs KX G.T.g G.T.b G.T.builtins G.T.nolimit hg hT nT C G.T.bmain hobj hints (Nat.le_trans hlen hn2) hr hF hb (fun H hH hS => hsp H a ns hlen hbits hH hS) fun H e s' => hCX w H s₁ e s'
/-- a def's code object c and its table P, empty, in which lambdas of the name q will lie -/
structure TabAt (K : PySem.W.Frag) (h : Heap) (t : Addr × Addr × Str) : Prop where
  hd : PySem.W.CodeHd h t.1 t.2.1
  ob : h.get? t.2.1 = some { cls := .none, data := .fields #[] }
  no : K.lookup t.2.1 = none
theorem At.tab {K : PySem.W.Frag} {x : Str} {st : Stmt} {c P : Addr} {q : Str} {p : Program} {lo : List Str} {mean : ExcName → Option Value} {mg mb : Str → Option Value} {h : Heap} {e : Value} {dd : Option Addr} {vs : Array Value} {sl : Array (Option Value)}
    (a : At K x st (.ref c)) (X : K.In h) (T : Top p lo mean mg mb h) (h4 : K.lookup c = some ⟨e, dd, .fields vs, sl⟩) (h5 : vs[11]? = some (.ref P)) (nP : K.lookup P = none) (hrec : ((recsOf p).any fun e => e.name == x) = true) : TabAt K h (c, P, q) := by
  obtain ⟨f, oc, od, an, sl, kV, dc, pm, ct, h1, h2, h3, _⟩ := a.ex
  have hmg := PySem.W.mg_of X T.g h1
  obtain ⟨dL, hm, hn1⟩ := List.any_eq_true.mp hrec
  have hn2 : dL.name = x := beq_iff_eq.mp hn1
  obtain ⟨a', o', fd', c', P', g1, g2, g3, g4, g5, g6⟩ := T.tab dL hm
  rw [hn2, hmg] at g1
  cases g1
  have e1 := X _ _ h2
  rw [e1] at g2
  cases g2
  cases g3
  have e2 : c = c' := Value.ref.inj g4
  subst e2
  have g6' := g6
  obtain ⟨⟨oc, vc, k1, _, k3, k4⟩, hP⟩ := g6'
  have e3 := X _ _ h4
  rw [e3] at k1
  cases k1
  cases k3
  rw [h5] at k4
  cases k4
  exact ⟨PySem.W.CodeHd.of g5 g6, hP, nP⟩
theorem lawAt_of {l : PySem.W.OpenLaw} {w : PySem.World} {K : PySem.W.Frag} {k : Nat} {mg : Str → Option Value} {fa : Addr} {h : Heap} (tabs : List (Addr × Addr × Str)) (ht : ∀ t ∈ tabs, TabAt K h t)
    (top : ∃ fd : FuncData, (∀ (s : Shared) (u : Value), BindsTo s fd ⟨[u], []⟩ [("script", u)]) ∧ ∀ base : Heap, K.In base → base.Ns mainGlobals mg → (∀ p ∈ tabs.map (fun t => (t.1, t.2.1)), LamX.TabB base mg p.1 p.2) →
      FnOk l.prog w K mg base (L2.CX l.prog w) k fa fd ["script"] (spL K (tabs.map fun t => (t.2.1, t.2.2)))) : LamX.LawAtS l w K (L2.CX l.prog w) k 63 "script" mg fa h := by
  obtain ⟨fd, hb, hF⟩ := top
  have mem : ∀ p ∈ tabs.map (fun t => (t.1, t.2.1)), ∃ t ∈ tabs, p = (t.1, t.2.1) := fun p hp => by
    obtain ⟨t, h1, h2⟩ := List.mem_map.mp hp
    exact ⟨t, h1, h2.symm⟩
  refine ⟨fd, tabs.map (fun t => (t.1, t.2.1)), spL K (tabs.map fun t => (t.2.1, t.2.2)), fun p hp => ?_, fun p hp => ?_, fun p hp => ?_, hb, fun H a ns hl hbits hH hS => ?_, hF⟩
  · obtain ⟨t, h1, rfl⟩ := mem p hp
    exact (ht t h1).ob
  · obtain ⟨t, h1, rfl⟩ := mem p hp
    exact (ht t h1).no
  · obtain ⟨t, h1, rfl⟩ := mem p hp
    exact (ht t h1).hd
  · refine ⟨a, ns, rfl, hS, hl, fun p hp => ?_, fun _ => rfl⟩
    obtain ⟨t, h1, rfl⟩ := List.mem_map.mp hp
    exact LamX.TabS.nil (hH (t.1, t.2.1) (List.mem_map.mpr ⟨t, h1, rfl⟩))
end VS

set_option Elab.async false
set_option linter.all false
set_option maxRecDepth 100000
set_option maxHeartbeats 2000000
/-! VW24: == where a dict may stand, < of data, {} as a value, sorted data, zip. -/
namespace VEQ
open PySem PySem.SeqAt PySem.Calls PyProof.Rows
open PySem.AutoSeq1 (wpAny_loadPart')
open PySem.MeetsSeq
theorem dict_declines (l : Addr) (es : Array DictEntry) (n : Nat) (dd : Option Addr) (sl : Array (Option Value)) (b : Str) (u : Tok) :
    Meets (Builtin.«dict.__eq__» ⟨[.ref l, .str b u], []⟩) (fun _ R s => s.heap.get? l = some { cls := .type "dict", dict := dd, data := .dict es n, slots := sl } ∧ R (.ok (.ret .notImplemented)) s) :=
  .of_wp fun prog w A R s h => by obtain ⟨hp, g, d, tk, os⟩ := s; obtain ⟨hl, h⟩ := h; have f1 := F.sub_str_dict; wp_walk using wpAny_loadPart' hl; exact ⟨_, rfl, h⟩
theorem str_declines (b : Str) (u : Tok) (l : Addr) (es : Array DictEntry) (n : Nat) (dd : Option Addr) (sl : Array (Option Value)) :
    Meets (Builtin.«str.__eq__» ⟨[.str b u, .ref l], []⟩) (fun _ R s => s.heap.get? l = some { cls := .type "dict", dict := dd, data := .dict es n, slots := sl } ∧ R (.ok (.ret .notImplemented)) s) :=
  .of_wp fun prog w A R s h => by obtain ⟨hp, g, d, tk, os⟩ := s; obtain ⟨hl, h⟩ := h; wp_walk using wpAny_loadPart' hl, wpAny_load hl; exact ⟨_, rfl, h⟩
theorem dict_str {A : Around} {s : Shared} {l : Addr} {o : Obj} {es : Array DictEntry} {n : Nat} (b : Str) (u : Tok) (ho : s.heap.get? l = some o) (hc : o.cls = .type "dict") (hd : o.data = .dict es n) (hu : A.units < cLine) : RcAt A s (.ref l) (.str b u) false := fun prog w E Q h => by
  obtain ⟨cls, dd, data, sl⟩ := o
  simp only at hc hd
  subst hc hd
  exact rc_eq_decline_or (k := false) ⟨_, ho, rfl⟩ (typeIs_str s b u) (by decide) F.sub_str_dict F.slot_dict_eq F.slot_str_eq_refl
    (fun _ hq => call_meets F.slot_dict_eq ⟨_, ho, rfl⟩ F.entry_dict_eq (F.args_dict_eq_2 _ _) (dict_declines l es n dd sl b u) ⟨ho, hq⟩)
    (fun _ hq => call_meets F.slot_str_eq_refl (typeIs_str s b u) F.entry_str_eq (F.args_str_eq_2 _ _) (str_declines b u l es n dd sl) ⟨ho, hq⟩)
    (fun _ hq => wpAny_of_eq (rfl : isSame (.ref l) (.str b u) = pure false) hq) (.inr hu) h
end VEQ
namespace VS
open PySem PySem.Spec PyProof.Rows L2
section
variable {X : Cx} {K : KT} {hd φ : List Addr} {H : Hp} {w : World} {a b e : Expr} {es : List Expr} {p pos : Pos} {ma mb : ME} {m : MF} {Z : List (Addr × Str)} {W : Option WX}
/-! ### == where a dict may stand -/
def eqX (w : World) (x y : T) : Option Bool := match x, y with
  | .dct _ _, .str _ => some false
  | .tup _, .str _ => some false
  | .lst _, .str _ => some false
  | .tup ts, .tup [] => some ts.isEmpty
  | _, _ => eqT w x y
def sEqX : S2 := fun x y w => match eqX w x y with
  | some b => .ok (.bl b) w
  | none => .no
def rEqX (K : PySem.W.Frag) : R2 := fun x y H Q => rEqD K x y H Q ∨ (∃ a kvs s, x = .ref a ∧ H a = some (.dK kvs) ∧ y = .str s ∧ Q (.bl false) H) ∨ (∃ a xs s, x = .ref a ∧ (SqL K H a xs ∨ SqT K H a xs) ∧ y = .str s ∧ Q (.bl false) H) ∨ ∃ a b xs, x = .ref a ∧ y = .ref b ∧ SqT K H a xs ∧ SqT K H b [] ∧ Q (.bl xs.isEmpty) H
theorem op_eqX (hu : X.A.units + 64 < cLine) : OpR X (compareOp .Eq) (rEqX X.K) := by
  intro pins s σ H x y v u Q I rx ry h
  rcases h with h | ⟨a, kvs, t, rfl, hs, rfl, q⟩ | ⟨a, xs, t, rfl, hs, rfl, q⟩ | ⟨a, b, xs, rfl, rfl, ha, hb, q⟩
  · exact op_eqD hu pins s σ H x y v u Q I rx ry h
  · cases (show v = Value.ref a from rx)
    obtain ⟨tk, rfl⟩ := ry
    obtain ⟨_, _, va, ra, o, es, ep, ho, ⟨hc, _⟩, hd, _⟩ := (show ObjOk X.prog X.w H s.heap a (.dK kvs) from I.hok a _ hs)
    exact VEQ.dict_str t tk ho hc hd (by omega) X.prog X.w X.xe (EP X pins σ Q) ⟨.bl _, H, I, rfl, q⟩
  · cases (show v = Value.ref a from rx)
    obtain ⟨tk, rfl⟩ := ry
    rcases hs with hs | hs
    · obtain ⟨us, r1, p1, _⟩ := I.list hs
      exact SeqAt.RcAt.list_str t tk p1.isList (by omega) X.prog X.w X.xe (EP X pins σ Q) ⟨.bl _, H, I, rfl, q⟩
    · obtain ⟨us, r1, p1, _⟩ := I.tuple hs
      exact SeqAt.RcAt.tuple_str t tk p1 (by omega) X.prog X.w X.xe (EP X pins σ Q) ⟨.bl _, H, I, rfl, q⟩
  · cases (show v = Value.ref a from rx)
    cases (show u = Value.ref b from ry)
    obtain ⟨us, r1, p1, _⟩ := I.tuple ha
    obtain ⟨ws, r2, p2, _⟩ := I.tuple hb
    cases r2
    have z := SeqAt.RcAt.tuples (A := X.A) (s := s) (e := fun _ => true) p1 p2 (by omega) (fun j h1 h2 => absurd h2 (by simp)) X.prog X.w X.xe (EP X pins σ Q)
    have e : ((List.range (min us.toArray.size ([] : List Value).toArray.size)).all (fun _ => true) && us.toArray.size == ([] : List Value).toArray.size) = xs.isEmpty := by
      have l := r1.length
      cases us with
      | nil => cases xs with
        | nil => rfl
        | cons _ _ => cases l
      | cons _ _ => cases xs with
        | nil => cases l
        | cons _ _ => simp
    rw [e] at z
    exact z ⟨.bl _, H, I, rfl, q⟩
theorem opEqX : Op2 K sEqX (rEqX K.1) := fun W hd φ H w dx dy x y Q wr rx ry p => by
  unfold sEqX at p
  unfold eqX at p
  split at p
  · rename_i b h
    split at h
    · cases h
      unfold Rep at rx ry
      obtain ⟨l, vs, rfl, _, n, _⟩ := rx
      exact .inr (.inl ⟨l, _, _, rfl, n.1, ry, p.bl wr⟩)
    · cases h
      unfold Rep at rx ry
      obtain ⟨l, vs, rfl, n, _⟩ := rx
      exact .inr (.inr (.inl ⟨l, _, _, rfl, .inr (SqT.of n.1), ry, p.bl wr⟩))
    · cases h
      unfold Rep at rx ry
      obtain ⟨l, vs, rfl, n, _⟩ := rx
      exact .inr (.inr (.inl ⟨l, _, _, rfl, .inl (SqL.of n.1), ry, p.bl wr⟩))
    · cases h
      unfold Rep at rx ry
      obtain ⟨l, xs, rfl, n, rs⟩ := rx
      obtain ⟨l2, ys, rfl, n2, rs2⟩ := ry
      unfold Reps at rs2
      subst rs2
      refine .inr (.inr (.inr ⟨l, l2, xs, rfl, rfl, SqT.of n.1, SqT.of n2.1, ?_⟩))
      have e : ∀ {ts : List T} {xs : List V}, Reps K hd φ H ts xs → xs.isEmpty = ts.isEmpty := fun {ts xs} r => by
        have l := r.len
        cases ts with
        | nil => cases xs with
          | nil => rfl
          | cons _ _ => cases l
        | cons _ _ => cases xs with
          | nil => cases l
          | cons _ _ => rfl
      rw [e rs]
      exact p.bl wr
    · obtain ⟨d, e, h1, h2, h3, h4, rfl⟩ := eqT_some h
      exact .inl ⟨d, e, dp wr rx h1, dp wr ry h2, h3, h4, p.bl wr⟩
  · exact p.elim
section
variable (hu : X.A.units + 64 < cLine) (ha : PE X a (rdE (X.K, Z) W ma)) (hb : PE X b (rdE (X.K, Z) W mb))
include hu ha hb
theorem de_eqX : PE X (.Compare a [.Eq] [b] pos) (rdE (X.K, Z) W (mOp2 sEqX ma mb)) := de_cmp (op_eqX hu) opEqX ha hb (nomark _)
theorem dt_eqX : PT X (.Compare a [.Eq] [b] pos) (rdT (X.K, Z) W (mTest (mOp2 sEqX ma mb))) := dt_cmp (op_eqX hu) opEqX ha hb (nomark _)
end
/-! ### < of data -/
open Classical in
noncomputable def sLtD : S2 := fun x y w => match pd w x, pd w y with
  | some d, some e => if PySem.W.alike d e = true ∧ d ≠ .none ∧ d.depth ≤ 60 then .ok (.bl (PySem.W.dataLt d e)) w else .no
  | _, _ => .no
def rLtD (K : PySem.W.Frag) : R2 := fun x y H Q => ∃ d e, Dp K H x d ∧ Dp K H y e ∧ PySem.W.alike d e = true ∧ d ≠ .none ∧ d.depth ≤ 60 ∧ Q (.bl (PySem.W.dataLt d e)) H
theorem op_ltD (hu : X.A.units + 64 < cLine) : OpR X (compareOp .Lt) (rLtD X.K) := by
  intro pins s σ H x y v u Q I rx ry h
  obtain ⟨d, e, hd, he, al, nn, dp, q⟩ := h
  obtain ⟨as, r1⟩ := Dp.reads I d x v hd rx
  obtain ⟨bs, r2⟩ := Dp.reads I e y u he ry
  exact PySem.W.lt_data r1 r2 al nn (by have := Nat.min_le_left d.depth e.depth; omega) ⟨.bl _, H, I, rfl, q⟩
theorem opLtD : Op2 K sLtD (rLtD K.1) := fun W hd φ H w dx dy x y Q wr rx ry p => by
  unfold sLtD at p
  split at p
  · rename_i d e h1 h2
    split at p
    · rename_i h
      exact ⟨d, e, dp wr rx h1, dp wr ry h2, h.1, h.2.1, h.2.2, p.bl wr⟩
    · exact p.elim
  · exact p.elim
theorem de_ltD (hu : X.A.units + 64 < cLine) (ha : PE X a (rdE (X.K, Z) W ma)) (hb : PE X b (rdE (X.K, Z) W mb)) : PE X (.Compare a [.Lt] [b] pos) (rdE (X.K, Z) W (mOp2 sLtD ma mb)) := de_cmp (op_ltD hu) opLtD ha hb (nomark _)
/-! ### {} as a value -/
def mC0 : ME := mC (.dct [] [])
theorem de_dct0 : PE X (.Dict [] [] pos) (rdE (X.K, Z) W mC0) := PE_imp pe_dnewK fun σ H Q => by
  rintro ⟨hd, φ, ρ, w, sr, wr, p⟩
  intro l hl
  refine p _ φ (Ext.new hl) (wr.new hl) _ ?_
  unfold Rep
  exact ⟨l, [], rfl, rfl, ⟨upd_same, wr.nin hl⟩, Reps.nil⟩
/-! ### zip of two lists or two tuples -/
def zipT : List T → List T → List T
  | x :: xs, y :: ys => .tup [x, y] :: zipT xs ys
  | _, _ => []
theorem zipT_len : ∀ xs ys : List T, (zipT xs ys).length = min xs.length ys.length
  | [], _ => by simp [zipT]
  | _ :: _, [] => by simp [zipT]
  | x :: xs, y :: ys => by simp [zipT, zipT_len xs ys]
theorem zipT_at : ∀ {xs ys : List T} {i : Nat} {u : T}, (zipT xs ys)[i]? = some u → ∃ x y, xs[i]? = some x ∧ ys[i]? = some y ∧ u = .tup [x, y]
  | [], _, i, u, h => by simp [zipT] at h
  | _ :: _, [], i, u, h => by simp [zipT] at h
  | x :: xs, y :: ys, 0, u, h => by simp [zipT] at h; exact ⟨x, y, rfl, rfl, h.symm⟩
  | x :: xs, y :: ys, i + 1, u, h => by
    simp [zipT] at h
    obtain ⟨x', y', h1, h2, h3⟩ := zipT_at h
    exact ⟨x', y', by simpa using h1, by simpa using h2, h3⟩
theorem src_zipT {hd₀ φ₀ : List Addr} {H₀ : Hp} {a b : Addr} {ts us : List T}
    (h : ∀ (D : Option Addr) hd φ H w, Off D hd₀ H₀ → ExtD D hd₀ φ₀ H₀ hd φ H → WR K hd φ H w → ∃ xs ys, SqT K.1 H a xs ∧ Reps K hd φ H ts xs ∧ SqT K.1 H b ys ∧ Reps K hd φ H us ys) : Src K hd₀ φ₀ H₀ (RZ.ItzT K.1 a b) (zipT ts us) none := fun D i hd φ H w off e wr kp => by
  obtain ⟨xs, ys, h1, h2, h3, h4⟩ := h D hd φ H w off e wr
  refine ⟨fun t ht => ?_, fun hl => ⟨xs, ys, h1, h3, ?_⟩⟩
  · obtain ⟨x, y, e1, e2, rfl⟩ := zipT_at ht
    obtain ⟨v, hv, rv⟩ := h2.at e1
    obtain ⟨u, hu, ru⟩ := h4.at e2
    refine ⟨⟨xs, ys, v, u, h1, h3, hv, hu⟩, fun z H' hz => ?_⟩
    obtain ⟨q, v', u', rfl, hq, rfl, f1, f2⟩ := hz
    cases (f1 xs h1).symm.trans hv
    cases (f2 ys h3).symm.trans hu
    refine ⟨Ext.new hq, wr.new hq, ?_⟩
    unfold Rep
    exact ⟨q, _, rfl, ⟨upd_same, wr.nin hq⟩, Reps.cons (rv.mono (Ext.new hq)) (Reps.cons (ru.mono (Ext.new hq)) Reps.nil)⟩
  · rw [zipT_len, h2.len, h4.len] at hl
    omega
theorem src_zipL {hd₀ φ₀ : List Addr} {H₀ : Hp} {a b : Addr} {ts us : List T}
    (h : ∀ (D : Option Addr) hd φ H w, Off D hd₀ H₀ → ExtD D hd₀ φ₀ H₀ hd φ H → WR K hd φ H w → ∃ xs ys, SqL K.1 H a xs ∧ Reps K hd φ H ts xs ∧ SqL K.1 H b ys ∧ Reps K hd φ H us ys) : Src K hd₀ φ₀ H₀ (Itz K.1 a b) (zipT ts us) none := fun D i hd φ H w off e wr kp => by
  obtain ⟨xs, ys, h1, h2, h3, h4⟩ := h D hd φ H w off e wr
  refine ⟨fun t ht => ?_, fun hl => ⟨xs, ys, h1, h3, ?_⟩⟩
  · obtain ⟨x, y, e1, e2, rfl⟩ := zipT_at ht
    obtain ⟨v, hv, rv⟩ := h2.at e1
    obtain ⟨u, hu, ru⟩ := h4.at e2
    refine ⟨⟨xs, ys, v, u, h1, h3, hv, hu⟩, fun z H' hz => ?_⟩
    obtain ⟨q, v', u', rfl, hq, rfl, f1, f2⟩ := hz
    cases (f1 xs h1).symm.trans hv
    cases (f2 ys h3).symm.trans hu
    refine ⟨Ext.new hq, wr.new hq, ?_⟩
    unfold Rep
    exact ⟨q, _, rfl, ⟨upd_same, wr.nin hq⟩, Reps.cons (rv.mono (Ext.new hq)) (Reps.cons (ru.mono (Ext.new hq)) Reps.nil)⟩
  · rw [zipT_len, h2.len, h4.len] at hl
    omega
/-- lists that no cell holds, or tuples -/
def flatL? : T → Option (List T)
  | .lst ts => some ts
  | .frz ts => some ts
  | _ => none
def sZip : List T → World → R (List T × OC) := fun ts w => match ts with
  | [.tup xs, .tup ys] => .ok (zipT xs ys, none) w
  | [x, y] => match flatL? x, flatL? y with
    | some xs, some ys => .ok (zipT xs ys, none) w
    | _, _ => .no
  | _ => .no
def mZip (m : MF) : MI := fun ρ w => (m ρ w).bind sZip
theorem flat_later {hd₀ φ₀ : List Addr} {H₀ : Hp} {t : T} {v : V} {ts : List T} (r : Rep K hd₀ φ₀ H₀ t v) (h : flatL? t = some ts) :
    ∃ a, v = .ref a ∧ ∀ (D : Option Addr) hd φ H w, Off D hd₀ H₀ → ExtD D hd₀ φ₀ H₀ hd φ H → WR K hd φ H w → ∃ xs, SqL K.1 H a xs ∧ Reps K hd φ H ts xs := by
  have nt : ∀ us, t ≠ .tup us := fun us e => by subst e; cases h
  have hi : items [] t = some (ts, none) := by
    cases t with
    | lst us => cases h; rfl
    | frz us => cases h; rfl
    | _ => cases h
  obtain ⟨a, e, _, f⟩ := lst_later r hi nt
  exact ⟨a, e, fun D hd φ H w o x wr => f D hd φ H w o x wr kept_none⟩
theorem di_zip {tpos : Pos} {elts : List Expr} {kk : Nat} {e2 : Expr} (hm : X.mg "zip" = none) (ha : PA X [e, e2] (rdA (X.K, Z) W m)) (hg : Gl X "zip" := by rfl)
    (hs : starEach [e, e2] X.env = (false, eval e X.env) :: starEach [e2] X.env := by rfl) (hpl : (backTo pos (starEach [e2] X.env)).any (·.1) = false := by rfl) : PI X (.Tuple elts kk tpos) (.Call (.Name "zip" p) [e, e2] [] pos) (rdI (X.K, Z) W (mZip m)) := PI_imp (RZ.pi_zipA hg hm ha hs hpl) fun σ H Q => by
  rintro ⟨hd, φ, ρ, w, sr, wr, p⟩
  refine ⟨hd, φ, ρ, w, sr, wr, Pst.then isPst p fun ts w1 φ1 H1 e1 wr1 p1 vs rvs => ?_⟩
  unfold sZip at p1
  split at p1
  · rename_i xs ys
    obtain ⟨v, u, rfl, r1, r2⟩ := reps2 rvs
    unfold Rep at r1 r2
    obtain ⟨l1, x1, rfl, n1, s1⟩ := r1
    obtain ⟨l2, x2, rfl, n2, s2⟩ := r2
    exact ⟨l1, l2, x1, x2, rfl, .inr ⟨SqT.of n1.1, SqT.of n2.1, p1 H1 φ1 Ext.refl wr1 _ (src_zipT fun D hd φ H w off e wr => ⟨x1, x2, SqT.of (n1.monoD e off).1, s1.monoD e off, SqT.of (n2.monoD e off).1, s2.monoD e off⟩)⟩⟩
  · rename_i x y _
    split at p1
    · rename_i xs ys q1 q2
      obtain ⟨v, u, rfl, r1, r2⟩ := reps2 rvs
      obtain ⟨l1, rfl, f1⟩ := flat_later r1 q1
      obtain ⟨l2, rfl, f2⟩ := flat_later r2 q2
      obtain ⟨x1, g1, _⟩ := f1 none _ _ _ _ off_none Ext.refl.toD wr1
      obtain ⟨x2, g2, _⟩ := f2 none _ _ _ _ off_none Ext.refl.toD wr1
      refine ⟨l1, l2, x1, x2, rfl, .inl ⟨g1, g2, p1 H1 φ1 Ext.refl wr1 _ (src_zipL fun D hd φ H w off e wr => ?_)⟩⟩
      obtain ⟨y1, k1, k2⟩ := f1 D hd φ H w off e wr
      obtain ⟨y2, k3, k4⟩ := f2 D hd φ H w off e wr
      exact ⟨y1, y2, k1, k2, k3, k4⟩
    · exact p1.elim
  · exact p1.elim
end
end VS

set_option Elab.async false
set_option linter.all false
set_option maxRecDepth 100000
set_option maxHeartbeats 2000000
/-! VW25: sorted(xs) of data. -/
namespace VEQ
open PySem PySem.SeqAt PySem.Calls PyProof.Rows
open PySem.AutoSeq1 (wpAny_loadPart')
open PySem.MeetsSeq
theorem dict_ne_declines (l : Addr) (es : Array DictEntry) (n : Nat) (dd : Option Addr) (sl : Array (Option Value)) (b : Str) (u : Tok) :
    Meets (Builtin.«dict.__ne__» ⟨[.ref l, .str b u], []⟩) (fun _ R s => s.heap.get? l = some { cls := .type "dict", dict := dd, data := .dict es n, slots := sl } ∧ R (.ok (.ret .notImplemented)) s) :=
  .of_wp fun prog w A R s h => by obtain ⟨hp, g, d, tk, os⟩ := s; obtain ⟨hl, h⟩ := h; have f1 := F.sub_str_dict; wp_walk using wpAny_loadPart' hl; exact ⟨_, rfl, h⟩
theorem str_ne_declines (b : Str) (u : Tok) (l : Addr) (es : Array DictEntry) (n : Nat) (dd : Option Addr) (sl : Array (Option Value)) :
    Meets (Builtin.«str.__ne__» ⟨[.str b u, .ref l], []⟩) (fun _ R s => s.heap.get? l = some { cls := .type "dict", dict := dd, data := .dict es n, slots := sl } ∧ R (.ok (.ret .notImplemented)) s) :=
  .of_wp fun prog w A R s h => by obtain ⟨hp, g, d, tk, os⟩ := s; obtain ⟨hl, h⟩ := h; wp_walk using wpAny_loadPart' hl, wpAny_load hl; exact ⟨_, rfl, h⟩
theorem dict_ne_str {prog : Program} {w : PySem.World} {A : Around} {E Q : Value → Shared → Prop} {s : Shared} {l : Addr} {o : Obj} {es : Array DictEntry} {n : Nat} (b : Str) (u : Tok) (ho : s.heap.get? l = some o) (hc : o.cls = .type "dict") (hd : o.data = .dict es n) (hu : A.units < cLine) (h : Q (.bool true) s) : wpAny (model prog w) A (richCompare .NotEq (.ref l) (.str b u)) Q E s := by
  obtain ⟨cls, dd, data, sl⟩ := o
  simp only at hc hd
  subst hc hd
  exact rc_ne_decline_or (k := false) ⟨_, ho, rfl⟩ (typeIs_str s b u) (by decide) F.sub_str_dict F.slot_dict_ne F.slot_str_ne_refl
    (fun _ hq => call_meets F.slot_dict_ne ⟨_, ho, rfl⟩ F.entry_dict_ne (F.args_dict_ne_2 _ _) (dict_ne_declines l es n dd sl b u) ⟨ho, hq⟩)
    (fun _ hq => call_meets F.slot_str_ne_refl (typeIs_str s b u) F.entry_str_ne (F.args_str_ne_2 _ _) (str_ne_declines b u l es n dd sl) ⟨ho, hq⟩)
    (fun _ hq => wpAny_of_eq (rfl : isSame (.ref l) (.str b u) = pure false) hq) (.inr hu) h
end VEQ
namespace VS
open PySem PySem.Spec PyProof.Rows L2
section
variable {prog : Program} {w : PySem.World} {A : Around} {E : Value → Shared → Prop} {s : Shared}
/-- a list is gathered: one object more -/
theorem collect_sz {Q : List Value → Shared → Prop} (l : Addr) {ty : String} {o : Obj} {xs : Array Value} {n : Nat} (hT : ty = "list" ∨ ty = "tuple") (ho : s.heap.get? l = some o) (hc : o.cls = .type ty) (hd : o.data = .seq xs n)
    (k : ∀ g : Heap, (∀ b u, s.heap.get? b = some u → g.get? b = some u) → s.heap.objs.size ≤ g.objs.size → Q xs.toList { s with heap := g }) (sz : xs.size ≤ sizeLine) : wpAny (model prog w) A (collect (.ref l)) Q E s := by
  have eL : ([] : List Value).toArray = #[] := rfl
  let h1 : Heap := s.heap.push { cls := .type "list", data := .seq ([] : List Value).toArray }
  let h2 : Heap := h1.update s.heap.objs.size (Obj.mapSeq (· ++ xs))
  have g1 : h1.get? s.heap.objs.size = some { cls := .type "list", data := .seq #[] 0 } := Heap.get?_push_size _ rfl
  have g2 := Heap.get?_update_self (Obj.mapSeq (· ++ xs)) g1 rfl
  have ex : ((#[] : Array Value) ++ xs).toList = xs.toList := by simp
  have old : ∀ b u, s.heap.get? b = some u → h2.get? b = some u := fun b u q =>
    (Heap.get?_update_other _ _ (Nat.ne_of_gt (Heap.lt_size q))).trans (Heap.get?_push_of_some _ q)
  have z1 : h1.objs.size = s.heap.objs.size + 1 := Heap.size_push ..
  have z2 : h2.objs.size = h1.objs.size := by
    show (h1.update _ _).objs.size = _
    unfold Heap.update
    simp
  unfold collect
  refine wpAny_bind (wpAny_runValue (codeAny_builtin F.entry_proto_collect ?_))
  rw [Around.under_plainId F.plain_proto_collect _]
  refine wpAny_bind (m := newList []) (wpAny_newObj_type ?_)
  refine wpAny_pure ⟨plainId_quiet F.plain_list_iadd _, codeAny_builtin F.entry_list_iadd ?_⟩
  rw [Around.under_plainId F.plain_list_iadd _]
  refine wpAny_mono (wpAny_extend_seq (hsz := sz) (A := A) (R := fun r s' => r = .ok (.ret (.ref s.heap.objs.size)) ∧ s' = { s with heap := h2 }) (s := { s with heap := h1 }) _ l _ 0 hT g1 (Heap.get?_push_of_some _ ho) hc hd ⟨rfl, rfl⟩) (fun fin s' hf => ?_) fun e s' hf => absurd hf.1 (by simp)
  have last : wpAny (model prog w) A (load s.heap.objs.size >>= fun ob => match ob.data with
      | Data.seq ys _ => pure ys.toList
      | _ => unsupported "internal:collect") Q E { s with heap := h2 } := by
    refine wpAny_bind (wpAny_load g2 (wpAny_pure ?_))
    show Q ((#[] : Array Value) ++ xs).toList _
    rw [ex]
    exact k h2 old (by rw [z2, z1]; omega)
  cases fin with
  | done f =>
    obtain ⟨e, rfl⟩ := hf
    cases e
    exact last
  | again c' =>
    exact ⟨hf.1, codeAny_mono hf.2 fun r s'' hr => by obtain ⟨rfl, rfl⟩ := hr; exact last⟩
end
section
variable {prog : Program} {w : PySem.World} {A : Around} {E : Value → Shared → Prop} {s : Shared} {β : Type} {R : Value → β → Prop} {enc : β → PyData} {vs : List Value} {bs : List β}
/-- sorted(xs), xs a list or a tuple -/
theorem sorted_sz {it : Addr} {ty : String} {o : Obj} {items : Array Value} {n : Nat} {Q : Value → Shared → Prop} (hT : ty = "list" ∨ ty = "tuple") (ho : s.heap.get? it = some o) (hc : o.cls = .type ty) (hd : o.data = .seq items n) (hi : items.toList = vs)
    (e : PySem.W.EachIs R vs bs) (er : PySem.W.EachIs (fun v b => ∃ as, Reads s.heap v (enc b) as) vs bs) (hal : PySem.W.AllAlike (bs.map enc)) (hk : PySem.W.Sortable (bs.map enc)) (hL : bs.length ≤ sizeLine)
    (hu : ∀ b, b ∈ bs → A.units + 2 + (enc b).depth < cLine)
    (k : ∀ (g : Heap) (p : Addr) (out : List Value) (ep : Nat), s.heap.objs.size ≤ p → (∀ b u, s.heap.get? b = some u → g.get? b = some u) → PySem.W.EachIs R out (bs.mergeSort (PySem.W.dataLe false enc)) → out.length = bs.length → g.get? p = some (seqObj "list" out.toArray ep) → Q (.ref p) { s with heap := g }) :
    wpAny (model prog w) A (call (.builtin "sorted") [.ref it]) Q E s := by
  have hlv : vs.length = bs.length := e.length
  refine Calls.call_function_entry kind_sorted plain_sorted entry_sorted (args_sorted1 _) ?_
  unfold Builtin.«sorted»
  refine wpAny_bind (m := checkCount "sorted" 1 1 _) (wpAny_pure ?_)
  refine wpAny_bind (collect_sz it hT ho hc hd (fun g kg zg => ?_) (by rw [← Array.length_toList, hi, hlv]; exact hL))
  rw [hi]
  refine wpAny_bind (wpAny_newList ?_ (by rw [hlv]; exact hL))
  refine wpAny_bind (wpAny_holding ?_)
  have new : (g.push (seqObj "list" vs.toArray 0)).get? g.objs.size = some (seqObj "list" vs.toArray 0) := Heap.get?_push_size _ rfl
  have kept : ∀ b u, s.heap.get? b = some u → (g.push (seqObj "list" vs.toArray 0)).get? b = some u := fun b u q => Heap.get?_push_of_some _ (kg b u q)
  have er2 : PySem.W.EachIs (fun v b => ∃ as, Reads (g.push (seqObj "list" vs.toArray 0)) v (enc b) as ∧ g.objs.size ∉ as) vs bs := er.mono fun v b ⟨as, r⟩ =>
    ⟨as, PyProof.Rows.Reads.keeps kept r, fun hm => absurd (reads_in (PyProof.Rows.Reads.keeps kg r) _ hm) (Nat.lt_irrefl _)⟩
  refine PySem.W.list_sort_data (s := { s with heap := g.push (seqObj "list" vs.toArray 0) }) (n := 0) new e er2 hal hk hL hu fun out hl ho' => ?_
  show wpAny _ _ (ret (Value.ref g.objs.size)) _ _ _
  obtain ⟨ep, at_⟩ := sortedHeap_at (vs := vs) (out := out.toArray) new
  refine wpAny_pure ⟨_, rfl, k _ _ out ep zg (fun b u q => ?_) ho' hl at_⟩
  have hb : b < g.objs.size := Heap.lt_size (kg b u q)
  rw [sortedHeap_old (Nat.ne_of_lt hb) (by show b < (g.push _).objs.size; rw [Heap.size_push]; exact Nat.lt_succ_of_lt hb)]
  exact kept b u q
end

/-- data sorted, what bears them with them -/
noncomputable def sortBy {α : Type} (ts : List α) (ds : List PyData) : List α := ((ts.zip ds).mergeSort (PySem.W.dataLe false Prod.snd)).map Prod.fst
section
variable {X : Cx} {K : KT} {hd φ : List Addr} {H : Hp} {w : World} {e : Expr} {p pos : Pos} {m : MF} {Z : List (Addr × Str)} {W : Option WX}
def rSortD (K : PySem.W.Frag) : List V → Hp → VK → Prop := fun vs H Q => ∃ (a : Addr) (xs : List V) (ds : List PyData), vs = [.ref a] ∧ (SqL K H a xs ∨ SqT K H a xs) ∧ DpAll K H xs ds ∧ PySem.W.AllAlike ds ∧ PySem.W.Sortable ds ∧ ds.length ≤ sizeLine ∧ (∀ d ∈ ds, d.depth ≤ 60) ∧
  ∀ p, H p = none → Q (.ref p) (upd H p (.lst (sortBy xs ds)))
theorem each_zip {s : Shared} {pins : List (Addr × Obj)} {σ : L2.St} (I : Inv X pins σ H s) : ∀ {xs : List V} {ds : List PyData} {us : List Value}, DpAll X.K H xs ds → Vals xs us →
    PySem.W.EachIs (fun v (b : V × PyData) => RelV b.1 v) us (xs.zip ds) ∧ PySem.W.EachIs (fun v (b : V × PyData) => ∃ as, Reads s.heap v b.2 as) us (xs.zip ds)
  | [], _, _, h, r => by cases h; cases r; exact ⟨.nil, .nil⟩
  | x :: xs, _, _, h, r => by
    cases h with
    | cons h1 h2 =>
      cases r with
      | cons r1 r2 =>
        obtain ⟨a, b⟩ := each_zip I h2 r2
        exact ⟨.cons r1 a, .cons (Dp.reads I _ _ _ h1 r1) b⟩
theorem dpAll_len : ∀ {xs : List V} {ds : List PyData}, DpAll K.1 H xs ds → xs.length = ds.length
  | [], _, h => by cases h; rfl
  | x :: xs, _, h => by cases h with | cons _ h2 => simp [dpAll_len h2]
theorem vals_each : ∀ {bs : List (V × PyData)} {us : List Value}, PySem.W.EachIs (fun v (b : V × PyData) => RelV b.1 v) us bs → Vals (bs.map Prod.fst) us
  | _, _, .nil => .nil
  | _, _, .cons h r => .cons h (vals_each r)
theorem cr_sortD (hu : X.A.units + 65 < cLine) : CallR X (.builtin "sorted") (rSortD X.K) := by
  intro pins s σ H vs us Q I r h
  obtain ⟨a, xs, ds, rfl, hs, hD, al, so, ln, dp, q⟩ := h
  rw [Vals.ref1 r]
  have lz : (xs.zip ds).length = ds.length := by
    have := dpAll_len (K := (X.K, [])) hD
    simp [this]
  have mz : (xs.zip ds).map Prod.snd = ds := List.map_snd_zip (by have := dpAll_len (K := (X.K, [])) hD; omega)
  have fin : ∀ (ty : String) (o : Obj) (items : Array Value) (n : Nat) (its : List Value), (ty = "list" ∨ ty = "tuple") → s.heap.get? a = some o → o.cls = .type ty → o.data = .seq items n → items.toList = its → Vals xs its →
      wpAny (model X.prog X.w) X.A (call (.builtin "sorted") [.ref a]) (EP X pins σ Q) X.xe s := fun ty o items n its hT ho hc hd hi rv => by
    obtain ⟨e1, e2⟩ := each_zip I hD rv
    refine sorted_sz hT ho hc hd hi e1 (enc := Prod.snd) e2 (by rw [mz]; exact al) (by rw [mz]; exact so) (by rw [lz]; exact ln) (fun b hb => ?_) fun g p out ep hp kg ho' hl at_ => ?_
    · have := dp b.2 (by rw [← mz]; exact List.mem_map.mpr ⟨b, hb, rfl⟩)
      omega
    · have hlen : (sortBy xs ds).length ≤ sizeLine := by
        unfold sortBy
        rw [List.length_map, List.length_mergeSort, lz]
        exact ln
      exact ⟨.ref p, upd H p (.lst (sortBy xs ds)), I.laid (t' := s.toks) kg hp ⟨hlen, out, ep, vals_each ho', at_⟩, rfl, q p (I.hok.fresh hp)⟩
  rcases hs with hs | hs
  · obtain ⟨its, rv, ⟨o, n, ho, hc, _, hd⟩, _⟩ := I.list hs
    exact fin "list" o _ n its (.inl rfl) ho hc hd (by simp) rv
  · obtain ⟨its, rv, ⟨o, ho, hc, n, hd⟩, _⟩ := I.tuple hs
    exact fin "tuple" o _ n its (.inr rfl) ho hc hd (by simp) rv
theorem zip3 {α β γ : Type} : ∀ {as : List α} {bs : List β} {cs : List γ}, as.length = bs.length → bs.length = cs.length → ((as.zip bs).zip cs).map (fun m => (m.1.1, m.2)) = as.zip cs ∧ ((as.zip bs).zip cs).map (fun m => (m.1.2, m.2)) = bs.zip cs
  | [], [], [], _, _ => ⟨rfl, rfl⟩
  | a :: as, b :: bs, c :: cs, h1, h2 => by
    obtain ⟨x, y⟩ := zip3 (as := as) (bs := bs) (cs := cs) (by simpa using h1) (by simpa using h2)
    exact ⟨by simp [x], by simp [y]⟩
theorem reps_sort {ts : List T} {xs : List V} {ds : List PyData} (r : Reps K hd φ H ts xs) (hl : xs.length = ds.length) : Reps K hd φ H (sortBy ts ds) (sortBy xs ds) := by
  have l1 := r.len
  obtain ⟨e1, e2⟩ := zip3 (as := ts) (bs := xs) (cs := ds) l1 hl
  unfold sortBy
  rw [← e1, ← e2]
  have k1 : (((ts.zip xs).zip ds).map fun m => (m.1.1, m.2)).mergeSort (PySem.W.dataLe false Prod.snd) = (((ts.zip xs).zip ds).mergeSort (PySem.W.dataLe false Prod.snd)).map fun m => (m.1.1, m.2) := (List.map_mergeSort (f := fun m : (T × V) × PyData => (m.1.1, m.2)) (r := PySem.W.dataLe false Prod.snd) (s := PySem.W.dataLe false Prod.snd) (fun _ _ _ _ => rfl)).symm
  have k2 : (((ts.zip xs).zip ds).map fun m => (m.1.2, m.2)).mergeSort (PySem.W.dataLe false Prod.snd) = (((ts.zip xs).zip ds).mergeSort (PySem.W.dataLe false Prod.snd)).map fun m => (m.1.2, m.2) := (List.map_mergeSort (f := fun m : (T × V) × PyData => (m.1.2, m.2)) (r := PySem.W.dataLe false Prod.snd) (s := PySem.W.dataLe false Prod.snd) (fun _ _ _ _ => rfl)).symm
  rw [k1, k2, List.map_map, List.map_map]
  have hall : ∀ m ∈ ((ts.zip xs).zip ds).mergeSort (PySem.W.dataLe false Prod.snd), Rep K hd φ H m.1.1 m.1.2 := fun m hm => by
    have hm2 := (List.mergeSort_perm _ _).mem_iff.mp hm
    have hm3 : m.1 ∈ ts.zip xs := (List.of_mem_zip (a := m.1) (b := m.2) hm2).1
    obtain ⟨i, hi, e⟩ := List.getElem_of_mem hm3
    rw [List.getElem_zip] at e
    have h1 : ts[i]? = some m.1.1 := by rw [List.getElem?_eq_getElem (by simp at hi; omega), ← e]
    obtain ⟨x, hx, rx⟩ := r.at h1
    rw [List.getElem?_eq_getElem (by simp at hi; omega)] at hx
    rw [← e] at rx ⊢
    cases hx
    exact rx
  generalize ((ts.zip xs).zip ds).mergeSort (PySem.W.dataLe false Prod.snd) = L at hall
  induction L with
  | nil => exact Reps.nil
  | cons m L ih => exact Reps.cons (hall m List.mem_cons_self) (ih fun k hk => hall k (List.mem_cons_of_mem _ hk))
open Classical in
noncomputable def sSortD : SCF := fun ds w => match ds with
  | [t] => match seq? w t with
    | some ts => match pds w ts with
      | some es => if PySem.W.AllAlike es ∧ PySem.W.Sortable es ∧ es.length ≤ sizeLine ∧ ∀ d ∈ es, d.depth ≤ 60 then .ok (sortBy ts es) w else .no
      | none => .no
    | none => .no
  | _ => .no
theorem opSortD : OpCF K sSortD (rSortD K.1) := fun W hd φ H w ds xs Q wr rx p => by
  unfold sSortD at p
  split at p
  · rename_i t
    split at p
    · rename_i ts h1
      split at p
      · rename_i es h2
        split at p
        · rename_i h
          obtain ⟨v, rfl, rv⟩ := reps1 rx
          obtain ⟨a, ys, rfl, hs, rs⟩ := seq_at wr rv h1
          have hD := dps wr rs h2
          exact ⟨a, ys, es, rfl, hs, hD, h.1, h.2.1, h.2.2.1, h.2.2.2, fun q hq => p.new wr (reps_sort rs (dpAll_len hD)) q hq⟩
        · exact p.elim
      · exact p.elim
    · exact p.elim
  · exact p.elim
theorem df_sortD (hu : X.A.units + 65 < cLine) (hm : X.mg "sorted" = none) (ha : PA X [e] (rdA (X.K, Z) W m)) (hg : Gl X "sorted" := by rfl) (he : starEach [e] X.env = (false, eval e X.env) :: starEach [] X.env := by rfl) (hpl : (backTo pos (starEach [] X.env)).any (·.1) = false := by rfl) : PE X (.Call (.Name "sorted" p) [e] [] pos) (rdF (X.K, Z) W (mCallF sSortD m)) :=
  df_callB (cr_sortD hu) opSortD hm (by decide +kernel) ha hg (by decide) (by decide) he hpl
/-! ### is not True -/
def sIsNotB : S2 := fun x y w => match x, y with
  | .bl i, .bl j => .ok (.bl (!decide (i = j))) w
  | _, _ => .no
theorem opIsNotB : Op2 K sIsNotB (fun x y H Q => ∃ a b, x = .bl a ∧ y = .bl b ∧ Q (.bl (!decide (a = b))) H) := fun W hd φ H w dx dy x y Q wr rx ry p => by
  unfold sIsNotB at p
  split at p
  · unfold Rep at rx ry
    exact ⟨_, _, rx, ry, p.bl wr⟩
  · exact p.elim
variable {a b : Expr} {ma mb : ME}
theorem de_isnotB (ha : PE X a (rdE (X.K, Z) W ma)) (hb : PE X b (rdE (X.K, Z) W mb)) : PE X (.Compare a [.IsNot] [b] pos) (rdE (X.K, Z) W (mOp2 sIsNotB ma mb)) := de_cmp op_isnot_bl opIsNotB ha hb (nomark _)
theorem dt_isnotB (ha : PE X a (rdE (X.K, Z) W ma)) (hb : PE X b (rdE (X.K, Z) W mb)) : PT X (.Compare a [.IsNot] [b] pos) (rdT (X.K, Z) W (mTest (mOp2 sIsNotB ma mb))) := dt_cmp op_isnot_bl opIsNotB ha hb (nomark _)
/-! ### != where a dict may stand -/
def neX (w : World) (x y : T) : Option Bool := match x, y with
  | .dct _ _, .str _ => some true
  | .tup _, .str _ => some true
  | .lst _, .str _ => some true
  | _, _ => (eqT w x y).map not
def sNeX : S2 := fun x y w => match neX w x y with
  | some b => .ok (.bl b) w
  | none => .no
def rNeX (K : PySem.W.Frag) : R2 := fun x y H Q => rNeD K x y H Q ∨ (∃ a kvs s, x = .ref a ∧ H a = some (.dK kvs) ∧ y = .str s ∧ Q (.bl true) H) ∨ ∃ a xs s, x = .ref a ∧ (SqL K H a xs ∨ SqT K H a xs) ∧ y = .str s ∧ Q (.bl true) H
theorem op_neX (hu : X.A.units + 64 < cLine) : OpR X (compareOp .NotEq) (rNeX X.K) := by
  intro pins s σ H x y v u Q I rx ry h
  rcases h with h | ⟨a, kvs, t, rfl, hs, rfl, q⟩ | ⟨a, xs, t, rfl, hs, rfl, q⟩
  · exact op_neD hu pins s σ H x y v u Q I rx ry h
  · cases (show v = Value.ref a from rx)
    obtain ⟨tk, rfl⟩ := ry
    obtain ⟨_, _, va, ra, o, es, ep, ho, ⟨hc, _⟩, hd, _⟩ := (show ObjOk X.prog X.w H s.heap a (.dK kvs) from I.hok a _ hs)
    exact VEQ.dict_ne_str t tk ho hc hd (by omega) ⟨.bl _, H, I, rfl, q⟩
  · cases (show v = Value.ref a from rx)
    obtain ⟨tk, rfl⟩ := ry
    rcases hs with hs | hs
    · obtain ⟨us, r1, p1, _⟩ := I.list hs
      exact SeqAt.RcNeAt.list_str t tk p1.isList (by omega) X.prog X.w X.xe (EP X pins σ Q) ⟨.bl _, H, I, rfl, q⟩
    · obtain ⟨us, r1, p1, _⟩ := I.tuple hs
      exact SeqAt.RcNeAt.tuple_str t tk p1 (by omega) X.prog X.w X.xe (EP X pins σ Q) ⟨.bl _, H, I, rfl, q⟩
theorem opNeX : Op2 K sNeX (rNeX K.1) := fun W hd φ H w dx dy x y Q wr rx ry p => by
  unfold sNeX at p
  unfold neX at p
  split at p
  · rename_i b h
    split at h
    · cases h
      unfold Rep at rx ry
      obtain ⟨l, vs, rfl, _, n, _⟩ := rx
      exact .inr (.inl ⟨l, _, _, rfl, n.1, ry, p.bl wr⟩)
    · cases h
      unfold Rep at rx ry
      obtain ⟨l, vs, rfl, n, _⟩ := rx
      exact .inr (.inr ⟨l, _, _, rfl, .inr (SqT.of n.1), ry, p.bl wr⟩)
    · cases h
      unfold Rep at rx ry
      obtain ⟨l, vs, rfl, n, _⟩ := rx
      exact .inr (.inr ⟨l, _, _, rfl, .inl (SqL.of n.1), ry, p.bl wr⟩)
    · obtain ⟨c, hc, rfl⟩ := Option.map_eq_some_iff.mp h
      obtain ⟨d, e, h1, h2, h3, h4, rfl⟩ := eqT_some hc
      exact .inl ⟨d, e, dp wr rx h1, dp wr ry h2, h3, h4, p.bl wr⟩
  · exact p.elim
theorem de_neX (hu : X.A.units + 64 < cLine) (ha : PE X a (rdE (X.K, Z) W ma)) (hb : PE X b (rdE (X.K, Z) W mb)) : PE X (.Compare a [.NotEq] [b] pos) (rdE (X.K, Z) W (mOp2 sNeX ma mb)) := de_cmp (op_neX hu) opNeX ha hb (nomark _)
theorem dt_neX (hu : X.A.units + 64 < cLine) (ha : PE X a (rdE (X.K, Z) W ma)) (hb : PE X b (rdE (X.K, Z) W mb)) : PT X (.Compare a [.NotEq] [b] pos) (rdT (X.K, Z) W (mTest (mOp2 sNeX ma mb))) := dt_cmp (op_neX hu) opNeX ha hb (nomark _)
end
end VS

set_option Elab.async false
set_option linter.all false
set_option maxRecDepth 100000
set_option maxHeartbeats 2000000
/-! VW26: instances: attributes, methods, making one. -/
namespace VS
open PySem PySem.Spec PyProof.Rows L2
/-! ### calls whose errors are told at the slots -/
section
variable {X : Cx} {CX : CXT} {k : Nat} {f C : Addr} {fd : FuncData} {ps : List Str} {sp : Sp} {E : L2.St → XK} {x m : Str} {p pos apos : Pos} {e o : Expr} {es : List Expr} {ta : TE} {t : TA}
def tMethO (C : Addr) (m : Str) (sp : Sp) (E : L2.St → XK) (ta : TE) (t : TA) : TE := fun σ H Q => ta σ H fun x H1 => ∃ a dx fs, x = .ref a ∧ H1 a = some (.ins C dx fs) ∧ fs.lookup m = none ∧ t σ H1 fun vs H2 => sp (x :: vs) H2 Q (E σ)
/-- o.m(e, ..) -/
theorem pe_methO {pl : PySem.Sem Bool} (he : PE X o ta) (c : Cls X.K C) (hm : Meth X.K C m f) (F : FnOk X.prog X.w X.K X.mg X.base CX k f fd ps sp) (hr : Room k X.A) (hb : Binds X.K fd ps []) (hx : ∀ σ, PassesAt CX X σ (E σ)) (ha : PA X (e :: es) t)
    (hst : starEach (e :: es) X.env = (false, eval e X.env) :: starEach es X.env := by rfl) (hpl : (backTo pos (starEach es X.env)).any (·.1) = false := by rfl)
    (ht : eval (.Call (.Attribute o m apos) (e :: es) [] pos) X.env = (do
      let ov ← eval o X.env
      standAt apos.atName
      let (g, first) ← holding [ov] (getMethod ov m pl)
      callWith pos g first (backTo pos (starEach (e :: es) X.env)) (backToKw pos (keywordEach [] X.env))) := by rfl) : PE X (.Call (.Attribute o m apos) (e :: es) [] pos) (tMethO C m sp E ta t) :=
  ⟨fun pins s σ H Q I h => PySem.W.methodCall_KW (pl := pl) (thn (he.run pins s σ H _ I h) fun u s1 ⟨x, H1, I1, rx, a, dx, fs, ex, ea, l, q⟩ => by
    subst ex
    obtain rfl : u = Value.ref a := rx
    exact getmeth_ok I1 ea c hm l (PySem.W.callWith_K (first := [.ref a]) (h₀ := X.base) I.ok.mod.kin hm.kp (thn (ha.run pos pins s1 σ H1 _ I1 q) fun us s2 ⟨vs, H2, I2, r, q2⟩ => ⟨I2.kIn, run_fnS (us := .ref a :: us) (vs := .ref a :: vs) F hr hb (hx σ) I2 (.cons rfl r) q2⟩) hst hpl)) ht⟩
/-- o.m() -/
theorem pe_methO0 {pl : PySem.Sem Bool} (he : PE X o ta) (c : Cls X.K C) (hm : Meth X.K C m f) (F : FnOk X.prog X.w X.K X.mg X.base CX k f fd ps sp) (hr : Room k X.A) (hb : Binds X.K fd ps []) (hx : ∀ σ, PassesAt CX X σ (E σ))
    (ht : eval (.Call (.Attribute o m apos) [] [] pos) X.env = (do
      let ov ← eval o X.env
      standAt apos.atName
      let (g, first) ← holding [ov] (getMethod ov m pl)
      callWith pos g first (backTo pos (starEach [] X.env)) (backToKw pos (keywordEach [] X.env))) := by rfl) : PE X (.Call (.Attribute o m apos) [] [] pos) (tMethO C m sp E ta tNil) :=
  ⟨fun pins s σ H Q I h => PySem.W.methodCall_KW (pl := pl) (thn (he.run pins s σ H _ I h) fun u s1 ⟨x, H1, I1, rx, a, dx, fs, ex, ea, l, q⟩ => by
    subst ex
    obtain rfl : u = Value.ref a := rx
    exact getmeth_ok I1 ea c hm l (PySem.W.callWith_K0 (first := [.ref a]) I1.kIn hm.kp (run_fnS (us := [.ref a]) (vs := [.ref a]) F hr hb (hx σ) I1 (.cons rfl .nil) q))) ht⟩
def tMakeO (C : Addr) (sp : Sp) (E : L2.St → XK) (t : TA) : TE := fun σ H Q => t σ H fun vs H1 => ∀ x dx, H1 x = none → H1 dx = none → dx ≠ x → sp (.ref x :: vs) (upd (upd H1 dx (.own x)) x (.ins C dx [])) (fun v H2 => v = .non ∧ Q (.ref x) H2) (E σ)
theorem run_makeO {pins : List (Addr × Obj)} {σ : L2.St} {H : Hp} {s : Shared} {Q : VK} {us : List Value} {vs : List V} (M : Mk X.K C f) (F : FnOk X.prog X.w X.K X.mg X.base CX k f fd ps sp) (hr : Room (k + 1) X.A) (hb : Binds X.K fd ps []) (hx : PassesAt CX X σ (E σ)) (I : Inv X pins σ H s) (r : Vals vs us)
    (h : ∀ x dx, H x = none → H dx = none → dx ≠ x → sp (.ref x :: vs) (upd (upd H dx (.own x)) x (.ins C dx [])) (fun v H2 => v = .non ∧ Q (.ref x) H2) (E σ)) : wpAny (model X.prog X.w) X.A (call (.ref C) us) (EP X pins σ Q) X.xe s := by
  have hq := h (s.heap.objs.size + 1) s.heap.objs.size (I.hok.fresh (Nat.le_succ _)) (I.hok.fresh (Nat.le_refl _)) (Nat.ne_of_lt (Nat.lt_succ_self _))
  have J := Inv.made (C := C) I
  have r2 : Vals (V.ref (s.heap.objs.size + 1) :: vs) (Value.ref (s.heap.objs.size + 1) :: us) := .cons rfl r
  have hl : (Value.ref (s.heap.objs.size + 1) :: us).length = ps.length := by
    rw [← r2.length]
    exact F.len _ _ _ _ hq
  have bb := hb _ (Value.ref (s.heap.objs.size + 1) :: us) J.kIn (by rw [List.append_nil]; exact hl)
  rw [List.append_nil] at bb
  refine wpAny_call (make_map (f := f) I.kIn M.makes M.init (beq_iff_eq.mp M.fn) (codeAny_mono (F.run _ X.stack _ _ ⟨Value.ref (s.heap.objs.size + 1) :: us, []⟩ _ _ _ (E σ) (hr.make C us []) (J.env0.make C us []) bb r2 hq) fun r s' hq' => ?_))
  cases r with
  | error e => exact hx pins _ _ e s' J hq'
  | ok fl =>
    cases fl with
    | ret u =>
      obtain ⟨v, H', I3, rv, ev, q3⟩ := J.after hq'
      subst ev
      exact ⟨rv, ⟨V.ref (s.heap.objs.size + 1), H', I3, rfl, q3⟩⟩
    | next => exact False.elim hq'
    | brk => exact False.elim hq'
    | cont => exact False.elim hq'
/-- C(e, ..) -/
theorem pe_makeO (M : Mk X.K C f) (F : FnOk X.prog X.w X.K X.mg X.base CX k f fd ps sp) (hr : Room (k + 1) X.A) (hg : Gl X x) (hm : X.mg x = some (.ref C)) (hb : Binds X.K fd ps []) (hx : ∀ σ, PassesAt CX X σ (E σ)) (ha : PA X (e :: es) t) (hdb : (x == ("__debug__" : Str)) = false := by decide)
    (he : starEach (e :: es) X.env = (false, eval e X.env) :: starEach es X.env := by rfl) (hpl : (backTo pos (starEach es X.env)).any (·.1) = false := by rfl) : PE X (.Call (.Name x p) (e :: es) [] pos) (tMakeO C sp E t) :=
  ⟨fun pins s σ H Q I h => wpAny_Call_Name_kw (ld_glob I hg hm (PySem.W.callWith_K (h₀ := X.base) I.ok.mod.kin M.kp (thn (ha.run pos pins s σ H _ I h) fun us s1 ⟨vs, H1, I1, r, q⟩ => ⟨I1.kIn, run_makeO M F hr hb (hx σ) I1 r q⟩) he hpl) hdb)⟩
/-- C() -/
theorem pe_makeO0 (M : Mk X.K C f) (F : FnOk X.prog X.w X.K X.mg X.base CX k f fd ps sp) (hr : Room (k + 1) X.A) (hg : Gl X x) (hm : X.mg x = some (.ref C)) (hb : Binds X.K fd ps []) (hx : ∀ σ, PassesAt CX X σ (E σ)) (hdb : (x == ("__debug__" : Str)) = false := by decide) :
    PE X (.Call (.Name x p) [] [] pos) (tMakeO C sp E tNil) :=
  ⟨fun pins s σ H Q I h => wpAny_Call_Name_kw (ld_glob I hg hm (PySem.W.callWith_K0 I.kIn M.kp (run_makeO (us := []) M F hr hb (hx σ) I .nil h)) hdb)⟩
end
end VS

set_option Elab.async false
set_option linter.all false
set_option maxRecDepth 100000
set_option maxHeartbeats 2000000
/-! VW27: instances as cells. -/
namespace VS
open PySem PySem.Spec PyProof.Rows L2
/-- the classes and the attributes of their instances -/
structure ObTab (K : PySem.W.Frag) (tab : List (Str × List Str)) : Prop where
  ex : ∀ p ∈ tab, ∀ C, GlbAt K p.1 C → Cls K C ∧ ∀ f ∈ p.2, NoAttr K C f
def inTab (tab : List (Str × List Str)) (x f : Str) : Bool := tab.any fun p => p.1 == x && p.2.contains f
theorem ObTab.at {K : PySem.W.Frag} {tab : List (Str × List Str)} {x f : Str} {C : Addr} (T : ObTab K tab) (h : inTab tab x f = true) (g : GlbAt K x C) : Cls K C ∧ NoAttr K C f := by
  obtain ⟨p, hp, h2⟩ := List.any_eq_true.mp h
  rw [Bool.and_eq_true] at h2
  obtain ⟨h3, h4⟩ := h2
  have e : p.1 = x := beq_iff_eq.mp h3
  obtain ⟨c, n⟩ := T.ex p hp C (by rw [e]; exact g)
  exact ⟨c, n f (by simpa using h4)⟩
def getF : List Str → List T → Str → Option T
  | k :: ks, t :: ts, f => if f = k then some t else getF ks ts f
  | _, _, _ => none
def putO {α : Type} : List Str → List α → Str → α → List Str × List α
  | k :: ks, t :: ts, f, y => if k = f then (k :: ks, y :: ts) else (k :: (putO ks ts f y).1, t :: (putO ks ts f y).2)
  | _, _, f, y => ([f], [y])
section
variable {K : KT} {hd φ : List Addr} {H : Hp}
theorem getF_at : ∀ {ks : List Str} {ts : List T} {vs : List V} {f : Str} {t : T}, Reps K hd φ H ts vs → getF ks ts f = some t → ∃ v, (ks.zip vs).lookup f = some v ∧ Rep K hd φ H t v
  | [], ts, vs, f, t, r, h => by cases h
  | k :: ks, [], vs, f, t, r, h => by cases h
  | k :: ks, u :: ts, vs, f, t, r, h => by
    unfold Reps at r
    obtain ⟨x, xs, rfl, r1, r2⟩ := r
    unfold getF at h
    rw [List.zip_cons_cons, List.lookup_cons]
    split at h
    · rename_i e
      cases h
      exact ⟨x, by simp [e], r1⟩
    · rename_i e
      obtain ⟨v, h1, h2⟩ := getF_at r2 h
      have : (f == k) = false := by simpa using e
      exact ⟨v, by rw [this]; exact h1, h2⟩
theorem no_lookup {α : Type} {m : Str} : ∀ {ks : List Str} {vs : List α}, m ∉ ks → (ks.zip vs).lookup m = none
  | [], vs, _ => rfl
  | k :: ks, [], _ => rfl
  | k :: ks, v :: vs, h => by
    have e : (m == k) = false := by
      have : ¬ m = k := fun e => h (by rw [e]; exact List.mem_cons_self)
      simpa using this
    rw [List.zip_cons_cons, List.lookup_cons, e]
    exact no_lookup fun z => h (List.mem_cons_of_mem _ z)
theorem putO_zip {f : Str} {v : V} : ∀ {ks : List Str} {vs : List V}, ks.length = vs.length → putF f v (ks.zip vs) = (putO ks vs f v).1.zip (putO ks vs f v).2
  | [], [], _ => rfl
  | k :: ks, x :: vs, h => by
    have ih := putO_zip (f := f) (v := v) (ks := ks) (vs := vs) (by simpa using h)
    rw [List.zip_cons_cons]
    unfold putF putO
    split
    · rfl
    · rw [List.zip_cons_cons, ih]
theorem putO_len {α : Type} {f : Str} {y : α} : ∀ {ks : List Str} {ts : List α}, ks.length = ts.length → (putO ks ts f y).1.length = (putO ks ts f y).2.length
  | [], [], _ => rfl
  | k :: ks, x :: vs, h => by
    have ih := putO_len (f := f) (y := y) (ks := ks) (ts := vs) (by simpa using h)
    unfold putO
    split
    · simpa using h
    · simp [ih]
theorem putO_reps {f : Str} {y : T} {v : V} (ry : Rep K hd φ H y v) : ∀ {ks : List Str} {ts : List T} {vs : List V}, ks.length = ts.length → Reps K hd φ H ts vs → (putO ks ts f y).1 = (putO ks vs f v).1 ∧ Reps K hd φ H (putO ks ts f y).2 (putO ks vs f v).2
  | [], [], vs, _, r => by unfold Reps at r; subst r; exact ⟨rfl, Reps.cons ry Reps.nil⟩
  | k :: ks, t :: ts, vs, h, r => by
    unfold Reps at r
    obtain ⟨x, xs, rfl, r1, r2⟩ := r
    obtain ⟨h1, h2⟩ := putO_reps (f := f) ry (ks := ks) (by simpa using h) r2
    unfold putO
    split
    · exact ⟨rfl, Reps.cons ry r2⟩
    · exact ⟨by rw [h1], Reps.cons r1 h2⟩
end
section
variable {X : Cx} {Z : List (Addr × Str)} {W : Option WX} {K : KT} {hd φ : List Addr} {H : Hp} {w : World} {e o : Expr} {es : List Expr} {x f m : Str} {p pos apos : Pos} {mo mv : ME} {ma : MF} {tab : List (Str × List Str)}
/-! ### o.f -/
def sFldT (tab : List (Str × List Str)) (f : Str) : T → World → R T := fun d w => match d with
  | .cell k => match w[k]? with
    | some (.obj x ks ts) => if inTab tab x f = true then match getF ks ts f with
      | some t => .ok t w
      | none => .no
      else .no
    | _ => .no
  | _ => .no
def mFld (tab : List (Str × List Str)) (f : Str) (a : ME) : ME := fun ρ w => (a ρ w).bind (sFldT tab f)
theorem de_fld (T : ObTab X.K tab) (he : PE X e (rdE (X.K, Z) W mo)) (hb : attributeBase e f X.env (eval e X.env) = eval e X.env := by rfl) : PE X (.Attribute e f pos) (rdE (X.K, Z) W (mFld tab f mo)) := PE_imp (pe_fld he hb) fun σ H Q => by
  rintro ⟨hd, φ, ρ, w, sr, wr, p⟩
  refine ⟨hd, φ, ρ, w, sr, wr, Pst.then isPst p fun d w1 φ1 H1 e1 wr1 p1 v rv => ?_⟩
  unfold sFldT at p1
  split at p1
  · rename_i k
    split at p1
    · rename_i x ks ts hk
      split at p1
      · rename_i hin
        split at p1
        · rename_i t hg
          obtain ⟨a, rfl, hφ, _, C, dx, vs, h1, h2, h3, h4, h5⟩ := cell_at wr1 rv hk
          obtain ⟨c, n⟩ := T.at hin h2
          obtain ⟨u, l, ru⟩ := getF_at h5 hg
          exact ⟨a, C, dx, _, u, rfl, h1, c, n, l, p1.ok wr1 _ ru⟩
        · exact p1.elim
      · exact p1.elim
    · exact p1.elim
  · exact p1.elim
/-! ### o.f = v -/
def mSetF (tab : List (Str × List Str)) (f : Str) (a b : ME) : MS := fun ρ w => (b ρ w).bind fun y w1 => (a ρ w1).bind fun d w2 => match d with
  | .cell k => match w2[k]? with
    | some (.obj x ks ts) => if inTab tab x f = true ∧ ks.length < 1000 then .ok (ρ, .nx) (w2.set k (.obj x (putO ks ts f y).1 (putO ks ts f y).2)) else .no
    | _ => .no
  | _ => .no
theorem ds_setF {pos' : Pos} {v : Expr} (T : ObTab X.K tab) (ho : PE X o (rdE (X.K, Z) W mo)) (hv : PE X v (rdE (X.K, Z) W mv)) (hs : swapsWith v (some (.Attribute o f pos')) pos.line X.env = pure false := by rfl) : PS X (.Assign [.Attribute o f pos'] v pos) (rdS (X.K, Z) W (mSetF tab f mo mv)) := PS_imp (ps_fld ho hv hs) fun D σ H => by
  rintro ⟨hd, φ, ρ, w, sr, wr, p⟩
  refine ⟨hd, φ, ρ, w, sr, wr, Pst.then isPst p fun y w1 φ1 H1 e1 wr1 p1 v rv => ?_⟩
  refine ⟨hd, φ1, ρ, w1, sr.mono e1, wr1, Pst.then isPst p1 fun d w2 φ2 H2 e2 wr2 p2 u ru => ?_⟩
  split at p2
  · rename_i k
    split at p2
    · rename_i x ks ts hk
      split at p2
      · rename_i hin
        obtain ⟨a, rfl, hφ, ha, C, dx, vs, h1, h2, h3, h4, h5⟩ := cell_at wr2 ru hk
        obtain ⟨c, n⟩ := T.at hin.1 h2
        have lv : ks.length = vs.length := h3.trans h5.len
        refine ⟨a, C, dx, _, rfl, h1, c, n, by rw [List.length_zip]; omega, ?_⟩
        rw [putO_zip lv]
        have eW : Ext hd φ2 H2 hd φ2 (upd H2 a (.ins C dx ((putO ks vs f v).1.zip (putO ks vs f v).2))) := Ext.write ha
        obtain ⟨q1, q2⟩ := putO_reps (f := f) (rv.mono e2) h3 h5
        have dn : dx ≠ a := fun z => by
          have := h4.1
          rw [z, h1] at this
          cases this
        have wr3 : WR (X.K, Z) hd φ2 (upd H2 a (.ins C dx ((putO ks vs f v).1.zip (putO ks vs f v).2))) (w2.set k (.obj x (putO ks ts f y).1 (putO ks ts f y).2)) := wr2.write hφ
          ⟨C, dx, (putO ks vs f v).2, by rw [q1]; exact upd_same, h2, putO_len h3, ⟨by rw [upd_ne dn]; exact h4.1, h4.2⟩, q2.mono eW⟩
        exact p2 _ φ2 eW wr3 _ (((sr.mono e1).mono e2).mono eW)
      · exact p2.elim
    · exact p2.elim
  · exact p2.elim
end
end VS

set_option Elab.async false
set_option linter.all false
set_option maxRecDepth 100000
set_option maxHeartbeats 2000000
/-! VW28: methods of instances, making an instance. -/
namespace VS
open PySem PySem.Spec PyProof.Rows L2
/-- a method as it stands behind the top, and what it is worth -/
structure MtD (P : Program) (w : PySem.World) (K : PySem.W.Frag) (Z : List (Addr × Str)) (mg : Str → Option Value) (base : Heap) (k : Nat) (x m : Str) (ps : List Str) (f : Sem) : Prop where
  ex : ∃ (C fa : Addr) (fd : FuncData), GlbAt K x C ∧ Cls K C ∧ Meth K C m fa ∧ FnOk P w K mg base (L2.CX P w) k fa fd ps (spOf (K, Z) ps.length f) ∧ Binds K fd ps []
/-- making an instance: its __init__ -/
structure MkD (P : Program) (w : PySem.World) (K : PySem.W.Frag) (Z : List (Addr × Str)) (mg : Str → Option Value) (base : Heap) (k : Nat) (x : Str) (ps : List Str) (f : Sem) : Prop where
  ex : ∃ (C fa : Addr) (fd : FuncData), GlbAt K x C ∧ mg x = some (.ref C) ∧ Mk K C fa ∧ FnOk P w K mg base (L2.CX P w) k fa fd ps (spOf (K, Z) ps.length f) ∧ Binds K fd ps []
/-- an instance of x without an attribute m -/
def isInst (x m : Str) (w : World) : T → Bool
  | .cell k => match w[k]? with
    | some (.obj y ks _) => y == x && !ks.contains m
    | _ => false
  | _ => false
def mMth (x m : Str) (n : Nat) (f : Sem) (a : ME) (r : MF) : ME := fun ρ w => (a ρ w).bind fun d w1 => if isInst x m w1 d = true then (r ρ w1).bind fun ds w2 => if ds.length + 1 = n then (f (d :: ds) w2).at ρ else .no else .no
def mMake (x : Str) (n : Nat) (f : Sem) (r : MF) : ME := fun ρ w => (r ρ w).bind fun ds w1 => if ds.length + 1 = n then ((f (.cell w1.length :: ds) (w1 ++ [.obj x [] []])).at ρ).bind fun t w2 => match t with
  | .non => .ok (.cell w1.length) w2
  | _ => .no else .no
section
variable {X : Cx} {Z : List (Addr × Str)} {W : Option WX} {K : KT} {hd φ : List Addr} {H : Hp} {w : World} {e o : Expr} {es : List Expr} {x m : Str} {p pos apos : Pos} {mo : ME} {ma : MF} {k n : Nat} {ps : List Str} {f : Sem}
theorem inst_at (wr : WR K hd φ H w) {d : T} {v : V} (r : Rep K hd φ H d v) (h : isInst x m w d = true) {C : Addr} (g : GlbAt K.1 x C) : ∃ a dx fs, v = .ref a ∧ H a = some (.ins C dx fs) ∧ fs.lookup m = none := by
  unfold isInst at h
  split at h
  · rename_i k
    split at h
    · rename_i y ks ts hk
      rw [Bool.and_eq_true] at h
      have e : y = x := beq_iff_eq.mp h.1
      subst e
      obtain ⟨a, rfl, _, _, C', dx, vs, h1, h2, _⟩ := cell_at wr r hk
      cases GlbAt.inj g h2
      exact ⟨a, dx, _, rfl, h1, no_lookup (by simpa using h.2)⟩
    · cases h
  · cases h
theorem mth_read {C : Addr} (g : GlbAt K.1 x C) : ∀ σ H Q, rdE K W (mMth x m n f mo ma) σ H Q → tMethO C m (spOf K n f) (wE W) (rdE K W mo) (rdA K W ma) σ H Q := fun σ H Q => by
  rintro ⟨hd, φ, ρ, w, sr, wr, q⟩
  refine ⟨hd, φ, ρ, w, sr, wr, Pst.then isPst q fun d w1 φ1 H1 e1 wr1 p1 v rv => ?_⟩
  split at p1
  · rename_i hi
    obtain ⟨a, dx, fs, rfl, h1, h2⟩ := inst_at wr1 rv hi g
    refine ⟨a, dx, fs, rfl, h1, h2, hd, φ1, ρ, w1, sr.mono e1, wr1, Pst.then isPst p1 fun ds w2 φ2 H2 e2 wr2 p2 vs rvs => ?_⟩
    split at p2
    · rename_i hl
      exact ⟨hd, φ2, w2, d :: ds, by simpa using hl, wr2, Reps.cons (rv.mono e2) rvs, p2.callee ((sr.mono e1).mono e2)⟩
    · exact p2.elim
  · exact p1.elim
theorem rdA_nil : ∀ σ H Q, rdA K W mNil σ H Q → tNil σ H Q := fun σ H Q => by
  rintro ⟨hd, φ, ρ, w, sr, wr, p⟩
  exact p.ok wr _ Reps.nil
theorem de_mth {pl : PySem.Sem Bool} (D : MtD X.prog X.w X.K Z X.mg X.base k x m ps f) (tk : TakesO X W) (hr : Room k X.A) (ho : PE X o (rdE (X.K, Z) W mo)) (ha : PA X (e :: es) (rdA (X.K, Z) W ma)) (hn : ps.length = n := by rfl)
    (hst : starEach (e :: es) X.env = (false, eval e X.env) :: starEach es X.env := by rfl) (hpl : (backTo pos (starEach es X.env)).any (·.1) = false := by rfl)
    (ht : eval (.Call (.Attribute o m apos) (e :: es) [] pos) X.env = (do
      let ov ← eval o X.env
      standAt apos.atName
      let (g, first) ← holding [ov] (getMethod ov m pl)
      callWith pos g first (backTo pos (starEach (e :: es) X.env)) (backToKw pos (keywordEach [] X.env))) := by rfl) : PE X (.Call (.Attribute o m apos) (e :: es) [] pos) (rdE (X.K, Z) W (mMth x m n f mo ma)) := by
  subst hn
  obtain ⟨C, fa, fd, g, c, me, ok, hb⟩ := D.ex
  exact PE_imp (pe_methO (E := wE W) ho c me ok hr hb (passO tk) ha hst hpl ht) (mth_read g)
theorem de_mth0 {pl : PySem.Sem Bool} (D : MtD X.prog X.w X.K Z X.mg X.base k x m ps f) (tk : TakesO X W) (hr : Room k X.A) (ho : PE X o (rdE (X.K, Z) W mo)) (hn : ps.length = n := by rfl)
    (ht : eval (.Call (.Attribute o m apos) [] [] pos) X.env = (do
      let ov ← eval o X.env
      standAt apos.atName
      let (g, first) ← holding [ov] (getMethod ov m pl)
      callWith pos g first (backTo pos (starEach [] X.env)) (backToKw pos (keywordEach [] X.env))) := by rfl) : PE X (.Call (.Attribute o m apos) [] [] pos) (rdE (X.K, Z) W (mMth x m n f mo mNil)) := by
  subst hn
  obtain ⟨C, fa, fd, g, c, me, ok, hb⟩ := D.ex
  refine PE_imp (pe_methO0 (E := wE W) ho c me ok hr hb (passO tk) ht) fun σ H Q q => ?_
  obtain ⟨hd, φ, ρ, w, sr, wr, q2⟩ := mth_read (K := (X.K, Z)) g σ H Q q
  refine ⟨hd, φ, ρ, w, sr, wr, q2.imp fun d φ1 H1 e1 h v rv => ?_⟩
  obtain ⟨a, dx, fs, h1, h2, h3, h4⟩ := h v rv
  exact ⟨a, dx, fs, h1, h2, h3, rdA_nil _ _ _ h4⟩
/-! ### C(e, ..) -/
theorem make_read {C : Addr} (g : GlbAt K.1 x C) : ∀ σ H Q, rdE K W (mMake x n f ma) σ H Q → tMakeO C (spOf K n f) (wE W) (rdA K W ma) σ H Q := fun σ H Q => by
  rintro ⟨hd, φ, ρ, w, sr, wr, q⟩
  refine ⟨hd, φ, ρ, w, sr, wr, Pst.then isPst q fun ds w1 φ1 H1 e1 wr1 p1 vs rvs => ?_⟩
  intro y dx hy hdx hne
  split at p1
  · rename_i hl
    have w2 : WR K hd φ1 (upd H1 dx (.own y)) w1 := wr1.new hdx
    have ey : Ext hd φ1 H1 hd φ1 (upd H1 dx (.own y)) := Ext.new hdx
    have hy2 : (upd H1 dx (.own y)) y = none := by rw [upd_ne (Ne.symm hne)]; exact hy
    have nin := wr1.nin hdx
    have nny := wr1.nin hy
    have hc : CellR K (y :: hd) φ1 (upd (upd H1 dx (.own y)) y (.ins C dx [])) (.obj x [] []) y := by
      refine ⟨C, dx, [], upd_same, g, rfl, ⟨by rw [upd_ne hne]; exact upd_same, nin.1, fun z => ?_⟩, Reps.nil⟩
      rcases List.mem_cons.mp z with z | z
      · exact hne z
      · exact nin.2 z
    have w3 := (w2.hold (o := .ins C dx []) hy2).cell nny.2 hc
    have e3 : Ext hd φ1 H1 hd (φ1 ++ [y]) (upd (upd H1 dx (.own y)) y (.ins C dx [])) := ey.trans ((Ext.hold hy2).cell (fr0_none hy2))
    have ry : Rep K hd (φ1 ++ [y]) (upd (upd H1 dx (.own y)) y (.ins C dx [])) (.cell w1.length) (.ref y) := by
      unfold Rep
      refine ⟨y, rfl, ?_⟩
      rw [← wr1.len, List.getElem?_append_right (Nat.le_refl _)]
      simp
    refine ⟨hd, φ1 ++ [y], w1 ++ [.obj x [] []], .cell w1.length :: ds, by simpa using hl, w3, Reps.cons ry (rvs.mono e3), ?_⟩
    have sr3 := (sr.mono e1).mono e3
    cases hf : f (.cell w1.length :: ds) (w1 ++ [.obj x [] []]) with
    | no => rw [hf] at p1; exact p1.elim
    | ex t ρ' w' =>
      rw [hf] at p1
      cases W with
      | none => exact p1.elim
      | some W => intro H' φ' σ' e wr' _ cls d rx; exact p1 H' φ' σ (e3.trans e) wr' (sr3.mono e) cls d rx
    | ok t w' =>
      rw [hf, at_ok, bind_ok] at p1
      intro H' φ' e wr' v rv
      split at p1
      · unfold Rep at rv
        subst rv
        exact ⟨rfl, p1 H' φ' (e3.trans e) wr' _ (ry.mono e)⟩
      · exact p1.elim
  · exact p1.elim
theorem de_make (D : MkD X.prog X.w X.K Z X.mg X.base k x ps f) (tk : TakesO X W) (hr : Room (k + 1) X.A) (ha : PA X (e :: es) (rdA (X.K, Z) W ma)) (hn : ps.length = n := by rfl) (hg : Gl X x := by rfl) (hdb : (x == ("__debug__" : Str)) = false := by decide)
    (he : starEach (e :: es) X.env = (false, eval e X.env) :: starEach es X.env := by rfl) (hpl : (backTo pos (starEach es X.env)).any (·.1) = false := by rfl) : PE X (.Call (.Name x p) (e :: es) [] pos) (rdE (X.K, Z) W (mMake x n f ma)) := by
  subst hn
  obtain ⟨C, fa, fd, g, hm, mk, ok, hb⟩ := D.ex
  exact PE_imp (pe_makeO (E := wE W) mk ok hr hg hm hb (passO tk) ha hdb he hpl) (make_read g)
theorem de_make0 (D : MkD X.prog X.w X.K Z X.mg X.base k x ps f) (tk : TakesO X W) (hr : Room (k + 1) X.A) (hn : ps.length = n := by rfl) (hg : Gl X x := by rfl) (hdb : (x == ("__debug__" : Str)) = false := by decide) : PE X (.Call (.Name x p) [] [] pos) (rdE (X.K, Z) W (mMake x n f mNil)) := by
  subst hn
  obtain ⟨C, fa, fd, g, hm, mk, ok, hb⟩ := D.ex
  exact PE_imp (pe_makeO0 (E := wE W) mk ok hr hg hm hb (passO tk) hdb) fun σ H Q q => rdA_nil _ _ _ (make_read (K := (X.K, Z)) g σ H Q q)
end
end VS

set_option Elab.async false
set_option linter.all false
set_option maxRecDepth 100000
set_option maxHeartbeats 2000000
/-! VW29: methods called with keywords; methods and makers by the written part. -/
namespace VS
open PySem PySem.Spec PyProof.Rows L2
structure MtP (P : Program) (w : PySem.World) (K : PySem.W.Frag) (Z : List (Addr × Str)) (mg : Str → Option Value) (base : Heap) (k : Nat) (x m : Str) (n np : Nat) (ks : List Str) (ix : List Nat) (f : Sem) : Prop where
  ex : ∃ (C fa : Addr) (fd : FuncData) (ps : List Str), ps.length = n ∧ GlbAt K x C ∧ Cls K C ∧ Meth K C m fa ∧ FnOk P w K mg base (L2.CX P w) k fa fd ps (spOf (K, Z) n f) ∧ KBinds K fd ps ks (gP np ks.length ix) (gP np ks.length ix)
def mMthP (x m : Str) (n np nk : Nat) (ix : List Nat) (f : Sem) (a : ME) (r rk : MF) : ME := fun ρ w => (a ρ w).bind fun d w1 => if isInst x m w1 d = true then (r ρ w1).bind fun ds w2 => (rk ρ w2).bind fun es w3 =>
  if ds.length + 1 = np ∧ es.length = nk ∧ (prm ix (d :: ds ++ es)).length = n then (f (prm ix (d :: ds ++ es)) w3).at ρ else .no else .no
section
variable {X : Cx} {Z : List (Addr × Str)} {W : Option WX} {K : KT} {e o : Expr} {es : List Expr} {kws : List Keyword} {x m : Str} {p pos apos : Pos} {mo : ME} {ma mk : MF} {k n np nk : Nat} {ps ks : List Str} {ix : List Nat} {f : Sem}
def tMethKO (C : Addr) (m : Str) (sp : Sp) (gV : List V → List V → List V) (E : L2.St → XK) (ta : TE) (t tk : TA) : TE := fun σ H Q => ta σ H fun x H1 => ∃ a dx fs, x = .ref a ∧ H1 a = some (.ins C dx fs) ∧ fs.lookup m = none ∧ t σ H1 fun vs H2 => tk σ H2 fun zs H3 => sp (gV (x :: vs) zs) H3 Q (E σ)
theorem mthP_read {C : Addr} (g : GlbAt K.1 x C) : ∀ σ H Q, rdE K W (mMthP x m n np nk ix f mo ma mk) σ H Q → tMethKO C m (spOf K n f) (gP np nk ix) (wE W) (rdE K W mo) (rdA K W ma) (rdA K W mk) σ H Q := fun σ H Q => by
  rintro ⟨hd, φ, ρ, w, sr, wr, q⟩
  refine ⟨hd, φ, ρ, w, sr, wr, Pst.then isPst q fun d w1 φ1 H1 e1 wr1 p1 v rv => ?_⟩
  split at p1
  · rename_i hi
    obtain ⟨a, dx, fs, rfl, h1, h2⟩ := inst_at wr1 rv hi g
    refine ⟨a, dx, fs, rfl, h1, h2, hd, φ1, ρ, w1, sr.mono e1, wr1, Pst.then isPst p1 fun ds w2 φ2 H2 e2 wr2 p2 vs rvs => ?_⟩
    refine ⟨hd, φ2, ρ, w2, (sr.mono e1).mono e2, wr2, Pst.then isPst p2 fun zs w3 φ3 H3 e3 wr3 p3 vz rz => ?_⟩
    split at p3
    · rename_i hc
      have e : gP np nk ix (.ref a :: vs) vz = prm ix (.ref a :: vs ++ vz) := by unfold gP; rw [if_pos ⟨by rw [List.length_cons, ← rvs.len]; exact hc.1, by rw [← rz.len]; exact hc.2.1⟩]
      rw [e]
      exact ⟨hd, φ3, w3, prm ix (d :: ds ++ zs), hc.2.2, wr3, prm_reps ((Reps.cons ((rv.mono e2).mono e3) (rvs.mono e3)).append rz) ix, p3.callee (((sr.mono e1).mono e2).mono e3)⟩
    · exact p3.elim
  · exact p1.elim
theorem de_mthP0 {pl : PySem.Sem Bool} (D : MtP X.prog X.w X.K Z X.mg X.base k x m n 1 ks ix f) (tk : TakesO X W) (hr : Room k X.A) (ho : PE X o (rdE (X.K, Z) W mo)) (hkw : PK X kws (rdA (X.K, Z) W mk))
    (hall : (backToKw pos (keywordEach kws X.env)).all (·.1.isSome) = true := by rfl) (hks : (backToKw pos (keywordEach kws X.env)).filterMap (·.1) = ks := by rfl)
    (hpl : ((backTo pos (starEach [] X.env)).any (·.1) || (backToKw pos (keywordEach kws X.env)).any (·.1.isNone)) = false := by rfl) (hnk : ks.length = nk := by rfl)
    (ht : eval (.Call (.Attribute o m apos) [] kws pos) X.env = (do
      let ov ← eval o X.env
      standAt apos.atName
      let (g, first) ← holding [ov] (getMethod ov m pl)
      callWith pos g first (backTo pos (starEach [] X.env)) (backToKw pos (keywordEach kws X.env))) := by rfl) : PE X (.Call (.Attribute o m apos) [] kws pos) (rdE (X.K, Z) W (mMthP x m n 1 nk ix f mo mNil mk)) := by
  subst hnk
  obtain ⟨C, fa, fd, ps, hn, g, c, me, ok, hb⟩ := D.ex
  refine PE_imp (t := tMethKO C m (spOf (X.K, Z) n f) (gP 1 ks.length ix) (wE W) (rdE (X.K, Z) W mo) (rdA (X.K, Z) W mNil) (rdA (X.K, Z) W mk)) ⟨fun pins s σ H Q I h => ?_⟩ (mthP_read g)
  refine PySem.W.methodCall_KW (pl := pl) (thn (ho.run pins s σ H _ I h) fun u s1 ⟨y, H1, I1, rx, a, dx, fs, ex, ea, l, q⟩ => ?_) ht
  subst ex
  obtain rfl : u = Value.ref a := rx
  have q := rdA_nil _ _ _ q
  refine getmeth_ok I1 ea c me l (PySem.W.callWith_KW0 (first := [.ref a]) (h₀ := X.base) I.ok.mod.kin me.kp hall (thn (hkw.run pos pins s1 σ H1 _ I1 q) fun ws s2 ⟨zs, H2, I2, rz, q2⟩ => ⟨I2.kIn, ?_⟩) hpl)
  rw [hks]
  exact run_fnkO (us := [.ref a]) (vs := [.ref a]) ok hr hb (passO tk σ) I2 (.cons rfl .nil) rz q2
theorem de_mthP {pl : PySem.Sem Bool} (D : MtP X.prog X.w X.K Z X.mg X.base k x m n np ks ix f) (tk : TakesO X W) (hr : Room k X.A) (ho : PE X o (rdE (X.K, Z) W mo)) (ha : PA X (e :: es) (rdA (X.K, Z) W ma)) (hkw : PK X kws (rdA (X.K, Z) W mk))
    (hall : (backToKw pos (keywordEach kws X.env)).all (·.1.isSome) = true := by rfl) (hks : (backToKw pos (keywordEach kws X.env)).filterMap (·.1) = ks := by rfl)
    (he : starEach (e :: es) X.env = (false, eval e X.env) :: starEach es X.env := by rfl)
    (hpl : ((backTo pos (starEach (e :: es) X.env)).any (·.1) || (backToKw pos (keywordEach kws X.env)).any (·.1.isNone)) = false := by rfl) (hnk : ks.length = nk := by rfl)
    (ht : eval (.Call (.Attribute o m apos) (e :: es) kws pos) X.env = (do
      let ov ← eval o X.env
      standAt apos.atName
      let (g, first) ← holding [ov] (getMethod ov m pl)
      callWith pos g first (backTo pos (starEach (e :: es) X.env)) (backToKw pos (keywordEach kws X.env))) := by rfl) : PE X (.Call (.Attribute o m apos) (e :: es) kws pos) (rdE (X.K, Z) W (mMthP x m n np nk ix f mo ma mk)) := by
  subst hnk
  obtain ⟨C, fa, fd, ps, hn, g, c, me, ok, hb⟩ := D.ex
  refine PE_imp (t := tMethKO C m (spOf (X.K, Z) n f) (gP np ks.length ix) (wE W) (rdE (X.K, Z) W mo) (rdA (X.K, Z) W ma) (rdA (X.K, Z) W mk)) ⟨fun pins s σ H Q I h => ?_⟩ (mthP_read g)
  refine PySem.W.methodCall_KW (pl := pl) (thn (ho.run pins s σ H _ I h) fun u s1 ⟨y, H1, I1, rx, a, dx, fs, ex, ea, l, q⟩ => ?_) ht
  subst ex
  obtain rfl : u = Value.ref a := rx
  refine getmeth_ok I1 ea c me l (PySem.W.callWith_KW (first := [.ref a]) (h₀ := X.base) I.ok.mod.kin me.kp hall (thn (ha.run pos pins s1 σ H1 _ I1 q) fun us s2 ⟨vs, H2, I2, r, q2⟩ => thn (hkw.run pos pins s2 σ H2 _ I2 q2) fun ws s3 ⟨zs, H3, I3, rz, q3⟩ => ⟨I3.kIn, ?_⟩) hpl he)
  rw [hks]
  exact run_fnkO (us := .ref a :: us) (vs := .ref a :: vs) ok hr hb (passO tk σ) I3 (.cons rfl r) rz q3
end
/-! ### by the written part -/
/-- a method's def: what the written part says -/
structure AtM (K : PySem.W.Frag) (x m qual : Str) (st : Stmt) (cd : Value) : Prop where
  ex : ∃ (C f : Addr) (oc : Value) (od an : Option Addr) (sl : Array (Option Value)) (kV dc pm ct : Value), GlbAt K x C ∧ PySem.W.findIn K (.ref C) m = some (some (.ref f)) ∧ PySem.W.isFn K (.ref f) = true ∧ PySem.W.keepIn K (.ref f) = true ∧
    K.lookup f = some ⟨oc, od, .func (PySem.W.fnOf m qual (defArgs st) (defBody st) (defScope st) .none kV dc pm an cd ct), sl⟩ ∧ PySem.W.codeIn K cd qual = true
/-- an own class -/
structure ClsO (K : PySem.W.Frag) (x : Str) (C : Addr) : Prop where
  c1 : PySem.W.nsIn K mainGlobals x = some (some (.ref C))
  c2 : PySem.W.plainGet K C Str.empty = true
  c3 : PySem.W.hasDictIn K C = true
  c4 : PySem.W.plainOver K C = true
  c5 : PySem.W.findIn K (.ref C) "__setattr__" = some (some (.builtin "object.__setattr__"))
  c6 : PySem.W.makesIn K C = true
  c7 : PySem.W.keepIn K (.ref C) = true
theorem ClsO.cls {K : PySem.W.Frag} {x : Str} {C : Addr} (q : ClsO K x C) : Cls K C := ⟨q.c2, q.c3, q.c4, q.c5⟩
theorem atM_mk {K : PySem.W.Frag} {x m qual : Str} {st : Stmt} {C f : Addr} {oc : Value} {od an : Option Addr} {sl : Array (Option Value)} {kV dc pm cd ct : Value} (q : ClsO K x C) (h1 : PySem.W.findIn K (.ref C) m = some (some (.ref f)))
    (h2 : K.lookup f = some ⟨oc, od, .func (PySem.W.fnOf m qual (defArgs st) (defBody st) (defScope st) .none kV dc pm an cd ct), sl⟩) (h3 : PySem.W.codeIn K cd qual = true) (h4 : PySem.W.keepIn K (.ref f) = true) (h5 : PySem.W.isFn K (.ref f) = true) : AtM K x m qual st cd :=
  ⟨C, f, oc, od, an, sl, kV, dc, pm, ct, q.c1, h1, h5, h4, h2, h3⟩
section
variable {P : Program} {w : PySem.World} {K : PySem.W.Frag} {Z : List (Addr × Str)} {mg : Str → Option Value} {base : Heap} {x m qual : Str} {st : Stmt} {cd : Value} {N ps ks : List Str} {k np : Nat} {ix : List Nat} {mm : MS} {h : Heap} {C : Addr}
theorem ok_ofM {f : Addr} {fd : FuncData} {cdv : Value} (F : FunC K m qual st f fd cdv) (S : FnScope N ps (defScope st)) (body : Bd P w K Z mg base N qual st cdv k mm) : FnOk P w K mg base (L2.CX P w) (k + 1) f fd ps (spOf (K, Z) ps.length (runB N.length mm)) := by
  obtain ⟨oc, od, kV, doc, pm, an, ct, osl, rfl, lk, hcd⟩ := F.ex
  refine fn_of lk hcd S spOf_len fun A outer s H vs Q E hr hsp => ⟨rdS (K, Z) (some fun cls d _ H' => E cls d H') mm, body f A outer s H E _ hr (show Takes _ _ from takes_of rfl rfl rfl rfl), ?_⟩
  obtain ⟨hd, φ, w, ds, l, wr, rs, p⟩ := hsp
  refine ⟨hd, φ, ds.map some ++ List.replicate (N.length - ds.length) none, w, ?_, wr, ?_⟩
  · unfold L2.start
    rw [← rs.len]
    exact SR.start rs _
  · unfold runB at p
    cases q : mm (ds.map some ++ List.replicate (N.length - ds.length) none) w with
    | no => rw [q] at p; exact p
    | ex t ρ w' =>
      rw [q] at p
      intro H' φ' σ' e wr' _ cls d rx
      exact p H' φ' [] e wr' sr_nil cls d rx
    | ok r w' =>
      rw [q] at p
      obtain ⟨ρ', fl⟩ := r
      cases fl with
      | nx => intro H' φ' e wr' σ' _; exact p H' φ' e wr' .non (by unfold Rep; rfl)
      | ret t => exact p
      | bk => exact p.elim
      | ct => exact p.elim
theorem AtM.mt (a : AtM K x m qual st cd) (q : ClsO K x C) (S : FnScope N ps (defScope st))
    (hb : ∀ (kV doc pm : Value) (an : Option Addr) (cdv ct : Value) (us : List Value), us.length = ps.length → bindArgs (PySem.W.fnOf m qual (defArgs st) (defBody st) (defScope st) .none kV doc pm an cdv ct) ⟨us, []⟩ = pure (ps.zip us))
    (body : Bd P w K Z mg base N qual st cd k mm) : MtD P w K Z mg base (k + 1) x m ps (runB N.length mm) := by
  obtain ⟨C', f, oc, od, an, sl, kV, dc, pm, ct, g, h1, h5, h4, h2, h3⟩ := a.ex
  cases GlbAt.inj g q.c1
  exact ⟨C, f, _, g, q.cls, ⟨h1, h5, h4⟩, ok_ofM ⟨_, _, _, _, _, _, _, _, rfl, h2, h3⟩ S body, Binds.all (hb _ _ _ _ _ _)⟩
theorem AtM.maker (a : AtM K x "__init__" qual st cd) (q : ClsO K x C) (X : K.In h) (G : h.Ns mainGlobals mg) (S : FnScope N ps (defScope st))
    (hb : ∀ (kV doc pm : Value) (an : Option Addr) (cdv ct : Value) (us : List Value), us.length = ps.length → bindArgs (PySem.W.fnOf "__init__" qual (defArgs st) (defBody st) (defScope st) .none kV doc pm an cdv ct) ⟨us, []⟩ = pure (ps.zip us))
    (body : Bd P w K Z mg base N qual st cd k mm) : MkD P w K Z mg base (k + 1) x ps (runB N.length mm) := by
  obtain ⟨C', f, oc, od, an, sl, kV, dc, pm, ct, g, h1, h5, h4, h2, h3⟩ := a.ex
  cases GlbAt.inj g q.c1
  exact ⟨C, f, _, g, PySem.W.mg_of X G q.c1, ⟨q.c6, h1, h5, q.c7⟩, ok_ofM ⟨_, _, _, _, _, _, _, _, rfl, h2, h3⟩ S body, Binds.all (hb _ _ _ _ _ _)⟩
theorem AtM.mtP (a : AtM K x m qual st cd) (q : ClsO K x C) (S : FnScope N ps (defScope st)) (hne : ps ≠ [])
    (hb : ∀ (kV doc pm : Value) (an : Option Addr) (cdv ct : Value) (us ws : List Value), us.length = np → ws.length = ks.length → bindArgs (PySem.W.fnOf m qual (defArgs st) (defBody st) (defScope st) .none kV doc pm an cdv ct) ⟨us, ks.zip ws⟩ = pure (ps.zip (prm ix (us ++ ws))))
    (body : Bd P w K Z mg base N qual st cd k mm) : MtP P w K Z mg base (k + 1) x m ps.length np ks ix (runB N.length mm) := by
  obtain ⟨C', f, oc, od, an, sl, kV, dc, pm, ct, g, h1, h5, h4, h2, h3⟩ := a.ex
  cases GlbAt.inj g q.c1
  refine ⟨C, f, _, ps, rfl, g, q.cls, ⟨h1, h5, h4⟩, ok_ofM ⟨_, _, _, _, _, _, _, _, rfl, h2, h3⟩ S body, ⟨fun s us ws _ hl => ?_, fun a b => gP_rel a b⟩⟩
  unfold gP at hl ⊢
  split at hl
  · rename_i hc
    rw [if_pos hc]
    exact .of_eq (hb _ _ _ _ _ _ us ws hc.1 hc.2)
  · exfalso
    exact hne (List.eq_nil_of_length_eq_zero (by simpa using hl.symm))
theorem obTab_cons {tab : List (Str × List Str)} {fs : List Str} (q : ClsO K x C) (n : ∀ f ∈ fs, NoAttr K C f) (r : ObTab K tab) : ObTab K ((x, fs) :: tab) := ⟨fun p hp C' g => by
  rcases List.mem_cons.mp hp with rfl | hp
  · cases GlbAt.inj q.c1 g
    exact ⟨q.cls, n⟩
  · exact r.ex p hp C' g⟩
theorem obTab_nil : ObTab K [] := ⟨fun p hp => by cases hp⟩
end
end VS

set_option Elab.async false
set_option linter.all false
set_option maxRecDepth 100000
set_option maxHeartbeats 4000000
/-! VW30: a tuple times 0 or 1. -/
namespace VS
open PySem PySem.Spec PyProof.Rows L2
theorem tuple_mul1 (l : Addr) (items : Array Value) (n : Nat) (dd : Option Addr) (sl : Array (Option Value)) (u : Tok) :
    Meets (Builtin.«tuple.__mul__» ⟨[.ref l, .int 1 u], []⟩) (fun _ R s => s.heap.get? l = some { cls := .type "tuple", dict := dd, data := .seq items n, slots := sl } ∧ R (.ok (.ret (.ref l))) s) :=
  .of_wp fun prog w A R s h => by
    obtain ⟨hp, g, d, tk, os⟩ := s
    obtain ⟨hl, h⟩ := h
    have f1 := AutoSeq1.idx_int
    have c1 : (items.isEmpty || (1 : Int) == 1) = true := by simp
    wp_walk using wpAny_loadPart' hl
    repeat (first
      | (refine wpAny_ite_true (decide_eq_true c1) ?_; wp_walk using wpAny_loadPart' hl)
      | (refine wpAny_ite_false (by decide) ?_; wp_walk using wpAny_loadPart' hl))
    exact ⟨_, rfl, h⟩
theorem tuple_mul0 (l : Addr) (items : Array Value) (n : Nat) (dd : Option Addr) (sl : Array (Option Value)) (u : Tok) (ne : items.isEmpty = false) :
    Meets (Builtin.«tuple.__mul__» ⟨[.ref l, .int 0 u], []⟩) (fun _ R s => s.heap.get? l = some { cls := .type "tuple", dict := dd, data := .seq items n, slots := sl } ∧
      R (.ok (.ret (Value.ref s.heap.objs.size))) { s with heap := s.heap.push { cls := Value.type "tuple", data := Data.seq #[] }, toks := s.toks }) :=
  .of_wp fun prog w A R s h => by
    obtain ⟨hp, g, d, tk, os⟩ := s
    obtain ⟨hl, h⟩ := h
    have f1 := AutoSeq1.idx_int
    have c1 : (items.isEmpty || (0 : Int) == 1) = false := by rw [ne]; rfl
    wp_walk using wpAny_loadPart' hl
    repeat (first
      | (refine wpAny_ite_false (decide_eq_false (by rw [c1]; exact Bool.false_ne_true)) ?_; wp_walk using wpAny_loadPart' hl)
      | (refine wpAny_ite_true (by simp) ?_; wp_walk using wpAny_loadPart' hl)
      | (refine wpAny_ite_false (by decide) ?_; wp_walk using wpAny_loadPart' hl))
    exact ⟨_, rfl, h⟩
def rRep01 (K : PySem.W.Frag) : R2 := fun x y H Q => ∃ l k xs, x = .ref l ∧ y = .int k ∧ SqT K H l xs ∧ xs ≠ [] ∧ ((k = 1 ∧ Q (.ref l) H) ∨ (k = 0 ∧ ∀ p, H p = none → Q (.ref p) (upd H p (.tup []))))
theorem op_rep01 {X : Cx} : OpR X (binaryOp .Mult) (rRep01 X.K) := by
  intro pins s σ H x y v u Q I rx ry h
  obtain ⟨l, k, xs, rfl, rfl, hT, hne, q⟩ := h
  cases (show v = Value.ref l from rx)
  obtain ⟨t, rfl⟩ := ry
  obtain ⟨its, r, ⟨⟨cls, dd, data, sl⟩, ho, hc, n, hd⟩, hs⟩ := I.tuple hT
  simp only at hc hd
  subst hc hd
  have hi : its.toArray.isEmpty = false := by
    have hl := r.length
    cases its with
    | nil => exact absurd (List.eq_nil_of_length_eq_zero hl) hne
    | cons a b => rfl
  rcases q with ⟨rfl, q⟩ | ⟨rfl, q⟩
  · refine wpAny_binaryOp_repeat_ref (T := "tuple") (U := "int") (by decide) ⟨_, ho, rfl⟩ (fun s' => typeIs_int s' 1 t) noFill_tuple_mul F.fills_int_mul F.slot_int_rmul repeat_tuple F.slot_int_index.lookup
      (call_meets F.slot_int_rmul (typeIs_int s 1 t) F.entry_int_rmul (F.args_int_rmul_2 _ _) (int_rmul_tuple 1 t l its.toArray n dd sl)
        ⟨ho, rfl, ⟨_, ho, rfl⟩, call_meets F.slot_tuple_mul ⟨_, ho, rfl⟩ F.entry_tuple_mul (F.args_tuple_mul_2 _ _) (tuple_mul1 l its.toArray n dd sl t) ⟨ho, ?_⟩⟩)
    exact ⟨.ref l, H, I, rfl, q⟩
  · refine wpAny_binaryOp_repeat_ref (T := "tuple") (U := "int") (by decide) ⟨_, ho, rfl⟩ (fun s' => typeIs_int s' 0 t) noFill_tuple_mul F.fills_int_mul F.slot_int_rmul repeat_tuple F.slot_int_index.lookup
      (call_meets F.slot_int_rmul (typeIs_int s 0 t) F.entry_int_rmul (F.args_int_rmul_2 _ _) (int_rmul_tuple 0 t l its.toArray n dd sl)
        ⟨ho, rfl, ⟨_, ho, rfl⟩, call_meets F.slot_tuple_mul ⟨_, ho, rfl⟩ F.entry_tuple_mul (F.args_tuple_mul_2 _ _) (tuple_mul0 l its.toArray n dd sl t hi) ⟨ho, ?_⟩⟩)
    refine ⟨.ref s.heap.objs.size, _, I.laid (t' := s.toks) (o := .tup []) (fun b ob q => Heap.get?_push_of_some _ q) (Nat.le_refl _) ?_, rfl, q _ (I.hok.fresh (Nat.le_refl _))⟩
    exact ⟨by rw [sizeLine_eq]; decide, [], .nil, IsTup.new _ _⟩
def sMulT : S2 := fun x y w => match x, y with
  | .tup ts, .int k => if ts ≠ [] ∧ 0 ≤ k ∧ k ≤ 1000 ∧ ts.length ≤ 1000 then .ok (.tup (List.replicate k.toNat ts).flatten) w else .no
  | _, _ => .no
section
variable {X : Cx} {a b : Expr} {pos : Pos} {ma mb : ME} {Z : List (Addr × Str)} {W : Option WX} {K : KT}
theorem opMulT : Op2 K sMulT (fun x y H Q => rRepT K.1 x y H Q ∨ rRep01 K.1 x y H Q) := fun W hd φ H w dx dy x y Q wr rx ry p => by
  unfold sMulT at p
  split at p
  · rename_i ts k
    split at p
    · rename_i hc
      obtain ⟨h1, h2, h3, h4⟩ := hc
      unfold Rep at rx ry
      obtain ⟨l, xs, rfl, n, rs⟩ := rx
      have hx : xs ≠ [] := fun e => by
        subst e
        have := rs.len
        exact h1 (List.eq_nil_of_length_eq_zero this)
      by_cases k2 : 2 ≤ k
      · exact .inl ⟨l, k, xs, rfl, ry, SqT.of n.1, hx, k2, h3, by rw [← rs.len]; exact h4, p.tup wr (rs.flat k.toNat)⟩
      · by_cases k1 : k = 1
        · subst k1
          refine .inr ⟨l, 1, xs, rfl, ry, SqT.of n.1, hx, .inl ⟨rfl, ?_⟩⟩
          refine p.ok wr _ ?_
          unfold Rep
          exact ⟨l, xs, rfl, n, by simpa using rs⟩
        · have k0 : k = 0 := by omega
          subst k0
          exact .inr ⟨l, 0, xs, rfl, ry, SqT.of n.1, hx, .inr ⟨rfl, p.tup wr Reps.nil⟩⟩
    · exact p.elim
  · exact p.elim
theorem de_mulT (ha : PE X a (rdE (X.K, Z) W ma)) (hb : PE X b (rdE (X.K, Z) W mb)) : PE X (.BinOp a .Mult b pos) (rdE (X.K, Z) W (mOp2 sMulT ma mb)) := de_op (op_repT.or op_rep01) opMulT ha hb
end
end VS

set_option Elab.async false
set_option linter.all false
set_option maxRecDepth 100000
set_option maxHeartbeats 4000000
namespace VS
open PySem PySem.Spec PyProof.Rows L2
/-! ### running by simp -/
section
variable {w w' : World} {ρ : Env} {i j : Nat} {t u : T} {a b c : ME} {s : S2}
@[simp] theorem bind_ok' {α β : Type} {x : α} {f : α → World → R β} : (R.ok x w).bind f = f x w := rfl
@[simp] theorem bind_ex' {α β : Type} {t : T} {f : α → World → R β} : (R.ex t ρ w : R α).bind f = .ex t ρ w := rfl
@[simp] theorem at_ok' {α : Type} {x : α} {ρ' : Env} : (R.ok x w).at ρ' = .ok x w := rfl
@[simp] theorem at_ex' {α : Type} {t : T} {ρ' : Env} : (R.ex t ρ w : R α).at ρ' = .ex t ρ' w := rfl
@[simp] theorem at_no' {α : Type} {ρ' : Env} : (R.no : R α).at ρ' = .no := rfl
@[simp] theorem noX_ok' {α : Type} {x : α} : noX (.ok x w) = .ok x w := rfl
@[simp] theorem bind_no' {α β : Type} {f : α → World → R β} : (R.no : R α).bind f = .no := rfl
@[simp] theorem mVar0 {o : Option T} {r : Env} : mVar 0 (some t :: r) w = .ok t w := rfl
@[simp] theorem mVarS {o : Option T} {r : Env} : mVar (i + 1) (o :: r) w = mVar i r w := by simp [mVar]
@[simp] theorem mC_ : mC t ρ w = .ok t w := rfl
@[simp] theorem mOp2_ : mOp2 s a b ρ w = (a ρ w).bind fun x w1 => (b ρ w1).bind fun y w2 => s x y w2 := rfl
@[simp] theorem mOp1_ {s : S1} : mOp1 s a ρ w = (a ρ w).bind s := rfl
@[simp] theorem asB_bl {k : Bool} : asB (.ok (.bl k) w) = .ok k w := rfl
@[simp] theorem mTest_ : mTest a ρ w = asB (a ρ w) := rfl
@[simp] theorem mTru_ : mTru a ρ w = (a ρ w).bind sTru := rfl
@[simp] theorem sTru_bl {k : Bool} : sTru (.bl k) w = .ok k w := rfl
@[simp] theorem sTru_int {k : Int} : sTru (.int k) w = .ok (k != 0) w := rfl
@[simp] theorem sTru_non : sTru .non w = .ok false w := rfl
@[simp] theorem mChain_ {s' : S2} : mChain s s' a b c ρ w = (a ρ w).bind fun x w1 => (b ρ w1).bind fun y w2 => (asB (s x y w2)).bind fun k w3 => if k = true then (c ρ w3).bind fun z w4 => s' y z w4 else .ok (.bl false) w3 := rfl
@[simp] theorem mAnd_ {a b : MT} : mAnd a b ρ w = (a ρ w).bind fun x w1 => if x = true then b ρ w1 else .ok false w1 := rfl
@[simp] theorem mOr_ {a b : MT} : mOr a b ρ w = (a ρ w).bind fun x w1 => if x = true then .ok true w1 else b ρ w1 := rfl
@[simp] theorem mNot_ {a : MT} : mNot a ρ w = (a ρ w).bind fun x w1 => .ok (!x) w1 := rfl
@[simp] theorem mAndV_ : mAndV a b ρ w = (a ρ w).bind fun x w1 => (sTru x w1).bind fun k w2 => if k = true then b ρ w2 else .ok x w2 := rfl
@[simp] theorem mOrV_ : mOrV a b ρ w = (a ρ w).bind fun x w1 => (sTru x w1).bind fun k w2 => if k = true then .ok x w2 else b ρ w2 := rfl
@[simp] theorem mNotV_ : mNotV a ρ w = (a ρ w).bind fun x w1 => (sTru x w1).bind fun k w2 => .ok (.bl (!k)) w2 := rfl
@[simp] theorem mIf_ {c : MT} : mIf c a b ρ w = (c ρ w).bind fun k w1 => if k = true then a ρ w1 else b ρ w1 := rfl
@[simp] theorem mNil_ : mNil ρ w = .ok [] w := rfl
@[simp] theorem mCons_ {r : MF} : mCons a r ρ w = (a ρ w).bind fun x w1 => (r ρ w1).bind fun xs w2 => .ok (x :: xs) w2 := rfl
@[simp] theorem mTup_ {m : MF} : mTup m ρ w = (m ρ w).bind fun ts w1 => if ts.length ≤ sizeLine then .ok (.tup ts) w1 else .no := rfl
@[simp] theorem mLst_ {m : MF} : mLst m ρ w = (m ρ w).bind fun ts w1 => if ts.length ≤ sizeLine then .ok ts w1 else .no := rfl
@[simp] theorem mVal_ {m : MF} : mVal m ρ w = (m ρ w).bind fun ts w1 => .ok (.lst ts) w1 := rfl
@[simp] theorem mCell_ {m : MF} : mCell m ρ w = (m ρ w).bind fun ts w1 => .ok (.cell w1.length) (w1 ++ [.lst ts]) := rfl
@[simp] theorem mCall_ {s : SC} {m : MF} : mCall s m ρ w = (m ρ w).bind s := rfl
@[simp] theorem mCallF_ {s : SCF} {m : MF} : mCallF s m ρ w = (m ρ w).bind s := rfl
@[simp] theorem mOp2F_ {s : S2F} : mOp2F s a b ρ w = (a ρ w).bind fun x w1 => (b ρ w1).bind fun y w2 => s x y w2 := rfl
@[simp] theorem mDef_ {n : Nat} {f : Sem} {m : MF} : mDef n f m ρ w = (m ρ w).bind fun ds w1 => if ds.length = n then (f ds w1).at ρ else .no := rfl
@[simp] theorem mSkip_ : mSkip ρ w = .ok (ρ, .nx) w := rfl
/-- what follows a statement -/
def andThen (r : R (Env × Fl)) (f : Env → World → R (Env × Fl)) : R (Env × Fl) := r.bind fun r w1 => match r.2 with
  | .nx => f r.1 w1
  | _ => .ok r w1
@[simp] theorem mSeq_ {m1 m2 : MS} : mSeq m1 m2 ρ w = andThen (m1 ρ w) m2 := rfl
@[simp] theorem then_nx {f : Env → World → R (Env × Fl)} : andThen (.ok (ρ, .nx) w) f = f ρ w := rfl
@[simp] theorem then_ret {f : Env → World → R (Env × Fl)} : andThen (.ok (ρ, .ret t) w) f = .ok (ρ, .ret t) w := rfl
@[simp] theorem then_bk {f : Env → World → R (Env × Fl)} : andThen (.ok (ρ, .bk) w) f = .ok (ρ, .bk) w := rfl
@[simp] theorem then_ct {f : Env → World → R (Env × Fl)} : andThen (.ok (ρ, .ct) w) f = .ok (ρ, .ct) w := rfl
@[simp] theorem then_ex {f : Env → World → R (Env × Fl)} : andThen (.ex t ρ w) f = .ex t ρ w := rfl
@[simp] theorem then_no {f : Env → World → R (Env × Fl)} : andThen .no f = .no := rfl
@[simp] theorem mRet_ : mRet a ρ w = (a ρ w).bind fun t w1 => .ok (ρ, .ret t) w1 := rfl
@[simp] theorem mDrop_ : mDrop a ρ w = (a ρ w).bind fun _ w1 => .ok (ρ, .nx) w1 := rfl
@[simp] theorem mIfS_ {c : MT} {x y : MS} : mIfS c x y ρ w = (c ρ w).bind fun k w1 => if k = true then x ρ w1 else y ρ w1 := rfl
@[simp] theorem mgName_ : mgName i t ρ w = .ok (ρ.set i (some t)) w := rfl
@[simp] theorem mAsg_ {g : MG} : mAsg a g ρ w = (a ρ w).bind fun t w1 => (g t ρ w1).bind fun ρ1 w2 => .ok (ρ1, .nx) w2 := rfl
@[simp] theorem mgSub_ {s : S3} : mgSub s a b t ρ w = (a ρ w).bind fun d1 w1 => (b ρ w1).bind fun d2 w2 => (s d1 d2 t w2).bind fun _ w3 => .ok ρ w3 := rfl
@[simp] theorem mgTup_ {n : Nat} {g : MGs} {ts : List T} : mgTup n g (.tup ts) ρ w = if ts.length = n then g ts ρ w else .no := rfl
@[simp] theorem mgNil_ : mgNil [] ρ w = .ok ρ w := rfl
@[simp] theorem mgCons_ {g : MG} {r : MGs} {ts : List T} : mgCons g r (t :: ts) ρ w = (g t ρ w).bind fun ρ1 w1 => r ts ρ1 w1 := rfl
@[simp] theorem mPar_ {m : MF} : mPar i j m ρ w = (m ρ w).bind fun ts w1 => match ts with
  | [t, u] => .ok ((ρ.set i (some t)).set j (some u), .nx) w1
  | _ => .no := rfl
@[simp] theorem mPar3_ {l : Nat} {m : MF} : mPar3 i j l m ρ w = (m ρ w).bind fun ts w1 => match ts with
  | [t, u, v] => .ok (((ρ.set i (some t)).set j (some u)).set l (some v), .nx) w1
  | _ => .no := rfl
@[simp] theorem mFor_ {it : MI} {g : MG} {m : MS} : mFor it g m ρ w = (it ρ w).bind fun r w1 => forL g m r.2 r.1 r.1 ρ w1 := rfl
@[simp] theorem mItems_ : mItems a ρ w = (a ρ w).bind sItems := rfl
@[simp] theorem sItems_lst {ts : List T} : sItems (.lst ts) w = .ok (ts, none) w := rfl
@[simp] theorem sItems_tup {ts : List T} : sItems (.tup ts) w = .ok (ts, none) w := rfl
@[simp] theorem sItems_frz {ts : List T} : sItems (.frz ts) w = .ok (ts, none) w := rfl
theorem sItems_cell {k : Nat} {ts : List T} (h : w[k]? = some (.lst ts)) : sItems (.cell k) w = .ok (ts, some (k, ts)) w := by simp [sItems, items, h]
@[simp] theorem mRange1_ {m : MF} : mRange1 m ρ w = (m ρ w).bind sRange1 := rfl
@[simp] theorem mRange2_ {m : MF} : mRange2 m ρ w = (m ρ w).bind sRange2 := rfl
theorem sRange1_ {n : Int} (h0 : 0 ≤ n) (h : n < 1000000000) : sRange1 [.int n] w = .ok (rgT 0 n.toNat, none) w := by
  have : RgOk 0 n := ⟨by decide, by decide, by omega, by omega⟩
  simp [sRange1, this]
@[simp] theorem mComp_ {vs : List Nat} {it : MI} {g : MG} {c : MT} {e : ME} : mComp vs it g c e ρ w = (it ρ w).bind fun r w1 => noX (compL g c e r.2 r.1 (wipeE ρ vs) r.1 [] w1) := rfl
@[simp] theorem mYes_ : mYes ρ w = .ok true w := rfl
@[simp] theorem mSlL_ {lo hi : MO} : mSlL a lo hi ρ w = (a ρ w).bind fun t w1 => (lo ρ w1).bind fun l w2 => (hi ρ w2).bind fun u w3 => match lst? w3 t with
  | some ts => .ok (cutT ts l u) w3
  | _ => .no := rfl
@[simp] theorem mSlT_ {lo hi : MO} : mSlT a lo hi ρ w = (a ρ w).bind fun t w1 => (lo ρ w1).bind fun l w2 => (hi ρ w2).bind fun u w3 => match t with
  | .tup ts => .ok (.tup (cutT ts l u)) w3
  | _ => .no := rfl
@[simp] theorem mNoPart_ : mNoPart ρ w = .ok none w := rfl
@[simp] theorem mPart_ : mPart a ρ w = (a ρ w).bind fun t w1 => match t with
  | .int i => .ok (some i) w1
  | _ => .no := rfl
@[simp] theorem mMeth_ {s : SM} {m : MF} : mMeth s a m ρ w = (a ρ w).bind fun d w1 => match lst? w1 d with
  | some _ => (m ρ w1).bind fun ds w2 => s d ds w2
  | none => .no := rfl
@[simp] theorem mDict_ {m : MPs} : mDict m ρ w = (m ρ w).bind fun kvs w1 => if kvs.length ≤ 15 ∧ (kvs.map (·.1)).Nodup then .ok (.cell w1.length) (w1 ++ [.dic kvs]) else .no := rfl
@[simp] theorem mpNil_ : mpNil ρ w = .ok [] w := rfl
@[simp] theorem mpCons_ {m : MPs} : mpCons a b m ρ w = (a ρ w).bind fun kt w1 => (b ρ w1).bind fun t w2 => (m ρ w2).bind fun ps w3 => match keyT kt with
  | some key => .ok ((key, t) :: ps) w3
  | none => .no := rfl
@[simp] theorem mLRg1_ : mLRg1 a ρ w = (a ρ w).bind fun t w1 => match t with
  | .int n => if L2.RgOk 0 n then .ok (rgT 0 n.toNat) w1 else .no
  | _ => .no := rfl
end
/-! ### operators -/
section
variable {w : World} {i j : Int}
@[simp] theorem sSub_ : sSub (.int i) (.int j) w = .ok (.int (i - j)) w := by simp [sSub, s2I]
@[simp] theorem sBor_ : sBor (.int i) (.int j) w = .ok (.int (Builtin.bitOr i j)) w := by simp [sBor, s2I]
@[simp] theorem sLt_ : sLt (.int i) (.int j) w = .ok (.bl (decide (i < j))) w := by simp [sLt, s2I]
@[simp] theorem sLe_ : sLe (.int i) (.int j) w = .ok (.bl (decide (i ≤ j))) w := by simp [sLe, s2I]
@[simp] theorem sGt_ : sGt (.int i) (.int j) w = .ok (.bl (decide (j < i))) w := by simp [sGt, s2I]
@[simp] theorem sGe_ : sGe (.int i) (.int j) w = .ok (.bl (decide (j ≤ i))) w := by simp [sGe, s2I]
@[simp] theorem sAdd_ : sAdd (.int i) (.int j) w = .ok (.int (i + j)) w := rfl
@[simp] theorem sNeg_ : sNeg (.int i) w = .ok (.int (-i)) w := rfl
theorem sMod_ (h : 0 < j) : sMod (.int i) (.int j) w = .ok (.int (i % j)) w := by simp [sMod, s2I, h]
theorem sFdiv_ (h : 0 < j) (h2 : j < 1073741824) : sFdiv (.int i) (.int j) w = .ok (.int (i / j)) w := by simp [sFdiv, s2I, CDiv, h, h2]
theorem sMul_l (h : -(2 ^ 64) < i ∧ i < 2 ^ 64) : sMul (.int i) (.int j) w = .ok (.int (i * j)) w := by simp only [sMul]; rw [if_pos (.inl h)]
theorem sMul_r (h : -(2 ^ 64) < j ∧ j < 2 ^ 64) : sMul (.int i) (.int j) w = .ok (.int (i * j)) w := by simp only [sMul]; rw [if_pos (.inr h)]
@[simp] theorem sInt_ : sInt [.int i] w = .ok (.int i) w := rfl
@[simp] theorem sAbs_ : sAbs [.int i] w = .ok (.int (if i < 0 then -i else i)) w := rfl
@[simp] theorem sMax2_ : sMax2 [.int i, .int j] w = .ok (.int (if j > i then j else i)) w := rfl
@[simp] theorem sMin2_ : sMin2 [.int i, .int j] w = .ok (.int (if j < i then j else i)) w := rfl
@[simp] theorem sLen_tup {ts : List T} : sLen [.tup ts] w = .ok (.int ts.length) w := rfl
@[simp] theorem sLen_lst {ts : List T} : sLen [.lst ts] w = .ok (.int ts.length) w := rfl
@[simp] theorem sLen_frz {ts : List T} : sLen [.frz ts] w = .ok (.int ts.length) w := rfl
theorem sLen_cell {k : Nat} {ts : List T} (h : w[k]? = some (.lst ts)) : sLen [.cell k] w = .ok (.int ts.length) w := by simp [sLen, h]
@[simp] theorem sTup_lst {ts : List T} : sTup [.lst ts] w = .ok (.tup ts) w := rfl
@[simp] theorem sTup_tup {ts : List T} : sTup [.tup ts] w = .ok (.tup ts) w := rfl
theorem sTup_cell {k : Nat} {ts : List T} (h : w[k]? = some (.lst ts)) : sTup [.cell k] w = .ok (.tup ts) w := by simp [sTup, seq?, h]
@[simp] theorem sList_lst {ts : List T} : sList [.lst ts] w = .ok ts w := rfl
@[simp] theorem sList_tup {ts : List T} : sList [.tup ts] w = .ok ts w := rfl
theorem sList_cell {k : Nat} {ts : List T} (h : w[k]? = some (.lst ts)) : sList [.cell k] w = .ok ts w := by simp [sList, seq?, h]
@[simp] theorem lst_lst {ts : List T} : lst? w (.lst ts) = some ts := rfl
theorem lst_cell {k : Nat} {ts : List T} (h : w[k]? = some (.lst ts)) : lst? w (.cell k) = some ts := by simp [lst?, h]
theorem sIx_tup {ts : List T} {t : T} (h : ts[i.toNat]? = some t) (h0 : 0 ≤ i) : sIx (.tup ts) (.int i) w = .ok t w := by
  have e : atI ts i = some t := by rw [show i = ((i.toNat : Nat) : Int) by omega]; exact atI_nat h
  simp [sIx, seq?, e]
theorem sIx_lst {ts : List T} {t : T} (h : ts[i.toNat]? = some t) (h0 : 0 ≤ i) : sIx (.lst ts) (.int i) w = .ok t w := by
  have e : atI ts i = some t := by rw [show i = ((i.toNat : Nat) : Int) by omega]; exact atI_nat h
  simp [sIx, seq?, e]
theorem sIx_cell {k : Nat} {ts : List T} {t : T} (hk : w[k]? = some (.lst ts)) (h : ts[i.toNat]? = some t) (h0 : 0 ≤ i) : sIx (.cell k) (.int i) w = .ok t w := by
  have e : atI ts i = some t := by rw [show i = ((i.toNat : Nat) : Int) by omega]; exact atI_nat h
  simp [sIx, hk, e]
@[simp] theorem sIx_0 {t : T} {ts : List T} : sIx (.tup (t :: ts)) (.int 0) w = .ok t w := sIx_tup rfl (by decide)
@[simp] theorem sIx_1 {t u : T} {ts : List T} : sIx (.tup (u :: t :: ts)) (.int 1) w = .ok t w := sIx_tup rfl (by decide)
theorem append_cell {k : Nat} {ts : List T} {t : T} (h : w[k]? = some (.lst ts)) (hl : ts.length < 16777216) : sAppend (.cell k) [t] w = .ok .non (w.set k (.lst (ts ++ [t]))) := by
  have : ts.length < sizeLine := by rw [sizeLine_eq]; exact hl
  simp [sAppend, h, this]
/-! equality -/
theorem eqT_of {x y : T} {d e : PyData} (hx : pd w x = some d) (hy : pd w y = some e) (sd : SeqAt.shaped d = true) (se : SeqAt.shaped e = true) : eqT w x y = some (PyData.eqv d e) := by simp [eqT, hx, hy, sd, se]
@[simp] theorem eqT_int : eqT w (.int i) (.int j) = some (decide (i = j)) := by
  rw [eqT_of (d := .int i) (e := .int j) (by simp [pd]) (by simp [pd]) rfl rfl]
  simp [PyData.eqv]
  rfl
@[simp] theorem sEq_int : sEq (.int i) (.int j) w = .ok (.bl (decide (i = j))) w := by simp [sEq]
@[simp] theorem sNe_int : sNe (.int i) (.int j) w = .ok (.bl (!decide (i = j))) w := by simp [sNe]
theorem pds0_ints : ∀ ns : List Int, pds0 (ns.map .int) = some (ns.map .int)
  | [] => rfl
  | n :: ns => by simp [pds0, pd0, pds0_ints ns]
theorem lay_ints : ∀ ns : List Int, PyData.canLayAll0 (ns.map .int) = true
  | [] => rfl
  | n :: ns => by simp [PyData.canLayAll0, PyData.canLay0, lay_ints ns]
theorem depth_ints : ∀ ns : List Int, PyData.depthAll (ns.map .int) ≤ 1
  | [] => by simp [PyData.depthAll]
  | n :: ns => by
    have := depth_ints ns
    simp [PyData.depthAll, PyData.depth]
    omega
theorem shaped_ints (ns : List Int) : SeqAt.shaped (.list (ns.map .int)) = true := by
  have h := depth_ints ns
  simp [SeqAt.shaped, PyData.canLay0, lay_ints, PyData.depth]
  omega
theorem eqv_ints : ∀ ns ms : List Int, PyData.eqvAll (ns.map .int) (ms.map .int) = decide (ns = ms)
  | [], [] => by simp [PyData.eqvAll]
  | [], m :: ms => by simp [PyData.eqvAll]
  | n :: ns, [] => by simp [PyData.eqvAll]
  | n :: ns, m :: ms => by
    simp [PyData.eqvAll, PyData.eqv, eqv_ints ns ms]
    by_cases h : n = m <;> simp [h]
theorem pd_cell {k : Nat} {ns : List Int} (h : w[k]? = some (.lst (ns.map .int))) : pd w (.cell k) = some (.list (ns.map .int)) := by simp [pd, h, pds0_ints]
end
/-! ### loops by an invariant -/
section
variable {g : MG} {b : MS} {oc : OC} {all : List T} {w : World} {ρ : Env}
theorem bind_eq {α β : Type} {r : R α} {a : α} {f : α → World → R β} (h : r = .ok a w) : r.bind f = f a w := by rw [h]; rfl
theorem forL_go (P : Nat → Env → World → Prop) (hk : ∀ i ρ w, P i ρ w → Kept oc all w)
    (h : ∀ i t ρ w, all[i]? = some t → P i ρ w → ∃ ρ1 w1, ((g t ρ w).bind fun ρ1 w1 => b ρ1 w1) = .ok (ρ1, .nx) w1 ∧ P (i + 1) ρ1 w1) :
    ∀ (n i : Nat) (ρ : Env) (w : World), n + i = all.length → P i ρ w → ∃ ρ' w', forL g b oc all (all.drop i) ρ w = .ok (ρ', .nx) w' ∧ P all.length ρ' w'
  | 0, i, ρ, w, hn, p => by
    have e : i = all.length := by omega
    subst e
    refine ⟨ρ, w, ?_, p⟩
    rw [List.drop_length]
    unfold forL
    rw [if_pos (hk _ _ _ p)]
  | n + 1, i, ρ, w, hn, p => by
    have hi : i < all.length := by omega
    obtain ⟨ρ1, w1, e1, p1⟩ := h i all[i] ρ w (by simp [hi]) p
    obtain ⟨ρ2, w2, e2, p2⟩ := forL_go P hk h n (i + 1) ρ1 w1 (by omega) p1
    refine ⟨ρ2, w2, ?_, p2⟩
    rw [List.drop_eq_getElem_cons hi]
    unfold forL
    rw [if_pos (hk _ _ _ p)]
    cases q : g all[i] ρ w with
    | no => rw [q] at e1; cases e1
    | ex _ _ _ => rw [q] at e1; cases e1
    | ok ρ0 w0 =>
      rw [q, bind_ok'] at e1
      rw [bind_ok', e1, bind_ok']
      exact e2
/-- a for over a value that stays, with an invariant over (turn, slots, world) -/
theorem forL_run (P : Nat → Env → World → Prop) (h0 : P 0 ρ w)
    (h : ∀ i t ρ w, all[i]? = some t → P i ρ w → ∃ ρ1 w1, ((g t ρ w).bind fun ρ1 w1 => b ρ1 w1) = .ok (ρ1, .nx) w1 ∧ P (i + 1) ρ1 w1) :
    ∃ ρ' w', forL g b none all all ρ w = .ok (ρ', .nx) w' ∧ P all.length ρ' w' := by
  have := forL_go P (fun _ _ _ _ => kept_none) h all.length 0 ρ w (by omega) h0
  rwa [List.drop_zero] at this
theorem forL_cell {k : Nat} (P : Nat → Env → World → Prop) (h0 : P 0 ρ w) (hk : ∀ i ρ w, P i ρ w → w[k]? = some (.lst all))
    (h : ∀ i t ρ w, all[i]? = some t → P i ρ w → ∃ ρ1 w1, ((g t ρ w).bind fun ρ1 w1 => b ρ1 w1) = .ok (ρ1, .nx) w1 ∧ P (i + 1) ρ1 w1) :
    ∃ ρ' w', forL g b (some (k, all)) all all ρ w = .ok (ρ', .nx) w' ∧ P all.length ρ' w' := by
  have := forL_go P (fun i ρ w p => kept_some (hk i ρ w p)) h all.length 0 ρ w (by omega) h0
  rwa [List.drop_zero] at this
/-- a comprehension over a value that stays: the items one by one, an invariant over what is made so far -/
theorem compL_go {c : MT} {e : ME} {ρ0 : Env} (P : Nat → List T → World → Prop)
    (h : ∀ i t out w, all[i]? = some t → P i out w → ∃ ρ1 w1, g t ρ0 w = .ok ρ1 w1 ∧ ((∃ w2 y w3, c ρ1 w1 = .ok true w2 ∧ e ρ1 w2 = .ok y w3 ∧ out.length < 16777216 ∧ P (i + 1) (out ++ [y]) w3) ∨ ∃ w2, c ρ1 w1 = .ok false w2 ∧ P (i + 1) out w2)) :
    ∀ (n i : Nat) (out : List T) (w : World), n + i = all.length → P i out w → ∃ out' w', compL g c e none all ρ0 (all.drop i) out w = .ok out' w' ∧ P all.length out' w'
  | 0, i, out, w, hn, p => by
    have e : i = all.length := by omega
    subst e
    refine ⟨out, w, ?_, p⟩
    rw [List.drop_length]
    unfold compL
    rw [if_pos kept_none]
  | n + 1, i, out, w, hn, p => by
    have hi : i < all.length := by omega
    obtain ⟨ρ1, w1, e1, q⟩ := h i all[i] out w (by simp [hi]) p
    rw [List.drop_eq_getElem_cons hi]
    unfold compL
    rw [if_pos kept_none, e1, bind_ok']
    rcases q with ⟨w2, y, w3, e2, e3, hl, p1⟩ | ⟨w2, e2, p1⟩
    · obtain ⟨out2, w4, e4, p2⟩ := compL_go P h n (i + 1) _ _ (by omega) p1
      refine ⟨out2, w4, ?_, p2⟩
      rw [e2, bind_ok', if_pos rfl, e3, bind_ok', if_pos (by rw [sizeLine_eq]; exact hl)]
      exact e4
    · obtain ⟨out2, w4, e4, p2⟩ := compL_go P h n (i + 1) _ _ (by omega) p1
      refine ⟨out2, w4, ?_, p2⟩
      rw [e2, bind_ok', if_neg Bool.false_ne_true]
      exact e4
theorem compL_run {c : MT} {e : ME} {ρ0 : Env} (P : Nat → List T → World → Prop) (h0 : P 0 [] w)
    (h : ∀ i t out w, all[i]? = some t → P i out w → ∃ ρ1 w1, g t ρ0 w = .ok ρ1 w1 ∧ ((∃ w2 y w3, c ρ1 w1 = .ok true w2 ∧ e ρ1 w2 = .ok y w3 ∧ out.length < 16777216 ∧ P (i + 1) (out ++ [y]) w3) ∨ ∃ w2, c ρ1 w1 = .ok false w2 ∧ P (i + 1) out w2)) :
    ∃ out' w', compL g c e none all ρ0 all [] w = .ok out' w' ∧ P all.length out' w' := by
  have := compL_go P h all.length 0 [] w (by omega) h0
  rwa [List.drop_zero] at this
/-- a comprehension whose items are worked out by a function, the world untouched, nothing left out -/
theorem compL_map {c : MT} {e : ME} {ρ0 : Env} (f : T → T) (hl : all.length < 16777216) (h : ∀ t ∈ all, ∃ ρ1, g t ρ0 w = .ok ρ1 w ∧ c ρ1 w = .ok true w ∧ e ρ1 w = .ok (f t) w) : compL g c e none all ρ0 all [] w = .ok (all.map f) w := by
  obtain ⟨out, w', e1, e2, e3⟩ := compL_run (w := w) (P := fun i out w' => w' = w ∧ out = (all.take i).map f) (g := g) (c := c) (e := e) (ρ0 := ρ0) (all := all) ⟨rfl, by simp⟩ (fun i t out w' ht p => by
    obtain ⟨rfl, rfl⟩ := p
    obtain ⟨hi, hx⟩ := List.getElem?_eq_some_iff.mp ht
    obtain ⟨ρ1, a, b, d⟩ := h t (List.mem_of_getElem? ht)
    refine ⟨ρ1, _, a, .inl ⟨_, _, _, b, d, by simp; omega, rfl, ?_⟩⟩
    rw [List.take_add_one, ht, List.map_append]
    rfl)
  rw [e1, e2, e3, List.take_length]
/-- .. some left out -/
theorem compL_filter {c : MT} {e : ME} {ρ0 : Env} (p : T → Bool) (f : T → T) (hl : all.length < 16777216) (h : ∀ t ∈ all, ∃ ρ1, g t ρ0 w = .ok ρ1 w ∧ c ρ1 w = .ok (p t) w ∧ (p t = true → e ρ1 w = .ok (f t) w)) : compL g c e none all ρ0 all [] w = .ok ((all.filter p).map f) w := by
  obtain ⟨out, w', e1, e2, e3⟩ := compL_run (w := w) (P := fun i out w' => w' = w ∧ out = ((all.take i).filter p).map f) (g := g) (c := c) (e := e) (ρ0 := ρ0) (all := all) ⟨rfl, by simp⟩ (fun i t out w' ht q => by
    obtain ⟨rfl, rfl⟩ := q
    obtain ⟨hi, hx⟩ := List.getElem?_eq_some_iff.mp ht
    obtain ⟨ρ1, a, b, d⟩ := h t (List.mem_of_getElem? ht)
    refine ⟨ρ1, _, a, ?_⟩
    cases hp : p t with
    | true =>
      refine .inl ⟨_, _, _, by rw [b, hp], d hp, ?_, rfl, ?_⟩
      · have h1 := List.length_filter_le p (all.take i)
        have h2 := List.length_take_le i all
        simp only [List.length_map]
        omega
      · rw [List.take_add_one, ht, List.filter_append, List.map_append]
        simp [hp]
    | false =>
      refine .inr ⟨_, by rw [b, hp], rfl, ?_⟩
      rw [List.take_add_one, ht, List.filter_append, List.map_append]
      simp [hp])
  rw [e1, e2, e3, List.take_length]
end
end VS

set_option Elab.async false
set_option linter.all false
set_option maxRecDepth 100000
set_option maxHeartbeats 4000000
namespace VS
open PySem PySem.Spec PyProof.Rows L2
def topS (i : Nat) : Stmt := PySem.Challenge.pw_seenatonce_k27_roads.main.body.getD i (.Pass ⟨0, 0, 0, 0⟩)
def isTab : List (Str × Str × Bool) := [("BadLetter", "BadLetter", true), ("BadLetter", "BadNumber", false), ("BadLetter", "BadStore", false), ("BadLetter", "BadWho", false), ("BadNumber", "BadLetter", false), ("BadNumber", "BadNumber", true), ("BadNumber", "BadStore", false), ("BadNumber", "BadWho", false), ("BadStore", "BadLetter", false), ("BadStore", "BadNumber", false), ("BadStore", "BadStore", true), ("BadStore", "BadWho", false), ("BadWho", "BadLetter", false), ("BadWho", "BadNumber", false), ("BadWho", "BadStore", false), ("BadWho", "BadWho", true), ("", "BadLetter", false), ("", "BadNumber", false), ("", "BadStore", false), ("", "BadWho", false)]
def caughtL : List Str := ["BadLetter", "BadNumber", "BadStore", "BadWho"]
def obTab : List (Str × List Str) := [("Road", ["store", "_sent"])]
structure Zs (K : PySem.W.Frag) (mg : Str → Option Value) : Prop where
  z_bool : mg "bool" = none
  z_isinstance : mg "isinstance" = none
  z_int : mg "int" = none
  z_len : mg "len" = none
  z_tuple : mg "tuple" = none
  z_all : mg "all" = none
  z_zip : mg "zip" = none
  z_abs : mg "abs" = none
  z_enumerate : mg "enumerate" = none
  z_min : mg "min" = none
  z_range : mg "range" = none
  z_list : mg "list" = none
  c_GREATEST : ∃ t, mg "GREATEST" = some (.int 999999999999999999 t)
  c_MOST_HANDS : ∃ t, mg "MOST_HANDS" = some (.int 6 t)
  c_MOST_HOUSES : ∃ t, mg "MOST_HOUSES" = some (.int 13 t)
  e_BadLetter : ErrC K mg "BadLetter"
  e_BadNumber : ErrC K mg "BadNumber"
  e_BadStore : ErrC K mg "BadStore"
  e_BadWho : ErrC K mg "BadWho"
  g_BadLetter : GlbD K mg "BadLetter"
  g_BadNumber : GlbD K mg "BadNumber"
  g_BadStore : GlbD K mg "BadStore"
  g_BadWho : GlbD K mg "BadWho"
  isx : IsTab K isTab
  ob : ObTab K obTab
  cg : CaughtD K mg caughtL
abbrev t__law_caught : Stmt := topS 37
theorem caught_t : CaughtT t__law_caught "SeenError" := ⟨⟨rfl, rfl, rfl, by decide +kernel, rfl, by decide +kernel, by decide +kernel⟩, rfl, rfl, rfl, rfl, by decide, ⟨_, _, _, _, _, _, _, _, _, _, _, _, _, _, _, rfl⟩⟩
section
variable {P : Program} {w : PySem.World} {K : PySem.W.Frag} {Z : List (Addr × Str)} {mg : Str → Option Value} {base : Heap}
/-! is_number -/
abbrev t_is_number : Stmt := topS 10
abbrev N_is_number : List Str := ["value"]
theorem sc_is_number : FnScope N_is_number ["value"] (defScope t_is_number) := ⟨rfl, rfl, rfl, by decide +kernel, rfl, by decide +kernel, by decide +kernel⟩
noncomputable def m_is_number : MS := (mRet (mAndV (mCall sIsi (mCons (mVar 0) (mCons (mC (.ty "int")) mNil))) (mAndV (mNotV (mCall sIsi (mCons (mVar 0) (mCons (mC (.ty "bool")) mNil)))) (mChain sLe sLe (mOp1 sNeg (mC (.int 999999999999999999))) (mVar 0) (mC (.int 999999999999999999))))))
noncomputable def s_is_number : Sem := runB 1 m_is_number
theorem b_is_number {cd : Value} (z : Zs K mg) : Bd P w K Z mg base N_is_number "is_number" t_is_number cd 0 m_is_number :=
 fun f A outer s H E W hr tk =>
 (ds_one (ds_ret (de_and (de_isi z.z_isinstance (da_cons (de_var 0) (da_cons (de_gty z.z_int (by decide +kernel)) da_nil))) (de_and (de_not (de_isi z.z_isinstance (da_cons (de_var 0) (da_cons (de_gty z.z_bool (by decide +kernel)) da_nil)))) (de_one (de_chain op_le op2B0 op_le op2B0 (de_neg (de_gint' z.c_GREATEST)) (de_var 0) (de_gint' z.c_GREATEST)))))))
/-! is_count -/
abbrev t_is_count : Stmt := topS 11
abbrev N_is_count : List Str := ["value"]
theorem sc_is_count : FnScope N_is_count ["value"] (defScope t_is_count) := ⟨rfl, rfl, rfl, by decide +kernel, rfl, by decide +kernel, by decide +kernel⟩
noncomputable def m_is_count : MS := (mRet (mAndV (mDef 1 s_is_number (mCons (mVar 0) mNil)) (mOp2 sGe (mVar 0) (mC (.int 0)))))
noncomputable def s_is_count : Sem := runB 1 m_is_count
theorem b_is_count {cd : Value} (z : Zs K mg) (D_is_number : Df P w K Z mg base 1 "is_number" ["value"] s_is_number) : Bd P w K Z mg base N_is_count "is_count" t_is_count cd 1 m_is_count :=
 fun f A outer s H E W hr tk =>
 (ds_one (ds_ret (de_and (de_def D_is_number tk (hr.mono (by decide)) (da_cons (de_var 0) da_nil)) (de_one (de_ge (de_var 0) de_int)))))
/-! counts_from_one -/
abbrev t_counts_from_one : Stmt := topS 12
abbrev N_counts_from_one : List Str := ["value"]
theorem sc_counts_from_one : FnScope N_counts_from_one ["value"] (defScope t_counts_from_one) := ⟨rfl, rfl, rfl, by decide +kernel, rfl, by decide +kernel, by decide +kernel⟩
noncomputable def m_counts_from_one : MS := (mRet (mAndV (mDef 1 s_is_count (mCons (mVar 0) mNil)) (mOp2 sGt (mVar 0) (mC (.int 0)))))
noncomputable def s_counts_from_one : Sem := runB 1 m_counts_from_one
theorem b_counts_from_one {cd : Value} (z : Zs K mg) (D_is_count : Df P w K Z mg base 2 "is_count" ["value"] s_is_count) : Bd P w K Z mg base N_counts_from_one "counts_from_one" t_counts_from_one cd 2 m_counts_from_one :=
 fun f A outer s H E W hr tk =>
 (ds_one (ds_ret (de_and (de_def D_is_count tk (hr.mono (by decide)) (da_cons (de_var 0) da_nil)) (de_one (de_gt (de_var 0) de_int)))))
/-! is_place -/
abbrev t_is_place : Stmt := topS 13
abbrev N_is_place : List Str := ["value", "many"]
theorem sc_is_place : FnScope N_is_place ["value", "many"] (defScope t_is_place) := ⟨rfl, rfl, rfl, by decide +kernel, rfl, by decide +kernel, by decide +kernel⟩
noncomputable def m_is_place : MS := (mRet (mAndV (mDef 1 s_is_count (mCons (mVar 0) mNil)) (mOp2 sLt (mVar 0) (mVar 1))))
noncomputable def s_is_place : Sem := runB 2 m_is_place
theorem b_is_place {cd : Value} (z : Zs K mg) (D_is_count : Df P w K Z mg base 2 "is_count" ["value"] s_is_count) : Bd P w K Z mg base N_is_place "is_place" t_is_place cd 2 m_is_place :=
 fun f A outer s H E W hr tk =>
 (ds_one (ds_ret (de_and (de_def D_is_count tk (hr.mono (by decide)) (da_cons (de_var 0) da_nil)) (de_one (de_lt (de_var 0) (de_var 1))))))
/-! is_tuple_of -/
abbrev t_is_tuple_of : Stmt := topS 14
abbrev N_is_tuple_of : List Str := ["value", "many"]
theorem sc_is_tuple_of : FnScope N_is_tuple_of ["value", "many"] (defScope t_is_tuple_of) := ⟨rfl, rfl, rfl, by decide +kernel, rfl, by decide +kernel, by decide +kernel⟩
noncomputable def m_is_tuple_of : MS := (mRet (mAndV (mCall sIsi (mCons (mVar 0) (mCons (mC (.ty "tuple")) mNil))) (mOp2 sEq (mCall sLen (mCons (mVar 0) mNil)) (mVar 1))))
noncomputable def s_is_tuple_of : Sem := runB 2 m_is_tuple_of
theorem b_is_tuple_of {cd : Value} (z : Zs K mg) : Bd P w K Z mg base N_is_tuple_of "is_tuple_of" t_is_tuple_of cd 0 m_is_tuple_of :=
 fun f A outer s H E W hr tk =>
 (ds_one (ds_ret (de_and (de_isi z.z_isinstance (da_cons (de_var 0) (da_cons (de_gty z.z_tuple (by decide +kernel)) da_nil))) (de_one (de_eq hr.units (de_len z.z_len (da_cons (de_var 0) da_nil)) (de_var 1))))))
/-! is_row_for -/
abbrev t_is_row_for : Stmt := topS 15
abbrev N_is_row_for : List Str := ["value", "hands", "item"]
theorem sc_is_row_for : FnScope N_is_row_for ["value", "hands"] (defScope t_is_row_for) := ⟨rfl, rfl, rfl, by decide +kernel, rfl, by decide +kernel, by decide +kernel⟩
noncomputable def m_is_row_for : MS := (mRet (mAndV (mDef 2 s_is_tuple_of (mCons (mVar 0) (mCons (mVar 1) mNil))) (mCall sAll (mCons (mVal (mComp [2] (mItems (mVar 0)) (mgName 2) mYes (mDef 1 s_is_count (mCons (mVar 2) mNil)))) mNil))))
noncomputable def s_is_row_for : Sem := runB 3 m_is_row_for
theorem b_is_row_for {cd : Value} (z : Zs K mg) (D_is_count : Df P w K Z mg base 2 "is_count" ["value"] s_is_count) (D_is_tuple_of : Df P w K Z mg base 1 "is_tuple_of" ["value", "many"] s_is_tuple_of) : Bd P w K Z mg base N_is_row_for "is_row_for" t_is_row_for cd 2 m_is_row_for :=
 fun f A outer s H E W hr tk =>
 (ds_one (ds_ret (de_and (de_def D_is_tuple_of tk (hr.mono (by decide)) (da_cons (de_var 0) (da_cons (de_var 1) da_nil))) (de_one (de_all rfl z.z_all (da_cons (de_val (df_comp (own := [("item", 2)]) rfl sc_is_row_for.nd (di_seq (de_var 0)) (show blkC N_is_row_for (defScope t_is_row_for) _ [("item", 2)] = true by decide +kernel) (fun _ _ _ _ _ => (dg_name 2 sc_is_row_for.nd)) (fun _ _ _ _ _ => dts_nil) (fun _ _ _ _ _ => (de_def D_is_count trivial (hr.mono (by decide)) (da_cons (de_var 2) da_nil))))) da_nil))))))
/-! ascends -/
abbrev t_ascends : Stmt := topS 16
abbrev N_ascends : List Str := ["values", "item", "after"]
theorem sc_ascends : FnScope N_ascends ["values"] (defScope t_ascends) := ⟨rfl, rfl, rfl, by decide +kernel, rfl, by decide +kernel, by decide +kernel⟩
noncomputable def m_ascends : MS := (mRet (mCall sAll (mCons (mVal (mComp [1, 2] (mZip (mCons (mVar 0) (mCons (mSlT (mVar 0) (mPart (mC (.int 1))) mNoPart) mNil))) (mgTup 2 (mgCons (mgName 1) (mgCons (mgName 2) mgNil))) mYes (mOp2 sLtD (mVar 1) (mVar 2)))) mNil)))
noncomputable def s_ascends : Sem := runB 3 m_ascends
theorem b_ascends {cd : Value} (z : Zs K mg) : Bd P w K Z mg base N_ascends "ascends" t_ascends cd 0 m_ascends :=
 fun f A outer s H E W hr tk =>
 (ds_one (ds_ret (de_all rfl z.z_all (da_cons (de_val (df_comp (own := [("item", 1), ("after", 2)]) rfl sc_ascends.nd (di_zip z.z_zip (da_cons (de_var 0) (da_cons (de_slice (de_var 0) (do_some de_int) do_none) da_nil))) (show blkC N_ascends (defScope t_ascends) _ [("item", 1), ("after", 2)] = true by decide +kernel) (fun _ _ _ _ _ => (dg_tup rfl (dgs_cons (dg_name 1 sc_ascends.nd) (dgs_cons (dg_name 2 sc_ascends.nd) dgs_nil)))) (fun _ _ _ _ _ => dts_nil) (fun _ _ _ _ _ => (de_ltD hr.units (de_var 1) (de_var 2))))) da_nil))))
/-! is_store -/
abbrev t_is_store : Stmt := topS 17
abbrev N_is_store : List Str := ["value", "hands", "houses", "lies"]
theorem sc_is_store : FnScope N_is_store ["value"] (defScope t_is_store) := ⟨rfl, rfl, rfl, by decide +kernel, rfl, by decide +kernel, by decide +kernel⟩
noncomputable def m_is_store : MS := (mSeq (mIfS (mNot (mTru (mDef 2 s_is_row_for (mCons (mVar 0) (mCons (mC (.int 3)) mNil)))))
 (mRet (mC (.bl false)))
 mSkip)
 (mSeq (mAsg (mVar 0) (mgTup 3 (mgCons (mgName 1) (mgCons (mgName 2) (mgCons (mgName 3) mgNil)))))
 (mRet (mAndV (mChain sLe sLe (mC (.int 1)) (mVar 1) (mC (.int 6))) (mChain sLt sLe (mOp2 sMul (mC (.int 3)) (mVar 3)) (mVar 2) (mC (.int 13)))))))
noncomputable def s_is_store : Sem := runB 4 m_is_store
theorem b_is_store {cd : Value} (z : Zs K mg) (D_is_row_for : Df P w K Z mg base 3 "is_row_for" ["value", "hands"] s_is_row_for) : Bd P w K Z mg base N_is_store "is_store" t_is_store cd 3 m_is_store :=
 fun f A outer s H E W hr tk =>
 (ds_cons (ds_if (dt_not (dt_tru (de_def D_is_row_for tk (hr.mono (by decide)) (da_cons (de_var 0) (da_cons de_int da_nil)))))
 (ds_one (ds_ret de_bl))
 ds_nil)
 (ds_cons (ds_asg (de_var 0) (dg_tup rfl (dgs_cons (dg_name 1 sc_is_store.nd) (dgs_cons (dg_name 2 sc_is_store.nd) (dgs_cons (dg_name 3 sc_is_store.nd) dgs_nil)))))
 (ds_one (ds_ret (de_and (de_chain op_le op2B0 op_le op2B0 de_int (de_var 1) (de_gint' z.c_MOST_HANDS)) (de_one (de_chain op_lt op2B0 op_le op2B0 (de_mul de_int (de_var 3)) (de_var 2) (de_gint' z.c_MOST_HOUSES))))))))
/-! check_store -/
abbrev t_check_store : Stmt := topS 18
abbrev N_check_store : List Str := ["store"]
theorem sc_check_store : FnScope N_check_store ["store"] (defScope t_check_store) := ⟨rfl, rfl, rfl, by decide +kernel, rfl, by decide +kernel, by decide +kernel⟩
noncomputable def m_check_store : MS := (mIfS (mNot (mTru (mDef 1 s_is_store (mCons (mVar 0) mNil))))
 (mRaise "BadStore")
 mSkip)
noncomputable def s_check_store : Sem := runB 1 m_check_store
theorem b_check_store {cd : Value} (z : Zs K mg) (D_is_store : Df P w K Z mg base 4 "is_store" ["value"] s_is_store) : Bd P w K Z mg base N_check_store "check_store" t_check_store cd 4 m_check_store :=
 fun f A outer s H E W hr tk =>
 (ds_one (ds_if (dt_not (dt_tru (de_def D_is_store tk (hr.mono (by decide)) (da_cons (de_var 0) da_nil))))
 (ds_one (ds_raise z.e_BadStore rfl tk))
 ds_nil))
/-! has_name_form -/
abbrev t_has_name_form : Stmt := topS 20
abbrev N_has_name_form : List Str := ["value"]
theorem sc_has_name_form : FnScope N_has_name_form ["value"] (defScope t_has_name_form) := ⟨rfl, rfl, rfl, by decide +kernel, rfl, by decide +kernel, by decide +kernel⟩
noncomputable def m_has_name_form : MS := (mRet (mAndV (mDef 2 s_is_tuple_of (mCons (mVar 0) (mCons (mC (.int 2)) mNil))) (mAndV (mOp2 sEqX (mOp2 sIx (mVar 0) (mC (.int 0))) (mC (.str "name"))) (mDef 1 s_is_count (mCons (mOp2 sIx (mVar 0) (mC (.int 1))) mNil)))))
noncomputable def s_has_name_form : Sem := runB 1 m_has_name_form
theorem b_has_name_form {cd : Value} (z : Zs K mg) (D_is_count : Df P w K Z mg base 2 "is_count" ["value"] s_is_count) (D_is_tuple_of : Df P w K Z mg base 1 "is_tuple_of" ["value", "many"] s_is_tuple_of) : Bd P w K Z mg base N_has_name_form "has_name_form" t_has_name_form cd 2 m_has_name_form :=
 fun f A outer s H E W hr tk =>
 (ds_one (ds_ret (de_and (de_def D_is_tuple_of tk (hr.mono (by decide)) (da_cons (de_var 0) (da_cons de_int da_nil))) (de_and (de_eqX hr.units (de_sub' (hu_of hr) (de_var 0) de_int) de_str) (de_one (de_def D_is_count tk (hr.mono (by decide)) (da_cons (de_sub' (hu_of hr) (de_var 0) de_int) da_nil)))))))
/-! are_names_by_form -/
abbrev t_are_names_by_form : Stmt := topS 21
abbrev N_are_names_by_form : List Str := ["value", "name"]
theorem sc_are_names_by_form : FnScope N_are_names_by_form ["value"] (defScope t_are_names_by_form) := ⟨rfl, rfl, rfl, by decide +kernel, rfl, by decide +kernel, by decide +kernel⟩
noncomputable def m_are_names_by_form : MS := (mRet (mAndV (mCall sIsi (mCons (mVar 0) (mCons (mC (.ty "tuple")) mNil))) (mCall sAll (mCons (mVal (mComp [1] (mItems (mVar 0)) (mgName 1) mYes (mDef 1 s_has_name_form (mCons (mVar 1) mNil)))) mNil))))
noncomputable def s_are_names_by_form : Sem := runB 2 m_are_names_by_form
theorem b_are_names_by_form {cd : Value} (z : Zs K mg) (D_has_name_form : Df P w K Z mg base 3 "has_name_form" ["value"] s_has_name_form) : Bd P w K Z mg base N_are_names_by_form "are_names_by_form" t_are_names_by_form cd 3 m_are_names_by_form :=
 fun f A outer s H E W hr tk =>
 (ds_one (ds_ret (de_and (de_isi z.z_isinstance (da_cons (de_var 0) (da_cons (de_gty z.z_tuple (by decide +kernel)) da_nil))) (de_one (de_all rfl z.z_all (da_cons (de_val (df_comp (own := [("name", 1)]) rfl sc_are_names_by_form.nd (di_seq (de_var 0)) (show blkC N_are_names_by_form (defScope t_are_names_by_form) _ [("name", 1)] = true by decide +kernel) (fun _ _ _ _ _ => (dg_name 1 sc_are_names_by_form.nd)) (fun _ _ _ _ _ => dts_nil) (fun _ _ _ _ _ => (de_def D_has_name_form trivial (hr.mono (by decide)) (da_cons (de_var 1) da_nil))))) da_nil))))))
/-! _is_one -/
abbrev t__is_one : Stmt := topS 23
abbrev N__is_one : List Str := ["value", "word", "many"]
theorem sc__is_one : FnScope N__is_one ["value", "word", "many"] (defScope t__is_one) := ⟨rfl, rfl, rfl, by decide +kernel, rfl, by decide +kernel, by decide +kernel⟩
noncomputable def m__is_one : MS := (mRet (mAndV (mDef 2 s_is_tuple_of (mCons (mVar 0) (mCons (mC (.int 2)) mNil))) (mAndV (mOp2 sEqX (mOp2 sIx (mVar 0) (mC (.int 0))) (mVar 1)) (mDef 2 s_is_place (mCons (mOp2 sIx (mVar 0) (mC (.int 1))) (mCons (mVar 2) mNil))))))
noncomputable def s__is_one : Sem := runB 3 m__is_one
theorem b__is_one {cd : Value} (z : Zs K mg) (D_is_place : Df P w K Z mg base 3 "is_place" ["value", "many"] s_is_place) (D_is_tuple_of : Df P w K Z mg base 1 "is_tuple_of" ["value", "many"] s_is_tuple_of) : Bd P w K Z mg base N__is_one "_is_one" t__is_one cd 3 m__is_one :=
 fun f A outer s H E W hr tk =>
 (ds_one (ds_ret (de_and (de_def D_is_tuple_of tk (hr.mono (by decide)) (da_cons (de_var 0) (da_cons de_int da_nil))) (de_and (de_eqX hr.units (de_sub' (hu_of hr) (de_var 0) de_int) (de_var 1)) (de_one (de_def D_is_place tk (hr.mono (by decide)) (da_cons (de_sub' (hu_of hr) (de_var 0) de_int) (da_cons (de_var 2) da_nil))))))))
/-! is_hand_of -/
abbrev t_is_hand_of : Stmt := topS 24
abbrev N_is_hand_of : List Str := ["store", "value"]
theorem sc_is_hand_of : FnScope N_is_hand_of ["store", "value"] (defScope t_is_hand_of) := ⟨rfl, rfl, rfl, by decide +kernel, rfl, by decide +kernel, by decide +kernel⟩
noncomputable def m_is_hand_of : MS := (mRet (mDef 3 s__is_one (mCons (mVar 1) (mCons (mC (.str "hand")) (mCons (mOp2 sIx (mVar 0) (mC (.int 0))) mNil)))))
noncomputable def s_is_hand_of : Sem := runB 2 m_is_hand_of
theorem b_is_hand_of {cd : Value} (z : Zs K mg) (D__is_one : Df P w K Z mg base 4 "_is_one" ["value", "word", "many"] s__is_one) : Bd P w K Z mg base N_is_hand_of "is_hand_of" t_is_hand_of cd 4 m_is_hand_of :=
 fun f A outer s H E W hr tk =>
 (ds_one (ds_ret (de_def D__is_one tk (hr.mono (by decide)) (da_cons (de_var 1) (da_cons de_str (da_cons (de_sub' (hu_of hr) (de_var 0) de_int) da_nil))))))
/-! is_house_of -/
abbrev t_is_house_of : Stmt := topS 25
abbrev N_is_house_of : List Str := ["store", "value"]
theorem sc_is_house_of : FnScope N_is_house_of ["store", "value"] (defScope t_is_house_of) := ⟨rfl, rfl, rfl, by decide +kernel, rfl, by decide +kernel, by decide +kernel⟩
noncomputable def m_is_house_of : MS := (mRet (mDef 3 s__is_one (mCons (mVar 1) (mCons (mC (.str "house")) (mCons (mOp2 sIx (mVar 0) (mC (.int 1))) mNil)))))
noncomputable def s_is_house_of : Sem := runB 2 m_is_house_of
theorem b_is_house_of {cd : Value} (z : Zs K mg) (D__is_one : Df P w K Z mg base 4 "_is_one" ["value", "word", "many"] s__is_one) : Bd P w K Z mg base N_is_house_of "is_house_of" t_is_house_of cd 4 m_is_house_of :=
 fun f A outer s H E W hr tk =>
 (ds_one (ds_ret (de_def D__is_one tk (hr.mono (by decide)) (da_cons (de_var 1) (da_cons de_str (da_cons (de_sub' (hu_of hr) (de_var 0) de_int) da_nil))))))
/-! _has_word -/
abbrev t__has_word : Stmt := topS 26
abbrev N__has_word : List Str := ["body", "word", "items"]
theorem sc__has_word : FnScope N__has_word ["body", "word", "items"] (defScope t__has_word) := ⟨rfl, rfl, rfl, by decide +kernel, rfl, by decide +kernel, by decide +kernel⟩
noncomputable def m__has_word : MS := (mRet (mAndV (mDef 2 s_is_tuple_of (mCons (mVar 0) (mCons (mVar 2) mNil))) (mAndV (mOp2 sEqX (mOp2 sIx (mVar 0) (mC (.int 0))) (mVar 1)) (mAndV (mDef 1 s_counts_from_one (mCons (mOp2 sIx (mVar 0) (mC (.int 1))) mNil)) (mDef 1 s_counts_from_one (mCons (mOp2 sIx (mVar 0) (mC (.int 2))) mNil))))))
noncomputable def s__has_word : Sem := runB 3 m__has_word
theorem b__has_word {cd : Value} (z : Zs K mg) (D_counts_from_one : Df P w K Z mg base 3 "counts_from_one" ["value"] s_counts_from_one) (D_is_tuple_of : Df P w K Z mg base 1 "is_tuple_of" ["value", "many"] s_is_tuple_of) : Bd P w K Z mg base N__has_word "_has_word" t__has_word cd 3 m__has_word :=
 fun f A outer s H E W hr tk =>
 (ds_one (ds_ret (de_and (de_def D_is_tuple_of tk (hr.mono (by decide)) (da_cons (de_var 0) (da_cons (de_var 2) da_nil))) (de_and (de_eqX hr.units (de_sub' (hu_of hr) (de_var 0) de_int) (de_var 1)) (de_and (de_def D_counts_from_one tk (hr.mono (by decide)) (da_cons (de_sub' (hu_of hr) (de_var 0) de_int) da_nil)) (de_one (de_def D_counts_from_one tk (hr.mono (by decide)) (da_cons (de_sub' (hu_of hr) (de_var 0) de_int) da_nil))))))))
/-! _may_hand_write -/
abbrev t__may_hand_write : Stmt := topS 27
abbrev N__may_hand_write : List Str := ["store", "body"]
theorem sc__may_hand_write : FnScope N__may_hand_write ["store", "body"] (defScope t__may_hand_write) := ⟨rfl, rfl, rfl, by decide +kernel, rfl, by decide +kernel, by decide +kernel⟩
noncomputable def m__may_hand_write : MS := (mSeq (mIfS (mTru (mDef 3 s__has_word (mCons (mVar 1) (mCons (mC (.str "ask")) (mCons (mC (.int 5)) mNil)))))
 (mRet (mAndV (mDef 2 s_is_row_for (mCons (mOp2 sIx (mVar 1) (mC (.int 3))) (mCons (mOp2 sIx (mVar 0) (mC (.int 0))) mNil))) (mAndV (mDef 1 s_are_names_by_form (mCons (mOp2 sIx (mVar 1) (mC (.int 4))) mNil)) (mDef 1 s_ascends (mCons (mOp2 sIx (mVar 1) (mC (.int 4))) mNil)))))
 mSkip)
 (mRet (mAndV (mDef 3 s__has_word (mCons (mVar 1) (mCons (mC (.str "keep")) (mCons (mC (.int 4)) mNil)))) (mDef 1 s_are_names_by_form (mCons (mOp2 sIx (mVar 1) (mC (.int 3))) mNil)))))
noncomputable def s__may_hand_write : Sem := runB 2 m__may_hand_write
theorem b__may_hand_write {cd : Value} (z : Zs K mg) (D__has_word : Df P w K Z mg base 4 "_has_word" ["body", "word", "items"] s__has_word) (D_ascends : Df P w K Z mg base 1 "ascends" ["values"] s_ascends) (D_are_names_by_form : Df P w K Z mg base 4 "are_names_by_form" ["value"] s_are_names_by_form) (D_is_row_for : Df P w K Z mg base 3 "is_row_for" ["value", "hands"] s_is_row_for) : Bd P w K Z mg base N__may_hand_write "_may_hand_write" t__may_hand_write cd 4 m__may_hand_write :=
 fun f A outer s H E W hr tk =>
 (ds_cons (ds_if (dt_tru (de_def D__has_word tk (hr.mono (by decide)) (da_cons (de_var 1) (da_cons de_str (da_cons de_int da_nil)))))
 (ds_one (ds_ret (de_and (de_def D_is_row_for tk (hr.mono (by decide)) (da_cons (de_sub' (hu_of hr) (de_var 1) de_int) (da_cons (de_sub' (hu_of hr) (de_var 0) de_int) da_nil))) (de_and (de_def D_are_names_by_form tk (hr.mono (by decide)) (da_cons (de_sub' (hu_of hr) (de_var 1) de_int) da_nil)) (de_one (de_def D_ascends tk (hr.mono (by decide)) (da_cons (de_sub' (hu_of hr) (de_var 1) de_int) da_nil)))))))
 ds_nil)
 (ds_one (ds_ret (de_and (de_def D__has_word tk (hr.mono (by decide)) (da_cons (de_var 1) (da_cons de_str (da_cons de_int da_nil)))) (de_one (de_def D_are_names_by_form tk (hr.mono (by decide)) (da_cons (de_sub' (hu_of hr) (de_var 1) de_int) da_nil)))))))
/-! _may_house_write -/
abbrev t__may_house_write : Stmt := topS 28
abbrev N__may_house_write : List Str := ["body"]
theorem sc__may_house_write : FnScope N__may_house_write ["body"] (defScope t__may_house_write) := ⟨rfl, rfl, rfl, by decide +kernel, rfl, by decide +kernel, by decide +kernel⟩
noncomputable def m__may_house_write : MS := (mSeq (mIfS (mTru (mDef 3 s__has_word (mCons (mVar 0) (mCons (mC (.str "have")) (mCons (mC (.int 5)) mNil)))))
 (mRet (mAndV (mDef 1 s_are_names_by_form (mCons (mOp2 sIx (mVar 0) (mC (.int 3))) mNil)) (mDef 1 s_has_name_form (mCons (mOp2 sIx (mVar 0) (mC (.int 4))) mNil))))
 mSkip)
 (mRet (mAndV (mDef 3 s__has_word (mCons (mVar 0) (mCons (mC (.str "kept")) (mCons (mC (.int 4)) mNil)))) (mDef 1 s_has_name_form (mCons (mOp2 sIx (mVar 0) (mC (.int 3))) mNil)))))
noncomputable def s__may_house_write : Sem := runB 1 m__may_house_write
theorem b__may_house_write {cd : Value} (z : Zs K mg) (D__has_word : Df P w K Z mg base 4 "_has_word" ["body", "word", "items"] s__has_word) (D_has_name_form : Df P w K Z mg base 3 "has_name_form" ["value"] s_has_name_form) (D_are_names_by_form : Df P w K Z mg base 4 "are_names_by_form" ["value"] s_are_names_by_form) : Bd P w K Z mg base N__may_house_write "_may_house_write" t__may_house_write cd 4 m__may_house_write :=
 fun f A outer s H E W hr tk =>
 (ds_cons (ds_if (dt_tru (de_def D__has_word tk (hr.mono (by decide)) (da_cons (de_var 0) (da_cons de_str (da_cons de_int da_nil)))))
 (ds_one (ds_ret (de_and (de_def D_are_names_by_form tk (hr.mono (by decide)) (da_cons (de_sub' (hu_of hr) (de_var 0) de_int) da_nil)) (de_one (de_def D_has_name_form tk (hr.mono (by decide)) (da_cons (de_sub' (hu_of hr) (de_var 0) de_int) da_nil))))))
 ds_nil)
 (ds_one (ds_ret (de_and (de_def D__has_word tk (hr.mono (by decide)) (da_cons (de_var 0) (da_cons de_str (da_cons de_int da_nil)))) (de_one (de_def D_has_name_form tk (hr.mono (by decide)) (da_cons (de_sub' (hu_of hr) (de_var 0) de_int) da_nil)))))))
/-! is_letter -/
abbrev t_is_letter : Stmt := topS 29
abbrev N_is_letter : List Str := ["store", "value", "sender", "receiver", "body"]
theorem sc_is_letter : FnScope N_is_letter ["store", "value"] (defScope t_is_letter) := ⟨rfl, rfl, rfl, by decide +kernel, rfl, by decide +kernel, by decide +kernel⟩
noncomputable def m_is_letter : MS := (mSeq (mDrop (mDef 1 s_check_store (mCons (mVar 0) mNil)))
 (mSeq (mIfS (mNot (mTru (mDef 2 s_is_tuple_of (mCons (mVar 1) (mCons (mC (.int 3)) mNil)))))
 (mRet (mC (.bl false)))
 mSkip)
 (mSeq (mAsg (mVar 1) (mgTup 3 (mgCons (mgName 2) (mgCons (mgName 3) (mgCons (mgName 4) mgNil)))))
 (mSeq (mIfS (mTru (mDef 2 s_is_hand_of (mCons (mVar 0) (mCons (mVar 2) mNil))))
 (mRet (mAndV (mDef 2 s_is_house_of (mCons (mVar 0) (mCons (mVar 3) mNil))) (mDef 2 s__may_hand_write (mCons (mVar 0) (mCons (mVar 4) mNil)))))
 mSkip)
 (mRet (mAndV (mDef 2 s_is_house_of (mCons (mVar 0) (mCons (mVar 2) mNil))) (mAndV (mDef 2 s_is_hand_of (mCons (mVar 0) (mCons (mVar 3) mNil))) (mDef 1 s__may_house_write (mCons (mVar 4) mNil)))))))))
noncomputable def s_is_letter : Sem := runB 5 m_is_letter
theorem b_is_letter {cd : Value} (z : Zs K mg) (D_check_store : Df P w K Z mg base 5 "check_store" ["store"] s_check_store) (D_is_tuple_of : Df P w K Z mg base 1 "is_tuple_of" ["value", "many"] s_is_tuple_of) (D_is_hand_of : Df P w K Z mg base 5 "is_hand_of" ["store", "value"] s_is_hand_of) (D__may_hand_write : Df P w K Z mg base 5 "_may_hand_write" ["store", "body"] s__may_hand_write) (D_is_house_of : Df P w K Z mg base 5 "is_house_of" ["store", "value"] s_is_house_of) (D__may_house_write : Df P w K Z mg base 5 "_may_house_write" ["body"] s__may_house_write) : Bd P w K Z mg base N_is_letter "is_letter" t_is_letter cd 5 m_is_letter :=
 fun f A outer s H E W hr tk =>
 (ds_cons (ds_expr (de_def D_check_store tk (hr.mono (by decide)) (da_cons (de_var 0) da_nil)))
 (ds_cons (ds_if (dt_not (dt_tru (de_def D_is_tuple_of tk (hr.mono (by decide)) (da_cons (de_var 1) (da_cons de_int da_nil)))))
 (ds_one (ds_ret de_bl))
 ds_nil)
 (ds_cons (ds_asg (de_var 1) (dg_tup rfl (dgs_cons (dg_name 2 sc_is_letter.nd) (dgs_cons (dg_name 3 sc_is_letter.nd) (dgs_cons (dg_name 4 sc_is_letter.nd) dgs_nil)))))
 (ds_cons (ds_if (dt_tru (de_def D_is_hand_of tk (hr.mono (by decide)) (da_cons (de_var 0) (da_cons (de_var 2) da_nil))))
 (ds_one (ds_ret (de_and (de_def D_is_house_of tk (hr.mono (by decide)) (da_cons (de_var 0) (da_cons (de_var 3) da_nil))) (de_one (de_def D__may_hand_write tk (hr.mono (by decide)) (da_cons (de_var 0) (da_cons (de_var 4) da_nil)))))))
 ds_nil)
 (ds_one (ds_ret (de_and (de_def D_is_house_of tk (hr.mono (by decide)) (da_cons (de_var 0) (da_cons (de_var 2) da_nil))) (de_and (de_def D_is_hand_of tk (hr.mono (by decide)) (da_cons (de_var 0) (da_cons (de_var 3) da_nil))) (de_one (de_def D__may_house_write tk (hr.mono (by decide)) (da_cons (de_var 4) da_nil)))))))))))
/-! _law_begun -/
abbrev t__law_begun : Stmt := topS 33
abbrev N__law_begun : List Str := ["script", "great", "cell"]
theorem sc__law_begun : FnScope N__law_begun ["script"] (defScope t__law_begun) := ⟨rfl, rfl, rfl, by decide +kernel, rfl, by decide +kernel, by decide +kernel⟩
noncomputable def m__law_begun : MS := (mSeq (mAsg (if true = true then mCell (mComp [2] (mItems (mVar 0)) (mgName 2) (mTest (mOp2 sGe (mCall sAbs (mCons (mVar 2) mNil)) (mOp2 sPow (mC (.int 10)) (mC (.int 18))))) (mOp2 sSub (mCall sAbs (mCons (mVar 2) mNil)) (mOp2 sPow (mC (.int 10)) (mC (.int 18))))) else mVal (mComp [2] (mItems (mVar 0)) (mgName 2) (mTest (mOp2 sGe (mCall sAbs (mCons (mVar 2) mNil)) (mOp2 sPow (mC (.int 10)) (mC (.int 18))))) (mOp2 sSub (mCall sAbs (mCons (mVar 2) mNil)) (mOp2 sPow (mC (.int 10)) (mC (.int 18)))))) (mgName 1))
 (mRet (mDict (mpCons (mC (.str "great")) (mVar 1) (mpCons (mC (.str "cells")) (mVal (mComp [2] (mItems (mVar 0)) (mgName 2) mYes (mCall sAbs (mCons (mVar 2) mNil)))) (mpCons (mC (.str "left")) (mC (.int 0)) (mpCons (mC (.str "turn")) (mC (.int 0)) mpNil)))))))
noncomputable def s__law_begun : Sem := runB 3 m__law_begun
theorem b__law_begun {cd : Value} (z : Zs K mg) : Bd P w K Z mg base N__law_begun "_law_begun" t__law_begun cd 0 m__law_begun :=
 fun f A outer s H E W hr tk =>
 (ds_cons (ds_setLc (own := [("cell", 2)]) 1 true rfl sc__law_begun.nd (di_seq (de_var 0)) (show blkC N__law_begun (defScope t__law_begun) _ [("cell", 2)] = true by decide +kernel) (fun _ _ _ _ _ => (dg_name 2 sc__law_begun.nd)) (fun _ _ _ _ _ => (dts_one (dt_ge (de_abs z.z_abs (da_cons (de_var 2) da_nil)) (de_pow de_int de_int)))) (fun _ _ _ _ _ => (de_sub (de_abs z.z_abs (da_cons (de_var 2) da_nil)) (de_pow de_int de_int))) (sw_true rfl rfl rfl (by decide +kernel)))
 (ds_one (ds_ret (de_dict (dp_cons de_str (de_var 1) (dp_cons de_str (de_val (df_comp (own := [("cell", 2)]) rfl sc__law_begun.nd (di_seq (de_var 0)) (show blkC N__law_begun (defScope t__law_begun) _ [("cell", 2)] = true by decide +kernel) (fun _ _ _ _ _ => (dg_name 2 sc__law_begun.nd)) (fun _ _ _ _ _ => dts_nil) (fun _ _ _ _ _ => (de_abs z.z_abs (da_cons (de_var 2) da_nil))))) (dp_cons de_str de_int (dp_cons de_str de_int dp_nil))))))))
/-! _law_blended -/
abbrev t__law_blended : Stmt := topS 34
abbrev N__law_blended : List Str := ["state", "turn", "prime", "found", "blend", "cell"]
theorem sc__law_blended : FnScope N__law_blended ["state"] (defScope t__law_blended) := ⟨rfl, rfl, rfl, by decide +kernel, rfl, by decide +kernel, by decide +kernel⟩
noncomputable def m__law_blended : MS := (mSeq (mPar 1 3 (mCons (mOp2 sAdd (mOp2 sIx (mVar 0) (mC (.str "turn"))) (mC (.int 1))) (mCons (mC (.int 0)) mNil)))
 (mSeq (mAsg (mVar 1) (mgSub sSet (mVar 0) (mC (.str "turn"))))
 (mSeq (mFor (mItems (mVal (mLst (mCons (mC (.int 2147483477)) (mCons (mC (.int 2147483423)) (mCons (mC (.int 2147483399)) mNil)))))) (mgName 2)
 (mSeq (mAsg (mOp2 sAdd (mOp2 sMul (mC (.int 40014)) (mVar 1)) (mOp2 sFdiv (mVar 2) (mC (.int 67)))) (mgName 4))
 (mSeq (mFor (mItems (mOp2 sIx (mVar 0) (mC (.str "cells")))) (mgName 5)
 (mAsg (mOp2 sMod (mCall sInt (mCons (mOp2 sAdd (mOp2 sAdd (mOp2 sMul (mVar 4) (mC (.int 69621))) (mVar 5)) (mVar 1)) mNil)) (mVar 2)) (mgName 4)))
 (mAsg (mOp2 sAdd (mOp2 sMul (mVar 3) (mC (.int 2147483647))) (mOp2 sMod (mCall sInt (mCons (mOp2 sPow (mVar 4) (mC (.int 5))) mNil)) (mVar 2))) (mgName 3)))))
 (mRet (mVar 3)))))
noncomputable def s__law_blended : Sem := runB 6 m__law_blended
theorem b__law_blended {cd : Value} (z : Zs K mg) : Bd P w K Z mg base N__law_blended "_law_blended" t__law_blended cd 0 m__law_blended :=
 fun f A outer s H E W hr tk =>
 (ds_cons (ds_par 1 3 rfl sc__law_blended.nd (da_cons (de_add (de_sub' (hu_of hr) (de_var 0) de_str) de_int) (da_cons de_int da_nil)))
 (ds_cons (ds_asg (de_var 1) (dg_item (hu_of hr) (de_var 0) de_str))
 (ds_cons (ds_for (passes_of rfl) rfl (di_seq (de_val (df_lst (da_cons de_int (da_cons de_int (da_cons de_int da_nil)))))) (dg_name 2 sc__law_blended.nd)
 (ds_cons (ds_set 4 sc__law_blended.nd (de_add (de_mul de_int (de_var 1)) (de_fdiv (de_var 2) de_int)))
 (ds_cons (ds_for (passes_of rfl) rfl (di_seq (de_sub' (hu_of hr) (de_var 0) de_str)) (dg_name 5 sc__law_blended.nd)
 (ds_one (ds_set 4 sc__law_blended.nd (de_mod (de_int1 z.z_int (da_cons (de_add (de_add (de_mul (de_var 4) de_int) (de_var 5)) (de_var 1)) da_nil)) (de_var 2)))))
 (ds_one (ds_set 3 sc__law_blended.nd (de_add (de_mul (de_var 3) de_int) (de_mod (de_int1 z.z_int (da_cons (de_pow (de_var 4) de_int) da_nil)) (de_var 2))))))))
 (ds_one (ds_ret (de_var 3))))))
/-! _law_draw -/
abbrev t__law_draw : Stmt := topS 35
abbrev N__law_draw : List Str := ["state", "size_here", "found"]
theorem sc__law_draw : FnScope N__law_draw ["state", "size_here"] (defScope t__law_draw) := ⟨rfl, rfl, rfl, by decide +kernel, rfl, by decide +kernel, by decide +kernel⟩
noncomputable def m__law_draw : MS := (mSeq (mIfS (mTest (mOp2 sEq (mOp2 sIx (mVar 0) (mC (.str "left"))) (mC (.int 0))))
 (mAsg (mIf (mTest (mOp2 sNe (mOp2 sIx (mVar 0) (mC (.str "great"))) (mVal (mLst mNil)))) (mMeth sPopAt (mOp2 sIx (mVar 0) (mC (.str "great"))) (mCons (mC (.int 0)) mNil)) (mDef 1 s__law_blended (mCons (mVar 0) mNil))) (mgSub sSet (mVar 0) (mC (.str "left"))))
 mSkip)
 (mSeq (mAsg (mOp2 sMod (mCall sInt (mCons (mOp2 sIx (mVar 0) (mC (.str "left"))) mNil)) (mVar 1)) (mgName 2))
 (mSeq (mAsg (mOp2 sFdiv (mOp2 sIx (mVar 0) (mC (.str "left"))) (mVar 1)) (mgSub sSet (mVar 0) (mC (.str "left"))))
 (mRet (mVar 2)))))
noncomputable def s__law_draw : Sem := runB 3 m__law_draw
theorem b__law_draw {cd : Value} (z : Zs K mg) (D__law_blended : Df P w K Z mg base 1 "_law_blended" ["state"] s__law_blended) : Bd P w K Z mg base N__law_draw "_law_draw" t__law_draw cd 1 m__law_draw :=
 fun f A outer s H E W hr tk =>
 (ds_cons (ds_if (dt_eq hr.units (de_sub' (hu_of hr) (de_var 0) de_str) de_int)
 (ds_one (ds_asg (de_if (dt_ne hr.units (de_sub' (hu_of hr) (de_var 0) de_str) (de_val (df_lst da_nil))) (de_popAt (de_sub' (hu_of hr) (de_var 0) de_str) (da_cons de_int da_nil)) (de_def D__law_blended tk (hr.mono (by decide)) (da_cons (de_var 0) da_nil))) (dg_item (hu_of hr) (de_var 0) de_str)))
 ds_nil)
 (ds_cons (ds_set 2 sc__law_draw.nd (de_mod (de_int1 z.z_int (da_cons (de_sub' (hu_of hr) (de_var 0) de_str) da_nil)) (de_var 1)))
 (ds_cons (ds_asg (de_fdiv (de_sub' (hu_of hr) (de_var 0) de_str) (de_var 1)) (dg_item (hu_of hr) (de_var 0) de_str))
 (ds_one (ds_ret (de_var 2))))))
/-! _law_pick -/
abbrev t__law_pick : Stmt := topS 36
abbrev N__law_pick : List Str := ["state", "several"]
theorem sc__law_pick : FnScope N__law_pick ["state", "several"] (defScope t__law_pick) := ⟨rfl, rfl, rfl, by decide +kernel, rfl, by decide +kernel, by decide +kernel⟩
noncomputable def m__law_pick : MS := (mRet (mOp2 sIx (mVar 1) (mDef 2 s__law_draw (mCons (mVar 0) (mCons (mCall sLen (mCons (mVar 1) mNil)) mNil)))))
noncomputable def s__law_pick : Sem := runB 2 m__law_pick
theorem b__law_pick {cd : Value} (z : Zs K mg) (D__law_draw : Df P w K Z mg base 2 "_law_draw" ["state", "size_here"] s__law_draw) : Bd P w K Z mg base N__law_pick "_law_pick" t__law_pick cd 2 m__law_pick :=
 fun f A outer s H E W hr tk =>
 (ds_one (ds_ret (de_sub' (hu_of hr) (de_var 1) (de_def D__law_draw tk (hr.mono (by decide)) (da_cons (de_var 0) (da_cons (de_len z.z_len (da_cons (de_var 1) da_nil)) da_nil))))))
/-! _law_is_whole -/
abbrev t__law_is_whole : Stmt := topS 38
abbrev N__law_is_whole : List Str := ["item"]
theorem sc__law_is_whole : FnScope N__law_is_whole ["item"] (defScope t__law_is_whole) := ⟨rfl, rfl, rfl, by decide +kernel, rfl, by decide +kernel, by decide +kernel⟩
noncomputable def m__law_is_whole : MS := (mRet (mAndV (mCall sIsi (mCons (mVar 0) (mCons (mC (.ty "int")) mNil))) (mNotV (mCall sIsi (mCons (mVar 0) (mCons (mC (.ty "bool")) mNil))))))
noncomputable def s__law_is_whole : Sem := runB 1 m__law_is_whole
theorem b__law_is_whole {cd : Value} (z : Zs K mg) : Bd P w K Z mg base N__law_is_whole "_law_is_whole" t__law_is_whole cd 0 m__law_is_whole :=
 fun f A outer s H E W hr tk =>
 (ds_one (ds_ret (de_and (de_isi z.z_isinstance (da_cons (de_var 0) (da_cons (de_gty z.z_int (by decide +kernel)) da_nil))) (de_one (de_not (de_isi z.z_isinstance (da_cons (de_var 0) (da_cons (de_gty z.z_bool (by decide +kernel)) da_nil))))))))
/-! _law_ro_letter -/
abbrev t__law_ro_letter : Stmt := topS 39
abbrev N__law_ro_letter : List Str := ["state", "hands", "houses", "hand", "house", "life", "way"]
theorem sc__law_ro_letter : FnScope N__law_ro_letter ["state", "hands", "houses"] (defScope t__law_ro_letter) := ⟨rfl, rfl, rfl, by decide +kernel, rfl, by decide +kernel, by decide +kernel⟩
noncomputable def m__law_ro_letter : MS := (mSeq (mPar 3 4 (mCons (mTup (mCons (mC (.str "hand")) (mCons (mDef 2 s__law_draw (mCons (mVar 0) (mCons (mVar 1) mNil))) mNil))) (mCons (mTup (mCons (mC (.str "house")) (mCons (mDef 2 s__law_draw (mCons (mVar 0) (mCons (mVar 2) mNil))) mNil))) mNil)))
 (mSeq (mPar 5 6 (mCons (mOp2 sAdd (mC (.int 1)) (mDef 2 s__law_draw (mCons (mVar 0) (mCons (mC (.int 3)) mNil)))) (mCons (mDef 2 s__law_draw (mCons (mVar 0) (mCons (mC (.int 4)) mNil))) mNil)))
 (mSeq (mIfS (mTest (mOp2 sEq (mVar 6) (mC (.int 0))))
 (mRet (mTup (mCons (mVar 3) (mCons (mVar 4) (mCons (mTup (mCons (mC (.str "ask")) (mCons (mVar 5) (mCons (mC (.int 1)) (mCons (mOp2 sMulT (mTup (mCons (mC (.int 0)) mNil)) (mVar 1)) (mCons (mSlT (mTup (mCons (mTup (mCons (mC (.str "name")) (mCons (mC (.int 0)) mNil))) (mCons (mTup (mCons (mC (.str "name")) (mCons (mC (.int 5)) mNil))) mNil))) mNoPart (mPart (mDef 2 s__law_draw (mCons (mVar 0) (mCons (mC (.int 3)) mNil))))) mNil)))))) mNil)))))
 mSkip)
 (mSeq (mIfS (mTest (mOp2 sEq (mVar 6) (mC (.int 1))))
 (mRet (mTup (mCons (mVar 3) (mCons (mVar 4) (mCons (mTup (mCons (mC (.str "keep")) (mCons (mVar 5) (mCons (mC (.int 2)) (mCons (mOp2 sMulT (mTup (mCons (mTup (mCons (mC (.str "name")) (mCons (mC (.int 4)) mNil))) mNil)) (mDef 2 s__law_draw (mCons (mVar 0) (mCons (mC (.int 3)) mNil)))) mNil))))) mNil)))))
 mSkip)
 (mSeq (mIfS (mTest (mOp2 sEq (mVar 6) (mC (.int 2))))
 (mRet (mTup (mCons (mVar 4) (mCons (mVar 3) (mCons (mTup (mCons (mC (.str "have")) (mCons (mVar 5) (mCons (mC (.int 3)) (mCons (mTup mNil) (mCons (mTup (mCons (mC (.str "name")) (mCons (mDef 2 s__law_draw (mCons (mVar 0) (mCons (mC (.int 9)) mNil))) mNil))) mNil)))))) mNil)))))
 mSkip)
 (mRet (mTup (mCons (mVar 4) (mCons (mVar 3) (mCons (mTup (mCons (mC (.str "kept")) (mCons (mVar 5) (mCons (mC (.int 4)) (mCons (mTup (mCons (mC (.str "name")) (mCons (mDef 2 s__law_draw (mCons (mVar 0) (mCons (mC (.int 9)) mNil))) mNil))) mNil))))) mNil))))))))))
noncomputable def s__law_ro_letter : Sem := runB 7 m__law_ro_letter
theorem b__law_ro_letter {cd : Value} (z : Zs K mg) (D__law_draw : Df P w K Z mg base 2 "_law_draw" ["state", "size_here"] s__law_draw) : Bd P w K Z mg base N__law_ro_letter "_law_ro_letter" t__law_ro_letter cd 2 m__law_ro_letter :=
 fun f A outer s H E W hr tk =>
 (ds_cons (ds_par 3 4 rfl sc__law_ro_letter.nd (da_cons (de_tup (da_cons de_str (da_cons (de_def D__law_draw tk (hr.mono (by decide)) (da_cons (de_var 0) (da_cons (de_var 1) da_nil))) da_nil))) (da_cons (de_tup (da_cons de_str (da_cons (de_def D__law_draw tk (hr.mono (by decide)) (da_cons (de_var 0) (da_cons (de_var 2) da_nil))) da_nil))) da_nil)))
 (ds_cons (ds_par 5 6 rfl sc__law_ro_letter.nd (da_cons (de_add de_int (de_def D__law_draw tk (hr.mono (by decide)) (da_cons (de_var 0) (da_cons de_int da_nil)))) (da_cons (de_def D__law_draw tk (hr.mono (by decide)) (da_cons (de_var 0) (da_cons de_int da_nil))) da_nil)))
 (ds_cons (ds_if (dt_eq hr.units (de_var 6) de_int)
 (ds_one (ds_ret (de_tup (da_cons (de_var 3) (da_cons (de_var 4) (da_cons (de_tup (da_cons de_str (da_cons (de_var 5) (da_cons de_int (da_cons (de_mulT (de_tup (da_cons de_int da_nil)) (de_var 1)) (da_cons (de_slice (de_tup (da_cons (de_tup (da_cons de_str (da_cons de_int da_nil))) (da_cons (de_tup (da_cons de_str (da_cons de_int da_nil))) da_nil))) do_none (do_some (de_def D__law_draw tk (hr.mono (by decide)) (da_cons (de_var 0) (da_cons de_int da_nil))))) da_nil)))))) da_nil))))))
 ds_nil)
 (ds_cons (ds_if (dt_eq hr.units (de_var 6) de_int)
 (ds_one (ds_ret (de_tup (da_cons (de_var 3) (da_cons (de_var 4) (da_cons (de_tup (da_cons de_str (da_cons (de_var 5) (da_cons de_int (da_cons (de_mulT (de_tup (da_cons (de_tup (da_cons de_str (da_cons de_int da_nil))) da_nil)) (de_def D__law_draw tk (hr.mono (by decide)) (da_cons (de_var 0) (da_cons de_int da_nil)))) da_nil))))) da_nil))))))
 ds_nil)
 (ds_cons (ds_if (dt_eq hr.units (de_var 6) de_int)
 (ds_one (ds_ret (de_tup (da_cons (de_var 4) (da_cons (de_var 3) (da_cons (de_tup (da_cons de_str (da_cons (de_var 5) (da_cons de_int (da_cons (de_tup da_nil) (da_cons (de_tup (da_cons de_str (da_cons (de_def D__law_draw tk (hr.mono (by decide)) (da_cons (de_var 0) (da_cons de_int da_nil))) da_nil))) da_nil)))))) da_nil))))))
 ds_nil)
 (ds_one (ds_ret (de_tup (da_cons (de_var 4) (da_cons (de_var 3) (da_cons (de_tup (da_cons de_str (da_cons (de_var 5) (da_cons de_int (da_cons (de_tup (da_cons de_str (da_cons (de_def D__law_draw tk (hr.mono (by decide)) (da_cons (de_var 0) (da_cons de_int da_nil))) da_nil))) da_nil))))) da_nil)))))))))))
/-! Road___init__ -/
abbrev t_Road___init__ : Stmt := inClass (topS 31) 0
abbrev N_Road___init__ : List Str := ["self", "store"]
theorem sc_Road___init__ : FnScope N_Road___init__ ["self", "store"] (defScope t_Road___init__) := ⟨rfl, rfl, rfl, by decide +kernel, rfl, by decide +kernel, by decide +kernel⟩
noncomputable def m_Road___init__ : MS := (mSeq (mDrop (mDef 1 s_check_store (mCons (mVar 1) mNil)))
 (mSeq (mSetF obTab "store" (mVar 0) (mVar 1))
 (mSetF obTab "_sent" (mVar 0) (mCell (mLst mNil)))))
noncomputable def s_Road___init__ : Sem := runB 2 m_Road___init__
theorem b_Road___init__ {cd : Value} (z : Zs K mg) (D_check_store : Df P w K Z mg base 5 "check_store" ["store"] s_check_store) : Bd P w K Z mg base N_Road___init__ "Road.__init__" t_Road___init__ cd 5 m_Road___init__ :=
 fun f A outer s H E W hr tk =>
 (ds_cons (ds_expr (de_def D_check_store tk (hr.mono (by decide)) (da_cons (de_var 1) da_nil)))
 (ds_cons (ds_setF z.ob (de_var 0) (de_var 1))
 (ds_one (ds_setF z.ob (de_var 0) (de_cell (df_lst da_nil))))))
/-! Road_send -/
abbrev t_Road_send : Stmt := inClass (topS 31) 1
abbrev N_Road_send : List Str := ["self", "letter"]
theorem sc_Road_send : FnScope N_Road_send ["self", "letter"] (defScope t_Road_send) := ⟨rfl, rfl, rfl, by decide +kernel, rfl, by decide +kernel, by decide +kernel⟩
noncomputable def m_Road_send : MS := (mSeq (mIfS (mNot (mTru (mDef 2 s_is_letter (mCons (mFld obTab "store" (mVar 0)) (mCons (mVar 1) mNil)))))
 (mRaise "BadLetter")
 mSkip)
 (mSeq (mDrop (mMeth sAppend (mFld obTab "_sent" (mVar 0)) (mCons (mVar 1) mNil)))
 (mRet (mOp2 sSub (mCall sLen (mCons (mFld obTab "_sent" (mVar 0)) mNil)) (mC (.int 1))))))
noncomputable def s_Road_send : Sem := runB 2 m_Road_send
theorem b_Road_send {cd : Value} (z : Zs K mg) (D_is_letter : Df P w K Z mg base 6 "is_letter" ["store", "value"] s_is_letter) : Bd P w K Z mg base N_Road_send "Road.send" t_Road_send cd 6 m_Road_send :=
 fun f A outer s H E W hr tk =>
 (ds_cons (ds_if (dt_not (dt_tru (de_def D_is_letter tk (hr.mono (by decide)) (da_cons (de_fld z.ob (de_var 0)) (da_cons (de_var 1) da_nil)))))
 (ds_one (ds_raise z.e_BadLetter rfl tk))
 ds_nil)
 (ds_cons (ds_expr (de_append (de_fld z.ob (de_var 0)) (da_cons (de_var 1) da_nil)))
 (ds_one (ds_ret (de_sub (de_len z.z_len (da_cons (de_fld z.ob (de_var 0)) da_nil)) de_int)))))
/-! Road_waiting -/
abbrev t_Road_waiting : Stmt := inClass (topS 31) 4
abbrev N_Road_waiting : List Str := ["self", "receiver", "number", "letter"]
theorem sc_Road_waiting : FnScope N_Road_waiting ["self", "receiver"] (defScope t_Road_waiting) := ⟨rfl, rfl, rfl, by decide +kernel, rfl, by decide +kernel, by decide +kernel⟩
noncomputable def m_Road_waiting : MS := (mSeq (mIfS (mAnd (mNot (mTru (mDef 2 s_is_hand_of (mCons (mFld obTab "store" (mVar 0)) (mCons (mVar 1) mNil))))) (mNot (mTru (mDef 2 s_is_house_of (mCons (mFld obTab "store" (mVar 0)) (mCons (mVar 1) mNil))))))
 (mRaise "BadWho")
 mSkip)
 (mRet (mCell (mComp [2, 3] (mEnum (mCons (mFld obTab "_sent" (mVar 0)) mNil)) (mgTup 2 (mgCons (mgName 2) (mgCons (mgName 3) mgNil))) (mTest (mOp2 sEq (mOp2 sIx (mVar 3) (mC (.int 1))) (mVar 1))) (mVar 2)))))
noncomputable def s_Road_waiting : Sem := runB 4 m_Road_waiting
theorem b_Road_waiting {cd : Value} (z : Zs K mg) (D_is_house_of : Df P w K Z mg base 5 "is_house_of" ["store", "value"] s_is_house_of) (D_is_hand_of : Df P w K Z mg base 5 "is_hand_of" ["store", "value"] s_is_hand_of) : Bd P w K Z mg base N_Road_waiting "Road.waiting" t_Road_waiting cd 5 m_Road_waiting :=
 fun f A outer s H E W hr tk =>
 (ds_cons (ds_if (dt_w (dw_and (dt_not (dt_tru (de_def D_is_hand_of tk (hr.mono (by decide)) (da_cons (de_fld z.ob (de_var 0)) (da_cons (de_var 1) da_nil))))) (dw_and1 (dt_not (dt_tru (de_def D_is_house_of tk (hr.mono (by decide)) (da_cons (de_fld z.ob (de_var 0)) (da_cons (de_var 1) da_nil))))))))
 (ds_one (ds_raise z.e_BadWho rfl tk))
 ds_nil)
 (ds_one (ds_ret (de_cell (df_comp (own := [("number", 2), ("letter", 3)]) rfl sc_Road_waiting.nd (di_enum z.z_enumerate (da_cons (de_fld z.ob (de_var 0)) da_nil)) (show blkC N_Road_waiting (defScope t_Road_waiting) _ [("number", 2), ("letter", 3)] = true by decide +kernel) (fun _ _ _ _ _ => (dg_tup rfl (dgs_cons (dg_name 2 sc_Road_waiting.nd) (dgs_cons (dg_name 3 sc_Road_waiting.nd) dgs_nil)))) (fun _ _ _ _ _ => (dts_one (dt_eq hr.units (de_sub' (hu_of hr) (de_var 3) de_int) (de_var 1)))) (fun _ _ _ _ _ => (de_var 2)))))))
/-! Road_count -/
abbrev t_Road_count : Stmt := inClass (topS 31) 2
abbrev N_Road_count : List Str := ["self"]
theorem sc_Road_count : FnScope N_Road_count ["self"] (defScope t_Road_count) := ⟨rfl, rfl, rfl, by decide +kernel, rfl, by decide +kernel, by decide +kernel⟩
noncomputable def m_Road_count : MS := (mRet (mCall sLen (mCons (mFld obTab "_sent" (mVar 0)) mNil)))
noncomputable def s_Road_count : Sem := runB 1 m_Road_count
theorem b_Road_count {cd : Value} (z : Zs K mg) : Bd P w K Z mg base N_Road_count "Road.count" t_Road_count cd 0 m_Road_count :=
 fun f A outer s H E W hr tk =>
 (ds_one (ds_ret (de_len z.z_len (da_cons (de_fld z.ob (de_var 0)) da_nil))))
/-! Road_letter -/
abbrev t_Road_letter : Stmt := inClass (topS 31) 3
abbrev N_Road_letter : List Str := ["self", "number"]
theorem sc_Road_letter : FnScope N_Road_letter ["self", "number"] (defScope t_Road_letter) := ⟨rfl, rfl, rfl, by decide +kernel, rfl, by decide +kernel, by decide +kernel⟩
noncomputable def m_Road_letter : MS := (mSeq (mIfS (mNot (mTru (mDef 2 s_is_place (mCons (mVar 1) (mCons (mCall sLen (mCons (mFld obTab "_sent" (mVar 0)) mNil)) mNil)))))
 (mRaise "BadNumber")
 mSkip)
 (mRet (mOp2 sIx (mFld obTab "_sent" (mVar 0)) (mVar 1))))
noncomputable def s_Road_letter : Sem := runB 2 m_Road_letter
theorem b_Road_letter {cd : Value} (z : Zs K mg) (D_is_place : Df P w K Z mg base 3 "is_place" ["value", "many"] s_is_place) : Bd P w K Z mg base N_Road_letter "Road.letter" t_Road_letter cd 3 m_Road_letter :=
 fun f A outer s H E W hr tk =>
 (ds_cons (ds_if (dt_not (dt_tru (de_def D_is_place tk (hr.mono (by decide)) (da_cons (de_var 1) (da_cons (de_len z.z_len (da_cons (de_fld z.ob (de_var 0)) da_nil)) da_nil)))))
 (ds_one (ds_raise z.e_BadNumber rfl tk))
 ds_nil)
 (ds_one (ds_ret (de_sub' (hu_of hr) (de_fld z.ob (de_var 0)) (de_var 1)))))
/-! law -/
abbrev t_law : Stmt := topS 40
abbrev N_law : List Str := ["script", "state", "houses", "turn", "hands", "lies", "road", "due", "letter", "bad", "odd", "who", "some", "wrong", "found", "at", "one"]
theorem sc_law : FnScope N_law ["script"] (defScope t_law) := ⟨rfl, rfl, rfl, by decide +kernel, rfl, by decide +kernel, by decide +kernel⟩
noncomputable def m_law : MS := (mSeq (mAsg (mDef 1 s__law_begun (mCons (mVar 0) mNil)) (mgName 1))
 (mSeq (mAsg (mTup (mCons (mOp2 sAdd (mC (.int 1)) (mDef 2 s__law_draw (mCons (mVar 1) (mCons (mC (.int 6)) mNil)))) (mCons (mDef 2 s__law_draw (mCons (mVar 1) (mCons (mC (.int 5)) mNil))) mNil))) (mgTup 2 (mgCons (mgName 4) (mgCons (mgName 5) mgNil))))
 (mSeq (mAsg (mOp2 sAdd (mOp2 sAdd (mOp2 sMul (mC (.int 3)) (mVar 5)) (mC (.int 1))) (mDef 2 s__law_draw (mCons (mVar 1) (mCons (mOp2 sSub (mC (.int 13)) (mOp2 sMul (mC (.int 3)) (mVar 5))) mNil)))) (mgName 2))
 (mSeq (mAsg (mTup (mCons (mMake "Road" 2 s_Road___init__ (mCons (mTup (mCons (mVar 4) (mCons (mVar 2) (mCons (mVar 5) mNil)))) mNil)) (mCons (mCell (mLst mNil)) mNil))) (mgTup 2 (mgCons (mgName 6) (mgCons (mgName 7) mgNil))))
 (mSeq (mIfS (mTest (mOp2 sNe (mFld obTab "store" (mVar 6)) (mTup (mCons (mVar 4) (mCons (mVar 2) (mCons (mVar 5) mNil))))))
 (mRet (mC (.bl false)))
 mSkip)
 (mSeq (mFor (mRange1 (mCons (mOp2 sAdd (mC (.int 4)) (mCall sMin2 (mCons (mCall sLen (mCons (mVar 0) mNil)) (mCons (mC (.int 8)) mNil)))) mNil)) (mgName 3)
 (mSeq (mAsg (mDef 3 s__law_ro_letter (mCons (mVar 1) (mCons (mVar 4) (mCons (mVar 2) mNil)))) (mgName 8))
 (mSeq (mAsg (mIf (mAnd (mTest (mOp2 sNe (mVar 7) (mVal (mLst mNil)))) (mTest (mOp2 sEq (mDef 2 s__law_draw (mCons (mVar 1) (mCons (mC (.int 4)) mNil))) (mC (.int 0))))) (mDef 2 s__law_pick (mCons (mVar 1) (mCons (mVar 7) mNil))) (mVar 8)) (mgName 8))
 (mSeq (mIfS (mTest (mOp2 sGt (mDef 2 s__law_draw (mCons (mVar 1) (mCons (mC (.int 4)) mNil))) (mC (.int 0))))
 (mSeq (mAsg (mMthP "Road" "send" 2 1 1 [0, 1] s_Road_send (mVar 6) mNil (mCons (mVar 8) mNil)) (mgName 14))
 (mSeq (mIfS (mOr (mNot (mTru (mDef 1 s__law_is_whole (mCons (mVar 14) mNil)))) (mTest (mOp2 sNe (mVar 14) (mCall sLen (mCons (mVar 7) mNil)))))
 (mRet (mC (.bl false)))
 mSkip)
 (mDrop (mMeth sAppend (mVar 7) (mCons (mVar 8) mNil)))))
 mSkip)
 (mSeq (mAsg (mDef 2 s__law_pick (mCons (mVar 1) (mCons (mVal (mLst (mCons (mC .non) (mCons (mVal (mCallF sList (mCons (mVar 8) mNil))) (mCons (mSlT (mVar 8) mNoPart (mPart (mC (.int 2)))) (mCons (mTup (mCons (mOp2 sIx (mVar 8) (mC (.int 1))) (mCons (mOp2 sIx (mVar 8) (mC (.int 0))) (mCons (mOp2 sIx (mVar 8) (mC (.int 2))) mNil)))) (mCons (mC (.int 5)) mNil))))))) mNil))) (mgName 9))
 (mSeq (mIfS (mNot (mTru (mCall (sIsX isTab) (mCons (mCaught caughtL (mMth "Road" "send" 2 s_Road_send (mVar 6) (mCons (mVar 9) mNil))) (mCons (mC (.glb "BadLetter")) mNil)))))
 (mRet (mC (.bl false)))
 mSkip)
 (mSeq (mAsg (mDef 2 s__law_pick (mCons (mVar 1) (mCons (mVal (mLst (mCons (mCall sLen (mCons (mVar 7) mNil)) (mCons (mOp1 sNeg (mC (.int 1))) (mCons (mC .non) (mCons (mC (.bl true)) (mCons (mC (.str "0")) (mCons (mTup (mCons (mC (.int 0)) mNil)) mNil)))))))) mNil))) (mgName 10))
 (mSeq (mIfS (mNot (mTru (mCall (sIsX isTab) (mCons (mCaught caughtL (mMth "Road" "letter" 2 s_Road_letter (mVar 6) (mCons (mVar 10) mNil))) (mCons (mC (.glb "BadNumber")) mNil)))))
 (mRet (mC (.bl false)))
 mSkip)
 (mSeq (mIfS (mOr (mNot (mTru (mDef 1 s__law_is_whole (mCons (mMth "Road" "count" 1 s_Road_count (mVar 6) mNil) mNil)))) (mTest (mOp2 sNe (mVal (mComp [15] (mRange1 (mCons (mMth "Road" "count" 1 s_Road_count (mVar 6) mNil) mNil)) (mgName 15) mYes (mMthP "Road" "letter" 2 1 1 [0, 1] s_Road_letter (mVar 6) mNil (mCons (mVar 15) mNil)))) (mVar 7))))
 (mRet (mC (.bl false)))
 mSkip)
 (mSeq (mFor (mItems (mVal (mLst (mCons (mTup (mCons (mC (.str "hand")) (mCons (mDef 2 s__law_draw (mCons (mVar 1) (mCons (mVar 4) mNil))) mNil))) (mCons (mTup (mCons (mC (.str "house")) (mCons (mDef 2 s__law_draw (mCons (mVar 1) (mCons (mVar 2) mNil))) mNil))) mNil))))) (mgName 11)
 (mSeq (mAsg (mMth "Road" "waiting" 2 s_Road_waiting (mVar 6) (mCons (mVar 11) mNil)) (mgName 14))
 (mSeq (mIfS (mOr (mNot (mTru (mCall sIsi (mCons (mVar 14) (mCons (mC (.ty "list")) mNil))))) (mTest (mOp2 sNe (mVar 14) (mVal (mComp [15, 16] (mEnum (mCons (mVar 7) mNil)) (mgTup 2 (mgCons (mgName 15) (mgCons (mgName 16) mgNil))) (mTest (mOp2 sEq (mOp2 sIx (mVar 16) (mC (.int 1))) (mVar 11))) (mVar 15))))))
 (mRet (mC (.bl false)))
 mSkip)
 (mDrop (mMeth sAppend (mVar 14) (mCons (mC (.int 0)) mNil))))))
 (mSeq (mAsg (mVal (mLst (mCons (mC .non) (mCons (mTup (mCons (mC (.str "hand")) (mCons (mVar 4) mNil))) (mCons (mTup (mCons (mC (.str "house")) (mCons (mVar 2) mNil))) (mCons (mTup (mCons (mC (.str "hand")) (mCons (mOp1 sNeg (mC (.int 1))) mNil))) (mCons (mC (.str "hand")) (mCons (mVal (mLst (mCons (mC (.str "hand")) (mCons (mC (.int 0)) mNil)))) (mCons (mTup (mCons (mC (.str "hand")) mNil)) mNil))))))))) (mgName 12))
 (mSeq (mAsg (mDef 2 s__law_pick (mCons (mVar 1) (mCons (mVar 12) mNil))) (mgName 13))
 (mIfS (mNot (mTru (mCall (sIsX isTab) (mCons (mCaught caughtL (mMthP "Road" "waiting" 2 1 1 [0, 1] s_Road_waiting (mVar 6) mNil (mCons (mVar 13) mNil))) (mCons (mC (.glb "BadWho")) mNil)))))
 (mRet (mC (.bl false)))
 mSkip)))))))))))))
 (mRet (mCall (sIsX isTab) (mCons (mCaught caughtL (mMake "Road" 2 s_Road___init__ (mCons (mTup (mCons (mVar 4) (mCons (mC (.int 3)) (mCons (mC (.int 1)) mNil)))) mNil))) (mCons (mC (.glb "BadStore")) mNil))))))))))
noncomputable def s_law : Sem := runB 17 m_law
theorem b_law {cd : Value} (z : Zs K mg) (LT : LamAt Z base mg cd ((envOfC "law" (defScope t_law) 0 0 .none).qual ++ "<lambda>")) (D__law_begun : Df P w K Z mg base 1 "_law_begun" ["script"] s__law_begun) (D__law_draw : Df P w K Z mg base 2 "_law_draw" ["state", "size_here"] s__law_draw) (D__law_ro_letter : Df P w K Z mg base 3 "_law_ro_letter" ["state", "hands", "houses"] s__law_ro_letter) (D__law_pick : Df P w K Z mg base 3 "_law_pick" ["state", "several"] s__law_pick) (D__law_is_whole : Df P w K Z mg base 1 "_law_is_whole" ["item"] s__law_is_whole) (M_Road_send : MtD P w K Z mg base 7 "Road" "send" ["self", "letter"] s_Road_send) (M_Road_letter : MtD P w K Z mg base 4 "Road" "letter" ["self", "number"] s_Road_letter) (M_Road_count : MtD P w K Z mg base 1 "Road" "count" ["self"] s_Road_count) (M_Road_waiting : MtD P w K Z mg base 6 "Road" "waiting" ["self", "receiver"] s_Road_waiting) (MP_Road_send_0 : MtP P w K Z mg base 7 "Road" "send" 2 1 ["letter"] [0, 1] s_Road_send) (MP_Road_letter_0 : MtP P w K Z mg base 4 "Road" "letter" 2 1 ["number"] [0, 1] s_Road_letter) (MP_Road_waiting_0 : MtP P w K Z mg base 6 "Road" "waiting" 2 1 ["receiver"] [0, 1] s_Road_waiting) (C_Road : MkD P w K Z mg base 6 "Road" ["self", "store"] s_Road___init__) : Bd P w K Z mg base N_law "law" t_law cd 9 m_law :=
 fun f A outer s H E W hr tk =>
 (ds_cons (ds_set 1 sc_law.nd (de_def D__law_begun tk (hr.mono (by decide)) (da_cons (de_var 0) da_nil)))
 (ds_cons (ds_asg (de_tup (da_cons (de_add de_int (de_def D__law_draw tk (hr.mono (by decide)) (da_cons (de_var 1) (da_cons de_int da_nil)))) (da_cons (de_def D__law_draw tk (hr.mono (by decide)) (da_cons (de_var 1) (da_cons de_int da_nil))) da_nil))) (dg_tup rfl (dgs_cons (dg_name 4 sc_law.nd) (dgs_cons (dg_name 5 sc_law.nd) dgs_nil))))
 (ds_cons (ds_set 2 sc_law.nd (de_add (de_add (de_mul de_int (de_var 5)) de_int) (de_def D__law_draw tk (hr.mono (by decide)) (da_cons (de_var 1) (da_cons (de_sub de_int (de_mul de_int (de_var 5))) da_nil)))))
 (ds_cons (ds_asg (de_tup (da_cons (de_make C_Road tk (hr.mono (by decide)) (da_cons (de_tup (da_cons (de_var 4) (da_cons (de_var 2) (da_cons (de_var 5) da_nil)))) da_nil)) (da_cons (de_cell (df_lst da_nil)) da_nil))) (dg_tup rfl (dgs_cons (dg_name 6 sc_law.nd) (dgs_cons (dg_name 7 sc_law.nd) dgs_nil))))
 (ds_cons (ds_if (dt_ne hr.units (de_fld z.ob (de_var 6)) (de_tup (da_cons (de_var 4) (da_cons (de_var 2) (da_cons (de_var 5) da_nil)))))
 (ds_one (ds_ret de_bl))
 ds_nil)
 (ds_cons (ds_for (passes_of rfl) rfl (di_range1 z.z_range (da_cons (de_add de_int (de_min2 rfl z.z_min (da_cons (de_len z.z_len (da_cons (de_var 0) da_nil)) (da_cons de_int da_nil)))) da_nil)) (dg_name 3 sc_law.nd)
 (ds_cons (ds_set 8 sc_law.nd (de_def D__law_ro_letter tk (hr.mono (by decide)) (da_cons (de_var 1) (da_cons (de_var 4) (da_cons (de_var 2) da_nil)))))
 (ds_cons (ds_set 8 sc_law.nd (de_if (dt_w (dw_and (dt_ne hr.units (de_var 7) (de_val (df_lst da_nil))) (dw_and1 (dt_eq hr.units (de_def D__law_draw tk (hr.mono (by decide)) (da_cons (de_var 1) (da_cons de_int da_nil))) de_int)))) (de_def D__law_pick tk (hr.mono (by decide)) (da_cons (de_var 1) (da_cons (de_var 7) da_nil))) (de_var 8)))
 (ds_cons (ds_if (dt_gt (de_def D__law_draw tk (hr.mono (by decide)) (da_cons (de_var 1) (da_cons de_int da_nil))) de_int)
 (ds_cons (ds_set 14 sc_law.nd (de_mthP0 MP_Road_send_0 tk (hr.mono (by decide)) (de_var 6) (dk_cons (de_var 8) dk_nil)))
 (ds_cons (ds_if (dt_w (dw_or (dt_not (dt_tru (de_def D__law_is_whole tk (hr.mono (by decide)) (da_cons (de_var 14) da_nil)))) (dw_or1 (dt_ne hr.units (de_var 14) (de_len z.z_len (da_cons (de_var 7) da_nil))))))
 (ds_one (ds_ret de_bl))
 ds_nil)
 (ds_one (ds_expr (de_append (de_var 7) (da_cons (de_var 8) da_nil))))))
 ds_nil)
 (ds_cons (ds_set 9 sc_law.nd (de_def D__law_pick tk (hr.mono (by decide)) (da_cons (de_var 1) (da_cons (de_val (df_lst (da_cons de_non (da_cons (de_val (df_list z.z_list (da_cons (de_var 8) da_nil))) (da_cons (de_slice (de_var 8) do_none (do_some de_int)) (da_cons (de_tup (da_cons (de_sub' (hu_of hr) (de_var 8) de_int) (da_cons (de_sub' (hu_of hr) (de_var 8) de_int) (da_cons (de_sub' (hu_of hr) (de_var 8) de_int) da_nil)))) (da_cons de_int da_nil))))))) da_nil))))
 (ds_cons (ds_if (dt_not (dt_tru (de_isX z.isx z.z_isinstance (da_cons (de_caught (k := 7) z.cg LT (hr.mono (by decide)) (fun A outer s H E f c' hr tk => (de_mth M_Road_send tk (hr.mono (by decide)) (de_var 6) (da_cons (de_var 9) da_nil))) (LS := show LamX.lamSB (defScope t_law) _ = true by decide +kernel)) (da_cons (de_glb z.g_BadLetter) da_nil)))))
 (ds_one (ds_ret de_bl))
 ds_nil)
 (ds_cons (ds_set 10 sc_law.nd (de_def D__law_pick tk (hr.mono (by decide)) (da_cons (de_var 1) (da_cons (de_val (df_lst (da_cons (de_len z.z_len (da_cons (de_var 7) da_nil)) (da_cons (de_neg de_int) (da_cons de_non (da_cons de_bl (da_cons de_str (da_cons (de_tup (da_cons de_int da_nil)) da_nil)))))))) da_nil))))
 (ds_cons (ds_if (dt_not (dt_tru (de_isX z.isx z.z_isinstance (da_cons (de_caught (k := 4) z.cg LT (hr.mono (by decide)) (fun A outer s H E f c' hr tk => (de_mth M_Road_letter tk (hr.mono (by decide)) (de_var 6) (da_cons (de_var 10) da_nil))) (LS := show LamX.lamSB (defScope t_law) _ = true by decide +kernel)) (da_cons (de_glb z.g_BadNumber) da_nil)))))
 (ds_one (ds_ret de_bl))
 ds_nil)
 (ds_cons (ds_if (dt_w (dw_or (dt_not (dt_tru (de_def D__law_is_whole tk (hr.mono (by decide)) (da_cons (de_mth0 M_Road_count tk (hr.mono (by decide)) (de_var 6)) da_nil)))) (dw_or1 (dt_ne hr.units (de_val (df_comp (own := [("at", 15)]) rfl sc_law.nd (di_range1 z.z_range (da_cons (de_mth0 M_Road_count tk (hr.mono (by decide)) (de_var 6)) da_nil)) (show blkC N_law (defScope t_law) _ [("at", 15)] = true by decide +kernel) (fun _ _ _ _ _ => (dg_name 15 sc_law.nd)) (fun _ _ _ _ _ => dts_nil) (fun _ _ _ _ _ => (de_mthP0 MP_Road_letter_0 trivial (hr.mono (by decide)) (de_var 6) (dk_cons (de_var 15) dk_nil))))) (de_var 7)))))
 (ds_one (ds_ret de_bl))
 ds_nil)
 (ds_cons (ds_for (passes_of rfl) rfl (di_seq (de_val (df_lst (da_cons (de_tup (da_cons de_str (da_cons (de_def D__law_draw tk (hr.mono (by decide)) (da_cons (de_var 1) (da_cons (de_var 4) da_nil))) da_nil))) (da_cons (de_tup (da_cons de_str (da_cons (de_def D__law_draw tk (hr.mono (by decide)) (da_cons (de_var 1) (da_cons (de_var 2) da_nil))) da_nil))) da_nil))))) (dg_name 11 sc_law.nd)
 (ds_cons (ds_set 14 sc_law.nd (de_mth M_Road_waiting tk (hr.mono (by decide)) (de_var 6) (da_cons (de_var 11) da_nil)))
 (ds_cons (ds_if (dt_w (dw_or (dt_not (dt_tru (de_isi z.z_isinstance (da_cons (de_var 14) (da_cons (de_gty z.z_list (by decide +kernel)) da_nil))))) (dw_or1 (dt_ne hr.units (de_var 14) (de_val (df_comp (own := [("at", 15), ("one", 16)]) rfl sc_law.nd (di_enum z.z_enumerate (da_cons (de_var 7) da_nil)) (show blkC N_law (defScope t_law) _ [("at", 15), ("one", 16)] = true by decide +kernel) (fun _ _ _ _ _ => (dg_tup rfl (dgs_cons (dg_name 15 sc_law.nd) (dgs_cons (dg_name 16 sc_law.nd) dgs_nil)))) (fun _ _ _ _ _ => (dts_one (dt_eq hr.units (de_sub' (hu_of hr) (de_var 16) de_int) (de_var 11)))) (fun _ _ _ _ _ => (de_var 15))))))))
 (ds_one (ds_ret de_bl))
 ds_nil)
 (ds_one (ds_expr (de_append (de_var 14) (da_cons de_int da_nil)))))))
 (ds_cons (ds_set 12 sc_law.nd (de_val (df_lst (da_cons de_non (da_cons (de_tup (da_cons de_str (da_cons (de_var 4) da_nil))) (da_cons (de_tup (da_cons de_str (da_cons (de_var 2) da_nil))) (da_cons (de_tup (da_cons de_str (da_cons (de_neg de_int) da_nil))) (da_cons de_str (da_cons (de_val (df_lst (da_cons de_str (da_cons de_int da_nil)))) (da_cons (de_tup (da_cons de_str da_nil)) da_nil))))))))))
 (ds_cons (ds_set 13 sc_law.nd (de_def D__law_pick tk (hr.mono (by decide)) (da_cons (de_var 1) (da_cons (de_var 12) da_nil))))
 (ds_one (ds_if (dt_not (dt_tru (de_isX z.isx z.z_isinstance (da_cons (de_caught (k := 6) z.cg LT (hr.mono (by decide)) (fun A outer s H E f c' hr tk => (de_mthP0 MP_Road_waiting_0 tk (hr.mono (by decide)) (de_var 6) (dk_cons (de_var 13) dk_nil))) (LS := show LamX.lamSB (defScope t_law) _ = true by decide +kernel)) (da_cons (de_glb z.g_BadWho) da_nil)))))
 (ds_one (ds_ret de_bl))
 ds_nil))))))))))))))
 (ds_one (ds_ret (de_isX z.isx z.z_isinstance (da_cons (de_caught (k := 7) z.cg LT (hr.mono (by decide)) (fun A outer s H E f c' hr tk => (de_make C_Road tk (hr.mono (by decide)) (da_cons (de_tup (da_cons (de_var 4) (da_cons de_int (da_cons de_int da_nil)))) da_nil))) (LS := show LamX.lamSB (defScope t_law) _ = true by decide +kernel)) (da_cons (de_glb z.g_BadStore) da_nil)))))))))))
end
end VS

set_option Elab.async false
set_option linter.all false
set_option maxRecDepth 100000
set_option maxHeartbeats 4000000
namespace VS
open PySem PySem.Spec PyProof.Rows L2
/-! ### draws -/
structure Rng where
  great : List Int
  cells : List Int
  left : Int
  turn : Int
abbrev kG : Key := .inr "great"
abbrev kC : Key := .inr "cells"
abbrev kL : Key := .inr "left"
abbrev kT : Key := .inr "turn"
theorem kGC : (("great" : Str) = "cells") = False := eq_false (by decide +kernel)
theorem kGL : (("great" : Str) = "left") = False := eq_false (by decide +kernel)
theorem kGT : (("great" : Str) = "turn") = False := eq_false (by decide +kernel)
theorem kCG : (("cells" : Str) = "great") = False := eq_false (by decide +kernel)
theorem kCL : (("cells" : Str) = "left") = False := eq_false (by decide +kernel)
theorem kCT : (("cells" : Str) = "turn") = False := eq_false (by decide +kernel)
theorem kLG : (("left" : Str) = "great") = False := eq_false (by decide +kernel)
theorem kLC : (("left" : Str) = "cells") = False := eq_false (by decide +kernel)
theorem kLT : (("left" : Str) = "turn") = False := eq_false (by decide +kernel)
theorem kTG : (("turn" : Str) = "great") = False := eq_false (by decide +kernel)
theorem kTC : (("turn" : Str) = "cells") = False := eq_false (by decide +kernel)
theorem kTL : (("turn" : Str) = "left") = False := eq_false (by decide +kernel)
def rdic (r : Rng) : List (Key × T) := [(kG, .cell 0), (kC, .lst (r.cells.map .int)), (kL, .int r.left), (kT, .int r.turn)]
def WD (r : Rng) (rest : World) : World := .lst (r.great.map .int) :: .dic (rdic r) :: rest
section
variable {r : Rng} {rest : World} {i : Int}
theorem val_G : valT (rdic r) kG = some (.cell 0) := by simp [valT, rdic, List.find?_cons]
theorem val_C : valT (rdic r) kC = some (.lst (r.cells.map .int)) := by simp [valT, rdic, List.find?_cons, kGC]
theorem val_L : valT (rdic r) kL = some (.int r.left) := by simp [valT, rdic, List.find?_cons, kGL, kCL]
theorem val_T : valT (rdic r) kT = some (.int r.turn) := by simp [valT, rdic, List.find?_cons, kGT, kCT, kLT]
theorem put_L : putT (rdic r) kL (.int i) = rdic { r with left := i } := by simp [putT, rdic, kGL, kCL, kLT, kTL]
theorem put_T : putT (rdic r) kT (.int i) = rdic { r with turn := i } := by simp [putT, rdic, kGT, kCT, kLT]
theorem rlen : (rdic r).length < sizeLine := by show 4 < sizeLine; rw [sizeLine_eq]; decide
@[simp] theorem ix_G : sIx (.cell 1) (.str "great") (WD r rest) = .ok (.cell 0) (WD r rest) := by
  have := val_G (r := r); simp [sIx, WD, keyT, this]
@[simp] theorem ix_C : sIx (.cell 1) (.str "cells") (WD r rest) = .ok (.lst (r.cells.map .int)) (WD r rest) := by
  have := val_C (r := r); simp [sIx, WD, keyT, this]
@[simp] theorem ix_L : sIx (.cell 1) (.str "left") (WD r rest) = .ok (.int r.left) (WD r rest) := by
  have := val_L (r := r); simp [sIx, WD, keyT, this]
@[simp] theorem ix_T : sIx (.cell 1) (.str "turn") (WD r rest) = .ok (.int r.turn) (WD r rest) := by
  have := val_T (r := r); simp [sIx, WD, keyT, this]
@[simp] theorem set_L : sSet (.cell 1) (.str "left") (.int i) (WD r rest) = .ok () (WD { r with left := i } rest) := by
  have := put_L (r := r) (i := i); simp [sSet, WD, keyT, this, rlen]
@[simp] theorem set_T : sSet (.cell 1) (.str "turn") (.int i) (WD r rest) = .ok () (WD { r with turn := i } rest) := by
  have := put_T (r := r) (i := i); simp [sSet, WD, keyT, this, rlen]
@[simp] theorem at_0 : (WD r rest)[0]? = some (.lst (r.great.map .int)) := rfl
end
/-- r' is r some turns on -/
structure Adv (c : Int) (r r' : Rng) : Prop where
  lo : r.turn ≤ r'.turn
  hi : r'.turn ≤ r.turn + c
def Ok (c : Int) (r : Rng) : Prop := 0 ≤ r.turn ∧ r.turn + c ≤ 35184372088832
theorem Adv.refl {r : Rng} : Adv 0 r r := ⟨by omega, by omega⟩
theorem Adv.trans {c d : Int} {r s t : Rng} (a : Adv c r s) (b : Adv d s t) : Adv (c + d) r t := ⟨by have := a.lo; have := b.lo; omega, by have := a.hi; have := b.hi; omega⟩
theorem Adv.mono {c d : Int} {r s : Rng} (a : Adv c r s) (h : c ≤ d) : Adv d r s := ⟨a.lo, by have := a.hi; omega⟩
theorem Ok.on {c d : Int} {r s : Rng} (o : Ok c r) (a : Adv d r s) (e : Int) (h : d + e ≤ c) : Ok e s := ⟨by have := o.1; have := a.lo; omega, by have := o.2; have := a.hi; omega⟩

theorem shaped_int (i : Int) : SeqAt.shaped (.int i) = true := rfl
@[simp] theorem ne_great {r : Rng} {rest : World} : sNe (.cell 0) (.lst []) (WD r rest) = .ok (.bl (!decide (r.great = []))) (WD r rest) := by
  have e : eqT (WD r rest) (.cell 0) (.lst []) = some (decide (r.great = [])) := by
    rw [eqT_of (pd_cell (at_0 (r := r) (rest := rest))) (by simp [pd, pds]; rfl) (shaped_ints _) rfl]
    show some (PyData.eqvAll (r.great.map .int) (([] : List Int).map .int)) = _
    rw [eqv_ints]
  simp [sNe, e]
theorem pow5 {i : Int} {w : World} (h : i.natAbs < 2 ^ 64) : sPow (.int i) (.int 5) w = .ok (.int (i ^ 5)) w := by
  have : CPow i 5 := ⟨by decide, by decide, h⟩
  simp [sPow, s2I, this]
theorem int3 {P : Int → Prop} {a b c : Int} {i : Nat} {t : T} (ht : ([.int a, .int b, .int c] : List T)[i]? = some t) (ha : P a) (hb : P b) (hc : P c) : ∃ x : Int, t = .int x ∧ P x := by
  match i, ht with
  | 0, ht => cases ht; exact ⟨_, rfl, ha⟩
  | 1, ht => cases ht; exact ⟨_, rfl, hb⟩
  | 2, ht => cases ht; exact ⟨_, rfl, hc⟩
theorem ints_at {ns : List Int} {i : Nat} {t : T} (ht : (ns.map T.int)[i]? = some t) : ∃ x : Int, t = .int x ∧ ns[i]? = some x := by
  rw [List.getElem?_map] at ht
  cases q : ns[i]? with
  | none => rw [q] at ht; cases ht
  | some x => rw [q] at ht; cases ht; exact ⟨x, rfl, rfl⟩
theorem blended_ok {r : Rng} {rest : World} (o : Ok 1 r) : ∃ q, s__law_blended [.cell 1] (WD r rest) = .ok (.int q) (WD { r with turn := r.turn + 1 } rest) := by
  obtain ⟨o1, o2⟩ := o
  unfold s__law_blended m__law_blended runB
  have h3 : (3 : Nat) ≤ sizeLine := by rw [sizeLine_eq]; decide
  simp [h3]
  generalize hL : forL (mgName 2) _ _ _ _ _ _ = L
  obtain ⟨ρ', w', e, rfl, a, f, c, d, rfl⟩ : ∃ ρ' w', L = .ok (ρ', .nx) w' ∧ w' = WD { r with turn := r.turn + 1 } rest ∧ ∃ a f c d, ρ' = [some (.cell 1), some (.int (r.turn + 1)), a, some (.int f), c, d] := by
    rw [← hL]
    refine forL_run (P := fun i ρ w => w = WD { r with turn := r.turn + 1 } rest ∧ ∃ a f c d, ρ = [some (.cell 1), some (.int (r.turn + 1)), a, some (.int f), c, d]) ⟨rfl, _, _, _, _, rfl⟩ (fun i t ρ w ht p => ?_)
    obtain ⟨rfl, a, f, c, d, rfl⟩ := p
    obtain ⟨pr, rfl, p0, p1⟩ := int3 (P := fun x => 0 < x ∧ x < 2147483648) ht (by decide) (by decide) (by decide)
    simp [sMul_l (i := 40014) ⟨by decide, by decide⟩, sFdiv_ (j := 67) (by decide) (by decide)]
    generalize hM : forL (mgName 5) _ _ _ _ _ _ = M
    obtain ⟨ρ', w', e, rfl, x, d', hx, rfl⟩ : ∃ ρ' w', M = .ok (ρ', .nx) w' ∧ w' = WD { r with turn := r.turn + 1 } rest ∧ ∃ x d, x.natAbs < 2 ^ 64 ∧ ρ' = [some (.cell 1), some (.int (r.turn + 1)), some (.int pr), some (.int f), some (.int x), d] := by
      rw [← hM]
      have hdiv : 0 ≤ pr / 67 ∧ pr / 67 < 2147483648 := by omega
      refine forL_run (P := fun i ρ w => w = WD { r with turn := r.turn + 1 } rest ∧ ∃ x d, x.natAbs < 2 ^ 64 ∧ ρ = [some (.cell 1), some (.int (r.turn + 1)), some (.int pr), some (.int f), some (.int x), d]) ⟨rfl, 40014 * (r.turn + 1) + pr / 67, _, by omega, rfl⟩ (fun i t ρ w ht p => ?_)
      obtain ⟨rfl, x, d, hx, rfl⟩ := p
      obtain ⟨y, rfl, _⟩ := ints_at ht
      simp [sMul_r (j := 69621) ⟨by decide, by decide⟩, sMod_ p0]
      have h1 := Int.emod_nonneg (x * 69621 + y + (r.turn + 1)) (show pr ≠ 0 by omega)
      have h2 := Int.emod_lt_of_pos (x * 69621 + y + (r.turn + 1)) p0
      exact ⟨_, _, ⟨rfl, rfl⟩, rfl, (x * 69621 + y + (r.turn + 1)) % pr, by omega, _, rfl⟩
    rw [e]
    simp [pow5 hx, sMod_ p0, sMul_r (j := 2147483647) ⟨by decide, by decide⟩]
    exact ⟨_, _, ⟨rfl, rfl⟩, rfl, _, _, _, _, rfl⟩
  rw [e]
  simp
theorem draw_ok {r : Rng} {rest : World} {n : Int} (h0 : 0 < n) (h1 : n < 1073741824) (o : Ok 1 r) : ∃ q r', s__law_draw [.cell 1, .int n] (WD r rest) = .ok (.int q) (WD r' rest) ∧ 0 ≤ q ∧ q < n ∧ Adv 1 r r' := by
  -- the world behind the first statement
  have go : ∀ r1 : Rng, Adv 1 r r1 → ∃ q r', (match ((andThen (.ok ([some (T.cell 1), some (T.int n), none], .nx) (WD r1 rest))
            (mSeq (mAsg (mOp2 sMod (mCall sInt (mCons (mOp2 sIx (mVar 0) (mC (.str "left"))) mNil)) (mVar 1)) (mgName 2))
              (mSeq (mAsg (mOp2 sFdiv (mOp2 sIx (mVar 0) (mC (.str "left"))) (mVar 1)) (mgSub sSet (mVar 0) (mC (.str "left")))) (mRet (mVar 2))))) : R (Env × Fl)) with
        | R.ok (fst, Fl.ret t) w' => R.ok t w'
        | R.ok (fst, Fl.nx) w' => R.ok T.non w'
        | x => R.no) = R.ok (T.int q) (WD r' rest) ∧ 0 ≤ q ∧ q < n ∧ Adv 1 r r' := fun r1 a => by
    simp [sMod_ h0, sFdiv_ h0 h1]
    refine ⟨r1.left % n, { r1 with left := r1.left / n }, ⟨rfl, rfl⟩, Int.emod_nonneg _ (by omega), Int.emod_lt_of_pos _ h0, a.lo, a.hi⟩
  unfold s__law_draw m__law_draw runB
  simp
  by_cases hl : r.left = 0
  · rw [if_pos hl]
    by_cases hg : r.great = []
    · rw [if_pos hg]
      obtain ⟨q, e⟩ := blended_ok (rest := rest) o
      rw [e]
      simp
      have := go { r with turn := r.turn + 1, left := q } ⟨by show r.turn ≤ r.turn + 1; omega, by show r.turn + 1 ≤ r.turn + 1; omega⟩
      simpa [sMod_ h0, sFdiv_ h0 h1] using this
    · rw [if_neg hg]
      obtain ⟨x, gs, hgs⟩ : ∃ x gs, r.great = x :: gs := by
        cases h : r.great with
        | nil => exact absurd h hg
        | cons x gs => exact ⟨x, gs, rfl⟩
      have e1 : lst? (WD r rest) (.cell 0) = some (r.great.map .int) := rfl
      have e2 : sPopAt (.cell 0) [.int 0] (WD r rest) = .ok (.int x) (WD { r with great := gs } rest) := by
        simp [sPopAt, WD, hgs, seqIndex?, rdic]
      rw [e1]
      simp [e2]
      have := go { r with great := gs, left := x } ⟨by show r.turn ≤ r.turn; omega, by show r.turn ≤ r.turn + 1; omega⟩
      simpa [sMod_ h0, sFdiv_ h0 h1] using this
  · rw [if_neg hl]
    have := go r ⟨by omega, by omega⟩
    simpa [sMod_ h0, sFdiv_ h0 h1] using this
end VS

set_option Elab.async false
set_option linter.all false
set_option maxRecDepth 100000
set_option maxHeartbeats 4000000
namespace VS
open PySem PySem.Spec PyProof.Rows L2
/-! ### what a letter may be bent to -/
inductive Vx : T → Prop
  | non : Vx .non
  | bl (b : Bool) : Vx (.bl b)
  | int (i : Int) : Vx (.int i)
  | str (x : Str) (h : PyData.canLay0 (.str x) = true) : Vx (.str x)
  | dct (ks : List Key) (ts : List T) : Vx (.dct ks ts)
  | tup (ts : List T) (hl : ts.length ≤ 60) (h : ∀ u ∈ ts, Vx u) : Vx (.tup ts)
  | lst (ts : List T) (h : ∀ u ∈ ts, Vx u) : Vx (.lst ts)
def isTup : T → Bool | .tup _ => true | _ => false
def isInt : T → Bool | .int _ => true | .bl _ => true | _ => false
def isBl : T → Bool | .bl _ => true | _ => false
def isStr : T → Bool | .str _ => true | _ => false
def eqS (t : T) (s : Str) : Bool := match t with | .str x => decide (x = s) | _ => false
section
variable {w : World} {t u v : T} {s : Str} {i n m : Int}
theorem isi_tuple (h : Vx t) : sIsi [t, .ty "tuple"] w = .ok (.bl (isTup t)) w := by cases h <;> simp [sIsi, kindT, kinds, isiB, isTup]
theorem isi_intV (h : Vx t) : sIsi [t, .ty "int"] w = .ok (.bl (isInt t)) w := by cases h <;> simp [sIsi, kindT, kinds, isiB, isInt]
theorem isi_bool (h : Vx t) : sIsi [t, .ty "bool"] w = .ok (.bl (isBl t)) w := by cases h <;> simp [sIsi, kindT, kinds, isiB, isBl]
theorem isi_str (h : Vx t) : sIsi [t, .ty "str"] w = .ok (.bl (isStr t)) w := by cases h <;> simp [sIsi, kindT, kinds, isiB, isStr]
theorem shaped_str (hs : PyData.canLay0 (.str s) = true) : SeqAt.shaped (.str s) = true := by
  unfold SeqAt.shaped
  rw [hs]
  rfl
theorem eqT_str (h : Vx t) (hs : PyData.canLay0 (.str s) = true) (n1 : isTup t = false) (n2 : ∀ ts, t ≠ .lst ts) (n3 : ∀ ks ts, t ≠ .dct ks ts) : eqT w t (.str s) = some (eqS t s) := by
  cases h with
  | non => rw [eqT_of (d := .none) (e := .str s) (by simp [pd]) (by simp [pd]) rfl (shaped_str hs)]; simp [PyData.eqv, eqS]
  | bl b => rw [eqT_of (d := .bool b) (e := .str s) (by simp [pd]) (by simp [pd]) rfl (shaped_str hs)]; simp [PyData.eqv, eqS]
  | int b => rw [eqT_of (d := .int b) (e := .str s) (by simp [pd]) (by simp [pd]) rfl (shaped_str hs)]; simp [PyData.eqv, eqS]
  | str b h => rw [eqT_of (d := .str b) (e := .str s) (by simp [pd]) (by simp [pd]) (shaped_str h) (shaped_str hs)]; simp [PyData.eqv, eqS]; rfl
  | dct ks ts => exact absurd rfl (n3 ks ts)
  | tup ts _ _ => cases n1
  | lst ts _ => exact absurd rfl (n2 ts)
theorem eqX_str (h : Vx t) (hs : PyData.canLay0 (.str s) = true) : sEqX t (.str s) w = .ok (.bl (eqS t s)) w := by
  have e : eqX w t (.str s) = some (eqS t s) := by
    cases h with
    | dct ks ts => rfl
    | tup ts _ _ => rfl
    | lst ts _ => rfl
    | non => exact eqT_str (w := w) .non hs rfl (fun _ z => nomatch z) (fun _ _ z => nomatch z)
    | bl b => exact eqT_str (w := w) (.bl b) hs rfl (fun _ z => nomatch z) (fun _ _ z => nomatch z)
    | int b => exact eqT_str (w := w) (.int b) hs rfl (fun _ z => nomatch z) (fun _ _ z => nomatch z)
    | str b h => exact eqT_str (w := w) (.str b h) hs rfl (fun _ z => nomatch z) (fun _ _ z => nomatch z)
  simp [sEqX, e]
theorem neX_str (h : Vx t) (hs : PyData.canLay0 (.str s) = true) : sNeX t (.str s) w = .ok (.bl (!eqS t s)) w := by
  have e : neX w t (.str s) = some (!eqS t s) := by
    cases h with
    | dct ks ts => rfl
    | tup ts _ _ => rfl
    | lst ts _ => rfl
    | non => show (eqT w .non (.str s)).map not = _; rw [eqT_str .non hs rfl (fun _ z => nomatch z) (fun _ _ z => nomatch z)]; rfl
    | bl b => show (eqT w (.bl b) (.str s)).map not = _; rw [eqT_str (.bl b) hs rfl (fun _ z => nomatch z) (fun _ _ z => nomatch z)]; rfl
    | int b => show (eqT w (.int b) (.str s)).map not = _; rw [eqT_str (.int b) hs rfl (fun _ z => nomatch z) (fun _ _ z => nomatch z)]; rfl
    | str b h => show (eqT w (.str b) (.str s)).map not = _; rw [eqT_str (.str b h) hs rfl (fun _ z => nomatch z) (fun _ _ z => nomatch z)]; rfl
  simp [sNeX, e]
/-! ### the judges, plainly -/
def num : T → Bool | .int i => decide (-999999999999999999 ≤ i) && decide (i ≤ 999999999999999999) | _ => false
def cnt : T → Bool | .int i => decide (0 ≤ i) && decide (i ≤ 999999999999999999) | _ => false
def pos1 : T → Bool | .int i => decide (1 ≤ i) && decide (i ≤ 999999999999999999) | _ => false
def plc (m : Int) : T → Bool | .int i => decide (0 ≤ i) && decide (i ≤ 999999999999999999) && decide (i < m) | _ => false
def tupN (n : Nat) : T → Bool | .tup ts => decide (ts.length = n) | _ => false
def nm : T → Bool | .tup [a, b] => eqS a "name" && cnt b | _ => false
def nms : T → Bool | .tup ts => ts.all nm | _ => false
def endOf (word : Str) (m : Int) : T → Bool | .tup [a, b] => eqS a word && plc m b | _ => false
def rowOf (n : Nat) : T → Bool | .tup ts => decide (ts.length = n) && ts.all cnt | _ => false
theorem num_ok (h : Vx t) : s_is_number [t] w = .ok (.bl (num t)) w := by
  unfold s_is_number m_is_number runB
  have e1 := isi_intV (w := w) h
  have e2 := isi_bool (w := w) h
  cases h with
  | int i => simp [e1, e2, isInt, isBl, num]; by_cases h1 : -999999999999999999 ≤ i <;> simp [h1]
  | _ => simp [e1, e2, isInt, isBl, num]
theorem cnt_ok (h : Vx t) : s_is_count [t] w = .ok (.bl (cnt t)) w := by
  unfold s_is_count m_is_count runB
  have e1 := num_ok (w := w) h
  cases h with
  | int i =>
    simp [e1, num, cnt]
    by_cases h1 : -999999999999999999 ≤ i <;> by_cases h2 : i ≤ 999999999999999999 <;> by_cases h3 : 0 ≤ i <;> simp [h1, h2, h3]
    omega
  | _ => simp [e1, num, cnt]
theorem pos1_ok (h : Vx t) : s_counts_from_one [t] w = .ok (.bl (pos1 t)) w := by
  unfold s_counts_from_one m_counts_from_one runB
  have e1 := cnt_ok (w := w) h
  cases h with
  | int i =>
    simp [e1, cnt, pos1]
    by_cases h2 : i ≤ 999999999999999999 <;> by_cases h3 : 0 ≤ i <;> simp [h2, h3]
    all_goals omega
  | _ => simp [e1, cnt, pos1]
theorem plc_ok (h : Vx t) : s_is_place [t, .int m] w = .ok (.bl (plc m t)) w := by
  unfold s_is_place m_is_place runB
  have e1 := cnt_ok (w := w) h
  cases h with
  | int i =>
    simp [e1, cnt, plc]
    by_cases h2 : i ≤ 999999999999999999 <;> by_cases h3 : 0 ≤ i <;> simp [h2, h3]
  | _ => simp [e1, cnt, plc]
theorem tupN_ok (h : Vx t) (n : Nat) : s_is_tuple_of [t, .int n] w = .ok (.bl (tupN n t)) w := by
  unfold s_is_tuple_of m_is_tuple_of runB
  have e1 := isi_tuple (w := w) h
  cases h with
  | tup ts _ _ =>
    by_cases h2 : ts.length = n
    · simp [e1, isTup, tupN, h2]
    · have h3 : ¬ ((ts.length : Int) = (n : Int)) := by omega
      simp [e1, isTup, tupN, h2, h3]
  | _ => simp [e1, isTup, tupN]
theorem two_of {ts : List T} (h : ts.length = 2) : ∃ a b, ts = [a, b] := by
  match ts, h with
  | [a, b], _ => exact ⟨a, b, rfl⟩
theorem lay_name : PyData.canLay0 (.str "name") = true := by decide +kernel
theorem nm_ok (h : Vx t) : s_has_name_form [t] w = .ok (.bl (nm t)) w := by
  unfold s_has_name_form m_has_name_form runB
  have e1 := tupN_ok (w := w) h 2
  cases h with
  | tup ts hl hv =>
    by_cases h2 : ts.length = 2
    · obtain ⟨a, b, rfl⟩ := two_of h2
      have ea := eqX_str (w := w) (hv a (by simp)) lay_name
      have eb := cnt_ok (w := w) (hv b (by simp))
      simp at e1
      simp [e1, tupN, ea, eb, nm]
      cases eqS a "name" <;> simp
    · simp at e1
      simp [e1, tupN, h2]
      unfold nm
      split
      · rename_i h3; cases h3; simp at h2
      · rfl
  | _ => simp at e1; simp [e1, tupN, nm]
theorem allb : ∀ bs : List Bool, blsT (bs.map T.bl) = some bs
  | [] => rfl
  | b :: bs => by simp [blsT, allb bs]
theorem sAll_map {ts : List T} (f : T → Bool) : sAll [.lst (ts.map fun t => .bl (f t))] w = .ok (.bl (ts.all f)) w := by
  have e : blsT (ts.map fun t => T.bl (f t)) = some (ts.map f) := by
    have := allb (ts.map f)
    rw [List.map_map] at this
    exact this
  simp [sAll, e]
theorem lay_ask : PyData.canLay0 (.str "ask") = true := by decide +kernel
theorem lay_keep : PyData.canLay0 (.str "keep") = true := by decide +kernel
theorem lay_have : PyData.canLay0 (.str "have") = true := by decide +kernel
theorem lay_kept : PyData.canLay0 (.str "kept") = true := by decide +kernel
theorem lay_hand : PyData.canLay0 (.str "hand") = true := by decide +kernel
theorem lay_house : PyData.canLay0 (.str "house") = true := by decide +kernel
theorem nms_ok (h : Vx t) : s_are_names_by_form [t] w = .ok (.bl (nms t)) w := by
  unfold s_are_names_by_form m_are_names_by_form runB
  have e1 := isi_tuple (w := w) h
  cases h with
  | tup ts hl hv =>
    have e2 : ∀ ρ0 : Env, ρ0 = [some (.tup ts), none] → compL (mgName 1) mYes (mDef 1 s_has_name_form (mCons (mVar 1) mNil)) none ts ρ0 ts [] w = .ok (ts.map fun t => .bl (nm t)) w := fun ρ0 e => by
      subst e
      refine compL_map (fun t => .bl (nm t)) (by omega) fun u hu => ⟨[some (.tup ts), some u], by simp, rfl, ?_⟩
      have := nm_ok (w := w) (hv u hu)
      simp [this]
    have e3 := sAll_map (w := w) (ts := ts) nm
    simp [e1, isTup, wipeE, e2, e3, nms]
  | _ => simp [e1, isTup, nms]
theorem rowOf_ok (h : Vx t) (n : Nat) : s_is_row_for [t, .int n] w = .ok (.bl (rowOf n t)) w := by
  unfold s_is_row_for m_is_row_for runB
  have e1 := tupN_ok (w := w) h n
  cases h with
  | tup ts hl hv =>
    have e2 : ∀ ρ0 : Env, ρ0 = [some (.tup ts), some (.int n), none] → compL (mgName 2) mYes (mDef 1 s_is_count (mCons (mVar 2) mNil)) none ts ρ0 ts [] w = .ok (ts.map fun t => .bl (cnt t)) w := fun ρ0 e => by
      subst e
      refine compL_map (fun t => .bl (cnt t)) (by omega) fun u hu => ⟨[some (.tup ts), some (.int n), some u], by simp, rfl, ?_⟩
      have := cnt_ok (w := w) (hv u hu)
      simp [this]
    have e3 := sAll_map (w := w) (ts := ts) cnt
    by_cases h2 : ts.length = n <;> simp [e1, tupN, h2, wipeE, e2, e3, rowOf]
  | _ => simp [e1, tupN, rowOf]
theorem endOf_ok (h : Vx t) (hs : PyData.canLay0 (.str s) = true) : s__is_one [t, .str s, .int m] w = .ok (.bl (endOf s m t)) w := by
  unfold s__is_one m__is_one runB
  have e1 := tupN_ok (w := w) h 2
  cases h with
  | tup ts hl hv =>
    by_cases h2 : ts.length = 2
    · obtain ⟨a, b, rfl⟩ := two_of h2
      have ea := eqX_str (w := w) (hv a (by simp)) hs
      have eb := plc_ok (w := w) (m := m) (hv b (by simp))
      simp at e1
      simp [e1, tupN, ea, eb, endOf]
      cases eqS a s <;> simp
    · simp at e1
      simp [e1, tupN, h2]
      unfold endOf
      split
      · rename_i h3; cases h3; simp at h2
      · rfl
  | _ => simp at e1; simp [e1, tupN, endOf]
theorem hand_ok {x y z : T} (h : Vx t) : s_is_hand_of [.tup [.int n, y, z], t] w = .ok (.bl (endOf "hand" n t)) w := by
  unfold s_is_hand_of m_is_hand_of runB
  simp [endOf_ok (w := w) (m := n) h lay_hand]
theorem house_ok {x z : T} (h : Vx t) : s_is_house_of [.tup [x, .int n, z], t] w = .ok (.bl (endOf "house" n t)) w := by
  unfold s_is_house_of m_is_house_of runB
  simp [endOf_ok (w := w) (m := n) h lay_house]
/-- a body of n items that begins so -/
def wordOf (s : Str) (n : Nat) : T → Bool
  | .tup (a :: b :: c :: r) => decide (r.length + 3 = n) && eqS a s && pos1 b && pos1 c
  | _ => false
theorem sIx_2 {t u v : T} {ts : List T} : sIx (.tup (u :: v :: t :: ts)) (.int 2) w = .ok t w := sIx_tup rfl (by decide)
theorem sIx_3 {t u v x : T} {ts : List T} : sIx (.tup (u :: v :: x :: t :: ts)) (.int 3) w = .ok t w := sIx_tup rfl (by decide)
theorem sIx_4 {t u v x y : T} {ts : List T} : sIx (.tup (u :: v :: x :: y :: t :: ts)) (.int 4) w = .ok t w := sIx_tup rfl (by decide)
theorem word_ok (h : Vx t) (hs : PyData.canLay0 (.str s) = true) (n : Nat) (hn : 3 ≤ n) : s__has_word [t, .str s, .int n] w = .ok (.bl (wordOf s n t)) w := by
  unfold s__has_word m__has_word runB
  have e1 := tupN_ok (w := w) h n
  cases h with
  | tup ts hl hv =>
    by_cases h2 : ts.length = n
    · match ts, h2 with
      | a :: b :: c :: r, h2 =>
        have ea := eqX_str (w := w) (hv a (by simp)) hs
        have eb := pos1_ok (w := w) (hv b (by simp))
        have ec := pos1_ok (w := w) (hv c (by simp))
        have h3 : r.length + 3 = n := h2
        simp [e1, tupN, h2, ea, eb, ec, wordOf, sIx_2, h3]
        cases eqS a s <;> cases pos1 b <;> simp
      | [], h2 => exact absurd h2 (by simp; omega)
      | [a], h2 => exact absurd h2 (by simp; omega)
      | [a, b], h2 => exact absurd h2 (by simp; omega)
    · simp [e1, tupN, h2]
      unfold wordOf
      split
      · rename_i h3; cases h3; simp at h2; simp; omega
      · rfl
  | _ => simp [e1, tupN, wordOf]
end
end VS

set_option Elab.async false
set_option linter.all false
set_option maxRecDepth 100000
set_option maxHeartbeats 4000000
namespace VS
open PySem PySem.Spec PyProof.Rows L2
section
variable {w : World} {t u v : T} {s : Str} {i n m : Int}
def nmI : T → Int | .tup [_, .int i] => i | _ => 0
theorem nm_shape (h : nm t = true) : ∃ i, t = .tup [.str "name", .int i] ∧ 0 ≤ i ∧ i ≤ 999999999999999999 := by
  unfold nm at h
  split at h
  · rename_i a b
    rw [Bool.and_eq_true] at h
    obtain ⟨h1, h2⟩ := h
    cases a <;> simp [eqS] at h1
    cases b <;> simp [cnt] at h2
    subst h1
    exact ⟨_, rfl, h2.1, h2.2⟩
  · cases h
theorem pd_nm {i : Int} : pd w (.tup [.str "name", .int i]) = some (.tuple [.str "name", .int i]) := by simp [pd, pds]
theorem lt_nm {i j : Int} : sLtD (.tup [.str "name", .int i]) (.tup [.str "name", .int j]) w = .ok (.bl (decide (i < j))) w := by
  unfold sLtD
  rw [pd_nm, pd_nm]
  have e : PySem.W.dataLt (.tuple [.str "name", .int i]) (.tuple [.str "name", .int j]) = decide (i < j) := by
    rw [PySem.W.dataLt_pair (by rfl) (by rfl)]
    have h1 : PyData.eqv (.str "name") (.str "name") = true := by decide +kernel
    rw [h1, PySem.W.dataLt_int]
    simp [PyData.eqv]
    omega
  have c : PySem.W.alike (.tuple [.str "name", .int i]) (.tuple [.str "name", .int j]) = true ∧ PyData.tuple [.str "name", .int i] ≠ .none ∧ PyData.depth (.tuple [.str "name", .int i]) ≤ 60 := ⟨by simp [PySem.W.alike, PySem.W.alikeAll], by simp, by simp [PyData.depth, PyData.depthAll]⟩
  simp only [if_pos c, e]
def ltN : T → Bool | .tup [x, y] => decide (nmI x < nmI y) | _ => false
def ascT (ts : List T) : Bool := (zipT ts ts.tail).all ltN
theorem zipT_mem : ∀ {xs ys : List T} {p : T}, p ∈ zipT xs ys → ∃ x y, x ∈ xs ∧ y ∈ ys ∧ p = .tup [x, y] := fun {xs ys p} h => by
  obtain ⟨i, hi, e⟩ := List.getElem_of_mem h
  obtain ⟨x, y, h1, h2, h3⟩ := zipT_at (by rw [List.getElem?_eq_getElem hi, e] : (zipT xs ys)[i]? = some p)
  exact ⟨x, y, List.mem_of_getElem? h1, List.mem_of_getElem? h2, h3⟩
theorem cut_tail : ∀ ts : List T, cutT ts (some 1) none = ts.tail
  | [] => rfl
  | a :: r => by
    have h2 : HT.sIx (a :: r).length 0 (some 1) = 1 := by
      rw [show (some (1 : Int)) = some ((1 : Nat) : Int) from rfl, HT.sIx_nat]
      simp
    unfold cutT
    rw [HT.sIx_none, h2]
    simp
theorem asc_ok {ts : List T} (hl : ts.length ≤ 60) (hn : ts.all nm = true) : s_ascends [.tup ts] w = .ok (.bl (ascT ts)) w := by
  unfold s_ascends m_ascends runB
  have hn' := List.all_eq_true.mp hn
  have ez : cutT ts (some 1) none = ts.tail := cut_tail ts
  have e2 : ∀ ρ0 : Env, ρ0 = [some (.tup ts), none, none] → compL (mgTup 2 (mgCons (mgName 1) (mgCons (mgName 2) mgNil))) mYes (mOp2 sLtD (mVar 1) (mVar 2)) none (zipT ts ts.tail) ρ0 (zipT ts ts.tail) [] w = .ok ((zipT ts ts.tail).map fun t => .bl (ltN t)) w := fun ρ0 e => by
    subst e
    refine compL_map (fun t => .bl (ltN t)) (by rw [zipT_len]; omega) fun p hp => ?_
    obtain ⟨x, y, hx, hy, rfl⟩ := zipT_mem hp
    obtain ⟨i, rfl, _⟩ := nm_shape (hn' x hx)
    obtain ⟨j, rfl, _⟩ := nm_shape (hn' y (List.mem_of_mem_tail hy))
    refine ⟨[some (.tup ts), some (.tup [.str "name", .int i]), some (.tup [.str "name", .int j])], by simp, rfl, ?_⟩
    simp [lt_nm, ltN, nmI]
    rfl
  have e3 := sAll_map (w := w) (ts := zipT ts ts.tail) ltN
  simp [mZip, sZip, ez, wipeE, e2, e3, ascT]
theorem asc_iff : ∀ ts : List T, ascT ts = true ↔ (ts.map nmI).Pairwise (· < ·)
  | [] => by simp [ascT, zipT]
  | [a] => by simp [ascT, zipT]
  | a :: b :: r => by
    have ih := asc_iff (b :: r)
    have e : ascT (a :: b :: r) = (decide (nmI a < nmI b) && ascT (b :: r)) := by simp [ascT, zipT, ltN]
    rw [e, Bool.and_eq_true, decide_eq_true_iff, ih]
    simp only [List.map_cons, List.pairwise_cons]
    constructor
    · rintro ⟨h1, h2, h3⟩
      exact ⟨fun c hc => by
        rcases List.mem_cons.mp hc with rfl | hc
        · exact h1
        · have := h2 c hc; omega, h2, h3⟩
    · rintro ⟨h1, h2, h3⟩
      exact ⟨h1 _ List.mem_cons_self, h2, h3⟩
/-! ### the bodies -/
def asE : T → Bool | .tup ts => ascT ts | _ => false
theorem asE_ok (h : Vx t) (hn : nms t = true) : s_ascends [t] w = .ok (.bl (asE t)) w := by
  cases h with
  | tup ts hl _ => exact asc_ok hl hn
  | _ => cases hn
def body (hand : Bool) (hands : Nat) : T → Bool
  | .tup [a, b, c, d] => eqS a (if hand then "keep" else "kept") && pos1 b && pos1 c && (if hand then nms d else nm d)
  | .tup [a, b, c, d, e] => eqS a (if hand then "ask" else "have") && pos1 b && pos1 c && (if hand then rowOf hands d && nms e && asE e else nms d && nm e)
  | _ => false
theorem hand_body {y z : T} {k : Nat} (h : Vx t) : s__may_hand_write [.tup [.int k, y, z], t] w = .ok (.bl (body true k t)) w := by
  unfold s__may_hand_write m__may_hand_write runB
  have e1 := word_ok (w := w) h lay_ask 5 (by decide)
  have e2 := word_ok (w := w) h lay_keep 4 (by decide)
  simp at e1 e2
  cases h with
  | tup ts hl hv =>
    match ts, hl, hv, e1, e2 with
    | [a, b, c, d, e], hl, hv, e1, e2 =>
      have ed := rowOf_ok (w := w) (hv d (by simp)) k
      have ee := nms_ok (w := w) (hv e (by simp))
      have ea : nms e = true → s_ascends [e] w = .ok (.bl (asE e)) w := fun h => asE_ok (hv e (by simp)) h
      have z1 : wordOf "keep" 4 (.tup [a, b, c, d, e]) = false := by simp [wordOf]
      have z2 : wordOf "ask" 5 (.tup [a, b, c, d, e]) = (eqS a "ask" && pos1 b && pos1 c) := by simp [wordOf]
      rw [z1] at e2
      rw [z2] at e1
      cases h1 : eqS a "ask" <;> cases h2 : pos1 b <;> cases h3 : pos1 c <;> cases h4 : rowOf k d <;> cases h5 : nms e <;> simp [e1, e2, sIx_3, sIx_4, ed, ee, ea, body, h1, h2, h3, h4, h5]
    | [a, b, c, d], hl, hv, e1, e2 =>
      have ee := nms_ok (w := w) (hv d (by simp))
      have z1 : wordOf "ask" 5 (.tup [a, b, c, d]) = false := by simp [wordOf]
      have z2 : wordOf "keep" 4 (.tup [a, b, c, d]) = (eqS a "keep" && pos1 b && pos1 c) := by simp [wordOf]
      rw [z1] at e1
      rw [z2] at e2
      cases h1 : eqS a "keep" <;> cases h2 : pos1 b <;> cases h3 : pos1 c <;> simp [e1, e2, sIx_3, ee, body, h1, h2, h3]
    | [], hl, hv, e1, e2 => simp [e1, e2, wordOf, body]
    | [a], hl, hv, e1, e2 => simp [e1, e2, wordOf, body]
    | [a, b], hl, hv, e1, e2 => simp [e1, e2, wordOf, body]
    | [a, b, c], hl, hv, e1, e2 => simp [e1, e2, wordOf, body]
    | a :: b :: c :: d :: e :: f :: r, hl, hv, e1, e2 => simp [e1, e2, wordOf, body]
  | _ => simp [e1, e2, wordOf, body]
theorem house_body {k : Nat} (h : Vx t) : s__may_house_write [t] w = .ok (.bl (body false k t)) w := by
  unfold s__may_house_write m__may_house_write runB
  have e1 := word_ok (w := w) h lay_have 5 (by decide)
  have e2 := word_ok (w := w) h lay_kept 4 (by decide)
  simp at e1 e2
  cases h with
  | tup ts hl hv =>
    match ts, hl, hv, e1, e2 with
    | [a, b, c, d, e], hl, hv, e1, e2 =>
      have ed := nms_ok (w := w) (hv d (by simp))
      have ee := nm_ok (w := w) (hv e (by simp))
      have z1 : wordOf "kept" 4 (.tup [a, b, c, d, e]) = false := by simp [wordOf]
      have z2 : wordOf "have" 5 (.tup [a, b, c, d, e]) = (eqS a "have" && pos1 b && pos1 c) := by simp [wordOf]
      rw [z1] at e2
      rw [z2] at e1
      cases h1 : eqS a "have" <;> cases h2 : pos1 b <;> cases h3 : pos1 c <;> cases h4 : nms d <;> simp [e1, e2, sIx_3, sIx_4, ed, ee, body, h1, h2, h3, h4]
    | [a, b, c, d], hl, hv, e1, e2 =>
      have ee := nm_ok (w := w) (hv d (by simp))
      have z1 : wordOf "have" 5 (.tup [a, b, c, d]) = false := by simp [wordOf]
      have z2 : wordOf "kept" 4 (.tup [a, b, c, d]) = (eqS a "kept" && pos1 b && pos1 c) := by simp [wordOf]
      rw [z1] at e1
      rw [z2] at e2
      cases h1 : eqS a "kept" <;> cases h2 : pos1 b <;> cases h3 : pos1 c <;> simp [e1, e2, sIx_3, ee, body, h1, h2, h3]
    | [], hl, hv, e1, e2 => simp [e1, e2, wordOf, body]
    | [a], hl, hv, e1, e2 => simp [e1, e2, wordOf, body]
    | [a, b], hl, hv, e1, e2 => simp [e1, e2, wordOf, body]
    | [a, b, c], hl, hv, e1, e2 => simp [e1, e2, wordOf, body]
    | a :: b :: c :: d :: e :: f :: r, hl, hv, e1, e2 => simp [e1, e2, wordOf, body]
  | _ => simp [e1, e2, wordOf, body]
/-! ### letters -/
def letter (hands houses : Nat) : T → Bool
  | .tup [a, b, c] => if endOf "hand" hands a then endOf "house" houses b && body true hands c else endOf "house" houses a && (endOf "hand" hands b && body false hands c)
  | _ => false
structure Store (hands houses lies : Nat) : Prop where
  h1 : 1 ≤ hands
  h2 : hands ≤ 6
  h3 : 3 * lies < houses
  h4 : houses ≤ 13
theorem store_ok {hands houses lies : Nat} (S : Store hands houses lies) : s_is_store [.tup [.int hands, .int houses, .int lies]] w = .ok (.bl true) w := by
  unfold s_is_store m_is_store runB
  obtain ⟨h1, h2, h3, h4⟩ := S
  have v : Vx (.tup [.int hands, .int houses, .int lies]) := .tup _ (by simp) (fun u hu => by simp at hu; rcases hu with rfl | rfl | rfl <;> exact .int _)
  have e1 := rowOf_ok (w := w) v 3
  have e2 : rowOf 3 (.tup [.int hands, .int houses, .int lies]) = true := by simp [rowOf, cnt]; omega
  rw [e2] at e1
  simp at e1
  have c1 : (1 : Int) ≤ hands := by omega
  have c2 : (hands : Int) ≤ 6 := by omega
  have c3 : 3 * (lies : Int) < houses := by omega
  have c4 : (houses : Int) ≤ 13 := by omega
  simp [e1, c1, c2, c3, c4, sMul_l (i := 3) (j := (lies : Int)) ⟨by decide, by decide⟩]
theorem check_ok {hands houses lies : Nat} (S : Store hands houses lies) : s_check_store [.tup [.int hands, .int houses, .int lies]] w = .ok .non w := by
  unfold s_check_store m_check_store runB
  simp [store_ok S]
theorem letter_ok {hands houses lies : Nat} (S : Store hands houses lies) (h : Vx t) : s_is_letter [.tup [.int hands, .int houses, .int lies], t] w = .ok (.bl (letter hands houses t)) w := by
  unfold s_is_letter m_is_letter runB
  have e0 := check_ok (w := w) S
  have e1 := tupN_ok (w := w) h 3
  simp at e1
  cases h with
  | tup ts hl hv =>
    by_cases h3 : ts.length = 3
    · match ts, h3 with
      | [a, b, c], _ =>
        have a1 := hand_ok (w := w) (x := .non) (y := .int houses) (z := .int lies) (n := hands) (hv a (by simp))
        have a2 := house_ok (w := w) (x := .int hands) (z := .int lies) (n := houses) (hv a (by simp))
        have b1 := hand_ok (w := w) (x := .non) (y := .int houses) (z := .int lies) (n := hands) (hv b (by simp))
        have b2 := house_ok (w := w) (x := .int hands) (z := .int lies) (n := houses) (hv b (by simp))
        have c1 := hand_body (w := w) (y := .int houses) (z := .int lies) (k := hands) (hv c (by simp))
        have c2 := house_body (w := w) (k := hands) (hv c (by simp))
        cases h1 : endOf "hand" hands a <;> cases h2 : endOf "house" houses a <;> cases h4 : endOf "house" houses b <;> cases h5 : endOf "hand" hands b <;> simp [e0, e1, tupN, a1, a2, b1, b2, c1, c2, letter, h1, h2, h4, h5]
    · have z : letter hands houses (.tup ts) = false := by
        unfold letter
        split
        · rename_i q; cases q; simp at h3
        · rfl
      simp [e0, e1, tupN, h3, z]
  | _ => simp [e0, e1, tupN, letter]
end
end VS

set_option Elab.async false
set_option linter.all false
set_option maxRecDepth 100000
set_option maxHeartbeats 4000000
namespace VS
open PySem PySem.Spec PyProof.Rows L2
section
variable {w : World} {r : Rng} {S t u : T} {L M : List T} {G : World} {h H l : Nat} {ρ : Env}
@[simp] theorem mRaise_ {x : Str} : mRaise x ρ w = .ex (.exc x [] []) ρ w := rfl
/-- the road, what it holds, what the law holds -/
def RW (S : T) (L M : List T) (G : World) : World := .obj "Road" ["store", "_sent"] [S, .cell 3] :: .lst L :: .lst M :: G
@[simp] theorem rw2 : (WD r (RW S L M G))[2]? = some (.obj "Road" ["store", "_sent"] [S, .cell 3]) := rfl
@[simp] theorem rw3 : (WD r (RW S L M G))[3]? = some (.lst L) := rfl
@[simp] theorem rw4 : (WD r (RW S L M G))[4]? = some (.lst M) := rfl
theorem set3 {L' : List T} : (WD r (RW S L M G)).set 3 (.lst L') = WD r (RW S L' M G) := rfl
theorem set4 {L' : List T} : (WD r (RW S L M G)).set 4 (.lst L') = WD r (RW S L L' G) := rfl
theorem rw_app {c : Cell} : WD r (RW S L M G) ++ [c] = WD r (RW S L M (G ++ [c])) := rfl
theorem it1 : inTab obTab "Road" "store" = true := by decide +kernel
theorem it2 : inTab obTab "Road" "_sent" = true := by decide +kernel
theorem s_ne : (("_sent" : Str) = "store") = False := eq_false (by decide +kernel)
theorem s_ne' : (("store" : Str) = "_sent") = False := eq_false (by decide +kernel)
@[simp] theorem mFld_ {tab : List (Str × List Str)} {f : Str} {a : ME} : mFld tab f a ρ w = (a ρ w).bind (sFldT tab f) := rfl
@[simp] theorem fld_store : sFldT obTab "store" (.cell 2) (WD r (RW S L M G)) = .ok S (WD r (RW S L M G)) := by
  simp [sFldT, it1, getF]
@[simp] theorem fld_sent : sFldT obTab "_sent" (.cell 2) (WD r (RW S L M G)) = .ok (.cell 3) (WD r (RW S L M G)) := by
  simp [sFldT, it2, getF, s_ne]
abbrev St (h H l : Nat) : T := .tup [.int h, .int H, .int l]
theorem send_ok (S : Store h H l) (v : Vx t) (hl : letter h H t = true) (hL : L.length < 10000) : s_Road_send [.cell 2, t] (WD r (RW (St h H l) L M G)) = .ok (.int L.length) (WD r (RW (St h H l) (L ++ [t]) M G)) := by
  unfold s_Road_send m_Road_send runB
  have e1 := letter_ok (w := WD r (RW (St h H l) L M G)) S v
  rw [hl] at e1
  have e2 := append_cell (w := WD r (RW (St h H l) L M G)) (k := 3) (ts := L) (t := t) rw3 (by omega)
  have e3 := lst_cell (w := WD r (RW (St h H l) L M G)) (k := 3) (ts := L) rw3
  have e4 := sLen_cell (w := WD r (RW (St h H l) (L ++ [t]) M G)) (k := 3) (ts := L ++ [t]) rw3
  simp [e1, e3, e2, set3, e4]
theorem send_bad (S : Store h H l) (v : Vx t) (hl : letter h H t = false) : s_Road_send [.cell 2, t] (WD r (RW (St h H l) L M G)) = .ex (.exc "BadLetter" [] []) [] (WD r (RW (St h H l) L M G)) := by
  unfold s_Road_send m_Road_send runB
  have e1 := letter_ok (w := WD r (RW (St h H l) L M G)) S v
  rw [hl] at e1
  simp [e1]
theorem count_ok : s_Road_count [.cell 2] (WD r (RW S L M G)) = .ok (.int L.length) (WD r (RW S L M G)) := by
  unfold s_Road_count m_Road_count runB
  have e4 := sLen_cell (w := WD r (RW S L M G)) (k := 3) (ts := L) rw3
  simp [e4]
theorem num_letter {i : Nat} {x : T} (hi : L[i]? = some x) (hL : L.length < 10000) : s_Road_letter [.cell 2, .int i] (WD r (RW S L M G)) = .ok x (WD r (RW S L M G)) := by
  unfold s_Road_letter m_Road_letter runB
  have e4 := sLen_cell (w := WD r (RW S L M G)) (k := 3) (ts := L) rw3
  have hl := (List.getElem?_eq_some_iff.mp hi).1
  have e5 := plc_ok (w := WD r (RW S L M G)) (m := L.length) (Vx.int i)
  have e6 : plc (L.length : Int) (.int i) = true := by simp [plc]; omega
  rw [e6] at e5
  have e7 := sIx_cell (w := WD r (RW S L M G)) (k := 3) (ts := L) (i := (i : Int)) (t := x) rw3 (by simpa using hi) (by omega)
  simp [e4, e5, e7]
theorem num_bad (v : Vx t) (hp : plc (L.length : Int) t = false) : s_Road_letter [.cell 2, t] (WD r (RW S L M G)) = .ex (.exc "BadNumber" [] []) [] (WD r (RW S L M G)) := by
  unfold s_Road_letter m_Road_letter runB
  have e4 := sLen_cell (w := WD r (RW S L M G)) (k := 3) (ts := L) rw3
  have e5 := plc_ok (w := WD r (RW S L M G)) (m := L.length) v
  rw [hp] at e5
  simp [e4, e5]
/-! ### waiting -/
theorem compL_filterK {g : MG} {c : MT} {e : ME} {oc : OC} {whole : List T} {ρ0 : Env} (hk : Kept oc whole w) (p : T → Bool) (f : T → T) : ∀ (all out : List T), out.length + all.length < 16777216 → (∀ t ∈ all, ∃ ρ1, g t ρ0 w = .ok ρ1 w ∧ c ρ1 w = .ok (p t) w ∧ (p t = true → e ρ1 w = .ok (f t) w)) →
    compL g c e oc whole ρ0 all out w = .ok (out ++ (all.filter p).map f) w
  | [], out, hl, hh => by unfold compL; rw [if_pos hk]; simp
  | t :: ts, out, hl, hh => by
    obtain ⟨ρ1, e1, e2, e3⟩ := hh t List.mem_cons_self
    unfold compL
    rw [if_pos hk, e1, bind_ok', e2, bind_ok']
    cases hp : p t with
    | true =>
      rw [if_pos rfl, e3 hp, bind_ok', if_pos (by rw [sizeLine_eq]; simp at hl; omega), compL_filterK hk p f ts _ (by simp at hl ⊢; omega) fun u hu => hh u (List.mem_cons_of_mem _ hu)]
      simp [hp]
    | false =>
      rw [if_neg Bool.false_ne_true, compL_filterK hk p f ts _ (by simp at hl ⊢; omega) fun u hu => hh u (List.mem_cons_of_mem _ hu)]
      simp [hp]
/-- an end -/
def En (t : T) : Prop := ∃ (x : Str) (i : Int), t = .tup [.str x, .int i] ∧ PyData.canLay0 (.str x) = true
def enEq : T → T → Bool
  | .tup [.str x, .int i], .tup [.str y, .int j] => decide (x = y) && decide (i = j)
  | _, _ => false
theorem eq_en (a : En t) (b : En u) : eqT w t u = some (enEq t u) := by
  obtain ⟨x, i, rfl, hx⟩ := a
  obtain ⟨y, j, rfl, hy⟩ := b
  have p : ∀ (x : Str) (i : Int), pd w (.tup [.str x, .int i]) = some (.tuple [.str x, .int i]) := fun x i => by simp [pd, pds]
  have s : ∀ (x : Str) (i : Int), PyData.canLay0 (.str x) = true → SeqAt.shaped (.tuple [.str x, .int i]) = true := fun x i hx => by
    unfold SeqAt.shaped
    have : PyData.canLay0 (.tuple [.str x, .int i]) = true := by
      show PyData.canLayAll0 [.str x, .int i] = true
      unfold PyData.canLayAll0 PyData.canLayAll0 PyData.canLayAll0
      rw [hx]; rfl
    rw [this]
    simp [PyData.depth, PyData.depthAll]
  rw [eqT_of (p x i) (p y j) (s x i hx) (s y j hy)]
  show some (PyData.eqvAll [.str x, .int i] [.str y, .int j]) = some (decide (x = y) && decide (i = j))
  by_cases h1 : x = y <;> by_cases h2 : i = j <;> simp [PyData.eqvAll, PyData.eqv, h1, h2]
/-- whom a letter is for -/
def toWhom : T → T | .tup [_, b, _] => b | _ => .non
def ixOf : T → Int | .tup [.int i, _] => i | _ => 0
def ltOf : T → T | .tup [_, t] => t | _ => .non
def waits (L : List T) (who : T) : List Int := ((enT 0 L).filter fun u => enEq (toWhom (ltOf u)) who).map ixOf
/-- a letter, as far as asked here -/
def Lt3 (t : T) : Prop := ∃ a b c, t = .tup [a, b, c] ∧ En b
theorem waits_comp {who : T} (hw : En who) (hL : ∀ t ∈ L, Lt3 t) (hl : L.length < 10000) {k : Nat} {ρ0 : Env} (hk : w[k]? = some (.lst L)) {g : MG} {c : MT} {e : ME}
    (h : ∀ (n : Int) (x : T), Lt3 x → ∃ ρ1, g (.tup [.int n, x]) ρ0 w = .ok ρ1 w ∧ c ρ1 w = .ok (enEq (toWhom x) who) w ∧ e ρ1 w = .ok (.int n) w) : compL g c e (some (k, L)) (enT 0 L) ρ0 (enT 0 L) [] w = .ok ((waits L who).map T.int) w := by
  have hmem : ∀ u ∈ enT 0 L, ∃ (n : Int) (x : T), u = .tup [.int n, x] ∧ Lt3 x := fun u hu => by
    obtain ⟨i, hi, e⟩ := List.getElem_of_mem hu
    obtain ⟨x, h1, h2⟩ := enT_at (by rw [List.getElem?_eq_getElem hi, e] : (enT 0 L)[i]? = some u)
    exact ⟨_, x, h2, hL x (List.mem_of_getElem? h1)⟩
  rw [compL_filterK (kept_some hk) (fun u => enEq (toWhom (ltOf u)) who) (fun u => .int (ixOf u)) _ [] (by rw [enT_len]; simp; omega) (fun u hu => by
    obtain ⟨n, x, rfl, hx⟩ := hmem u hu
    obtain ⟨ρ1, e1, e2, e3⟩ := h n x hx
    exact ⟨ρ1, e1, e2, fun _ => e3⟩)]
  unfold waits
  rw [List.map_map]
  simp
end
end VS

set_option Elab.async false
set_option linter.all false
set_option maxRecDepth 100000
set_option maxHeartbeats 4000000
namespace VS
open PySem PySem.Spec PyProof.Rows L2
section
variable {w rest : World} {r : Rng} {S t u : T} {L M : List T} {G : World} {h H l : Nat} {ρ : Env}
theorem waiting_ok {who : T} (hw : En who) (vw : Vx who) (hL : ∀ t ∈ L, Lt3 t) (hl : L.length < 10000) (he : endOf "hand" h who = true ∨ endOf "house" H who = true) : s_Road_waiting [.cell 2, who] (WD r (RW (St h H l) L M G)) = .ok (.cell (G.length + 5)) (WD r (RW (St h H l) L M (G ++ [.lst ((waits L who).map T.int)]))) := by
  unfold s_Road_waiting m_Road_waiting runB
  have e1 := hand_ok (w := WD r (RW (St h H l) L M G)) (x := .non) (y := .int H) (z := .int l) (n := h) vw
  have e2 := house_ok (w := WD r (RW (St h H l) L M G)) (x := .int h) (z := .int l) (n := H) vw
  have en : sEnum [.cell 3] (WD r (RW (St h H l) L M G)) = .ok (enT 0 L, some (3, L)) (WD r (RW (St h H l) L M G)) := by
    simp [sEnum, items]
  have e3 : ∀ ρ0 : Env, ρ0 = [some (.cell 2), some who, none, none] → compL (mgTup 2 (mgCons (mgName 2) (mgCons (mgName 3) mgNil))) (mTest (mOp2 sEq (mOp2 sIx (mVar 3) (mC (.int 1))) (mVar 1))) (mVar 2) (some (3, L)) (enT 0 L) ρ0 (enT 0 L) [] (WD r (RW (St h H l) L M G)) = .ok ((waits L who).map T.int) (WD r (RW (St h H l) L M G)) := fun ρ0 e => by
    subst e
    refine waits_comp hw hL hl rw3 fun n x hx => ?_
    obtain ⟨a, b, c, rfl, hb⟩ := hx
    refine ⟨[some (.cell 2), some who, some (.int n), some (.tup [a, b, c])], by simp, ?_, by simp⟩
    have := eq_en (w := WD r (RW (St h H l) L M G)) hb hw
    simp [sEq, this, toWhom]
  have ln : (WD r (RW (St h H l) L M G)).length = G.length + 5 := by simp [WD, RW]
  rcases he with he | he
  · rw [he] at e1
    simp [e1, mEnum, en, wipeE, e3, rw_app, ln]
  · rw [he] at e2
    cases hh : endOf "hand" h who with
    | true => rw [hh] at e1; simp [e1, mEnum, en, wipeE, e3, rw_app, ln]
    | false => rw [hh] at e1; simp [e1, e2, mEnum, en, wipeE, e3, rw_app, ln]
theorem waiting_bad {who : T} (vw : Vx who) (h1 : endOf "hand" h who = false) (h2 : endOf "house" H who = false) : s_Road_waiting [.cell 2, who] (WD r (RW (St h H l) L M G)) = .ex (.exc "BadWho" [] []) [] (WD r (RW (St h H l) L M G)) := by
  unfold s_Road_waiting m_Road_waiting runB
  have e1 := hand_ok (w := WD r (RW (St h H l) L M G)) (x := .non) (y := .int H) (z := .int l) (n := h) vw
  have e2 := house_ok (w := WD r (RW (St h H l) L M G)) (x := .int h) (z := .int l) (n := H) vw
  rw [h1] at e1
  rw [h2] at e2
  simp [e1, e2]
/-! ### drawn letters -/
/-- data without cells -/
def Dt (t : T) : Prop := ∃ d, pd0 t = some d ∧ (∀ w, pd w t = some d) ∧ d.canLay0 = true ∧ d.depth ≤ 20
structure Good (h H : Nat) (t : T) : Prop where
  ex : ∃ a b c, t = .tup [a, b, c] ∧ En a ∧ En b ∧ Vx a ∧ Vx b ∧ Vx c ∧ letter h H (.tup [a, b, c]) = true ∧ letter h H (.tup [b, a, c]) = false ∧ Dt (.tup [a, b, c])
theorem at_draw {ts : List T} {q : Int} (h0 : 0 ≤ q) (h1 : q < (ts.length : Int)) : ∃ t, ts[q.toNat]? = some t ∧ t ∈ ts := by
  have : q.toNat < ts.length := by omega
  exact ⟨ts[q.toNat], by simp [this], List.getElem_mem this⟩
theorem pick_lst {ts : List T} (h0 : 0 < ts.length) (h1 : ts.length < 1073741824) (o : Ok 1 r) : ∃ t r', s__law_pick [.cell 1, .lst ts] (WD r rest) = .ok t (WD r' rest) ∧ t ∈ ts ∧ Adv 1 r r' := by
  obtain ⟨q, r', e, q0, q1, a⟩ := draw_ok (rest := rest) (n := ts.length) (by omega) (by omega) o
  obtain ⟨t, ht, hm⟩ := at_draw q0 q1
  refine ⟨t, r', ?_, hm, a⟩
  unfold s__law_pick m__law_pick runB
  simp [e, sIx_lst ht q0]
theorem pick_due (h0 : 0 < M.length) (h1 : M.length < 1073741824) (o : Ok 1 r) : ∃ t r', s__law_pick [.cell 1, .cell 4] (WD r (RW S L M G)) = .ok t (WD r' (RW S L M G)) ∧ t ∈ M ∧ Adv 1 r r' := by
  obtain ⟨q, r', e, q0, q1, a⟩ := draw_ok (rest := RW S L M G) (n := M.length) (by omega) (by omega) o
  obtain ⟨t, ht, hm⟩ := at_draw q0 q1
  refine ⟨t, r', ?_, hm, a⟩
  unfold s__law_pick m__law_pick runB
  have e1 := sLen_cell (w := WD r (RW S L M G)) (k := 4) (ts := M) rw4
  have e2 := sIx_cell (w := WD r' (RW S L M G)) (k := 4) (ts := M) (i := q) (t := t) rw4 ht q0
  simp [e1, e, e2]
theorem dt_int (i : Int) : Dt (.int i) := ⟨.int i, rfl, fun w => rfl, rfl, by simp [PyData.depth]⟩
theorem dt_str {x : Str} (hx : PyData.canLay0 (.str x) = true) : Dt (.str x) := ⟨.str x, rfl, fun w => rfl, hx, by simp [PyData.depth]⟩
def DtN (k : Nat) (t : T) : Prop := ∃ d, pd0 t = some d ∧ (∀ w, pd w t = some d) ∧ d.canLay0 = true ∧ d.depth ≤ k
theorem dn_int (k : Nat) (i : Int) : DtN (k + 1) (.int i) := ⟨.int i, rfl, fun w => rfl, rfl, by simp [PyData.depth]⟩
theorem dn_str (k : Nat) {x : Str} (hx : PyData.canLay0 (.str x) = true) : DtN (k + 1) (.str x) := ⟨.str x, rfl, fun w => rfl, hx, by simp [PyData.depth]⟩
theorem dn_list {k : Nat} : ∀ {ts : List T}, (∀ t ∈ ts, DtN k t) → ∃ ds, pds0 ts = some ds ∧ (∀ w, pds w ts = some ds) ∧ PyData.canLayAll0 ds = true ∧ PyData.depthAll ds ≤ k
  | [], _ => ⟨[], rfl, fun w => rfl, rfl, by simp [PyData.depthAll]⟩
  | t :: ts, hh => by
    obtain ⟨d, d1, d2, d3, d4⟩ := hh t List.mem_cons_self
    obtain ⟨ds, g1, g2, g3, g4⟩ := dn_list fun u hu => hh u (List.mem_cons_of_mem _ hu)
    exact ⟨d :: ds, by simp [pds0, d1, g1], fun w => by simp [pds, d2 w, g2 w], by simp [PyData.canLayAll0, d3, g3], by simp [PyData.depthAll]; omega⟩
theorem dn_tup {k : Nat} {ts : List T} (hh : ∀ t ∈ ts, DtN k t) : DtN (k + 1) (.tup ts) := by
  obtain ⟨ds, g1, g2, g3, g4⟩ := dn_list hh
  exact ⟨.tuple ds, by simp [pd0, g1], fun w => by simp [pd, g2 w], by simp [PyData.canLay0, g3], by simp [PyData.depth]; omega⟩
theorem DtN.dt {k : Nat} (hh : DtN k t) (hk : k ≤ 20) : Dt t := by
  obtain ⟨d, d1, d2, d3, d4⟩ := hh
  exact ⟨d, d1, d2, d3, by omega⟩
theorem DtN.up {k j : Nat} (hh : DtN k t) (hk : k ≤ j) : DtN j t := by
  obtain ⟨d, d1, d2, d3, d4⟩ := hh
  exact ⟨d, d1, d2, d3, by omega⟩
/-- lists of data are equal to themselves -/
theorem eq_dts {N : List T} (hN : ∀ t ∈ N, Dt t) {k : Nat} (hk : w[k]? = some (.lst N)) : eqT w (.lst N) (.cell k) = some true := by
  obtain ⟨ds, g1, g2, g3, g4⟩ := dn_list (k := 20) hN
  have p1 : pd w (.lst N) = some (.list ds) := by simp [pd, g2 w]
  have p2 : pd w (.cell k) = some (.list ds) := by simp [pd, hk, g1]
  have s : SeqAt.shaped (.list ds) = true := by
    unfold SeqAt.shaped
    have c : PyData.canLay0 (.list ds) = true := g3
    rw [c]
    simp [PyData.depth]
    omega
  rw [eqT_of p1 p2 s s]
  have := SeqAt.eqv_refl (.list ds) g3
  rw [this]
end
end VS

set_option Elab.async false
set_option linter.all false
set_option maxRecDepth 100000
set_option maxHeartbeats 4000000
namespace VS
open PySem PySem.Spec PyProof.Rows L2
section
variable {w rest : World} {r : Rng} {S t u c : T} {L M us : List T} {G : World} {h H l : Nat} {ρ : Env} {q1 q2 : Int}
theorem hh : (("hand" : Str) = "house") = False := eq_false (by decide +kernel)
theorem hh' : (("house" : Str) = "hand") = False := eq_false (by decide +kernel)
abbrev Ha (q : Int) : T := .tup [.str "hand", .int q]
abbrev Ho (q : Int) : T := .tup [.str "house", .int q]
theorem en_ha : En (Ha q1) := ⟨_, _, rfl, lay_hand⟩
theorem en_ho : En (Ho q1) := ⟨_, _, rfl, lay_house⟩
theorem vx2 {x : Str} {q : Int} (hx : PyData.canLay0 (.str x) = true) : Vx (.tup [.str x, .int q]) := .tup _ (by simp) fun u hu => by
  simp at hu
  rcases hu with rfl | rfl
  · exact .str _ hx
  · exact .int _
theorem dn2 {x : Str} {q : Int} (hx : PyData.canLay0 (.str x) = true) : DtN 2 (.tup [.str x, .int q]) := dn_tup fun u hu => by
  simp at hu
  rcases hu with rfl | rfl
  · exact dn_str 0 hx
  · exact dn_int 0 _
theorem end_ha (a0 : 0 ≤ q1) (a1 : q1 < h) (hh6 : h ≤ 13) : endOf "hand" h (Ha q1) = true := by simp [endOf, eqS, plc, a0, a1]; omega
theorem end_ho (a0 : 0 ≤ q1) (a1 : q1 < h) (hh6 : h ≤ 13) : endOf "house" h (Ho q1) = true := by simp [endOf, eqS, plc, a0, a1]; omega
theorem end_ha_no : endOf "house" (h : Int) (Ha q1) = false := by simp [endOf, eqS, hh]
theorem end_ho_no : endOf "hand" (h : Int) (Ho q1) = false := by simp [endOf, eqS, hh']
theorem dn3 {a b : T} (ha : DtN 2 a) (hb : DtN 2 b) (hc : DtN 8 c) : Dt (.tup [a, b, c]) := (dn_tup (k := 8) fun u hu => by
  simp at hu
  rcases hu with rfl | rfl | rfl
  · exact ha.up (by omega)
  · exact hb.up (by omega)
  · exact hc).dt (by omega)
theorem good_hand (h6 : h ≤ 13) (H13 : H ≤ 13) (a0 : 0 ≤ q1) (a1 : q1 < h) (b0 : 0 ≤ q2) (b1 : q2 < H) (vc : Vx c) (dc : DtN 8 c) (k1 : body true h c = true) (k2 : body false h c = false) : Good h H (.tup [Ha q1, Ho q2, c]) := by
  refine ⟨_, _, _, rfl, en_ha, en_ho, vx2 lay_hand, vx2 lay_house, vc, ?_, ?_, dn3 (dn2 lay_hand) (dn2 lay_house) dc⟩
  · simp only [letter, end_ha a0 a1 h6, end_ho b0 b1 H13, k1]; rfl
  · simp only [letter, end_ho_no, end_ho b0 b1 H13, end_ha a0 a1 h6, k2]; rfl
theorem good_house (h6 : h ≤ 13) (H13 : H ≤ 13) (a0 : 0 ≤ q1) (a1 : q1 < h) (b0 : 0 ≤ q2) (b1 : q2 < H) (vc : Vx c) (dc : DtN 8 c) (k1 : body false h c = true) (k2 : body true h c = false) : Good h H (.tup [Ho q2, Ha q1, c]) := by
  refine ⟨_, _, _, rfl, en_ho, en_ha, vx2 lay_house, vx2 lay_hand, vc, ?_, ?_, dn3 (dn2 lay_house) (dn2 lay_hand) dc⟩
  · simp only [letter, end_ho_no, end_ho b0 b1 H13, end_ha a0 a1 h6, k1]; rfl
  · simp only [letter, end_ha a0 a1 h6, end_ho b0 b1 H13, k2]; rfl
theorem cutN_lo {n : Nat} (hn : n ≤ us.length) : cutT us none (some (n : Int)) = us.take n := by
  unfold cutT
  rw [HT.sIx_none, HT.sIx_nat, List.drop_zero, Nat.sub_zero, Nat.min_eq_left hn]
theorem d1 : (("ask" : Str) = "have") = False := eq_false (by decide +kernel)
theorem d2 : (("keep" : Str) = "kept") = False := eq_false (by decide +kernel)
theorem d1' : (("have" : Str) = "ask") = False := eq_false (by decide +kernel)
theorem d2' : (("kept" : Str) = "keep") = False := eq_false (by decide +kernel)
/-- names -/
def Nn (t : T) : Prop := ∃ q : Int, t = .tup [.str "name", .int q] ∧ 0 ≤ q ∧ q < 100
theorem Nn.nm (hn : Nn t) : nm t = true := by
  obtain ⟨q, rfl, h1, h2⟩ := hn
  simp [VS.nm, eqS, cnt, h1]; omega
theorem Nn.vx (hn : Nn t) : Vx t := by obtain ⟨q, rfl, _⟩ := hn; exact vx2 lay_name
theorem Nn.dn (hn : Nn t) : DtN 2 t := by obtain ⟨q, rfl, _⟩ := hn; exact dn2 lay_name
theorem nns_nms (hn : ∀ t ∈ us, Nn t) : nms (.tup us) = true := List.all_eq_true.mpr fun u hu => (hn u hu).nm
theorem nns_vx (hn : ∀ t ∈ us, Nn t) (hl : us.length ≤ 10) : Vx (.tup us) := .tup _ (by omega) fun u hu => (hn u hu).vx
theorem nns_dn (hn : ∀ t ∈ us, Nn t) : DtN 3 (.tup us) := dn_tup fun u hu => (hn u hu).dn
theorem mul_tup {ts : List T} {k : Nat} (hk : k ≤ 10) (hl : ts.length ≤ 10) (hn : ts ≠ []) : sMulT (.tup ts) (.int k) w = .ok (.tup (List.replicate k ts).flatten) w := by
  have c : ts ≠ [] ∧ 0 ≤ (k : Int) ∧ (k : Int) ≤ 1000 ∧ ts.length ≤ 1000 := ⟨hn, by omega, by omega, by omega⟩
  simp only [sMulT, if_pos c, Int.toNat_natCast]
theorem rep_one (t : T) (k : Nat) : (List.replicate k [t]).flatten = List.replicate k t := by
  induction k with
  | zero => rfl
  | succ k ih => rw [List.replicate_succ, List.flatten_cons, ih]; rfl
theorem drawn_ok (h1 : 1 ≤ h) (h6 : h ≤ 6) (H1 : 1 ≤ H) (H13 : H ≤ 13) (o : Ok 8 r) : ∃ t r', s__law_ro_letter [.cell 1, .int h, .int H] (WD r rest) = .ok t (WD r' rest) ∧ Good h H t ∧ Adv 8 r r' := by
  have l0 : (0 : Nat) ≤ sizeLine := by omega
  have l1 : (1 : Nat) ≤ sizeLine := by rw [sizeLine_eq]; decide
  have l2 : (2 : Nat) ≤ sizeLine := by rw [sizeLine_eq]; decide
  have l3 : (3 : Nat) ≤ sizeLine := by rw [sizeLine_eq]; decide
  have l4 : (4 : Nat) ≤ sizeLine := by rw [sizeLine_eq]; decide
  have l5 : (5 : Nat) ≤ sizeLine := by rw [sizeLine_eq]; decide
  obtain ⟨q1, r1, e1, a0, a1, b1⟩ := draw_ok (r := r) (rest := rest) (n := h) (by omega) (by omega) (o.on Adv.refl 1 (by omega))
  obtain ⟨q2, r2, e2, c0, c1, b2⟩ := draw_ok (r := r1) (rest := rest) (n := H) (by omega) (by omega) (o.on b1 1 (by omega))
  have A2 := b1.trans b2
  obtain ⟨q3, r3, e3, f0, f1, b3⟩ := draw_ok (r := r2) (rest := rest) (n := 3) (by omega) (by omega) (o.on A2 1 (by omega))
  have A3 := A2.trans b3
  obtain ⟨way, r4, e4, w0, w1, b4⟩ := draw_ok (r := r3) (rest := rest) (n := 4) (by omega) (by omega) (o.on A3 1 (by omega))
  have A4 := A3.trans b4
  have p1 : pos1 (.int (1 + q3)) = true := by simp [pos1]; omega
  have z : ∀ n : Int, 1 ≤ n → n ≤ 10 → pos1 (.int n) = true := fun n h1 h2 => by simp [pos1]; omega
  by_cases k0 : way = 0
  · subst k0
    obtain ⟨q5, r5, e5, g0, g1, b5⟩ := draw_ok (r := r4) (rest := rest) (n := 3) (by omega) (by omega) (o.on A4 1 (by omega))
    obtain ⟨n, rfl⟩ : ∃ n : Nat, q5 = n := ⟨q5.toNat, by omega⟩
    have hc := cutN_lo (us := [.tup [.str "name", .int 0], .tup [.str "name", .int 5]]) (n := n) (by simp; omega)
    generalize hus : ([.tup [.str "name", .int 0], .tup [.str "name", .int 5]] : List T).take n = us at hc
    have hun : ∀ u ∈ us, Nn u := fun u hu => by
      rw [← hus] at hu
      have := List.mem_of_mem_take hu
      simp at this
      rcases this with rfl | rfl
      · exact ⟨0, rfl, by omega, by omega⟩
      · exact ⟨5, rfl, by omega, by omega⟩
    have hul : us.length ≤ 2 := by rw [← hus, List.length_take]; simp; omega
    have ha : ascT us = true := by
      rw [← hus]
      have : n = 0 ∨ n = 1 ∨ n = 2 := by omega
      rcases this with rfl | rfl | rfl <;> simp [ascT, zipT, ltN, nmI]
    have hrow : rowOf h (.tup (List.replicate h (.int 0))) = true := by
      simp [rowOf, cnt]
    have m1 := fun w => mul_tup (w := w) (ts := [.int 0]) (k := h) (by omega) (by simp) (by simp)
    rw [rep_one] at m1
    have vr : Vx (.tup (List.replicate h (.int 0))) := .tup _ (by simp; omega) fun u hu => by rw [(List.mem_replicate.mp hu).2]; exact .int _
    have dr : DtN 3 (.tup (List.replicate h (.int 0))) := dn_tup fun u hu => by rw [(List.mem_replicate.mp hu).2]; exact dn_int 1 _
    refine ⟨_, r5, ?_, good_hand (by omega) H13 a0 a1 c0 c1 (c := .tup [.str "ask", .int (1 + q3), .int 1, .tup (List.replicate h (.int 0)), .tup us]) ?_ ?_ ?_ ?_, (A4.trans b5).mono (by omega)⟩
    · unfold s__law_ro_letter m__law_ro_letter runB
      simp [e1, e2, e3, e4, l1, l2, l3, l5, m1, e5, hc]
    · refine .tup _ (by simp) fun u hu => ?_
      simp at hu
      rcases hu with rfl | rfl | rfl | rfl | rfl
      · exact .str _ lay_ask
      · exact .int _
      · exact .int _
      · exact vr
      · exact nns_vx hun (by omega)
    · refine (dn_tup (k := 7) fun u hu => ?_)
      simp at hu
      rcases hu with rfl | rfl | rfl | rfl | rfl
      · exact dn_str 6 lay_ask
      · exact dn_int 6 _
      · exact dn_int 6 _
      · exact dr.up (by omega)
      · exact (nns_dn hun).up (by omega)
    · simp [body, eqS, p1, z 1 (by omega) (by omega), hrow, nns_nms hun, asE, ha]
    · simp [body, eqS, d1]
  · by_cases k1 : way = 1
    · subst k1
      obtain ⟨q5, r5, e5, g0, g1, b5⟩ := draw_ok (r := r4) (rest := rest) (n := 3) (by omega) (by omega) (o.on A4 1 (by omega))
      obtain ⟨n, rfl⟩ : ∃ n : Nat, q5 = n := ⟨q5.toNat, by omega⟩
      have m1 := fun w => mul_tup (w := w) (ts := [.tup [.str "name", .int 4]]) (k := n) (by omega) (by simp) (by simp)
      rw [rep_one] at m1
      have hun : ∀ u ∈ List.replicate n (.tup [.str "name", .int 4] : T), Nn u := fun u hu => by
        rw [(List.mem_replicate.mp hu).2]
        exact ⟨4, rfl, by omega, by omega⟩
      refine ⟨_, r5, ?_, good_hand (by omega) H13 a0 a1 c0 c1 (c := .tup [.str "keep", .int (1 + q3), .int 2, .tup (List.replicate n (.tup [.str "name", .int 4]))]) ?_ ?_ ?_ ?_, (A4.trans b5).mono (by omega)⟩
      · unfold s__law_ro_letter m__law_ro_letter runB
        simp [e1, e2, e3, e4, l1, l2, l3, l4, m1, e5]
      · refine .tup _ (by simp) fun u hu => ?_
        simp only [List.mem_cons, List.not_mem_nil, or_false] at hu
        rcases hu with rfl | rfl | rfl | rfl
        · exact .str _ lay_keep
        · exact .int _
        · exact .int _
        · exact nns_vx hun (by simp; omega)
      · refine (dn_tup (k := 7) fun u hu => ?_)
        simp only [List.mem_cons, List.not_mem_nil, or_false] at hu
        rcases hu with rfl | rfl | rfl | rfl
        · exact dn_str 6 lay_keep
        · exact dn_int 6 _
        · exact dn_int 6 _
        · exact (nns_dn hun).up (by omega)
      · simp [body, eqS, p1, z 2 (by omega) (by omega), nns_nms hun]
      · simp [body, eqS, d2]
    · obtain ⟨q5, r5, e5, g0, g1, b5⟩ := draw_ok (r := r4) (rest := rest) (n := 9) (by omega) (by omega) (o.on A4 1 (by omega))
      have hnn : Nn (.tup [.str "name", .int q5]) := ⟨q5, rfl, g0, by omega⟩
      by_cases k2 : way = 2
      · subst k2
        refine ⟨_, r5, ?_, good_house (by omega) H13 a0 a1 c0 c1 (c := .tup [.str "have", .int (1 + q3), .int 3, .tup [], .tup [.str "name", .int q5]]) ?_ ?_ ?_ ?_, (A4.trans b5).mono (by omega)⟩
        · unfold s__law_ro_letter m__law_ro_letter runB
          simp [e1, e2, e3, e4, l0, l2, l3, l5, e5]
        · refine .tup _ (by simp) fun u hu => ?_
          simp only [List.mem_cons, List.not_mem_nil, or_false] at hu
          rcases hu with rfl | rfl | rfl | rfl | rfl
          · exact .str _ lay_have
          · exact .int _
          · exact .int _
          · exact .tup _ (by simp) (by simp)
          · exact hnn.vx
        · refine (dn_tup (k := 7) fun u hu => ?_)
          simp only [List.mem_cons, List.not_mem_nil, or_false] at hu
          rcases hu with rfl | rfl | rfl | rfl | rfl
          · exact dn_str 6 lay_have
          · exact dn_int 6 _
          · exact dn_int 6 _
          · exact (dn_tup (k := 0) (by simp)).up (by omega)
          · exact hnn.dn.up (by omega)
        · simp [body, eqS, p1, z 3 (by omega) (by omega), hnn.nm, nms]
        · simp [body, eqS, d1']
      · refine ⟨_, r5, ?_, good_house (by omega) H13 a0 a1 c0 c1 (c := .tup [.str "kept", .int (1 + q3), .int 4, .tup [.str "name", .int q5]]) ?_ ?_ ?_ ?_, (A4.trans b5).mono (by omega)⟩
        · unfold s__law_ro_letter m__law_ro_letter runB
          simp [e1, e2, e3, e4, k0, k1, k2, l2, l3, l4, e5]
        · refine .tup _ (by simp) fun u hu => ?_
          simp only [List.mem_cons, List.not_mem_nil, or_false] at hu
          rcases hu with rfl | rfl | rfl | rfl
          · exact .str _ lay_kept
          · exact .int _
          · exact .int _
          · exact hnn.vx
        · refine (dn_tup (k := 7) fun u hu => ?_)
          simp only [List.mem_cons, List.not_mem_nil, or_false] at hu
          rcases hu with rfl | rfl | rfl | rfl
          · exact dn_str 6 lay_kept
          · exact dn_int 6 _
          · exact dn_int 6 _
          · exact hnn.dn.up (by omega)
        · simp [body, eqS, p1, z 4 (by omega) (by omega), hnn.nm]
        · simp [body, eqS, d2']
end
end VS

set_option Elab.async false
set_option linter.all false
set_option maxRecDepth 100000
set_option maxHeartbeats 4000000
namespace VS
open PySem PySem.Spec PyProof.Rows L2
noncomputable def f0 : MS := (mAsg (mMth "Road" "waiting" 2 s_Road_waiting (mVar 6) (mCons (mVar 11) mNil)) (mgName 14))
noncomputable def f1 : MS := (mIfS (mOr (mNot (mTru (mCall sIsi (mCons (mVar 14) (mCons (mC (.ty "list")) mNil))))) (mTest (mOp2 sNe (mVar 14) (mVal (mComp [15, 16] (mEnum (mCons (mVar 7) mNil)) (mgTup 2 (mgCons (mgName 15) (mgCons (mgName 16) mgNil))) (mTest (mOp2 sEq (mOp2 sIx (mVar 16) (mC (.int 1))) (mVar 11))) (mVar 15))))))
 (mRet (mC (.bl false)))
 mSkip)
noncomputable def f2 : MS := (mDrop (mMeth sAppend (mVar 14) (mCons (mC (.int 0)) mNil)))
noncomputable def fbody : MS := mSeq f0 (mSeq f1 f2)
noncomputable def b0 : MS := (mAsg (mDef 3 s__law_ro_letter (mCons (mVar 1) (mCons (mVar 4) (mCons (mVar 2) mNil)))) (mgName 8))
noncomputable def b1 : MS := (mAsg (mIf (mAnd (mTest (mOp2 sNe (mVar 7) (mVal (mLst mNil)))) (mTest (mOp2 sEq (mDef 2 s__law_draw (mCons (mVar 1) (mCons (mC (.int 4)) mNil))) (mC (.int 0))))) (mDef 2 s__law_pick (mCons (mVar 1) (mCons (mVar 7) mNil))) (mVar 8)) (mgName 8))
noncomputable def b2 : MS := (mIfS (mTest (mOp2 sGt (mDef 2 s__law_draw (mCons (mVar 1) (mCons (mC (.int 4)) mNil))) (mC (.int 0))))
 (mSeq (mAsg (mMthP "Road" "send" 2 1 1 [0, 1] s_Road_send (mVar 6) mNil (mCons (mVar 8) mNil)) (mgName 14))
 (mSeq (mIfS (mOr (mNot (mTru (mDef 1 s__law_is_whole (mCons (mVar 14) mNil)))) (mTest (mOp2 sNe (mVar 14) (mCall sLen (mCons (mVar 7) mNil)))))
 (mRet (mC (.bl false)))
 mSkip)
 (mDrop (mMeth sAppend (mVar 7) (mCons (mVar 8) mNil)))))
 mSkip)
noncomputable def b3 : MS := (mAsg (mDef 2 s__law_pick (mCons (mVar 1) (mCons (mVal (mLst (mCons (mC .non) (mCons (mVal (mCallF sList (mCons (mVar 8) mNil))) (mCons (mSlT (mVar 8) mNoPart (mPart (mC (.int 2)))) (mCons (mTup (mCons (mOp2 sIx (mVar 8) (mC (.int 1))) (mCons (mOp2 sIx (mVar 8) (mC (.int 0))) (mCons (mOp2 sIx (mVar 8) (mC (.int 2))) mNil)))) (mCons (mC (.int 5)) mNil))))))) mNil))) (mgName 9))
noncomputable def b4 : MS := (mIfS (mNot (mTru (mCall (sIsX isTab) (mCons (mCaught caughtL (mMth "Road" "send" 2 s_Road_send (mVar 6) (mCons (mVar 9) mNil))) (mCons (mC (.glb "BadLetter")) mNil)))))
 (mRet (mC (.bl false)))
 mSkip)
noncomputable def b5 : MS := (mAsg (mDef 2 s__law_pick (mCons (mVar 1) (mCons (mVal (mLst (mCons (mCall sLen (mCons (mVar 7) mNil)) (mCons (mOp1 sNeg (mC (.int 1))) (mCons (mC .non) (mCons (mC (.bl true)) (mCons (mC (.str "0")) (mCons (mTup (mCons (mC (.int 0)) mNil)) mNil)))))))) mNil))) (mgName 10))
noncomputable def b6 : MS := (mIfS (mNot (mTru (mCall (sIsX isTab) (mCons (mCaught caughtL (mMth "Road" "letter" 2 s_Road_letter (mVar 6) (mCons (mVar 10) mNil))) (mCons (mC (.glb "BadNumber")) mNil)))))
 (mRet (mC (.bl false)))
 mSkip)
noncomputable def b7 : MS := (mIfS (mOr (mNot (mTru (mDef 1 s__law_is_whole (mCons (mMth "Road" "count" 1 s_Road_count (mVar 6) mNil) mNil)))) (mTest (mOp2 sNe (mVal (mComp [15] (mRange1 (mCons (mMth "Road" "count" 1 s_Road_count (mVar 6) mNil) mNil)) (mgName 15) mYes (mMthP "Road" "letter" 2 1 1 [0, 1] s_Road_letter (mVar 6) mNil (mCons (mVar 15) mNil)))) (mVar 7))))
 (mRet (mC (.bl false)))
 mSkip)
noncomputable def b8 : MS := mFor (mItems (mVal (mLst (mCons (mTup (mCons (mC (.str "hand")) (mCons (mDef 2 s__law_draw (mCons (mVar 1) (mCons (mVar 4) mNil))) mNil))) (mCons (mTup (mCons (mC (.str "house")) (mCons (mDef 2 s__law_draw (mCons (mVar 1) (mCons (mVar 2) mNil))) mNil))) mNil))))) (mgName 11) fbody
noncomputable def b9 : MS := (mAsg (mVal (mLst (mCons (mC .non) (mCons (mTup (mCons (mC (.str "hand")) (mCons (mVar 4) mNil))) (mCons (mTup (mCons (mC (.str "house")) (mCons (mVar 2) mNil))) (mCons (mTup (mCons (mC (.str "hand")) (mCons (mOp1 sNeg (mC (.int 1))) mNil))) (mCons (mC (.str "hand")) (mCons (mVal (mLst (mCons (mC (.str "hand")) (mCons (mC (.int 0)) mNil)))) (mCons (mTup (mCons (mC (.str "hand")) mNil)) mNil))))))))) (mgName 12))
noncomputable def b10 : MS := (mAsg (mDef 2 s__law_pick (mCons (mVar 1) (mCons (mVar 12) mNil))) (mgName 13))
noncomputable def b11 : MS := (mIfS (mNot (mTru (mCall (sIsX isTab) (mCons (mCaught caughtL (mMthP "Road" "waiting" 2 1 1 [0, 1] s_Road_waiting (mVar 6) mNil (mCons (mVar 13) mNil))) (mCons (mC (.glb "BadWho")) mNil)))))
 (mRet (mC (.bl false)))
 mSkip)
noncomputable def lturn : MS := (mSeq b0 (mSeq b1 (mSeq b2 (mSeq b3 (mSeq b4 (mSeq b5 (mSeq b6 (mSeq b7 (mSeq b8 (mSeq b9 (mSeq b10 b11)))))))))))
noncomputable def p0 : MS := (mAsg (mDef 1 s__law_begun (mCons (mVar 0) mNil)) (mgName 1))
noncomputable def p1 : MS := (mAsg (mTup (mCons (mOp2 sAdd (mC (.int 1)) (mDef 2 s__law_draw (mCons (mVar 1) (mCons (mC (.int 6)) mNil)))) (mCons (mDef 2 s__law_draw (mCons (mVar 1) (mCons (mC (.int 5)) mNil))) mNil))) (mgTup 2 (mgCons (mgName 4) (mgCons (mgName 5) mgNil))))
noncomputable def p2 : MS := (mAsg (mOp2 sAdd (mOp2 sAdd (mOp2 sMul (mC (.int 3)) (mVar 5)) (mC (.int 1))) (mDef 2 s__law_draw (mCons (mVar 1) (mCons (mOp2 sSub (mC (.int 13)) (mOp2 sMul (mC (.int 3)) (mVar 5))) mNil)))) (mgName 2))
noncomputable def p3 : MS := (mAsg (mTup (mCons (mMake "Road" 2 s_Road___init__ (mCons (mTup (mCons (mVar 4) (mCons (mVar 2) (mCons (mVar 5) mNil)))) mNil)) (mCons (mCell (mLst mNil)) mNil))) (mgTup 2 (mgCons (mgName 6) (mgCons (mgName 7) mgNil))))
noncomputable def p4 : MS := (mIfS (mTest (mOp2 sNe (mFld obTab "store" (mVar 6)) (mTup (mCons (mVar 4) (mCons (mVar 2) (mCons (mVar 5) mNil))))))
 (mRet (mC (.bl false)))
 mSkip)
noncomputable def p6 : MS := (mRet (mCall (sIsX isTab) (mCons (mCaught caughtL (mMake "Road" 2 s_Road___init__ (mCons (mTup (mCons (mVar 4) (mCons (mC (.int 3)) (mCons (mC (.int 1)) mNil)))) mNil))) (mCons (mC (.glb "BadStore")) mNil))))
noncomputable def p5 : MS := mFor (mRange1 (mCons (mOp2 sAdd (mC (.int 4)) (mCall sMin2 (mCons (mCall sLen (mCons (mVar 0) mNil)) (mCons (mC (.int 8)) mNil)))) mNil)) (mgName 3) lturn
theorem law_parts : m_law = mSeq p0 (mSeq p1 (mSeq p2 (mSeq p3 (mSeq p4 (mSeq p5 p6))))) := rfl
section
variable {w rest : World} {r : Rng} {t u : T} {N : List T} {G : World} {h H l : Nat} {ρ : Env} {ns : List Int}
theorem p18 : sPow (.int 10) (.int 18) w = .ok (.int 1000000000000000000) w := by
  have c : CPow 10 18 := ⟨by decide, by decide, by decide⟩
  simp [sPow, s2I, c]
theorem begun_ok (hl : ns.length ≤ 63) : ∃ r, s__law_begun [.frz (ns.map T.int)] [] = .ok (.cell 1) (WD r []) ∧ r.turn = 0 := by
  obtain ⟨out, w', e1, rfl, gs, rfl, hgl⟩ := compL_run (w := []) (P := fun i out w' => w' = ([] : World) ∧ ∃ gs : List Int, out = gs.map T.int ∧ gs.length ≤ i) (all := ns.map T.int) (g := mgName 2) (c := mTest (mOp2 sGe (mCall sAbs (mCons (mVar 2) mNil)) (mOp2 sPow (mC (.int 10)) (mC (.int 18))))) (e := mOp2 sSub (mCall sAbs (mCons (mVar 2) mNil)) (mOp2 sPow (mC (.int 10)) (mC (.int 18)))) (ρ0 := [some (.frz (ns.map T.int)), none, none]) ⟨rfl, [], rfl, by simp⟩ (fun i t out w ht p => by
    obtain ⟨rfl, gs, rfl, hg⟩ := p
    obtain ⟨v, rfl, hi⟩ := ints_at ht
    have hi' : i < ns.length := (List.getElem?_eq_some_iff.mp hi).1
    refine ⟨[some (.frz (ns.map T.int)), none, some (.int v)], [], by simp, ?_⟩
    by_cases hv : 1000000000000000000 ≤ (if v < 0 then -v else v)
    · refine .inl ⟨[], .int ((if v < 0 then -v else v) - 1000000000000000000), [], by simp [p18, hv], by simp [p18], by simp; omega, rfl, gs ++ [(if v < 0 then -v else v) - 1000000000000000000], by simp, by simp; omega⟩
    · exact .inr ⟨[], by simp [p18]; omega, rfl, gs, rfl, by omega⟩)
  obtain ⟨out2, w2, e2, rfl, cs, rfl, _⟩ := compL_run (w := [Cell.lst (gs.map T.int)]) (P := fun i out w' => w' = [Cell.lst (gs.map T.int)] ∧ ∃ cs : List Int, out = cs.map T.int ∧ cs.length = i) (all := ns.map T.int) (g := mgName 2) (c := mYes) (e := mCall sAbs (mCons (mVar 2) mNil)) (ρ0 := [some (.frz (ns.map T.int)), some (.cell 0), none]) ⟨rfl, [], rfl, rfl⟩ (fun i t out w ht p => by
    obtain ⟨rfl, cs, rfl, hc⟩ := p
    obtain ⟨v, rfl, hi⟩ := ints_at ht
    have hi' : i < ns.length := (List.getElem?_eq_some_iff.mp hi).1
    exact ⟨[some (.frz (ns.map T.int)), some (.cell 0), some (.int v)], [Cell.lst (gs.map T.int)], by simp, .inl ⟨[Cell.lst (gs.map T.int)], .int (if v < 0 then -v else v), [Cell.lst (gs.map T.int)], rfl, by simp, by simp; omega, rfl, cs ++ [if v < 0 then -v else v], by simp, by simp; omega⟩⟩)
  refine ⟨⟨gs, cs, 0, 0⟩, ?_, rfl⟩
  unfold s__law_begun m__law_begun runB
  have hnd : ([kG, kC, kL, kT] : List Key).Nodup := by decide +kernel
  simp [wipeE, e1, e2, keyT, hnd]
  rfl
abbrev W (r : Rng) (h H l : Nat) (N : List T) (G : World) : World := WD r (RW (St h H l) N N G)
/-- the slots -/
abbrev Es (x0 : T) (h H l : Nat) (x3 x8 x9 x10 x11 x12 x13 x14 : Option T) : Env := [some x0, some (.cell 1), some (.int H), x3, some (.int h), some (.int l), some (.cell 2), some (.cell 4), x8, x9, x10, x11, x12, x13, x14, none, none]
theorem i_send {S : T} {L M : List T} : isInst "Road" "send" (WD r (RW S L M G)) (.cell 2) = true := by
  have e : (("Road" : Str) == "Road" && !(["store", "_sent"] : List Str).contains "send") = true := by decide +kernel
  simpa [isInst] using e
theorem i_count {S : T} {L M : List T} : isInst "Road" "count" (WD r (RW S L M G)) (.cell 2) = true := by
  have e : (("Road" : Str) == "Road" && !(["store", "_sent"] : List Str).contains "count") = true := by decide +kernel
  simpa [isInst] using e
theorem i_letter {S : T} {L M : List T} : isInst "Road" "letter" (WD r (RW S L M G)) (.cell 2) = true := by
  have e : (("Road" : Str) == "Road" && !(["store", "_sent"] : List Str).contains "letter") = true := by decide +kernel
  simpa [isInst] using e
theorem i_waiting {S : T} {L M : List T} : isInst "Road" "waiting" (WD r (RW S L M G)) (.cell 2) = true := by
  have e : (("Road" : Str) == "Road" && !(["store", "_sent"] : List Str).contains "waiting") = true := by decide +kernel
  simpa [isInst] using e
theorem prm01 (a b : T) : prm [0, 1] [a, b] = [a, b] := rfl
theorem mMth_ {x m : Str} {n : Nat} {f : Sem} {a : ME} {ms : MF} : mMth x m n f a ms ρ w = (a ρ w).bind fun d w1 => if isInst x m w1 d = true then (ms ρ w1).bind fun ds w2 => if ds.length + 1 = n then (f (d :: ds) w2).at ρ else .no else .no := rfl
theorem mMthP_ {x m : Str} {n np nk : Nat} {ix : List Nat} {f : Sem} {a : ME} {ms mk : MF} : mMthP x m n np nk ix f a ms mk ρ w = (a ρ w).bind fun d w1 => if isInst x m w1 d = true then (ms ρ w1).bind fun ds w2 => (mk ρ w2).bind fun es w3 =>
  if ds.length + 1 = np ∧ es.length = nk ∧ (prm ix (d :: ds ++ es)).length = n then (f (prm ix (d :: ds ++ es)) w3).at ρ else .no else .no := rfl
theorem caught_ex {x : Str} {M : ME} {ρ' : Env} {w' : World} (hm : M ρ w = .ex (.exc x [] []) ρ' w') (hx : x ∈ caughtL) : mCaught caughtL M ρ w = .ok (.exc x [] []) w' := by
  unfold mCaught
  rw [hm]
  simp only [if_pos hx]
theorem c_letter : ("BadLetter" : Str) ∈ caughtL := by decide +kernel
theorem c_number : ("BadNumber" : Str) ∈ caughtL := by decide +kernel
theorem c_who : ("BadWho" : Str) ∈ caughtL := by decide +kernel
theorem c_store : ("BadStore" : Str) ∈ caughtL := by decide +kernel
theorem isx_of {x : Str} (e : lookB isTab x x = some true) (n : ¬ (x = "")) : sIsX isTab [.exc x [] [], .glb x] w = .ok (.bl true) w := by
  simp [sIsX, e, n]
theorem x_letter : sIsX isTab [.exc "BadLetter" [] [], .glb "BadLetter"] w = .ok (.bl true) w := isx_of (by decide +kernel) (by decide +kernel)
theorem x_number : sIsX isTab [.exc "BadNumber" [] [], .glb "BadNumber"] w = .ok (.bl true) w := isx_of (by decide +kernel) (by decide +kernel)
theorem x_who : sIsX isTab [.exc "BadWho" [] [], .glb "BadWho"] w = .ok (.bl true) w := isx_of (by decide +kernel) (by decide +kernel)
theorem x_store : sIsX isTab [.exc "BadStore" [] [], .glb "BadStore"] w = .ok (.bl true) w := isx_of (by decide +kernel) (by decide +kernel)
theorem whole_int {i : Int} : s__law_is_whole [.int i] w = .ok (.bl true) w := by
  unfold s__law_is_whole m__law_is_whole runB
  simp [isi_intV (Vx.int i), isi_bool (Vx.int i), isInt, isBl]
theorem Good.vx (g : Good h H t) : Vx t := by
  obtain ⟨a, b, c, rfl, _, _, va, vb, vc, _⟩ := g.ex
  exact .tup _ (by simp) fun u hu => by
    simp at hu
    rcases hu with rfl | rfl | rfl <;> assumption
theorem Good.ok (g : Good h H t) : letter h H t = true := by obtain ⟨a, b, c, rfl, _, _, _, _, _, k, _⟩ := g.ex; exact k
theorem Good.dt (g : Good h H t) : Dt t := by obtain ⟨a, b, c, rfl, _, _, _, _, _, _, _, k⟩ := g.ex; exact k
theorem Good.lt3 (g : Good h H t) : Lt3 t := by obtain ⟨a, b, c, rfl, _, eb, _⟩ := g.ex; exact ⟨a, b, c, rfl, eb⟩
/-- due is empty? -/
theorem ne_due (hN : ∀ t ∈ N, Good h H t) : sNe (.cell 4) (.lst []) (W r h H l N G) = .ok (.bl (!N.isEmpty)) (W r h H l N G) := by
  obtain ⟨ds, g1, g2, g3, g4⟩ := dn_list (k := 20) fun t ht => (hN t ht).dt
  have p1 : pd (W r h H l N G) (.cell 4) = some (.list ds) := by simp [pd, g1]
  have p2 : pd (W r h H l N G) (.lst []) = some (.list []) := by simp [pd, pds]
  have s : SeqAt.shaped (.list ds) = true := by
    unfold SeqAt.shaped
    have c : PyData.canLay0 (.list ds) = true := g3
    rw [c]
    simp [PyData.depth]
    omega
  have e : eqT (W r h H l N G) (.cell 4) (.lst []) = some N.isEmpty := by
    rw [eqT_of p1 p2 s rfl]
    show some (PyData.eqvAll ds []) = _
    cases N with
    | nil => cases g1; rfl
    | cons x xs =>
      obtain ⟨d, rr, rfl, _, _⟩ := pds0_cons g1
      simp [PyData.eqvAll]
  simp [sNe, e]
end
end VS

set_option Elab.async false
set_option linter.all false
set_option maxRecDepth 100000
set_option maxHeartbeats 4000000
namespace VS
open PySem PySem.Spec PyProof.Rows L2
section
variable {w rest : World} {r : Rng} {t u x0 : T} {N : List T} {G : World} {h H l : Nat} {x3 x8 x9 x10 x11 x12 x13 x14 : Option T}
theorem s1 : (1 : Nat) ≤ sizeLine := by rw [sizeLine_eq]; decide
theorem s2 : (2 : Nat) ≤ sizeLine := by rw [sizeLine_eq]; decide
theorem s3 : (3 : Nat) ≤ sizeLine := by rw [sizeLine_eq]; decide
theorem s5 : (5 : Nat) ≤ sizeLine := by rw [sizeLine_eq]; decide
theorem s6 : (6 : Nat) ≤ sizeLine := by rw [sizeLine_eq]; decide
theorem s7 : (7 : Nat) ≤ sizeLine := by rw [sizeLine_eq]; decide
theorem S_pos (S : Store h H l) : 1 ≤ H := by have := S.h3; omega
theorem b0_ok (S : Store h H l) (o : Ok 8 r) : ∃ t r', b0 (Es x0 h H l x3 x8 x9 x10 x11 x12 x13 x14) (W r h H l N G) = .ok (Es x0 h H l x3 (some t) x9 x10 x11 x12 x13 x14, .nx) (W r' h H l N G) ∧ Good h H t ∧ Adv 8 r r' := by
  obtain ⟨t, r', e, g, a⟩ := drawn_ok (r := r) (rest := RW (St h H l) N N G) S.h1 S.h2 (S_pos S) S.h4 o
  exact ⟨t, r', by unfold b0; simp [e], g, a⟩
theorem b1_ok (hN : ∀ t ∈ N, Good h H t) (hl : N.length < 1000) (g : Good h H t) (o : Ok 2 r) : ∃ t' r', b1 (Es x0 h H l x3 (some t) x9 x10 x11 x12 x13 x14) (W r h H l N G) = .ok (Es x0 h H l x3 (some t') x9 x10 x11 x12 x13 x14, .nx) (W r' h H l N G) ∧ Good h H t' ∧ Adv 2 r r' := by
  have e0 := ne_due (r := r) (G := G) (l := l) hN
  cases hE : N.isEmpty with
  | true =>
    rw [hE] at e0
    exact ⟨t, r, by unfold b1; simp [e0], g, ⟨by omega, by omega⟩⟩
  | false =>
    rw [hE] at e0
    obtain ⟨q, r1, e1, q0, q1, a1⟩ := draw_ok (r := r) (rest := RW (St h H l) N N G) (n := 4) (by decide) (by decide) (o.on Adv.refl 1 (by omega))
    by_cases hq : q = 0
    · subst hq
      have hp : 0 < N.length := by cases N with
        | nil => cases hE
        | cons _ _ => simp
      obtain ⟨t', r2, e2, hm, a2⟩ := pick_due (r := r1) (S := St h H l) (L := N) (M := N) (G := G) hp (by omega) (o.on a1 1 (by omega))
      exact ⟨t', r2, by unfold b1; simp [e0, e1, e2], hN t' hm, (a1.trans a2).mono (by omega)⟩
    · exact ⟨t, r1, by unfold b1; simp [e0, e1, hq], g, a1.mono (by omega)⟩
theorem b2_ok (S : Store h H l) (hN : ∀ t ∈ N, Good h H t) (hl : N.length < 1000) (g : Good h H t) (o : Ok 1 r) : ∃ N' y14 r', b2 (Es x0 h H l x3 (some t) x9 x10 x11 x12 x13 x14) (W r h H l N G) = .ok (Es x0 h H l x3 (some t) x9 x10 x11 x12 x13 y14, .nx) (W r' h H l N' G) ∧ (∀ t ∈ N', Good h H t) ∧ N'.length ≤ N.length + 1 ∧ Adv 1 r r' := by
  obtain ⟨q, r1, e1, q0, q1, a1⟩ := draw_ok (r := r) (rest := RW (St h H l) N N G) (n := 4) (by decide) (by decide) o
  by_cases hq : 0 < q
  · have e2 := send_ok (r := r1) (G := G) (M := N) S g.vx g.ok (L := N) (by omega)
    have e3 := sLen_cell (w := WD r1 (RW (St h H l) (N ++ [t]) N G)) (k := 4) (ts := N) rw4
    have e4 := append_cell (w := WD r1 (RW (St h H l) (N ++ [t]) N G)) (k := 4) (ts := N) (t := t) rw4 (by omega)
    have e5 := lst_cell (w := WD r1 (RW (St h H l) (N ++ [t]) N G)) (k := 4) (ts := N) rw4
    refine ⟨N ++ [t], _, r1, by unfold b2; simp [e1, hq, mMthP_, i_send, prm01, e2, whole_int, e3, e5, e4, set4]; rfl, ?_, by simp, a1⟩
    intro u hu
    rcases List.mem_append.mp hu with hu | hu
    · exact hN u hu
    · rw [List.mem_singleton.mp hu]; exact g
  · exact ⟨N, x14, r1, by unfold b2; simp [e1, hq], hN, by omega, a1⟩
theorem b3_ok (g : Good h H t) (o : Ok 1 r) : ∃ y r', b3 (Es x0 h H l x3 (some t) x9 x10 x11 x12 x13 x14) (W r h H l N G) = .ok (Es x0 h H l x3 (some t) (some y) x10 x11 x12 x13 x14, .nx) (W r' h H l N G) ∧ Vx y ∧ letter h H y = false ∧ Adv 1 r r' := by
  obtain ⟨a, b, c, rfl, ea, eb, va, vb, vc, k1, k2, _⟩ := g.ex
  obtain ⟨y, r', e, hm, a1⟩ := pick_lst (r := r) (rest := RW (St h H l) N N G) (ts := [.non, .lst [a, b, c], .tup [a, b], .tup [b, a, c], .int 5]) (by simp) (by simp) o
  have hc : cutT [a, b, c] none (some 2) = [a, b] := cutN_lo (us := [a, b, c]) (n := 2) (by simp)
  refine ⟨y, r', by unfold b3; simp [s3, s5, sIx_2, hc, e], ?_, ?_, a1⟩
  · simp only [List.mem_cons, List.not_mem_nil, or_false] at hm
    rcases hm with rfl | rfl | rfl | rfl | rfl
    · exact .non
    · exact .lst _ fun u hu => by simp at hu; rcases hu with rfl | rfl | rfl <;> assumption
    · exact .tup _ (by simp) fun u hu => by simp at hu; rcases hu with rfl | rfl <;> assumption
    · exact .tup _ (by simp) fun u hu => by simp at hu; rcases hu with rfl | rfl | rfl <;> assumption
    · exact .int _
  · simp only [List.mem_cons, List.not_mem_nil, or_false] at hm
    rcases hm with rfl | rfl | rfl | rfl | rfl
    · rfl
    · rfl
    · rfl
    · exact k2
    · rfl
theorem b4_ok (S : Store h H l) {y : T} (v : Vx y) (k : letter h H y = false) : b4 (Es x0 h H l x3 x8 (some y) x10 x11 x12 x13 x14) (W r h H l N G) = .ok (Es x0 h H l x3 x8 (some y) x10 x11 x12 x13 x14, .nx) (W r h H l N G) := by
  have e := send_bad (r := r) (L := N) (M := N) (G := G) S v k
  have c : mCaught caughtL (mMth "Road" "send" 2 s_Road_send (mVar 6) (mCons (mVar 9) mNil)) (Es x0 h H l x3 x8 (some y) x10 x11 x12 x13 x14) (W r h H l N G) = .ok (.exc "BadLetter" [] []) (W r h H l N G) :=
    caught_ex (ρ' := Es x0 h H l x3 x8 (some y) x10 x11 x12 x13 x14) (by simp [mMth_, i_send, e]) c_letter
  unfold b4
  simp [c, x_letter]
theorem lay_0 : PyData.canLay0 (.str "0") = true := by decide +kernel
theorem b5_ok (o : Ok 1 r) : ∃ y r', b5 (Es x0 h H l x3 x8 x9 x10 x11 x12 x13 x14) (W r h H l N G) = .ok (Es x0 h H l x3 x8 x9 (some y) x11 x12 x13 x14, .nx) (W r' h H l N G) ∧ Vx y ∧ plc (N.length : Int) y = false ∧ Adv 1 r r' := by
  obtain ⟨y, r', e, hm, a1⟩ := pick_lst (r := r) (rest := RW (St h H l) N N G) (ts := [.int N.length, .int (-1), .non, .bl true, .str "0", .tup [.int 0]]) (by simp) (by simp) o
  have e3 := sLen_cell (w := W r h H l N G) (k := 4) (ts := N) rw4
  refine ⟨y, r', by unfold b5; simp [s1, s6, e3, e], ?_, ?_, a1⟩
  · simp only [List.mem_cons, List.not_mem_nil, or_false] at hm
    rcases hm with rfl | rfl | rfl | rfl | rfl | rfl
    · exact .int _
    · exact .int _
    · exact .non
    · exact .bl _
    · exact .str _ lay_0
    · exact .tup _ (by simp) fun u hu => by simp at hu; subst hu; exact .int _
  · simp only [List.mem_cons, List.not_mem_nil, or_false] at hm
    rcases hm with rfl | rfl | rfl | rfl | rfl | rfl
    · simp [plc]
    · simp [plc]
    · rfl
    · rfl
    · rfl
    · rfl
theorem b6_ok {y : T} (v : Vx y) (k : plc (N.length : Int) y = false) : b6 (Es x0 h H l x3 x8 x9 (some y) x11 x12 x13 x14) (W r h H l N G) = .ok (Es x0 h H l x3 x8 x9 (some y) x11 x12 x13 x14, .nx) (W r h H l N G) := by
  have e := num_bad (r := r) (S := St h H l) (L := N) (M := N) (G := G) v k
  have c : mCaught caughtL (mMth "Road" "letter" 2 s_Road_letter (mVar 6) (mCons (mVar 10) mNil)) (Es x0 h H l x3 x8 x9 (some y) x11 x12 x13 x14) (W r h H l N G) = .ok (.exc "BadNumber" [] []) (W r h H l N G) :=
    caught_ex (ρ' := Es x0 h H l x3 x8 x9 (some y) x11 x12 x13 x14) (by simp [mMth_, i_letter, e]) c_number
  unfold b6
  simp [c, x_number]
theorem b7_gen {w1 : World} {K : Int} {all : List T} (i1 : isInst "Road" "count" w1 (.cell 2) = true) (e1 : s_Road_count [.cell 2] w1 = .ok (.int K) w1) (g : sRange1 [.int K] w1 = .ok (all, none) w1)
    (e2 : compL (mgName 15) mYes (mMthP "Road" "letter" 2 1 1 [0, 1] s_Road_letter (mVar 6) mNil (mCons (mVar 15) mNil)) none all (Es x0 h H l x3 x8 x9 x10 x11 x12 x13 x14) all [] w1 = .ok N w1) (e4 : eqT w1 (.lst N) (.cell 4) = some true) :
    b7 (Es x0 h H l x3 x8 x9 x10 x11 x12 x13 x14) w1 = .ok (Es x0 h H l x3 x8 x9 x10 x11 x12 x13 x14, .nx) w1 := by
  unfold b7
  simp [mMth_, i1, e1, whole_int, g, wipeE, e2, sNe, e4]
theorem b7_ok (hN : ∀ t ∈ N, Good h H t) (hl : N.length < 1000) : b7 (Es x0 h H l x3 x8 x9 x10 x11 x12 x13 x14) (W r h H l N G) = .ok (Es x0 h H l x3 x8 x9 x10 x11 x12 x13 x14, .nx) (W r h H l N G) := by
  have e1 := count_ok (r := r) (S := St h H l) (L := N) (M := N) (G := G)
  have g := sRange1_ (w := W r h H l N G) (n := (N.length : Int)) (by omega) (by omega)
  rw [Int.toNat_natCast] at g
  have e2 : ∀ ρ0 : Env, ρ0 = Es x0 h H l x3 x8 x9 x10 x11 x12 x13 x14 → compL (mgName 15) mYes (mMthP "Road" "letter" 2 1 1 [0, 1] s_Road_letter (mVar 6) mNil (mCons (mVar 15) mNil)) none (rgT 0 N.length) ρ0 (rgT 0 N.length) [] (W r h H l N G) = .ok N (W r h H l N G) := fun ρ0 e => by
    subst e
    obtain ⟨out, w', e, rfl, ho⟩ := compL_run (w := W r h H l N G) (g := mgName 15) (c := mYes) (e := mMthP "Road" "letter" 2 1 1 [0, 1] s_Road_letter (mVar 6) mNil (mCons (mVar 15) mNil)) (ρ0 := Es x0 h H l x3 x8 x9 x10 x11 x12 x13 x14) (all := rgT 0 N.length)
      (P := fun i out w => w = W r h H l N G ∧ out = N.take i) ⟨rfl, by simp⟩ (fun i t out w ht p => by
        obtain ⟨rfl, rfl⟩ := p
        obtain ⟨rfl, hi⟩ := rgT_at ht
        have hx : N[i]? = some N[i] := List.getElem?_eq_getElem hi
        have e3 := num_letter (r := r) (S := St h H l) (L := N) (M := N) (G := G) hx (by omega)
        refine ⟨(Es x0 h H l x3 x8 x9 x10 x11 x12 x13 x14).set 15 (some (.int (0 + (i : Int)))), W r h H l N G, by simp, .inl ⟨W r h H l N G, N[i], W r h H l N G, rfl, by simp [mMthP_, i_letter, prm01, e3], by simp; omega, rfl, ?_⟩⟩
        rw [List.take_add_one, hx]
        rfl)
    rw [rgT_length, List.take_length] at ho
    rw [e, ho]
  have e4 := eq_dts (w := W r h H l N G) (fun t ht => (hN t ht).dt) (k := 4) rw4
  exact b7_gen (i_count (S := St h H l)) e1 g (e2 _ rfl) e4
/-! ### who waits -/
theorem ne_ints {k : Nat} {ms : List Int} (hk : w[k]? = some (.lst (ms.map .int))) : sNe (.cell k) (.lst (ms.map .int)) w = .ok (.bl false) w := by
  have hp : pd w (.lst (ms.map T.int)) = some (.list (ms.map .int)) := by
    have : ∀ ns : List Int, pds w (ns.map .int) = some (ns.map .int) := fun ns => by
      induction ns with
      | nil => rfl
      | cons n ns ih => simp [pds, pd, ih]
    simp only [pd, this]
    rfl
  have e : eqT w (.cell k) (.lst (ms.map .int)) = some true := by
    rw [eqT_of (pd_cell hk) hp (shaped_ints _) (shaped_ints _)]
    show some (PyData.eqvAll _ _) = _
    rw [eqv_ints]
    simp
  simp [sNe, e]
theorem setG {c c' : Cell} : (W r h H l N (G ++ [c])).set (G.length + 5) c' = W r h H l N (G ++ [c']) := by
  simp [W, WD, RW, List.set_append]
theorem atG {c : Cell} : (W r h H l N (G ++ [c]))[G.length + 5]? = some c := by
  simp [W, WD, RW]
theorem fbody_ok {who : T} (hN : ∀ t ∈ N, Good h H t) (hl : N.length < 1000) (hw : En who) (vw : Vx who) (he : endOf "hand" h who = true ∨ endOf "house" H who = true) : ∃ y14 c, fbody (Es x0 h H l x3 x8 x9 x10 (some who) x12 x13 x14) (W r h H l N G) = .ok (Es x0 h H l x3 x8 x9 x10 (some who) x12 x13 y14, .nx) (W r h H l N (G ++ [c])) := by
  have e1 : s_Road_waiting [.cell 2, who] (W r h H l N G) = .ok (.cell (G.length + 5)) (W r h H l N (G ++ [.lst ((waits N who).map T.int)])) := waiting_ok (r := r) (L := N) (M := N) (G := G) (h := h) (H := H) (l := l) hw vw (fun t ht => (hN t ht).lt3) (by omega) he
  generalize hms : waits N who = ms at e1
  generalize hW : W r h H l N (G ++ [.lst (ms.map T.int)]) = w1
  have at_ : w1[G.length + 5]? = some (.lst (ms.map T.int)) := by rw [← hW]; exact atG
  have at4 : w1[4]? = some (.lst N) := by rw [← hW]; rfl
  have e2 : sIsi [.cell (G.length + 5), .ty "list"] w1 = .ok (.bl true) w1 := by simp [sIsi, kindT, kinds, isiB, at_]
  have en : sEnum [.cell 4] w1 = .ok (enT 0 N, some (4, N)) w1 := by simp [sEnum, items, at4]
  have e3 : ∀ y : Option T, compL (mgTup 2 (mgCons (mgName 15) (mgCons (mgName 16) mgNil))) (mTest (mOp2 sEq (mOp2 sIx (mVar 16) (mC (.int 1))) (mVar 11))) (mVar 15) (some (4, N)) (enT 0 N) (Es x0 h H l x3 x8 x9 x10 (some who) x12 x13 y) (enT 0 N) [] w1 = .ok (ms.map T.int) w1 := fun y => by
    rw [← hms]
    refine waits_comp hw (fun t ht => (hN t ht).lt3) (by omega) at4 fun n x hx => ?_
    obtain ⟨a, b, c, rfl, hb⟩ := hx
    refine ⟨((Es x0 h H l x3 x8 x9 x10 (some who) x12 x13 y).set 15 (some (.int n))).set 16 (some (.tup [a, b, c])), by simp, ?_, by simp⟩
    have := eq_en (w := w1) hb hw
    simp [sEq, this, toWhom]
  have e4 := ne_ints at_
  have e5 := append_cell (t := .int 0) at_ (by
    have : ms.length ≤ N.length := by rw [← hms]; unfold waits; rw [List.length_map]; exact Nat.le_trans (List.length_filter_le _ _) (Nat.le_of_eq (enT_len _ _))
    rw [List.length_map]
    omega)
  have e6 := lst_cell at_
  have e7 : w1.set (G.length + 5) (.lst (ms.map T.int ++ [.int 0])) = W r h H l N (G ++ [.lst (ms.map T.int ++ [.int 0])]) := by rw [← hW]; exact setG
  rw [hW] at e1
  refine ⟨some (.cell (G.length + 5)), .lst (ms.map T.int ++ [.int 0]), ?_⟩
  have k0 : f0 (Es x0 h H l x3 x8 x9 x10 (some who) x12 x13 x14) (W r h H l N G) = .ok (Es x0 h H l x3 x8 x9 x10 (some who) x12 x13 (some (.cell (G.length + 5))), .nx) w1 := by
    unfold f0; simp [mMth_, i_waiting, e1]
  have k1 : f1 (Es x0 h H l x3 x8 x9 x10 (some who) x12 x13 (some (.cell (G.length + 5)))) w1 = .ok (Es x0 h H l x3 x8 x9 x10 (some who) x12 x13 (some (.cell (G.length + 5))), .nx) w1 := by
    unfold f1; simp [e2, mEnum, en, wipeE, e3, e4]
  have k2 : f2 (Es x0 h H l x3 x8 x9 x10 (some who) x12 x13 (some (.cell (G.length + 5)))) w1 = .ok (Es x0 h H l x3 x8 x9 x10 (some who) x12 x13 (some (.cell (G.length + 5))), .nx) (W r h H l N (G ++ [.lst (ms.map T.int ++ [.int 0])])) := by
    unfold f2; simp [e6, e5, e7]
  unfold fbody
  simp only [mSeq_, k0, k1, k2, then_nx]
end
end VS

set_option Elab.async false
set_option linter.all false
set_option maxRecDepth 100000
set_option maxHeartbeats 4000000
namespace VS
open PySem PySem.Spec PyProof.Rows L2
section
variable {w rest : World} {r : Rng} {t u x0 : T} {N : List T} {G : World} {h H l : Nat} {x3 x8 x9 x10 x11 x12 x13 x14 : Option T}
theorem who_loop {who1 who2 : T} (hN : ∀ t ∈ N, Good h H t) (hl : N.length < 1000) (h1 : En who1) (v1 : Vx who1) (a1 : endOf "hand" h who1 = true ∨ endOf "house" H who1 = true) (h2 : En who2) (v2 : Vx who2) (a2 : endOf "hand" h who2 = true ∨ endOf "house" H who2 = true) :
    ∃ y11 y14 G', forL (mgName 11) fbody none [who1, who2] [who1, who2] (Es x0 h H l x3 x8 x9 x10 x11 x12 x13 x14) (W r h H l N G) = .ok (Es x0 h H l x3 x8 x9 x10 y11 x12 x13 y14, .nx) (W r h H l N G') := by
  obtain ⟨ρ', w', e, y11, y14, G', rfl, rfl⟩ := forL_run (g := mgName 11) (b := fbody) (all := [who1, who2]) (w := W r h H l N G) (ρ := Es x0 h H l x3 x8 x9 x10 x11 x12 x13 x14)
    (P := fun i ρ w => ∃ y11 y14 G', ρ = Es x0 h H l x3 x8 x9 x10 y11 x12 x13 y14 ∧ w = W r h H l N G') ⟨_, _, _, rfl, rfl⟩ (fun i t ρ w ht p => by
      obtain ⟨y11, y14, G', rfl, rfl⟩ := p
      have hm := List.mem_of_getElem? ht
      simp only [List.mem_cons, List.not_mem_nil, or_false] at hm
      have hw : En t ∧ Vx t ∧ (endOf "hand" h t = true ∨ endOf "house" H t = true) := by
        rcases hm with rfl | rfl
        · exact ⟨h1, v1, a1⟩
        · exact ⟨h2, v2, a2⟩
      obtain ⟨z14, c, e⟩ := fbody_ok (r := r) (x0 := x0) (G := G') (l := l) (x3 := x3) (x8 := x8) (x9 := x9) (x10 := x10) (x12 := x12) (x13 := x13) (x14 := y14) hN hl hw.1 hw.2.1 hw.2.2
      exact ⟨_, _, by simp only [mgName_, bind_ok']; exact e, some t, z14, G' ++ [c], rfl, rfl⟩)
  exact ⟨y11, y14, G', e⟩
theorem b8_ok (S : Store h H l) (hN : ∀ t ∈ N, Good h H t) (hl : N.length < 1000) (o : Ok 2 r) : ∃ y11 y14 G' r', b8 (Es x0 h H l x3 x8 x9 x10 x11 x12 x13 x14) (W r h H l N G) = .ok (Es x0 h H l x3 x8 x9 x10 y11 x12 x13 y14, .nx) (W r' h H l N G') ∧ Adv 2 r r' := by
  have H1 := S_pos S
  have h1 := S.h1
  have h6 := S.h2
  have H13 := S.h4
  obtain ⟨q1, r1, e1, a0, a1, c1⟩ := draw_ok (r := r) (rest := RW (St h H l) N N G) (n := h) (by omega) (by omega) (o.on Adv.refl 1 (by omega))
  obtain ⟨q2, r2, e2, b0, b1, c2⟩ := draw_ok (r := r1) (rest := RW (St h H l) N N G) (n := H) (by omega) (by omega) (o.on c1 1 (by omega))
  obtain ⟨y11, y14, G', e⟩ := who_loop (r := r2) (x0 := x0) (G := G) (l := l) (x3 := x3) (x8 := x8) (x9 := x9) (x10 := x10) (x11 := x11) (x12 := x12) (x13 := x13) (x14 := x14) hN hl (en_ha (q1 := q1)) (vx2 lay_hand) (.inl (end_ha a0 a1 (by omega))) (en_ho (q1 := q2)) (vx2 lay_house) (.inr (end_ho b0 b1 H13))
  refine ⟨y11, y14, G', r2, ?_, (c1.trans c2).mono (by omega)⟩
  unfold b8
  simp [e1, e2, s2, e]
theorem b911_ok (S : Store h H l) (o : Ok 1 r) : ∃ y12 y13 r', (mSeq b9 (mSeq b10 b11)) (Es x0 h H l x3 x8 x9 x10 x11 x12 x13 x14) (W r h H l N G) = .ok (Es x0 h H l x3 x8 x9 x10 x11 y12 y13 x14, .nx) (W r' h H l N G) ∧ Adv 1 r r' := by
  have h6 := S.h2
  have H13 := S.h4
  generalize hs : ([.non, Ha h, Ho H, Ha (-1), .str "hand", .lst [.str "hand", .int 0], .tup [.str "hand"]] : List T) = some_
  have hp : 0 < some_.length := by rw [← hs]; simp
  have hp2 : some_.length < 1073741824 := by rw [← hs]; simp
  obtain ⟨y, r', e, hm, a1⟩ := pick_lst (r := r) (rest := RW (St h H l) N N G) hp hp2 o
  have v : Vx y ∧ endOf "hand" h y = false ∧ endOf "house" H y = false := by
    rw [← hs] at hm
    simp only [List.mem_cons, List.not_mem_nil, or_false] at hm
    rcases hm with rfl | rfl | rfl | rfl | rfl | rfl | rfl
    · exact ⟨.non, rfl, rfl⟩
    · exact ⟨vx2 lay_hand, by simp [endOf, plc], end_ha_no⟩
    · exact ⟨vx2 lay_house, end_ho_no, by simp [endOf, plc]⟩
    · exact ⟨vx2 lay_hand, by simp [endOf, plc], end_ha_no⟩
    · exact ⟨.str _ lay_hand, rfl, rfl⟩
    · exact ⟨.lst _ fun u hu => by simp at hu; rcases hu with rfl | rfl; exact .str _ lay_hand; exact .int _, rfl, rfl⟩
    · exact ⟨.tup _ (by simp) fun u hu => by simp at hu; subst hu; exact .str _ lay_hand, rfl, rfl⟩
  have k9 : b9 (Es x0 h H l x3 x8 x9 x10 x11 x12 x13 x14) (W r h H l N G) = .ok (Es x0 h H l x3 x8 x9 x10 x11 (some (.lst some_)) x13 x14, .nx) (W r h H l N G) := by
    unfold b9
    rw [← hs]
    simp [s1, s2, s7]
  have k10 : b10 (Es x0 h H l x3 x8 x9 x10 x11 (some (.lst some_)) x13 x14) (W r h H l N G) = .ok (Es x0 h H l x3 x8 x9 x10 x11 (some (.lst some_)) (some y) x14, .nx) (W r' h H l N G) := by
    unfold b10
    simp [e]
  have e3 := waiting_bad (r := r') (L := N) (M := N) (G := G) (l := l) v.1 v.2.1 v.2.2
  have c : mCaught caughtL (mMthP "Road" "waiting" 2 1 1 [0, 1] s_Road_waiting (mVar 6) mNil (mCons (mVar 13) mNil)) (Es x0 h H l x3 x8 x9 x10 x11 (some (.lst some_)) (some y) x14) (W r' h H l N G) = .ok (.exc "BadWho" [] []) (W r' h H l N G) :=
    caught_ex (ρ' := Es x0 h H l x3 x8 x9 x10 x11 (some (.lst some_)) (some y) x14) (by simp [mMthP_, i_waiting, prm01, e3]) c_who
  have k11 : b11 (Es x0 h H l x3 x8 x9 x10 x11 (some (.lst some_)) (some y) x14) (W r' h H l N G) = .ok (Es x0 h H l x3 x8 x9 x10 x11 (some (.lst some_)) (some y) x14, .nx) (W r' h H l N G) := by
    unfold b11
    simp [c, x_who]
  refine ⟨some (.lst some_), some y, r', ?_, a1⟩
  simp only [mSeq_, k9, k10, k11, then_nx]
theorem seq_ok {m1 m2 : MS} {ρ ρ1 : Env} {w1 : World} (e : m1 ρ w = .ok (ρ1, .nx) w1) : mSeq m1 m2 ρ w = m2 ρ1 w1 := by rw [mSeq_, e, then_nx]
theorem turn_ok (S : Store h H l) (hN : ∀ t ∈ N, Good h H t) (hl : N.length < 900) (o : Ok 20 r) : ∃ y8 y9 y10 y11 y12 y13 y14 N' G' r', lturn (Es x0 h H l x3 x8 x9 x10 x11 x12 x13 x14) (W r h H l N G) = .ok (Es x0 h H l x3 y8 y9 y10 y11 y12 y13 y14, .nx) (W r' h H l N' G') ∧ (∀ t ∈ N', Good h H t) ∧ N'.length ≤ N.length + 1 ∧ Adv 20 r r' := by
  obtain ⟨t, r0, e0, g0, a0⟩ := b0_ok (r := r) (x0 := x0) (N := N) (G := G) (x3 := x3) (x8 := x8) (x9 := x9) (x10 := x10) (x11 := x11) (x12 := x12) (x13 := x13) (x14 := x14) S (o.on Adv.refl 8 (by omega))
  obtain ⟨t', r1, e1, g1, b1⟩ := b1_ok (r := r0) (x0 := x0) (G := G) (l := l) (x3 := x3) (x9 := x9) (x10 := x10) (x11 := x11) (x12 := x12) (x13 := x13) (x14 := x14) hN (by omega) g0 (o.on a0 2 (by omega))
  have a1 := a0.trans b1
  obtain ⟨N', y14, r2, e2, hN', hl', b2⟩ := b2_ok (r := r1) (x0 := x0) (G := G) (x3 := x3) (x9 := x9) (x10 := x10) (x11 := x11) (x12 := x12) (x13 := x13) (x14 := x14) S hN (by omega) g1 (o.on a1 1 (by omega))
  have a2 := a1.trans b2
  obtain ⟨y, r3, e3, v3, k3, b3⟩ := b3_ok (r := r2) (x0 := x0) (N := N') (G := G) (l := l) (x3 := x3) (x9 := x9) (x10 := x10) (x11 := x11) (x12 := x12) (x13 := x13) (x14 := y14) g1 (o.on a2 1 (by omega))
  have a3 := a2.trans b3
  have e4 := b4_ok (r := r3) (x0 := x0) (N := N') (G := G) (x3 := x3) (x8 := some t') (x10 := x10) (x11 := x11) (x12 := x12) (x13 := x13) (x14 := y14) S v3 k3
  obtain ⟨z, r5, e5, v5, k5, b5⟩ := b5_ok (r := r3) (x0 := x0) (N := N') (G := G) (h := h) (H := H) (l := l) (x3 := x3) (x8 := some t') (x9 := some y) (x10 := x10) (x11 := x11) (x12 := x12) (x13 := x13) (x14 := y14) (o.on a3 1 (by omega))
  have a5 := a3.trans b5
  have e6 := b6_ok (r := r5) (x0 := x0) (N := N') (G := G) (h := h) (H := H) (l := l) (x3 := x3) (x8 := some t') (x9 := some y) (x11 := x11) (x12 := x12) (x13 := x13) (x14 := y14) v5 k5
  have e7 := b7_ok (r := r5) (x0 := x0) (G := G) (l := l) (x3 := x3) (x8 := some t') (x9 := some y) (x10 := some z) (x11 := x11) (x12 := x12) (x13 := x13) (x14 := y14) hN' (by omega)
  obtain ⟨y11, z14, G', r8, e8, b8⟩ := b8_ok (r := r5) (x0 := x0) (G := G) (x3 := x3) (x8 := some t') (x9 := some y) (x10 := some z) (x11 := x11) (x12 := x12) (x13 := x13) (x14 := y14) S hN' (by omega) (o.on a5 2 (by omega))
  have a8 := a5.trans b8
  obtain ⟨y12, y13, r9, e9, b9⟩ := b911_ok (r := r8) (x0 := x0) (N := N') (G := G') (x3 := x3) (x8 := some t') (x9 := some y) (x10 := some z) (x11 := y11) (x12 := x12) (x13 := x13) (x14 := z14) S (o.on a8 1 (by omega))
  have a9 := a8.trans b9
  refine ⟨some t', some y, some z, y11, y12, y13, z14, N', G', r9, ?_, hN', hl', a9.mono (by omega)⟩
  have step : lturn (Es x0 h H l x3 x8 x9 x10 x11 x12 x13 x14) (W r h H l N G) = (mSeq VS.b9 (mSeq VS.b10 VS.b11)) (Es x0 h H l x3 (some t') (some y) (some z) y11 x12 x13 z14) (W r8 h H l N' G') := by
    exact (seq_ok e0).trans ((seq_ok e1).trans ((seq_ok e2).trans ((seq_ok e3).trans ((seq_ok e4).trans ((seq_ok e5).trans ((seq_ok e6).trans ((seq_ok e7).trans (seq_ok e8))))))))
  exact step.trans e9
/-! ### the road is made -/
theorem obj0 : (WD r [.obj "Road" [] []])[2]? = some (.obj "Road" [] []) := rfl
theorem setF_ok {tab : List (Str × List Str)} {f x : Str} {a b : ME} {ρ : Env} {k : Nat} {ks : List Str} {ts : List T} {y : T} {w1 w2 : World} (hb : b ρ w = .ok y w1) (ha : a ρ w1 = .ok (.cell k) w2) (hk : w2[k]? = some (.obj x ks ts)) (hi : inTab tab x f = true) (hl : ks.length < 1000) :
    mSetF tab f a b ρ w = .ok (ρ, .nx) (w2.set k (.obj x (putO ks ts f y).1 (putO ks ts f y).2)) := by
  unfold mSetF
  rw [hb, bind_ok', ha, bind_ok']
  simp only [hk]
  rw [if_pos ⟨hi, hl⟩]
theorem run_nx {n : Nat} {b : MS} {ds : List T} {ρ : Env} {w' : World} (e : b (ds.map some ++ List.replicate (n - ds.length) none) w = .ok (ρ, .nx) w') : runB n b ds w = .ok .non w' := by
  unfold runB
  rw [e]
theorem l0le : (0 : Nat) ≤ sizeLine := by omega
theorem init_ok (S : Store h H l) : s_Road___init__ [.cell 2, St h H l] (WD r [.obj "Road" [] []]) = .ok .non (WD r [.obj "Road" ["store", "_sent"] [St h H l, .cell 3], .lst []]) := by
  have e0 := check_ok (w := WD r [.obj "Road" [] []]) S
  have k0 : mDrop (mDef 1 s_check_store (mCons (mVar 1) mNil)) [some (.cell 2), some (St h H l)] (WD r [.obj "Road" [] []]) = .ok ([some (.cell 2), some (St h H l)], .nx) (WD r [.obj "Road" [] []]) := by simp [e0]
  have k1 := setF_ok (tab := obTab) (f := "store") (a := mVar 0) (b := mVar 1) (ρ := [some (.cell 2), some (St h H l)]) (w := WD r [.obj "Road" [] []]) (w1 := WD r [.obj "Road" [] []]) (w2 := WD r [.obj "Road" [] []]) (x := "Road") (ks := []) (ts := []) (y := St h H l) (k := 2) (by simp) (by simp) obj0 it1 (by simp)
  have k2 := setF_ok (tab := obTab) (f := "_sent") (a := mVar 0) (b := mCell (mLst mNil)) (ρ := [some (.cell 2), some (St h H l)]) (w := WD r [.obj "Road" ["store"] [St h H l]]) (w1 := WD r [.obj "Road" ["store"] [St h H l], .lst []]) (w2 := WD r [.obj "Road" ["store"] [St h H l], .lst []]) (x := "Road") (ks := ["store"]) (ts := [St h H l]) (y := .cell 3) (k := 2)
    (by rw [mCell_, mLst_, mNil_, bind_ok']; rw [if_pos (show ([] : List T).length ≤ sizeLine from l0le)]; rfl) (by simp) rfl it2 (by simp)
  have p2 : putO (["store"] : List Str) [St h H l] "_sent" (.cell 3) = ((["store", "_sent"] : List Str), [St h H l, .cell 3]) := by
    show (if ("store" : Str) = "_sent" then _ else _ : List Str × List T) = _
    rw [if_neg (by rw [s_ne']; exact id)]
    rfl
  rw [p2] at k2
  have fin := (seq_ok (m2 := mSeq (mSetF obTab "store" (mVar 0) (mVar 1)) (mSetF obTab "_sent" (mVar 0) (mCell (mLst mNil)))) k0).trans ((seq_ok k1).trans k2)
  exact run_nx fin
theorem init_bad {c t : T} (hb : s_is_store [t] w = .ok (.bl false) w) : s_Road___init__ [c, t] w = .ex (.exc "BadStore" [] []) [] w := by
  unfold s_Road___init__ m_Road___init__ runB
  have e : s_check_store [t] w = .ex (.exc "BadStore" [] []) [] w := by
    unfold s_check_store m_check_store runB
    simp [hb]
  simp [e]
theorem store_31 (h6 : h ≤ 6) : s_is_store [.tup [.int h, .int 3, .int 1]] w = .ok (.bl false) w := by
  unfold s_is_store m_is_store runB
  have v : Vx (.tup [.int h, .int 3, .int 1]) := .tup _ (by simp) (fun u hu => by simp at hu; rcases hu with rfl | rfl | rfl <;> exact .int _)
  have e1 := rowOf_ok (w := w) v 3
  have e2 : rowOf 3 (.tup [.int h, .int 3, .int 1]) = true := by simp [rowOf, cnt]; omega
  rw [e2] at e1
  simp at e1
  have hh : (h : Int) ≤ 6 := by omega
  by_cases h1 : 1 ≤ (h : Int) <;> simp [e1, h1, hh, sMul_l (i := 3) (j := 1) ⟨by decide, by decide⟩]
end
end VS

set_option Elab.async false
set_option linter.all false
set_option maxRecDepth 100000
set_option maxHeartbeats 4000000
namespace VS
open PySem PySem.Spec PyProof.Rows L2
section
variable {w rest : World} {r : Rng} {t u x0 : T} {N : List T} {G : World} {h H l : Nat} {x3 x8 x9 x10 x11 x12 x13 x14 : Option T} {ns : List Int}
theorem p1_ok (o : Ok 2 r) : ∃ (h l : Nat) (r' : Rng), p1 [some x0, some (.cell 1), none, none, none, none, none, none, none, none, none, none, none, none, none, none, none] (WD r rest) = .ok ([some x0, some (.cell 1), none, none, some (.int h), some (.int l), none, none, none, none, none, none, none, none, none, none, none], .nx) (WD r' rest) ∧ 1 ≤ h ∧ h ≤ 6 ∧ l ≤ 4 ∧ Adv 2 r r' := by
  obtain ⟨a, r1, e1, a0, a1, b1⟩ := draw_ok (r := r) (rest := rest) (n := 6) (by decide) (by decide) (o.on Adv.refl 1 (by omega))
  obtain ⟨b, r2, e2, c0, c1, b2⟩ := draw_ok (r := r1) (rest := rest) (n := 5) (by decide) (by decide) (o.on b1 1 (by omega))
  obtain ⟨h, hh⟩ : ∃ h : Nat, 1 + a = (h : Int) := ⟨(1 + a).toNat, by omega⟩
  obtain ⟨l, hl⟩ : ∃ l : Nat, b = (l : Int) := ⟨b.toNat, by omega⟩
  refine ⟨h, l, r2, ?_, by omega, by omega, by omega, b1.trans b2⟩
  unfold p1
  simp [e1, e2, hh, ← hl, s2]
theorem p2_ok (hl : l ≤ 4) (o : Ok 1 r) : ∃ (H : Nat) (r' : Rng), p2 [some x0, some (.cell 1), none, none, some (.int h), some (.int l), none, none, none, none, none, none, none, none, none, none, none] (WD r rest) = .ok ([some x0, some (.cell 1), some (.int H), none, some (.int h), some (.int l), none, none, none, none, none, none, none, none, none, none, none], .nx) (WD r' rest) ∧ 3 * l < H ∧ H ≤ 13 ∧ Adv 1 r r' := by
  obtain ⟨b, r2, e2, c0, c1, b2⟩ := draw_ok (r := r) (rest := rest) (n := 13 - 3 * (l : Int)) (by omega) (by omega) o
  obtain ⟨H, hH⟩ : ∃ H : Nat, 3 * (l : Int) + 1 + b = (H : Int) := ⟨(3 * (l : Int) + 1 + b).toNat, by omega⟩
  refine ⟨H, r2, ?_, by omega, by omega, b2⟩
  unfold p2
  simp [sMul_l (i := 3) (j := (l : Int)) ⟨by decide, by decide⟩, e2, hH]
theorem make_ok {f : Sem} {ds : List T} {w1 w2 : World} {ρ : Env} {m : MF} {n : Nat} {x : Str} {k : Nat} (hm : m ρ w = .ok ds w1) (hn : ds.length + 1 = n) (hk : w1.length = k) (hf : f (.cell k :: ds) (w1 ++ [.obj x [] []]) = .ok .non w2) : mMake x n f m ρ w = .ok (.cell k) w2 := by
  subst hk
  unfold mMake
  rw [hm, bind_ok', if_pos hn, hf]
  rfl
theorem make_bad {f : Sem} {ds : List T} {w1 w2 : World} {ρ : Env} {m : MF} {n : Nat} {x : Str} {t : T} {ρ' : Env} (hm : m ρ w = .ok ds w1) (hn : ds.length + 1 = n) (hf : f (.cell w1.length :: ds) (w1 ++ [.obj x [] []]) = .ex t ρ' w2) : mMake x n f m ρ w = .ex t ρ w2 := by
  unfold mMake
  rw [hm, bind_ok', if_pos hn, hf]
  rfl
theorem p3_ok (S : Store h H l) : p3 [some x0, some (.cell 1), some (.int H), none, some (.int h), some (.int l), none, none, none, none, none, none, none, none, none, none, none] (WD r []) = .ok (Es x0 h H l none none none none none none none none, .nx) (W r h H l [] []) := by
  have e1 : mMake "Road" 2 s_Road___init__ (mCons (mTup (mCons (mVar 4) (mCons (mVar 2) (mCons (mVar 5) mNil)))) mNil) [some x0, some (.cell 1), some (.int H), none, some (.int h), some (.int l), none, none, none, none, none, none, none, none, none, none, none] (WD r []) = .ok (.cell 2) (WD r [.obj "Road" ["store", "_sent"] [St h H l, .cell 3], .lst []]) :=
    make_ok (ds := [St h H l]) (w1 := WD r []) (k := 2) (by simp [s3]) rfl rfl (init_ok S)
  have e2 : ∀ ρ : Env, mCell (mLst mNil) ρ (WD r [.obj "Road" ["store", "_sent"] [St h H l, .cell 3], .lst []]) = .ok (.cell 4) (W r h H l [] []) := fun ρ => by
    rw [mCell_, mLst_, mNil_, bind_ok', if_pos (show ([] : List T).length ≤ sizeLine from l0le)]
    rfl
  unfold p3
  rw [mAsg_, mTup_, mCons_, e1, bind_ok', mCons_, e2, bind_ok']
  simp [s2]
theorem p4_ok : p4 (Es x0 h H l x3 x8 x9 x10 x11 x12 x13 x14) (W r h H l N G) = .ok (Es x0 h H l x3 x8 x9 x10 x11 x12 x13 x14, .nx) (W r h H l N G) := by
  have p : ∀ w : World, pd w (St h H l) = some (.tuple [.int h, .int H, .int l]) := fun w => by simp [pd, pds]
  have s : SeqAt.shaped (.tuple [.int h, .int H, .int l]) = true := rfl
  have e : eqT (W r h H l N G) (St h H l) (St h H l) = some true := by
    rw [eqT_of (p _) (p _) s s, SeqAt.eqv_refl _ rfl]
  unfold p4
  simp [s3, sNe, e]
theorem p6_ok (h6 : h ≤ 6) : ∃ w', p6 (Es x0 h H l x3 x8 x9 x10 x11 x12 x13 x14) (W r h H l N G) = .ok (Es x0 h H l x3 x8 x9 x10 x11 x12 x13 x14, .ret (.bl true)) w' := by
  generalize W r h H l N G = w1
  have hf : s_Road___init__ (.cell w1.length :: [.tup [.int h, .int 3, .int 1]]) (w1 ++ [.obj "Road" [] []]) = .ex (.exc "BadStore" [] []) [] (w1 ++ [.obj "Road" [] []]) := init_bad (store_31 h6)
  generalize hw : (w1 ++ [.obj "Road" [] []] : World) = w3 at hf
  have hm : mCons (mTup (mCons (mVar 4) (mCons (mC (.int 3)) (mCons (mC (.int 1)) mNil)))) mNil (Es x0 h H l x3 x8 x9 x10 x11 x12 x13 x14) w1 = .ok [.tup [.int h, .int 3, .int 1]] w1 := by simp [s3]
  rw [← hw] at hf
  have e : mMake "Road" 2 s_Road___init__ (mCons (mTup (mCons (mVar 4) (mCons (mC (.int 3)) (mCons (mC (.int 1)) mNil)))) mNil) (Es x0 h H l x3 x8 x9 x10 x11 x12 x13 x14) w1 = .ex (.exc "BadStore" [] []) (Es x0 h H l x3 x8 x9 x10 x11 x12 x13 x14) (w1 ++ [.obj "Road" [] []]) := by
    unfold mMake
    rw [hm, bind_ok', if_pos (show ([.tup [.int h, .int 3, .int 1]] : List T).length + 1 = 2 from rfl), hf]
    rfl
  have c := caught_ex e c_store
  refine ⟨w1 ++ [.obj "Road" [] []], ?_⟩
  unfold p6
  rw [mRet_, mCall_, mCons_, c, bind_ok', mCons_, mC_, bind_ok', mNil_, bind_ok', bind_ok', bind_ok', x_store, bind_ok']
theorem p5_gen {K : Int} {all xs : List T} {w1 w2 : World} {ρ : Env} (hK : 4 + (if (8 : Int) < (xs.length : Int) then 8 else (xs.length : Int)) = K) (g : sRange1 [.int K] w1 = .ok (all, none) w1)
    (e2 : forL (mgName 3) lturn none all all (Es (.frz xs) h H l x3 x8 x9 x10 x11 x12 x13 x14) w1 = .ok (ρ, .nx) w2) : p5 (Es (.frz xs) h H l x3 x8 x9 x10 x11 x12 x13 x14) w1 = .ok (ρ, .nx) w2 := by
  unfold p5
  simp [hK, g, e2]
theorem turns_ok {k : Nat} (S : Store h H l) (hk : k ≤ 12) (o : Ok 300 r) : ∃ x3 x8 x9 x10 x11 x12 x13 x14 N G r', forL (mgName 3) lturn none (rgT 0 k) (rgT 0 k) (Es x0 h H l none none none none none none none none) (W r h H l [] []) = .ok (Es x0 h H l x3 x8 x9 x10 x11 x12 x13 x14, .nx) (W r' h H l N G) := by
  obtain ⟨ρ', w', e, x3, x8, x9, x10, x11, x12, x13, x14, N, G, r', rfl, rfl, _⟩ := forL_run (g := mgName 3) (b := lturn) (all := rgT 0 k) (w := W r h H l [] []) (ρ := Es x0 h H l none none none none none none none none)
    (P := fun i ρ w => ∃ x3 x8 x9 x10 x11 x12 x13 x14 N G r', ρ = Es x0 h H l x3 x8 x9 x10 x11 x12 x13 x14 ∧ w = W r' h H l N G ∧ (∀ t ∈ N, Good h H t) ∧ N.length ≤ i ∧ Adv (20 * i) r r') ⟨_, _, _, _, _, _, _, _, _, _, r, rfl, rfl, by simp, by simp, by simpa using Adv.refl⟩ (fun i t ρ w ht p => by
      obtain ⟨x3, x8, x9, x10, x11, x12, x13, x14, N, G, r1, rfl, rfl, hN, hl, a⟩ := p
      have hi := (rgT_at ht).2
      obtain ⟨y8, y9, y10, y11, y12, y13, y14, N', G', r2, e, hN', hl', b⟩ := turn_ok (r := r1) (x0 := x0) (G := G) (x3 := some t) (x8 := x8) (x9 := x9) (x10 := x10) (x11 := x11) (x12 := x12) (x13 := x13) (x14 := x14) S hN (by omega) (o.on a 20 (by omega))
      exact ⟨_, _, e, some t, y8, y9, y10, y11, y12, y13, y14, N', G', r2, rfl, rfl, hN', by omega, (a.trans b).mono (by push_cast; omega)⟩)
  exact ⟨x3, x8, x9, x10, x11, x12, x13, x14, N, G, r', e⟩
theorem run_ret {n : Nat} {b : MS} {ds : List T} {ρ : Env} {t : T} {w' : World} (e : b (ds.map some ++ List.replicate (n - ds.length) none) w = .ok (ρ, .ret t) w') : runB n b ds w = .ok t w' := by
  unfold runB
  rw [e]
theorem law_true : ∀ ns : List Int, ns.length ≤ 63 → ∃ w', runB N_law.length m_law [.frz (ns.map T.int)] [] = .ok (.bl true) w' := fun ns hl => by
  obtain ⟨r, e0, ht⟩ := begun_ok hl
  have k0 : p0 [some (.frz (ns.map T.int)), none, none, none, none, none, none, none, none, none, none, none, none, none, none, none, none] [] = .ok ([some (.frz (ns.map T.int)), some (.cell 1), none, none, none, none, none, none, none, none, none, none, none, none, none, none, none], .nx) (WD r []) := by
    unfold p0
    generalize ns.map T.int = xs at e0
    simp [e0]
  have o : Ok 400 r := ⟨by omega, by omega⟩
  obtain ⟨h, l, r1, k1, h1, h6, hl4, a1⟩ := p1_ok (x0 := .frz (ns.map T.int)) (rest := []) (o.on Adv.refl 2 (by omega))
  obtain ⟨H, r2, k2, hH, H13, b2⟩ := p2_ok (x0 := .frz (ns.map T.int)) (h := h) (rest := []) hl4 (o.on a1 1 (by omega))
  have a2 := a1.trans b2
  have S : Store h H l := ⟨h1, h6, hH, H13⟩
  have k3 := p3_ok (x0 := .frz (ns.map T.int)) (r := r2) S
  have k4 := p4_ok (x0 := .frz (ns.map T.int)) (r := r2) (h := h) (H := H) (l := l) (N := []) (G := []) (x3 := none) (x8 := none) (x9 := none) (x10 := none) (x11 := none) (x12 := none) (x13 := none) (x14 := none)
  obtain ⟨k, hk, hk8⟩ : ∃ k : Nat, 4 + (if (8 : Int) < ((ns.map T.int).length : Int) then 8 else ((ns.map T.int).length : Int)) = (k : Int) ∧ k ≤ 12 := by
    split
    · exact ⟨12, by omega, by omega⟩
    · exact ⟨4 + (ns.map T.int).length, by omega, by omega⟩
  obtain ⟨x3, x8, x9, x10, x11, x12, x13, x14, N, G, r5, e5⟩ := turns_ok (x0 := .frz (ns.map T.int)) (r := r2) S hk8 (o.on a2 300 (by omega))
  have g : sRange1 [.int (k : Int)] (W r2 h H l [] []) = .ok (rgT 0 k, none) (W r2 h H l [] []) := by
    have := sRange1_ (w := W r2 h H l [] []) (n := (k : Int)) (by omega) (by omega)
    rwa [Int.toNat_natCast] at this
  have k5 := p5_gen hk g e5
  obtain ⟨w', k6⟩ := p6_ok (x0 := .frz (ns.map T.int)) (r := r5) (H := H) (l := l) (N := N) (G := G) (x3 := x3) (x8 := x8) (x9 := x9) (x10 := x10) (x11 := x11) (x12 := x12) (x13 := x13) (x14 := x14) h6
  refine ⟨w', run_ret (ρ := Es (.frz (ns.map T.int)) h H l x3 x8 x9 x10 x11 x12 x13 x14) ?_⟩
  rw [law_parts]
  exact (seq_ok k0).trans ((seq_ok k1).trans ((seq_ok k2).trans ((seq_ok k3).trans ((seq_ok k4).trans ((seq_ok k5).trans k6)))))
end
end VS

set_option Elab.async false
set_option linter.all false
set_option maxRecDepth 100000
set_option maxHeartbeats 4000000
namespace VS
open PySem PySem.Spec PyProof.Rows L2
theorem top_all {P : Program} {w : PySem.World} {K : PySem.W.Frag} {h : Heap} {mg : Str → Option Value} {fa : Addr} (X : K.In h) (G : h.Ns mainGlobals mg) (hfa : mg "law" = some (.ref fa)) {d_is_number : Value} (a_is_number : At K "is_number" t_is_number d_is_number) {d_is_count : Value} (a_is_count : At K "is_count" t_is_count d_is_count) {d_counts_from_one : Value} (a_counts_from_one : At K "counts_from_one" t_counts_from_one d_counts_from_one) {d_is_place : Value} (a_is_place : At K "is_place" t_is_place d_is_place) {d_is_tuple_of : Value} (a_is_tuple_of : At K "is_tuple_of" t_is_tuple_of d_is_tuple_of) {d_is_row_for : Value} (a_is_row_for : At K "is_row_for" t_is_row_for d_is_row_for) {d_ascends : Value} (a_ascends : At K "ascends" t_ascends d_ascends) {d_is_store : Value} (a_is_store : At K "is_store" t_is_store d_is_store) {d_check_store : Value} (a_check_store : At K "check_store" t_check_store d_check_store) {d_has_name_form : Value} (a_has_name_form : At K "has_name_form" t_has_name_form d_has_name_form) {d_are_names_by_form : Value} (a_are_names_by_form : At K "are_names_by_form" t_are_names_by_form d_are_names_by_form) {d__is_one : Value} (a__is_one : At K "_is_one" t__is_one d__is_one) {d_is_hand_of : Value} (a_is_hand_of : At K "is_hand_of" t_is_hand_of d_is_hand_of) {d_is_house_of : Value} (a_is_house_of : At K "is_house_of" t_is_house_of d_is_house_of) {d__has_word : Value} (a__has_word : At K "_has_word" t__has_word d__has_word) {d__may_hand_write : Value} (a__may_hand_write : At K "_may_hand_write" t__may_hand_write d__may_hand_write) {d__may_house_write : Value} (a__may_house_write : At K "_may_house_write" t__may_house_write d__may_house_write) {d_is_letter : Value} (a_is_letter : At K "is_letter" t_is_letter d_is_letter) {d__law_begun : Value} (a__law_begun : At K "_law_begun" t__law_begun d__law_begun) {d__law_blended : Value} (a__law_blended : At K "_law_blended" t__law_blended d__law_blended) {d__law_draw : Value} (a__law_draw : At K "_law_draw" t__law_draw d__law_draw) {d__law_pick : Value} (a__law_pick : At K "_law_pick" t__law_pick d__law_pick) {d__law_is_whole : Value} (a__law_is_whole : At K "_law_is_whole" t__law_is_whole d__law_is_whole) {d__law_ro_letter : Value} (a__law_ro_letter : At K "_law_ro_letter" t__law_ro_letter d__law_ro_letter) {d_Road___init__ : Value} (a_Road___init__ : AtM K "Road" "__init__" "Road.__init__" t_Road___init__ d_Road___init__) {d_Road_send : Value} (a_Road_send : AtM K "Road" "send" "Road.send" t_Road_send d_Road_send) {d_Road_waiting : Value} (a_Road_waiting : AtM K "Road" "waiting" "Road.waiting" t_Road_waiting d_Road_waiting) {d_Road_count : Value} (a_Road_count : AtM K "Road" "count" "Road.count" t_Road_count d_Road_count) {d_Road_letter : Value} (a_Road_letter : AtM K "Road" "letter" "Road.letter" t_Road_letter d_Road_letter) {d_law : Value} (a_law : At K "law" t_law d_law) {d__law_caught : Value} (a__law_caught : At K "_law_caught" t__law_caught d__law_caught) (n_bool : PySem.W.nsIn K mainGlobals "bool" = some none) (n_isinstance : PySem.W.nsIn K mainGlobals "isinstance" = some none) (n_int : PySem.W.nsIn K mainGlobals "int" = some none) (n_len : PySem.W.nsIn K mainGlobals "len" = some none) (n_tuple : PySem.W.nsIn K mainGlobals "tuple" = some none) (n_all : PySem.W.nsIn K mainGlobals "all" = some none) (n_zip : PySem.W.nsIn K mainGlobals "zip" = some none) (n_abs : PySem.W.nsIn K mainGlobals "abs" = some none) (n_enumerate : PySem.W.nsIn K mainGlobals "enumerate" = some none) (n_min : PySem.W.nsIn K mainGlobals "min" = some none) (n_range : PySem.W.nsIn K mainGlobals "range" = some none) (n_list : PySem.W.nsIn K mainGlobals "list" = some none) {k_GREATEST : Tok} (g_GREATEST : PySem.W.nsIn K mainGlobals "GREATEST" = some (some (.int 999999999999999999 k_GREATEST))) {k_MOST_HANDS : Tok} (g_MOST_HANDS : PySem.W.nsIn K mainGlobals "MOST_HANDS" = some (some (.int 6 k_MOST_HANDS))) {k_MOST_HOUSES : Tok} (g_MOST_HOUSES : PySem.W.nsIn K mainGlobals "MOST_HOUSES" = some (some (.int 13 k_MOST_HOUSES))) {C_BadLetter : Addr} (q_BadLetter : ClsAt K "BadLetter" C_BadLetter) {C_BadNumber : Addr} (q_BadNumber : ClsAt K "BadNumber" C_BadNumber) {C_BadStore : Addr} (q_BadStore : ClsAt K "BadStore" C_BadStore) {C_BadWho : Addr} (q_BadWho : ClsAt K "BadWho" C_BadWho) {C_SeenError : Addr} (q_SeenError : ClsAt K "SeenError" C_SeenError) (x_BadLetter : PySem.W.excIn K C_BadLetter [.type "ValueError", .type "Exception", .type "BaseException", .type "object"] "ValueError.__new__" = true) (x_BadNumber : PySem.W.excIn K C_BadNumber [.type "ValueError", .type "Exception", .type "BaseException", .type "object"] "ValueError.__new__" = true) (x_BadStore : PySem.W.excIn K C_BadStore [.type "ValueError", .type "Exception", .type "BaseException", .type "object"] "ValueError.__new__" = true) (x_BadWho : PySem.W.excIn K C_BadWho [.type "ValueError", .type "Exception", .type "BaseException", .type "object"] "ValueError.__new__" = true) (og : ObjG K) (s_BadLetter_BadLetter : PySem.W.subIn K (.ref C_BadLetter) (.ref C_BadLetter) = some true) (s_BadLetter_BadNumber : PySem.W.subIn K (.ref C_BadLetter) (.ref C_BadNumber) = some false) (s_BadLetter_BadStore : PySem.W.subIn K (.ref C_BadLetter) (.ref C_BadStore) = some false) (s_BadLetter_BadWho : PySem.W.subIn K (.ref C_BadLetter) (.ref C_BadWho) = some false) (s_BadNumber_BadLetter : PySem.W.subIn K (.ref C_BadNumber) (.ref C_BadLetter) = some false) (s_BadNumber_BadNumber : PySem.W.subIn K (.ref C_BadNumber) (.ref C_BadNumber) = some true) (s_BadNumber_BadStore : PySem.W.subIn K (.ref C_BadNumber) (.ref C_BadStore) = some false) (s_BadNumber_BadWho : PySem.W.subIn K (.ref C_BadNumber) (.ref C_BadWho) = some false) (s_BadStore_BadLetter : PySem.W.subIn K (.ref C_BadStore) (.ref C_BadLetter) = some false) (s_BadStore_BadNumber : PySem.W.subIn K (.ref C_BadStore) (.ref C_BadNumber) = some false) (s_BadStore_BadStore : PySem.W.subIn K (.ref C_BadStore) (.ref C_BadStore) = some true) (s_BadStore_BadWho : PySem.W.subIn K (.ref C_BadStore) (.ref C_BadWho) = some false) (s_BadWho_BadLetter : PySem.W.subIn K (.ref C_BadWho) (.ref C_BadLetter) = some false) (s_BadWho_BadNumber : PySem.W.subIn K (.ref C_BadWho) (.ref C_BadNumber) = some false) (s_BadWho_BadStore : PySem.W.subIn K (.ref C_BadWho) (.ref C_BadStore) = some false) (s_BadWho_BadWho : PySem.W.subIn K (.ref C_BadWho) (.ref C_BadWho) = some true) (s__BadLetter : PySem.W.subIn K (.type "NoneType") (.ref C_BadLetter) = some false) (s__BadNumber : PySem.W.subIn K (.type "NoneType") (.ref C_BadNumber) = some false) (s__BadStore : PySem.W.subIn K (.type "NoneType") (.ref C_BadStore) = some false) (s__BadWho : PySem.W.subIn K (.type "NoneType") (.ref C_BadWho) = some false) (u_BadLetter : PySem.W.subIn K (.ref C_BadLetter) (.ref C_SeenError) = some true) (u_BadNumber : PySem.W.subIn K (.ref C_BadNumber) (.ref C_SeenError) = some true) (u_BadStore : PySem.W.subIn K (.ref C_BadStore) (.ref C_SeenError) = some true) (u_BadWho : PySem.W.subIn K (.ref C_BadWho) (.ref C_SeenError) = some true) {O_Road : Addr} (k_Road : ClsO K "Road" O_Road) (f_Road_store : NoAttr K O_Road "store") (f_Road__sent : NoAttr K O_Road "_sent") (Z : List (Addr × Str)) (cs : List (Addr × Addr)) {c_law P_law : Addr} (ec_law : d_law = .ref c_law) (hc_law : (c_law, P_law) ∈ cs) (hz_law : (P_law, (envOfC "law" (defScope t_law) 0 0 .none).qual ++ "<lambda>") ∈ Z) (hu_law : ∀ p ∈ Z, p.1 = P_law → p.2 = (envOfC "law" (defScope t_law) 0 0 .none).qual ++ "<lambda>") :
    ∃ fd : FuncData, (∀ (s : Shared) (u : Value), BindsTo s fd ⟨[u], []⟩ [("script", u)]) ∧ ∀ base : Heap, K.In base → base.Ns mainGlobals mg → (∀ p ∈ cs, LamX.TabB base mg p.1 p.2) → FnOk P w K mg base (L2.CX P w) 10 fa fd ["script"] (spL K Z) := by
  have z : Zs K mg := ⟨PySem.W.mg_none_of X G n_bool,
    PySem.W.mg_none_of X G n_isinstance,
    PySem.W.mg_none_of X G n_int,
    PySem.W.mg_none_of X G n_len,
    PySem.W.mg_none_of X G n_tuple,
    PySem.W.mg_none_of X G n_all,
    PySem.W.mg_none_of X G n_zip,
    PySem.W.mg_none_of X G n_abs,
    PySem.W.mg_none_of X G n_enumerate,
    PySem.W.mg_none_of X G n_min,
    PySem.W.mg_none_of X G n_range,
    PySem.W.mg_none_of X G n_list,
    ⟨_, PySem.W.mg_of X G g_GREATEST⟩,
    ⟨_, PySem.W.mg_of X G g_MOST_HANDS⟩,
    ⟨_, PySem.W.mg_of X G g_MOST_HOUSES⟩,
    q_BadLetter.err X G x_BadLetter,
    q_BadNumber.err X G x_BadNumber,
    q_BadStore.err X G x_BadStore,
    q_BadWho.err X G x_BadWho,
    q_BadLetter.glb X G,
    q_BadNumber.glb X G,
    q_BadStore.glb X G,
    q_BadWho.glb X G,
    isTab_cons og q_BadLetter q_BadLetter s_BadLetter_BadLetter (isTab_cons og q_BadLetter q_BadNumber s_BadLetter_BadNumber (isTab_cons og q_BadLetter q_BadStore s_BadLetter_BadStore (isTab_cons og q_BadLetter q_BadWho s_BadLetter_BadWho (isTab_cons og q_BadNumber q_BadLetter s_BadNumber_BadLetter (isTab_cons og q_BadNumber q_BadNumber s_BadNumber_BadNumber (isTab_cons og q_BadNumber q_BadStore s_BadNumber_BadStore (isTab_cons og q_BadNumber q_BadWho s_BadNumber_BadWho (isTab_cons og q_BadStore q_BadLetter s_BadStore_BadLetter (isTab_cons og q_BadStore q_BadNumber s_BadStore_BadNumber (isTab_cons og q_BadStore q_BadStore s_BadStore_BadStore (isTab_cons og q_BadStore q_BadWho s_BadStore_BadWho (isTab_cons og q_BadWho q_BadLetter s_BadWho_BadLetter (isTab_cons og q_BadWho q_BadNumber s_BadWho_BadNumber (isTab_cons og q_BadWho q_BadStore s_BadWho_BadStore (isTab_cons og q_BadWho q_BadWho s_BadWho_BadWho (isTab_none q_BadLetter s__BadLetter (isTab_none q_BadNumber s__BadNumber (isTab_none q_BadStore s__BadStore (isTab_none q_BadWho s__BadWho (isTab_nil)))))))))))))))))))),
    (obTab_cons k_Road (List.forall_mem_cons.mpr ⟨f_Road_store, List.forall_mem_cons.mpr ⟨f_Road__sent, fun _ z => nomatch z⟩⟩) obTab_nil),
    caughtD_mk a__law_caught X G caught_t q_SeenError (List.forall_mem_cons.mpr ⟨q_BadLetter.caught q_SeenError u_BadLetter, List.forall_mem_cons.mpr ⟨q_BadNumber.caught q_SeenError u_BadNumber, List.forall_mem_cons.mpr ⟨q_BadStore.caught q_SeenError u_BadStore, List.forall_mem_cons.mpr ⟨q_BadWho.caught q_SeenError u_BadWho, (fun _ z => nomatch z)⟩⟩⟩⟩) (fun _ _ _ _ _ _ us hl => match us, hl with | [_], _ => rfl)⟩
  refine At.law a_law X G hfa sc_law (fun _ _ _ _ _ _ _ => rfl) (fun base => ∀ p ∈ cs, LamX.TabB base mg p.1 p.2) (fun base _ _ TB => ?_) law_true
  have LT_law : LamAt Z base mg d_law ((envOfC "law" (defScope t_law) 0 0 .none).qual ++ "<lambda>") := ⟨_, _, ec_law, TB _ hc_law, hz_law, hu_law⟩
  have D_is_number : Df P w K Z mg base 1 "is_number" ["value"] s_is_number := (At.df a_is_number X G sc_is_number (fun _ _ _ _ _ _ us hl => match us, hl with | [_], _ => rfl) (b_is_number z))
  have D_is_count : Df P w K Z mg base 2 "is_count" ["value"] s_is_count := (At.df a_is_count X G sc_is_count (fun _ _ _ _ _ _ us hl => match us, hl with | [_], _ => rfl) (b_is_count z D_is_number))
  have D_counts_from_one : Df P w K Z mg base 3 "counts_from_one" ["value"] s_counts_from_one := (At.df a_counts_from_one X G sc_counts_from_one (fun _ _ _ _ _ _ us hl => match us, hl with | [_], _ => rfl) (b_counts_from_one z D_is_count))
  have D_is_place : Df P w K Z mg base 3 "is_place" ["value", "many"] s_is_place := (At.df a_is_place X G sc_is_place (fun _ _ _ _ _ _ us hl => match us, hl with | [_, _], _ => rfl) (b_is_place z D_is_count))
  have D_is_tuple_of : Df P w K Z mg base 1 "is_tuple_of" ["value", "many"] s_is_tuple_of := (At.df a_is_tuple_of X G sc_is_tuple_of (fun _ _ _ _ _ _ us hl => match us, hl with | [_, _], _ => rfl) (b_is_tuple_of z))
  have D_is_row_for : Df P w K Z mg base 3 "is_row_for" ["value", "hands"] s_is_row_for := (At.df a_is_row_for X G sc_is_row_for (fun _ _ _ _ _ _ us hl => match us, hl with | [_, _], _ => rfl) (b_is_row_for z D_is_count D_is_tuple_of))
  have D_ascends : Df P w K Z mg base 1 "ascends" ["values"] s_ascends := (At.df a_ascends X G sc_ascends (fun _ _ _ _ _ _ us hl => match us, hl with | [_], _ => rfl) (b_ascends z))
  have D_is_store : Df P w K Z mg base 4 "is_store" ["value"] s_is_store := (At.df a_is_store X G sc_is_store (fun _ _ _ _ _ _ us hl => match us, hl with | [_], _ => rfl) (b_is_store z D_is_row_for))
  have D_check_store : Df P w K Z mg base 5 "check_store" ["store"] s_check_store := (At.df a_check_store X G sc_check_store (fun _ _ _ _ _ _ us hl => match us, hl with | [_], _ => rfl) (b_check_store z D_is_store))
  have D_has_name_form : Df P w K Z mg base 3 "has_name_form" ["value"] s_has_name_form := (At.df a_has_name_form X G sc_has_name_form (fun _ _ _ _ _ _ us hl => match us, hl with | [_], _ => rfl) (b_has_name_form z D_is_count D_is_tuple_of))
  have D_are_names_by_form : Df P w K Z mg base 4 "are_names_by_form" ["value"] s_are_names_by_form := (At.df a_are_names_by_form X G sc_are_names_by_form (fun _ _ _ _ _ _ us hl => match us, hl with | [_], _ => rfl) (b_are_names_by_form z D_has_name_form))
  have D__is_one : Df P w K Z mg base 4 "_is_one" ["value", "word", "many"] s__is_one := (At.df a__is_one X G sc__is_one (fun _ _ _ _ _ _ us hl => match us, hl with | [_, _, _], _ => rfl) (b__is_one z D_is_place D_is_tuple_of))
  have D_is_hand_of : Df P w K Z mg base 5 "is_hand_of" ["store", "value"] s_is_hand_of := (At.df a_is_hand_of X G sc_is_hand_of (fun _ _ _ _ _ _ us hl => match us, hl with | [_, _], _ => rfl) (b_is_hand_of z D__is_one))
  have D_is_house_of : Df P w K Z mg base 5 "is_house_of" ["store", "value"] s_is_house_of := (At.df a_is_house_of X G sc_is_house_of (fun _ _ _ _ _ _ us hl => match us, hl with | [_, _], _ => rfl) (b_is_house_of z D__is_one))
  have D__has_word : Df P w K Z mg base 4 "_has_word" ["body", "word", "items"] s__has_word := (At.df a__has_word X G sc__has_word (fun _ _ _ _ _ _ us hl => match us, hl with | [_, _, _], _ => rfl) (b__has_word z D_counts_from_one D_is_tuple_of))
  have D__may_hand_write : Df P w K Z mg base 5 "_may_hand_write" ["store", "body"] s__may_hand_write := (At.df a__may_hand_write X G sc__may_hand_write (fun _ _ _ _ _ _ us hl => match us, hl with | [_, _], _ => rfl) (b__may_hand_write z D__has_word D_ascends D_are_names_by_form D_is_row_for))
  have D__may_house_write : Df P w K Z mg base 5 "_may_house_write" ["body"] s__may_house_write := (At.df a__may_house_write X G sc__may_house_write (fun _ _ _ _ _ _ us hl => match us, hl with | [_], _ => rfl) (b__may_house_write z D__has_word D_has_name_form D_are_names_by_form))
  have D_is_letter : Df P w K Z mg base 6 "is_letter" ["store", "value"] s_is_letter := (At.df a_is_letter X G sc_is_letter (fun _ _ _ _ _ _ us hl => match us, hl with | [_, _], _ => rfl) (b_is_letter z D_check_store D_is_tuple_of D_is_hand_of D__may_hand_write D_is_house_of D__may_house_write))
  have D__law_begun : Df P w K Z mg base 1 "_law_begun" ["script"] s__law_begun := (At.df a__law_begun X G sc__law_begun (fun _ _ _ _ _ _ us hl => match us, hl with | [_], _ => rfl) (b__law_begun z))
  have D__law_blended : Df P w K Z mg base 1 "_law_blended" ["state"] s__law_blended := (At.df a__law_blended X G sc__law_blended (fun _ _ _ _ _ _ us hl => match us, hl with | [_], _ => rfl) (b__law_blended z))
  have D__law_draw : Df P w K Z mg base 2 "_law_draw" ["state", "size_here"] s__law_draw := (At.df a__law_draw X G sc__law_draw (fun _ _ _ _ _ _ us hl => match us, hl with | [_, _], _ => rfl) (b__law_draw z D__law_blended))
  have D__law_pick : Df P w K Z mg base 3 "_law_pick" ["state", "several"] s__law_pick := (At.df a__law_pick X G sc__law_pick (fun _ _ _ _ _ _ us hl => match us, hl with | [_, _], _ => rfl) (b__law_pick z D__law_draw))
  have D__law_is_whole : Df P w K Z mg base 1 "_law_is_whole" ["item"] s__law_is_whole := (At.df a__law_is_whole X G sc__law_is_whole (fun _ _ _ _ _ _ us hl => match us, hl with | [_], _ => rfl) (b__law_is_whole z))
  have D__law_ro_letter : Df P w K Z mg base 3 "_law_ro_letter" ["state", "hands", "houses"] s__law_ro_letter := (At.df a__law_ro_letter X G sc__law_ro_letter (fun _ _ _ _ _ _ us hl => match us, hl with | [_, _, _], _ => rfl) (b__law_ro_letter z D__law_draw))
  have C_Road : MkD P w K Z mg base 6 "Road" ["self", "store"] s_Road___init__ := AtM.maker a_Road___init__ k_Road X G sc_Road___init__ (fun _ _ _ _ _ _ us hl => match us, hl with | [_, _], _ => rfl) (b_Road___init__ z D_check_store)
  have M_Road_send : MtD P w K Z mg base 7 "Road" "send" ["self", "letter"] s_Road_send := AtM.mt a_Road_send k_Road sc_Road_send (fun _ _ _ _ _ _ us hl => match us, hl with | [_, _], _ => rfl) (b_Road_send z D_is_letter)
  have MP_Road_send_0 : MtP P w K Z mg base 7 "Road" "send" 2 1 ["letter"] [0, 1] s_Road_send := (AtM.mtP (ps := ["self", "letter"]) (ks := ["letter"]) a_Road_send k_Road sc_Road_send (by exact fun h => nomatch h) (fun _ _ _ _ _ _ us ws h1 h2 => match us, ws, h1, h2 with | [_], [_], _, _ => rfl) (b_Road_send z D_is_letter))
  have M_Road_waiting : MtD P w K Z mg base 6 "Road" "waiting" ["self", "receiver"] s_Road_waiting := AtM.mt a_Road_waiting k_Road sc_Road_waiting (fun _ _ _ _ _ _ us hl => match us, hl with | [_, _], _ => rfl) (b_Road_waiting z D_is_house_of D_is_hand_of)
  have MP_Road_waiting_0 : MtP P w K Z mg base 6 "Road" "waiting" 2 1 ["receiver"] [0, 1] s_Road_waiting := (AtM.mtP (ps := ["self", "receiver"]) (ks := ["receiver"]) a_Road_waiting k_Road sc_Road_waiting (by exact fun h => nomatch h) (fun _ _ _ _ _ _ us ws h1 h2 => match us, ws, h1, h2 with | [_], [_], _, _ => rfl) (b_Road_waiting z D_is_house_of D_is_hand_of))
  have M_Road_count : MtD P w K Z mg base 1 "Road" "count" ["self"] s_Road_count := AtM.mt a_Road_count k_Road sc_Road_count (fun _ _ _ _ _ _ us hl => match us, hl with | [_], _ => rfl) (b_Road_count z)
  have M_Road_letter : MtD P w K Z mg base 4 "Road" "letter" ["self", "number"] s_Road_letter := AtM.mt a_Road_letter k_Road sc_Road_letter (fun _ _ _ _ _ _ us hl => match us, hl with | [_, _], _ => rfl) (b_Road_letter z D_is_place)
  have MP_Road_letter_0 : MtP P w K Z mg base 4 "Road" "letter" 2 1 ["number"] [0, 1] s_Road_letter := (AtM.mtP (ps := ["self", "number"]) (ks := ["number"]) a_Road_letter k_Road sc_Road_letter (by exact fun h => nomatch h) (fun _ _ _ _ _ _ us ws h1 h2 => match us, ws, h1, h2 with | [_], [_], _, _ => rfl) (b_Road_letter z D_is_place))
  exact b_law z LT_law D__law_begun D__law_draw D__law_ro_letter D__law_pick D__law_is_whole M_Road_send M_Road_letter M_Road_count M_Road_waiting MP_Road_send_0 MP_Road_letter_0 MP_Road_waiting_0 C_Road
end VS
open PySem PySem.W PyProof.Rows
set_option maxHeartbeats 0 in
theorem PySem.Challenge.cw_seenatonce_k27_roads_holds : PySem.Challenge.rw_seenatonce_k27_roads.Holds := by
  w_on; o_law; k_head; (case hw => w_witness2)
  k_fill
  refine VS.walk_ofZ (l := PySem.Challenge.rw_seenatonce_k27_roads) (n := 63) (k := 10) (x := "script") (CX := fun w => L2.CX PySem.Challenge.rw_seenatonce_k27_roads.prog w) rfl (by decide) rfl ⟨rfl, by decide, by decide⟩ (fun w h Y => by first | exact PySem.W.kIn_of Y | exact PySem.W.km_in_of Y) ?F (fun _ _ _ _ _ h => VS.law_cx h)
  case F =>
    intro w mg mb fa h lo mean KX T hmg
    refine' VS.lawAt_of [(?c_law, ?P_law, (PyProof.Rows.envOfC "law" (L2.defScope VS.t_law) 0 0 .none).qual ++ "<lambda>")] (List.forall_mem_cons.mpr ⟨?tab_law, fun _ z => nomatch z⟩) ?top
    (case tab_law => (refine' VS.At.tab (x := "law") (st := VS.t_law) (VS.at_mk ?h1 ?h2 ?h3 ?h4) KX T ?h5 ?h6 ?h7 ?h8; (case h1 => k_is); (case h2 => k_is); (case h3 => k_is); (case h4 => k_is); (case h5 => k_is); (case h6 => rfl); (case h7 => kernel_rfl); (case h8 => kernel_rfl)))
    refine' VS.top_all KX T.g hmg ?a_is_number ?a_is_count ?a_counts_from_one ?a_is_place ?a_is_tuple_of ?a_is_row_for ?a_ascends ?a_is_store ?a_check_store ?a_has_name_form ?a_are_names_by_form ?a__is_one ?a_is_hand_of ?a_is_house_of ?a__has_word ?a__may_hand_write ?a__may_house_write ?a_is_letter ?a__law_begun ?a__law_blended ?a__law_draw ?a__law_pick ?a__law_is_whole ?a__law_ro_letter ?a_Road___init__ ?a_Road_send ?a_Road_waiting ?a_Road_count ?a_Road_letter ?a_law ?a__law_caught ?n_bool ?n_isinstance ?n_int ?n_len ?n_tuple ?n_all ?n_zip ?n_abs ?n_enumerate ?n_min ?n_range ?n_list ?g_GREATEST ?g_MOST_HANDS ?g_MOST_HOUSES ?q_BadLetter ?q_BadNumber ?q_BadStore ?q_BadWho ?q_SeenError ?x_BadLetter ?x_BadNumber ?x_BadStore ?x_BadWho ?og ?s_BadLetter_BadLetter ?s_BadLetter_BadNumber ?s_BadLetter_BadStore ?s_BadLetter_BadWho ?s_BadNumber_BadLetter ?s_BadNumber_BadNumber ?s_BadNumber_BadStore ?s_BadNumber_BadWho ?s_BadStore_BadLetter ?s_BadStore_BadNumber ?s_BadStore_BadStore ?s_BadStore_BadWho ?s_BadWho_BadLetter ?s_BadWho_BadNumber ?s_BadWho_BadStore ?s_BadWho_BadWho ?s__BadLetter ?s__BadNumber ?s__BadStore ?s__BadWho ?u_BadLetter ?u_BadNumber ?u_BadStore ?u_BadWho ?k_Road ?f_Road_store ?f_Road__sent _ _ ?ec_law (List.mem_map.mpr ⟨(_, _, _), List.mem_cons_self, rfl⟩) (List.mem_map.mpr ⟨(_, _, _), List.mem_cons_self, rfl⟩) ?hu_law
    (case k_Road => (refine' ⟨?g1, ?g2, ?g3, ?g4, ?g5, ?g6, ?g7⟩; (case g1 => k_is); (case g2 => k_is); (case g3 => k_is); (case g4 => k_is); (case g5 => k_is); (case g6 => k_is); (case g7 => k_is)))
    (case f_Road_store => (unfold L2.NoAttr; k_is))
    (case f_Road__sent => (unfold L2.NoAttr; k_is))
    (case a_Road___init__ => (refine' VS.atM_mk ?h0 ?h1 ?h2 ?h3 ?h4 ?h5; (case h0 => (refine' ⟨?g1, ?g2, ?g3, ?g4, ?g5, ?g6, ?g7⟩; (case g1 => k_is); (case g2 => k_is); (case g3 => k_is); (case g4 => k_is); (case g5 => k_is); (case g6 => k_is); (case g7 => k_is))); (case h1 => k_is); (case h2 => k_is); (case h3 => k_is); (case h4 => k_is); (case h5 => k_is)))
    (case a_Road_send => (refine' VS.atM_mk ?h0 ?h1 ?h2 ?h3 ?h4 ?h5; (case h0 => (refine' ⟨?g1, ?g2, ?g3, ?g4, ?g5, ?g6, ?g7⟩; (case g1 => k_is); (case g2 => k_is); (case g3 => k_is); (case g4 => k_is); (case g5 => k_is); (case g6 => k_is); (case g7 => k_is))); (case h1 => k_is); (case h2 => k_is); (case h3 => k_is); (case h4 => k_is); (case h5 => k_is)))
    (case a_Road_waiting => (refine' VS.atM_mk ?h0 ?h1 ?h2 ?h3 ?h4 ?h5; (case h0 => (refine' ⟨?g1, ?g2, ?g3, ?g4, ?g5, ?g6, ?g7⟩; (case g1 => k_is); (case g2 => k_is); (case g3 => k_is); (case g4 => k_is); (case g5 => k_is); (case g6 => k_is); (case g7 => k_is))); (case h1 => k_is); (case h2 => k_is); (case h3 => k_is); (case h4 => k_is); (case h5 => k_is)))
    (case a_Road_count => (refine' VS.atM_mk ?h0 ?h1 ?h2 ?h3 ?h4 ?h5; (case h0 => (refine' ⟨?g1, ?g2, ?g3, ?g4, ?g5, ?g6, ?g7⟩; (case g1 => k_is); (case g2 => k_is); (case g3 => k_is); (case g4 => k_is); (case g5 => k_is); (case g6 => k_is); (case g7 => k_is))); (case h1 => k_is); (case h2 => k_is); (case h3 => k_is); (case h4 => k_is); (case h5 => k_is)))
    (case a_Road_letter => (refine' VS.atM_mk ?h0 ?h1 ?h2 ?h3 ?h4 ?h5; (case h0 => (refine' ⟨?g1, ?g2, ?g3, ?g4, ?g5, ?g6, ?g7⟩; (case g1 => k_is); (case g2 => k_is); (case g3 => k_is); (case g4 => k_is); (case g5 => k_is); (case g6 => k_is); (case g7 => k_is))); (case h1 => k_is); (case h2 => k_is); (case h3 => k_is); (case h4 => k_is); (case h5 => k_is)))
    (case a_is_number => (refine' VS.at_mk ?h1 ?h2 ?h3 ?h4; (case h1 => k_is); (case h2 => k_is); (case h3 => k_is); (case h4 => k_is)))
    (case a_is_count => (refine' VS.at_mk ?h1 ?h2 ?h3 ?h4; (case h1 => k_is); (case h2 => k_is); (case h3 => k_is); (case h4 => k_is)))
    (case a_counts_from_one => (refine' VS.at_mk ?h1 ?h2 ?h3 ?h4; (case h1 => k_is); (case h2 => k_is); (case h3 => k_is); (case h4 => k_is)))
    (case a_is_place => (refine' VS.at_mk ?h1 ?h2 ?h3 ?h4; (case h1 => k_is); (case h2 => k_is); (case h3 => k_is); (case h4 => k_is)))
    (case a_is_tuple_of => (refine' VS.at_mk ?h1 ?h2 ?h3 ?h4; (case h1 => k_is); (case h2 => k_is); (case h3 => k_is); (case h4 => k_is)))
    (case a_is_row_for => (refine' VS.at_mk ?h1 ?h2 ?h3 ?h4; (case h1 => k_is); (case h2 => k_is); (case h3 => k_is); (case h4 => k_is)))
    (case a_ascends => (refine' VS.at_mk ?h1 ?h2 ?h3 ?h4; (case h1 => k_is); (case h2 => k_is); (case h3 => k_is); (case h4 => k_is)))
    (case a_is_store => (refine' VS.at_mk ?h1 ?h2 ?h3 ?h4; (case h1 => k_is); (case h2 => k_is); (case h3 => k_is); (case h4 => k_is)))
    (case a_check_store => (refine' VS.at_mk ?h1 ?h2 ?h3 ?h4; (case h1 => k_is); (case h2 => k_is); (case h3 => k_is); (case h4 => k_is)))
    (case a_has_name_form => (refine' VS.at_mk ?h1 ?h2 ?h3 ?h4; (case h1 => k_is); (case h2 => k_is); (case h3 => k_is); (case h4 => k_is)))
    (case a_are_names_by_form => (refine' VS.at_mk ?h1 ?h2 ?h3 ?h4; (case h1 => k_is); (case h2 => k_is); (case h3 => k_is); (case h4 => k_is)))
    (case a__is_one => (refine' VS.at_mk ?h1 ?h2 ?h3 ?h4; (case h1 => k_is); (case h2 => k_is); (case h3 => k_is); (case h4 => k_is)))
    (case a_is_hand_of => (refine' VS.at_mk ?h1 ?h2 ?h3 ?h4; (case h1 => k_is); (case h2 => k_is); (case h3 => k_is); (case h4 => k_is)))
    (case a_is_house_of => (refine' VS.at_mk ?h1 ?h2 ?h3 ?h4; (case h1 => k_is); (case h2 => k_is); (case h3 => k_is); (case h4 => k_is)))
    (case a__has_word => (refine' VS.at_mk ?h1 ?h2 ?h3 ?h4; (case h1 => k_is); (case h2 => k_is); (case h3 => k_is); (case h4 => k_is)))
    (case a__may_hand_write => (refine' VS.at_mk ?h1 ?h2 ?h3 ?h4; (case h1 => k_is); (case h2 => k_is); (case h3 => k_is); (case h4 => k_is)))
    (case a__may_house_write => (refine' VS.at_mk ?h1 ?h2 ?h3 ?h4; (case h1 => k_is); (case h2 => k_is); (case h3 => k_is); (case h4 => k_is)))
    (case a_is_letter => (refine' VS.at_mk ?h1 ?h2 ?h3 ?h4; (case h1 => k_is); (case h2 => k_is); (case h3 => k_is); (case h4 => k_is)))
    (case a__law_begun => (refine' VS.at_mk ?h1 ?h2 ?h3 ?h4; (case h1 => k_is); (case h2 => k_is); (case h3 => k_is); (case h4 => k_is)))
    (case a__law_blended => (refine' VS.at_mk ?h1 ?h2 ?h3 ?h4; (case h1 => k_is); (case h2 => k_is); (case h3 => k_is); (case h4 => k_is)))
    (case a__law_draw => (refine' VS.at_mk ?h1 ?h2 ?h3 ?h4; (case h1 => k_is); (case h2 => k_is); (case h3 => k_is); (case h4 => k_is)))
    (case a__law_pick => (refine' VS.at_mk ?h1 ?h2 ?h3 ?h4; (case h1 => k_is); (case h2 => k_is); (case h3 => k_is); (case h4 => k_is)))
    (case a__law_is_whole => (refine' VS.at_mk ?h1 ?h2 ?h3 ?h4; (case h1 => k_is); (case h2 => k_is); (case h3 => k_is); (case h4 => k_is)))
    (case a__law_ro_letter => (refine' VS.at_mk ?h1 ?h2 ?h3 ?h4; (case h1 => k_is); (case h2 => k_is); (case h3 => k_is); (case h4 => k_is)))
    (case a_law => (refine' VS.at_mk ?h1 ?h2 ?h3 ?h4; (case h1 => k_is); (case h2 => k_is); (case h3 => k_is); (case h4 => k_is)))
    (case a__law_caught => (refine' VS.at_mk ?h1 ?h2 ?h3 ?h4; (case h1 => k_is); (case h2 => k_is); (case h3 => k_is); (case h4 => k_is)))
    (case n_bool => k_is)
    (case n_isinstance => k_is)
    (case n_int => k_is)
    (case n_len => k_is)
    (case n_tuple => k_is)
    (case n_all => k_is)
    (case n_zip => k_is)
    (case n_abs => k_is)
    (case n_enumerate => k_is)
    (case n_min => k_is)
    (case n_range => k_is)
    (case n_list => k_is)
    (case g_GREATEST => k_is)
    (case g_MOST_HANDS => k_is)
    (case g_MOST_HOUSES => k_is)
    (case q_BadLetter => (refine' ⟨?h1, ?h2, ?h3, ?h4, ?h5, ?h6, ?h7, ?h8, ?h9, ?h10, ?h11⟩; (case h1 => k_is); (case h2 => k_is); (case h3 => k_is); (case h4 => k_is); (case h5 => k_is); (case h6 => k_is); (case h7 => k_is); (case h8 => k_is); (case h9 => k_is); (case h10 => k_is); (case h11 => k_is)))
    (case q_BadNumber => (refine' ⟨?h1, ?h2, ?h3, ?h4, ?h5, ?h6, ?h7, ?h8, ?h9, ?h10, ?h11⟩; (case h1 => k_is); (case h2 => k_is); (case h3 => k_is); (case h4 => k_is); (case h5 => k_is); (case h6 => k_is); (case h7 => k_is); (case h8 => k_is); (case h9 => k_is); (case h10 => k_is); (case h11 => k_is)))
    (case q_BadStore => (refine' ⟨?h1, ?h2, ?h3, ?h4, ?h5, ?h6, ?h7, ?h8, ?h9, ?h10, ?h11⟩; (case h1 => k_is); (case h2 => k_is); (case h3 => k_is); (case h4 => k_is); (case h5 => k_is); (case h6 => k_is); (case h7 => k_is); (case h8 => k_is); (case h9 => k_is); (case h10 => k_is); (case h11 => k_is)))
    (case q_BadWho => (refine' ⟨?h1, ?h2, ?h3, ?h4, ?h5, ?h6, ?h7, ?h8, ?h9, ?h10, ?h11⟩; (case h1 => k_is); (case h2 => k_is); (case h3 => k_is); (case h4 => k_is); (case h5 => k_is); (case h6 => k_is); (case h7 => k_is); (case h8 => k_is); (case h9 => k_is); (case h10 => k_is); (case h11 => k_is)))
    (case q_SeenError => (refine' ⟨?h1, ?h2, ?h3, ?h4, ?h5, ?h6, ?h7, ?h8, ?h9, ?h10, ?h11⟩; (case h1 => k_is); (case h2 => k_is); (case h3 => k_is); (case h4 => k_is); (case h5 => k_is); (case h6 => k_is); (case h7 => k_is); (case h8 => k_is); (case h9 => k_is); (case h10 => k_is); (case h11 => k_is)))
    (case x_BadLetter => k_exc)
    (case x_BadNumber => k_exc)
    (case x_BadStore => k_exc)
    (case x_BadWho => k_exc)
    (case og => (refine' ⟨?h1, ?h2⟩; (case h1 => k_is); (case h2 => k_is)))
    (case s_BadLetter_BadLetter => k_is)
    (case s_BadLetter_BadNumber => k_is)
    (case s_BadLetter_BadStore => k_is)
    (case s_BadLetter_BadWho => k_is)
    (case s_BadNumber_BadLetter => k_is)
    (case s_BadNumber_BadNumber => k_is)
    (case s_BadNumber_BadStore => k_is)
    (case s_BadNumber_BadWho => k_is)
    (case s_BadStore_BadLetter => k_is)
    (case s_BadStore_BadNumber => k_is)
    (case s_BadStore_BadStore => k_is)
    (case s_BadStore_BadWho => k_is)
    (case s_BadWho_BadLetter => k_is)
    (case s_BadWho_BadNumber => k_is)
    (case s_BadWho_BadStore => k_is)
    (case s_BadWho_BadWho => k_is)
    (case s__BadLetter => k_is)
    (case s__BadNumber => k_is)
    (case s__BadStore => k_is)
    (case s__BadWho => k_is)
    (case u_BadLetter => k_is)
    (case u_BadNumber => k_is)
    (case u_BadStore => k_is)
    (case u_BadWho => k_is)
    (case ec_law => rfl)
    (case hu_law => (intro p hp; obtain ⟨t, ht, rfl⟩ := List.mem_map.mp hp; simp only [List.mem_cons, List.not_mem_nil, or_false] at ht; rcases ht with rfl <;> first | (intro _; rfl) | (intro e; exact absurd e (by decide))))
