import PyProof.Rows.All
import Wide.All
import OpenK.AllK
import Wide.FinOn
import HandS.ForMost
import HandS.ForExc
import HandS.Flow
import HandS.Style
import HandS.Zip
import HandS.TupAny
import HandS.TupMul
import HandS.Conv
import HandS.IsInst
import HandS.Lambda
import HandS.ExcIs
import HandS.ExcValue
import KE.KDictKeyed
import HandS.Dict
import HandS.WordsDict
import KE.GoesMore
import HandS.Iter
import KE.KDictDisplayH
import HandS.Deep
import HandS.Star
import HandS.TupSets
import PyProof.P3In
import HandS.TryMany
import HandS.SetFor
import HandS.Strs
import KE.LtData
import KE.SortData
import PyProof.TupleOfSeq
import HandS.HeadWalk
import HandS.EndTab
import KE.DataCmp
import HandS.TupLe
import PyProof.NeKinds
import PyProof.FactsAll.dict
import PyProof.ReprRoads
import PyProof.MinMaxWalk
import PyProof.WalksMore
import KE.KRevSl
import KE.SortKeyHeap
import KE.KFromBytes
import KE.KTupSum
import PyProof.WalkInts
import HandS.CallLocal
import PySem.Challenge.RW_seenatonce_k10_rows_below_joined_common
set_option Elab.async false
set_option linter.all false
set_option maxRecDepth 100000
set_option maxHeartbeats 2000000
/-! VS: a value semantics over the layer. -/
namespace VS
open PySem PySem.Spec PyProof.Rows L2

/-- a value with all that it holds; a cell: a list or a dict that may change -/
inductive T where
  | non | bl (b : Bool) | int (i : Int) | str (x : Str) | ty (n : String) | tup (ts : List T) | lst (ts : List T) | frz (ts : List T) | rng (n : Nat) | cell (k : Nat)
  /-- a def or a class of the module, by its name -/
  | glb (x : Str)
  /-- an error: its class, its attributes -/
  | exc (x : Str) (ks : List Str) (ts : List T)
  /-- a dict that stays as it is -/
  | dct (ks : List Key) (ts : List T)
inductive Cell where
  | lst (ts : List T) | dic (kvs : List (Key × T)) | dit (kvs : List (List Key × T))
  /-- a dict whose keys are tuples of tuples -/
  | din (kvs : List (NestedKey × T))
  /-- an instance: its class, its attributes -/
  | obj (x : Str) (ks : List Str) (ts : List T)
abbrev World := List Cell
abbrev Env := List (Option T)
inductive R (α : Type) where
  | ok (a : α) (w : World)
  /-- an error t is raised, where the slots are ρ -/
  | ex (t : T) (ρ : Env) (w : World)
  | no
def R.bind {α β : Type} : R α → (α → World → R β) → R β
  | .ok a w, f => f a w
  | .ex t ρ w, _ => .ex t ρ w
  | .no, _ => .no
theorem bind_ok {α β : Type} {a : α} {w : World} {f : α → World → R β} : (R.ok a w).bind f = f a w := rfl
theorem bind_ex {α β : Type} {t : T} {ρ : Env} {w : World} {f : α → World → R β} : (R.ex t ρ w : R α).bind f = .ex t ρ w := rfl
theorem bind_no {α β : Type} {f : α → World → R β} : (R.no : R α).bind f = .no := rfl

/-- the written part; the tables of code objects, each with the name that its code objects bear -/
abbrev ZT := List (Addr × Str) × PySem.World
abbrev KT := PySem.W.Frag × ZT
/-! ### what a value of the heap stands for -/
/-- what stands at the module's name x -/
def GlbAt (K : PySem.W.Frag) (x : Str) (a : Addr) : Prop := PySem.W.nsIn K mainGlobals x = some (some (.ref a))
theorem GlbAt.inj {K : PySem.W.Frag} {x : Str} {a b : Addr} (h : GlbAt K x a) (h' : GlbAt K x b) : a = b := by
  unfold GlbAt at h h'
  rw [h] at h'
  exact (Value.ref.inj (Option.some.inj (Option.some.inj h')))
/-- an error's object, caught: its class, its dict -/
def ExC (cls : Value) (d : Option Addr) (a : Addr) : HO := .ext fun h => ∃ (oe : Obj) (vs : Array Value), h.get? a = some oe ∧ Zc cls d oe ∧ oe.data = .fields vs
theorem exC_ne {cls : Value} {d : Option Addr} {a : Addr} (ps : Array Value) : ExC cls d a ≠ .tbl ps := fun z => by unfold ExC at z; cases z
theorem exC_ok {P : Program} {w : PySem.World} {H : Hp} {h : Heap} {a : Addr} {cls : Value} {d : Option Addr} {oe : Obj} {vs : Array Value} (e : h.get? a = some oe) (z : Zc cls d oe) (dd : oe.data = .fields vs) : ObjOk P w H h a (ExC cls d a) :=
  ⟨⟨oe, vs, e, z, dd⟩, ⟨oe, e⟩, fun _ _ ⟨o, v, q, r⟩ k => ⟨o, v, k o q, r⟩⟩
/-- a node that stays: its content, apart -/
def NdX (hd φ : List Addr) (H : Hp) (a : Addr) (o : HO) : Prop := H a = some o ∧ a ∉ φ ∧ a ∉ hd
def NdT (hd φ : List Addr) (H : Hp) (a : Addr) (xs : List V) : Prop := H a = some (.tup xs) ∧ a ∉ φ ∧ a ∉ hd
def NdL (hd φ : List Addr) (H : Hp) (a : Addr) (xs : List V) : Prop := H a = some (.lst xs) ∧ a ∉ φ ∧ a ∉ hd
def NdF (K : KT) (hd φ : List Addr) (H : Hp) (a : Addr) (xs : List V) : Prop := (∃ u, H a = some u ∧ (u = .lst xs ∨ ∃ o, u = .frz o (.lst xs)) ∧ a ∉ φ ∧ a ∉ hd) ∨ SqL K.1 (fun _ => none) a xs
mutual
def Rep (K : KT) (hd φ : List Addr) (H : Hp) : T → V → Prop
  | .non, v => v = .non
  | .bl b, v => v = .bl b
  | .int i, v => v = .int i
  | .str x, v => v = .str x
  | .ty n, v => v = .ty n
  | .tup ts, v => ∃ a xs, v = .ref a ∧ NdT hd φ H a xs ∧ Reps K hd φ H ts xs
  | .lst ts, v => ∃ a xs, v = .ref a ∧ NdL hd φ H a xs ∧ Reps K hd φ H ts xs
  | .frz ts, v => ∃ a xs, v = .ref a ∧ NdF K hd φ H a xs ∧ Reps K hd φ H ts xs
  | .rng n, v => ∃ a, v = .ref a ∧ H a = some (.rng 0 n) ∧ a ∉ φ ∧ a ∉ hd
  | .cell k, v => ∃ a, v = .ref a ∧ φ[k]? = some a
  | .glb x, v => ∃ a, v = .ref a ∧ GlbAt K.1 x a
  | .exc x ks ts, v => ∃ a C d, v = .ref a ∧ GlbAt K.1 x C ∧ NdX hd φ H a (ExC (.ref C) d a) ∧
      ((ks = [] ∧ ts = [] ∧ d = none) ∨ ∃ dd vs, d = some dd ∧ (ks ≠ [] ∧ ks.length = ts.length) ∧ NdX hd φ H dd (.xd (ks.zip vs)) ∧ Reps K hd φ H ts vs)
  | .dct ks ts, v => ∃ a vs, v = .ref a ∧ ks.length = ts.length ∧ NdX hd φ H a (.dK (ks.zip vs)) ∧ Reps K hd φ H ts vs
def Reps (K : KT) (hd φ : List Addr) (H : Hp) : List T → List V → Prop
  | [], xs => xs = []
  | t :: ts, xs => ∃ x r, xs = x :: r ∧ Rep K hd φ H t x ∧ Reps K hd φ H ts r
end
section
variable {K : KT} {hd hd' φ φ' : List Addr} {H H' : Hp} {t : T} {v : V} {ts us : List T} {xs ys : List V}
theorem Reps.iff : ∀ {ts : List T} {xs : List V}, Reps K hd φ H ts xs ↔ ts.length = xs.length ∧ ∀ (i : Nat) t x, ts[i]? = some t → xs[i]? = some x → Rep K hd φ H t x
  | [], xs => by
    unfold Reps
    constructor
    · rintro rfl; exact ⟨rfl, fun i t x h => by simp at h⟩
    · rintro ⟨h, _⟩; exact List.eq_nil_of_length_eq_zero h.symm
  | t :: ts, xs => by
    unfold Reps
    constructor
    · rintro ⟨x, r, rfl, h1, h2⟩
      obtain ⟨l, h2⟩ := Reps.iff.mp h2
      refine ⟨by simp [l], fun i u y hu hy => ?_⟩
      cases i with
      | zero => simp at hu hy; subst hu hy; exact h1
      | succ i => exact h2 i u y (by simpa using hu) (by simpa using hy)
    · rintro ⟨l, h⟩
      cases xs with
      | nil => simp at l
      | cons x r =>
        refine ⟨x, r, rfl, h 0 t x rfl rfl, Reps.iff.mpr ⟨by simpa using l, fun i u y hu hy => h (i + 1) u y (by simpa using hu) (by simpa using hy)⟩⟩
theorem Reps.len (h : Reps K hd φ H ts xs) : ts.length = xs.length := (Reps.iff.mp h).1
theorem Reps.at (h : Reps K hd φ H ts xs) {i : Nat} (ht : ts[i]? = some t) : ∃ x, xs[i]? = some x ∧ Rep K hd φ H t x := by
  obtain ⟨l, g⟩ := Reps.iff.mp h
  have hi : i < xs.length := by rw [← l]; exact (List.getElem?_eq_some_iff.mp ht).1
  exact ⟨xs[i], by simp [hi], g i t _ ht (by simp [hi])⟩
theorem Reps.at' (h : Reps K hd φ H ts xs) {i : Nat} {x : V} (hx : xs[i]? = some x) : ∃ t, ts[i]? = some t ∧ Rep K hd φ H t x := by
  obtain ⟨l, g⟩ := Reps.iff.mp h
  have hi : i < ts.length := by rw [l]; exact (List.getElem?_eq_some_iff.mp hx).1
  exact ⟨ts[i], by simp [hi], g i _ x (by simp [hi]) hx⟩
theorem Reps.cons (h1 : Rep K hd φ H t v) (h2 : Reps K hd φ H ts xs) : Reps K hd φ H (t :: ts) (v :: xs) := by unfold Reps; exact ⟨v, xs, rfl, h1, h2⟩
theorem Reps.nil : Reps K hd φ H [] [] := by unfold Reps; rfl
theorem Reps.append (h1 : Reps K hd φ H ts xs) (h2 : Reps K hd φ H us ys) : Reps K hd φ H (ts ++ us) (xs ++ ys) := by
  induction ts generalizing xs with
  | nil => unfold Reps at h1; subst h1; exact h2
  | cons t ts ih =>
    unfold Reps at h1
    obtain ⟨x, r, rfl, a, b⟩ := h1
    exact Reps.cons a (ih b)
theorem Reps.take (h : Reps K hd φ H ts xs) (n : Nat) : Reps K hd φ H (ts.take n) (xs.take n) := by
  obtain ⟨l, g⟩ := Reps.iff.mp h
  refine Reps.iff.mpr ⟨by simp [l], fun i t x h1 h2 => ?_⟩
  rw [List.getElem?_take] at h1 h2
  split at h1
  · rename_i hi
    rw [if_pos hi] at h2
    exact g i t x h1 h2
  · cases h1
theorem Reps.drop (h : Reps K hd φ H ts xs) (n : Nat) : Reps K hd φ H (ts.drop n) (xs.drop n) := by
  obtain ⟨l, g⟩ := Reps.iff.mp h
  refine Reps.iff.mpr ⟨by simp [l], fun i t x h1 h2 => ?_⟩
  rw [List.getElem?_drop] at h1 h2
  exact g _ t x h1 h2
theorem Reps.set (h : Reps K hd φ H ts xs) (r : Rep K hd φ H t v) (n : Nat) : Reps K hd φ H (ts.set n t) (xs.set n v) := by
  obtain ⟨l, g⟩ := Reps.iff.mp h
  refine Reps.iff.mpr ⟨by simp [l], fun i u x h1 h2 => ?_⟩
  rw [List.getElem?_set] at h1 h2
  split at h1
  · rename_i hi
    rw [if_pos hi] at h2
    split at h1
    · rename_i hn
      rw [if_pos (by omega)] at h2
      cases h1; cases h2; exact r
    · cases h1
  · rename_i hi
    rw [if_neg hi] at h2
    exact g i u x h1 h2
theorem Reps.eraseIdx (h : Reps K hd φ H ts xs) (n : Nat) : Reps K hd φ H (ts.eraseIdx n) (xs.eraseIdx n) := by
  rw [List.eraseIdx_eq_take_drop_succ, List.eraseIdx_eq_take_drop_succ]
  exact (h.take n).append (h.drop (n + 1))
theorem Reps.rep (h : Rep K hd φ H t v) (n : Nat) : Reps K hd φ H (List.replicate n t) (List.replicate n v) :=
  Reps.iff.mpr ⟨by simp, fun i u x h1 h2 => by
    rw [List.getElem?_replicate] at h1 h2
    split at h1
    · rename_i hi
      rw [if_pos hi] at h2
      cases h1; cases h2; exact h
    · cases h1⟩
theorem Reps.flat (h : Reps K hd φ H ts xs) : ∀ n : Nat, Reps K hd φ H (List.replicate n ts).flatten (List.replicate n xs).flatten
  | 0 => Reps.nil
  | n + 1 => by
    rw [List.replicate_succ, List.replicate_succ, List.flatten_cons, List.flatten_cons]
    exact h.append (Reps.flat h n)

/-- from one heap to a later one: cells may have come, more may be held apart, tracked objects that are no cells are as they were -/
structure Ext (hd φ : List Addr) (H : Hp) (hd' φ' : List Addr) (H' : Hp) : Prop where
  pre : ∃ more, φ' = φ ++ more ∧ ∀ p ∈ more, Fr0 H p
  held : ∀ a ∈ hd', a ∈ hd ∨ Fr0 H a
  keep : ∀ b o, H b = some o → b ∉ φ → (∀ ps, o ≠ .tbl ps) → H' b = some o
  there : ∀ b o, H b = some o → (∀ ps, o ≠ .tbl ps) → ∃ o', H' b = some o' ∧ ∀ ps, o' ≠ .tbl ps
theorem Ext.refl : Ext hd φ H hd φ H := ⟨⟨[], by simp, fun _ h => by simp at h⟩, fun _ h => .inl h, fun _ _ h _ _ => h, fun _ o h n => ⟨o, h, n⟩⟩
theorem Ext.fresh (e : Ext hd φ H hd' φ' H') {p : Addr} (h : Fr0 H' p) : Fr0 H p := fun o q => by
  cases o with
  | tbl ps => exact ⟨ps, rfl⟩
  | _ =>
    obtain ⟨o', h', n⟩ := e.there p _ q (fun _ z => nomatch z)
    obtain ⟨ps, rfl⟩ := h o' h'
    exact absurd rfl (n ps)
theorem fr0_not {p : Addr} {o : HO} (h : Fr0 H p) (q : H p = some o) (n : ∀ ps, o ≠ .tbl ps) : False := by
  obtain ⟨ps, rfl⟩ := h o q
  exact n ps rfl
theorem Ext.nin (e : Ext hd φ H hd' φ' H') {b : Addr} {o : HO} (h : H b = some o) (hn : b ∉ φ) (ht : ∀ ps, o ≠ .tbl ps) : b ∉ φ' := by
  obtain ⟨m, rfl, n⟩ := e.pre
  rw [List.mem_append]
  rintro (z | z)
  · exact hn z
  · exact fr0_not (n b z) h ht
theorem Ext.nhd (e : Ext hd φ H hd' φ' H') {b : Addr} {o : HO} (h : H b = some o) (hn : b ∉ hd) (ht : ∀ ps, o ≠ .tbl ps) : b ∉ hd' := fun z => by
  rcases e.held b z with z | z
  · exact hn z
  · exact fr0_not z h ht
theorem Ext.trans {hd1 hd2 φ1 φ2 : List Addr} {H1 H2 : Hp} (a : Ext hd φ H hd1 φ1 H1) (b : Ext hd1 φ1 H1 hd2 φ2 H2) : Ext hd φ H hd2 φ2 H2 := by
  refine ⟨?_, fun c hc => ?_, fun c o hc hn ht => b.keep c o (a.keep c o hc hn ht) (a.nin hc hn ht) ht, fun c o hc hn => ?_⟩
  · obtain ⟨m1, e1, n1⟩ := a.pre
    obtain ⟨m2, e2, n2⟩ := b.pre
    refine ⟨m1 ++ m2, by rw [e2, e1, List.append_assoc], fun p hp => ?_⟩
    rcases List.mem_append.mp hp with z | z
    · exact n1 p z
    · exact a.fresh (n2 p z)
  · rcases b.held c hc with z | z
    · exact a.held c z
    · exact .inr (a.fresh z)
  · obtain ⟨o', h', n'⟩ := a.there c o hc hn
    exact b.there c o' h' n'
/-- a new object beside -/
theorem Ext.new {p : Addr} {o : HO} (h : H p = none) : Ext hd φ H hd φ (upd H p o) :=
  ⟨⟨[], by simp, fun _ h => by simp at h⟩, fun _ h => .inl h, fun b u hb _ _ => by rw [upd_ne (ne_of_none hb h)]; exact hb, fun b u hb n => ⟨u, by rw [upd_ne (ne_of_none hb h)]; exact hb, n⟩⟩
/-- a cell is written -/
theorem Ext.write {p : Addr} {o : HO} (h : p ∈ φ) (ho : ∀ ps, o ≠ .tbl ps := by exact fun _ z => nomatch z) : Ext hd φ H hd φ (upd H p o) :=
  ⟨⟨[], by simp, fun _ h => by simp at h⟩, fun _ h => .inl h, fun b u hb hn _ => by rw [upd_ne (fun (e : b = p) => hn (by rw [e]; exact h))]; exact hb, fun b u hb n => by
    by_cases e : b = p
    · subst e; exact ⟨o, upd_same, ho⟩
    · exact ⟨u, by rw [upd_ne e]; exact hb, n⟩⟩
/-- what was made becomes a cell -/
theorem Ext.cell {p : Addr} (e : Ext hd φ H (p :: hd') φ' H') (h : Fr0 H p) : Ext hd φ H hd' (φ' ++ [p]) H' := by
  obtain ⟨m, rfl, n⟩ := e.pre
  exact ⟨⟨m ++ [p], by rw [List.append_assoc], fun q hq => by
    rcases List.mem_append.mp hq with z | z
    · exact n q z
    · rw [List.mem_singleton.mp z]; exact h⟩, fun a ha => e.held a (List.mem_cons_of_mem _ ha), e.keep, e.there⟩
/-- a new object, held apart -/
theorem Ext.hold {p : Addr} {o : HO} (h : H p = none) : Ext hd φ H (p :: hd) φ (upd H p o) :=
  ⟨⟨[], by simp, fun _ h => by simp at h⟩, fun a ha => (List.mem_cons.mp ha).elim (fun e => .inr (by rw [e]; exact fr0_none h)) .inl, (Ext.new (hd := hd) (φ := φ) (o := o) h).keep, (Ext.new (hd := hd) (φ := φ) (o := o) h).there⟩
theorem Ext.free {p : Addr} (e : Ext hd φ H (p :: hd') φ' H') : Ext hd φ H hd' φ' H' := ⟨e.pre, fun a ha => e.held a (List.mem_cons_of_mem _ ha), e.keep, e.there⟩
/-- tables alone have changed -/
theorem Ext.tables (e : LamX.ExtN H H') : Ext hd φ H hd φ H' := ⟨⟨[], by simp, fun _ h => by simp at h⟩, fun _ h => .inl h, fun b o hb _ n => e b o hb n, fun b o hb n => ⟨o, e b o hb n, n⟩⟩

theorem NdX.mono {a : Addr} {o : HO} (e : Ext hd φ H hd' φ' H') (n : ∀ ps, o ≠ .tbl ps) (h : NdX hd φ H a o) : NdX hd' φ' H' a o := ⟨e.keep _ _ h.1 h.2.1 n, e.nin h.1 h.2.1 n, e.nhd h.1 h.2.2 n⟩
theorem NdT.mono {a : Addr} (e : Ext hd φ H hd' φ' H') (h : NdT hd φ H a xs) : NdT hd' φ' H' a xs := ⟨e.keep _ _ h.1 h.2.1 (fun _ z => nomatch z), e.nin h.1 h.2.1 (fun _ z => nomatch z), e.nhd h.1 h.2.2 (fun _ z => nomatch z)⟩
theorem NdL.mono {a : Addr} (e : Ext hd φ H hd' φ' H') (h : NdL hd φ H a xs) : NdL hd' φ' H' a xs := ⟨e.keep _ _ h.1 h.2.1 (fun _ z => nomatch z), e.nin h.1 h.2.1 (fun _ z => nomatch z), e.nhd h.1 h.2.2 (fun _ z => nomatch z)⟩
theorem NdF.mono {a : Addr} (e : Ext hd φ H hd' φ' H') (h : NdF K hd φ H a xs) : NdF K hd' φ' H' a xs := by
  rcases h with ⟨o, h, z, h2, h3⟩ | h
  · have nt : ∀ ps, o ≠ .tbl ps := by rcases z with rfl | ⟨u, rfl⟩ <;> exact fun _ z => nomatch z
    exact .inl ⟨o, e.keep _ _ h h2 nt, z, e.nin h h2 nt, e.nhd h h3 nt⟩
  · exact .inr h
mutual
theorem Rep.mono (e : Ext hd φ H hd' φ' H') : ∀ {t : T} {v : V}, Rep K hd φ H t v → Rep K hd' φ' H' t v
  | .non, _, h => h
  | .bl _, _, h => h
  | .int _, _, h => h
  | .str _, _, h => h
  | .ty _, _, h => h
  | .tup ts, v, h => by
    unfold Rep at h ⊢
    obtain ⟨a, xs, e1, n, r⟩ := h
    exact ⟨a, xs, e1, n.mono e, Reps.mono e r⟩
  | .lst ts, v, h => by
    unfold Rep at h ⊢
    obtain ⟨a, xs, e1, n, r⟩ := h
    exact ⟨a, xs, e1, n.mono e, Reps.mono e r⟩
  | .frz ts, v, h => by
    unfold Rep at h ⊢
    obtain ⟨a, xs, e1, n, r⟩ := h
    exact ⟨a, xs, e1, n.mono e, Reps.mono e r⟩
  | .rng n, v, h => by
    unfold Rep at h ⊢
    obtain ⟨a, e1, h1, h2, h3⟩ := h
    exact ⟨a, e1, e.keep _ _ h1 h2 (fun _ z => nomatch z), e.nin h1 h2 (fun _ z => nomatch z), e.nhd h1 h3 (fun _ z => nomatch z)⟩
  | .cell k, v, h => by
    unfold Rep at h ⊢
    obtain ⟨a, e1, hk⟩ := h
    obtain ⟨m, rfl, _⟩ := e.pre
    exact ⟨a, e1, by rw [List.getElem?_append_left (List.getElem?_eq_some_iff.mp hk).1]; exact hk⟩
  | .glb x, v, h => by unfold Rep at h ⊢; exact h
  | .exc x ks ts, v, h => by
    unfold Rep at h ⊢
    obtain ⟨a, C, d, e1, g, n, q⟩ := h
    refine ⟨a, C, d, e1, g, n.mono e exC_ne, ?_⟩
    rcases q with q | ⟨dd, vs, e2, l, n2, r⟩
    · exact .inl q
    · exact .inr ⟨dd, vs, e2, l, n2.mono e (fun _ z => nomatch z), Reps.mono e r⟩
  | .dct ks ts, v, h => by
    unfold Rep at h ⊢
    obtain ⟨a, vs, e1, l, n, r⟩ := h
    exact ⟨a, vs, e1, l, n.mono e (fun _ z => nomatch z), Reps.mono e r⟩
theorem Reps.mono (e : Ext hd φ H hd' φ' H') : ∀ {ts : List T} {xs : List V}, Reps K hd φ H ts xs → Reps K hd' φ' H' ts xs
  | [], _, h => by unfold Reps at h ⊢; exact h
  | t :: ts, _, h => by
    unfold Reps at h ⊢
    obtain ⟨x, r, e1, a, b⟩ := h
    exact ⟨x, r, e1, Rep.mono e a, Reps.mono e b⟩
end
/-! how what is held apart changes: a node is outside of what is held afterwards -/
mutual
theorem Rep.held (g : ∀ a o, H a = some o → a ∉ φ → a ∉ hd → a ∉ φ' ∧ a ∉ hd') (c : ∀ (k : Nat) (a : Addr), φ[k]? = some a → φ'[k]? = some a) : ∀ {t : T} {v : V}, Rep K hd φ H t v → Rep K hd' φ' H t v
  | .non, _, h => h
  | .bl _, _, h => h
  | .int _, _, h => h
  | .str _, _, h => h
  | .ty _, _, h => h
  | .tup ts, v, h => by
    unfold Rep at h ⊢
    obtain ⟨a, xs, e1, ⟨n1, n2, n3⟩, r⟩ := h
    exact ⟨a, xs, e1, ⟨n1, g a _ n1 n2 n3⟩, Reps.held g c r⟩
  | .lst ts, v, h => by
    unfold Rep at h ⊢
    obtain ⟨a, xs, e1, ⟨n1, n2, n3⟩, r⟩ := h
    exact ⟨a, xs, e1, ⟨n1, g a _ n1 n2 n3⟩, Reps.held g c r⟩
  | .frz ts, v, h => by
    unfold Rep at h ⊢
    obtain ⟨a, xs, e1, n, r⟩ := h
    refine ⟨a, xs, e1, ?_, Reps.held g c r⟩
    rcases n with ⟨o, n1, z, n2, n3⟩ | n
    · exact .inl ⟨o, n1, z, g a _ n1 n2 n3⟩
    · exact .inr n
  | .rng n, v, h => by
    unfold Rep at h ⊢
    obtain ⟨a, e1, h1, h2, h3⟩ := h
    exact ⟨a, e1, h1, g a _ h1 h2 h3⟩
  | .cell k, v, h => by
    unfold Rep at h ⊢
    obtain ⟨a, e1, hk⟩ := h
    exact ⟨a, e1, c k a hk⟩
  | .glb x, v, h => by unfold Rep at h ⊢; exact h
  | .exc x ks ts, v, h => by
    unfold Rep at h ⊢
    obtain ⟨a, C, d, e1, gl, ⟨n1, n2, n3⟩, q⟩ := h
    refine ⟨a, C, d, e1, gl, ⟨n1, g a _ n1 n2 n3⟩, ?_⟩
    rcases q with q | ⟨dd, vs, e2, l, ⟨m1, m2, m3⟩, r⟩
    · exact .inl q
    · exact .inr ⟨dd, vs, e2, l, ⟨m1, g dd _ m1 m2 m3⟩, Reps.held g c r⟩
  | .dct ks ts, v, h => by
    unfold Rep at h ⊢
    obtain ⟨a, vs, e1, l, ⟨n1, n2, n3⟩, r⟩ := h
    exact ⟨a, vs, e1, l, ⟨n1, g a _ n1 n2 n3⟩, Reps.held g c r⟩
theorem Reps.held (g : ∀ a o, H a = some o → a ∉ φ → a ∉ hd → a ∉ φ' ∧ a ∉ hd') (c : ∀ (k : Nat) (a : Addr), φ[k]? = some a → φ'[k]? = some a) : ∀ {ts : List T} {xs : List V}, Reps K hd φ H ts xs → Reps K hd' φ' H ts xs
  | [], _, h => by unfold Reps at h ⊢; exact h
  | t :: ts, _, h => by
    unfold Reps at h ⊢
    obtain ⟨x, r, e1, a, b⟩ := h
    exact ⟨x, r, e1, Rep.held g c a, Reps.held g c b⟩
end

/-! ### dicts with keys of any depth -/
mutual
def nkT : NestedKey → T
  | .none => .non
  | .num i => .int i
  | .text x => .str x
  | .tup ks => .tup (nkTs ks)
def nkTs : List NestedKey → List T
  | [] => []
  | k :: ks => nkT k :: nkTs ks
end
def nEntry (w : PySem.World) (x : NestedKey × Addr × Value) : DictEntry := ⟨x.1.hash w, .ref x.2.1, x.2.2⟩
def NEnt (p : NestedKey × Addr × V) (q : NestedKey × Addr × Value) : Prop := p.1 = q.1 ∧ p.2.1 = q.2.1 ∧ RelV p.2.2 q.2.2
/-- the dict at a: keys, where they stand, values -/
def DinO (w : PySem.World) (a : Addr) (ys : List (NestedKey × Addr × V)) : HO := .ext fun h => (a == sysModules) = false ∧ ys.length ≤ sizeLine ∧ (∀ y ∈ ys, y.1.depth ≤ 8) ∧ ∃ xs : List (NestedKey × Addr × Value), Paired NEnt ys xs ∧
  ∃ o es ep, h.get? a = some o ∧ o.ExactDict ∧ o.data = .dict es ep ∧ es.toList = xs.map (nEntry w) ∧ (xs.map (·.1)).Nodup
theorem dinO_code {w : PySem.World} {a c : Addr} {q : Str} {ys : List (NestedKey × Addr × V)} : DinO w a ys ≠ LamX.CodeO c q := fun e => by
  unfold DinO LamX.CodeO at e
  injection e with e
  have e1 := congrFun e { objs := Array.replicate (c + 1) { cls := .none, data := .fields #[.none, .str q 0] } }
  have g : ∀ b, Heap.get? { objs := Array.replicate (c + 1) { cls := .none, data := .fields #[.none, .str q 0] } } b = if b < c + 1 then some { cls := .none, data := .fields #[.none, .str q 0] } else none := fun b => by
    unfold Heap.get?
    simp only [Array.getElem?_replicate]
    by_cases hb : b < c + 1
    · simp only [hb, if_true]
    · simp only [hb, if_false]
  have e2 : ∃ (oc : Obj) (vs : Array Value) (t : Tok), Heap.get? { objs := Array.replicate (c + 1) { cls := .none, data := .fields #[.none, .str q 0] } } c = some oc ∧ oc.data = .fields vs ∧ vs[1]? = some (.str q t) := ⟨_, _, 0, by rw [g, if_pos (Nat.lt_succ_self _)], rfl, rfl⟩
  obtain ⟨_, _, _, _, _, o, es, ep, h1, _, h2, _⟩ := e1.symm.mp e2
  rw [g] at h1
  split at h1
  · cases h1
    cases h2
  · cases h1
/-! ### the world -/
def CellR (K : KT) (hd φ : List Addr) (H : Hp) : Cell → Addr → Prop
  | .lst ts, a => ∃ xs, H a = some (.lst xs) ∧ Reps K hd φ H ts xs
  | .dic kvs, a => ∃ ys, H a = some (.dK ys) ∧ ys.map (·.1) = kvs.map (·.1) ∧ Reps K hd φ H (kvs.map (·.2)) (ys.map (·.2))
  | .dit kvs, a => ∃ ys, H a = some (.dT ys) ∧ ys.map (·.1) = kvs.map (·.1) ∧ Reps K hd φ H (kvs.map (·.2)) (ys.map (·.2))
  | .din kvs, a => ∃ ys, H a = some (DinO K.2.2 a ys) ∧ ys.map (·.1) = kvs.map (·.1) ∧ Reps K hd φ H (kvs.map (·.2)) (ys.map (·.2.2)) ∧ Reps K hd φ H (nkTs (kvs.map (·.1))) (ys.map fun y => .ref y.2.1)
  | .obj x ks ts, a => ∃ C dx vs, H a = some (.ins C dx (ks.zip vs)) ∧ GlbAt K.1 x C ∧ ks.length = ts.length ∧ NdX hd φ H dx (.own a) ∧ Reps K hd φ H ts vs
structure WR (K : KT) (hd φ : List Addr) (H : Hp) (w : World) : Prop where
  len : φ.length = w.length
  nd : φ.Nodup
  apart : ∀ a ∈ φ, a ∉ hd
  there : ∀ a, a ∈ φ ∨ a ∈ hd → ∃ o, H a = some o ∧ ∀ ps, o ≠ .tbl ps
  cells : ∀ (k : Nat) c a, w[k]? = some c → φ[k]? = some a → CellR K hd φ H c a
  tabs : LamX.Tabs K.2.1 H
theorem CellR.mono {c : Cell} {a : Addr} (e : Ext hd φ H hd' φ' H') (ha : H' a = H a) (h : CellR K hd φ H c a) : CellR K hd' φ' H' c a := by
  cases c with
  | lst ts => obtain ⟨xs, h1, h2⟩ := h; exact ⟨xs, ha.trans h1, h2.mono e⟩
  | dic kvs => obtain ⟨ys, h1, h2, h3⟩ := h; exact ⟨ys, ha.trans h1, h2, h3.mono e⟩
  | dit kvs => obtain ⟨ys, h1, h2, h3⟩ := h; exact ⟨ys, ha.trans h1, h2, h3.mono e⟩
  | din kvs => obtain ⟨ys, h1, h2, h3, h4⟩ := h; exact ⟨ys, ha.trans h1, h2, h3.mono e, h4.mono e⟩
  | obj x ks ts => obtain ⟨C, dx, vs, h1, h2, h3, h4, h5⟩ := h; exact ⟨C, dx, vs, ha.trans h1, h2, h3, h4.mono e (fun _ z => nomatch z), h5.mono e⟩
theorem CellR.held {c : Cell} {a : Addr} (g : ∀ a o, H a = some o → a ∉ φ → a ∉ hd → a ∉ φ' ∧ a ∉ hd') (l : ∀ (k : Nat) (a : Addr), φ[k]? = some a → φ'[k]? = some a) (h : CellR K hd φ H c a) : CellR K hd' φ' H c a := by
  cases c with
  | lst ts => obtain ⟨xs, h1, h2⟩ := h; exact ⟨xs, h1, h2.held g l⟩
  | dic kvs => obtain ⟨ys, h1, h2, h3⟩ := h; exact ⟨ys, h1, h2, h3.held g l⟩
  | dit kvs => obtain ⟨ys, h1, h2, h3⟩ := h; exact ⟨ys, h1, h2, h3.held g l⟩
  | din kvs => obtain ⟨ys, h1, h2, h3, h4⟩ := h; exact ⟨ys, h1, h2, h3.held g l, h4.held g l⟩
  | obj x ks ts => obtain ⟨C, dx, vs, h1, h2, h3, ⟨n1, n2, n3⟩, h5⟩ := h; exact ⟨C, dx, vs, h1, h2, h3, ⟨n1, g dx _ n1 n2 n3⟩, h5.held g l⟩
/-- what no table is -/
def Plain : HO → Prop
  | .tbl _ => False
  | .ext φ => ∀ c q, HO.ext φ ≠ LamX.CodeO c q
  | _ => True
theorem CellR.plain {c : Cell} {a : Addr} (h : CellR K hd φ H c a) : ∃ o, H a = some o ∧ Plain o := by
  cases c with
  | lst ts => obtain ⟨xs, h1, _⟩ := h; exact ⟨_, h1, trivial⟩
  | dic kvs => obtain ⟨ys, h1, _⟩ := h; exact ⟨_, h1, trivial⟩
  | dit kvs => obtain ⟨ys, h1, _⟩ := h; exact ⟨_, h1, trivial⟩
  | din kvs => obtain ⟨ys, h1, _⟩ := h; exact ⟨_, h1, fun c q => dinO_code⟩
  | obj x ks ts => obtain ⟨C, dx, vs, h1, _⟩ := h; exact ⟨_, h1, trivial⟩
/-- tables stay where a plain thing is written -/
theorem tabs_upd {Z : List (Addr × Str)} {p : Addr} {o : HO} (t : LamX.Tabs Z H) (h : ∀ u, H p = some u → Plain u) : LamX.Tabs Z (upd H p o) := fun q hq => by
  obtain ⟨ps, h1, h2, h3⟩ := t q hq
  have ne : ∀ b u, H b = some u → ¬ Plain u → b ≠ p := fun b u e n z => by subst z; exact n (h u e)
  refine ⟨ps, by rw [upd_ne (ne _ _ h1 (fun z => z))]; exact h1, h2, fun pos cv hc => ?_⟩
  obtain ⟨c, e1, e2⟩ := h3 pos cv hc
  exact ⟨c, e1, by rw [upd_ne (ne _ _ e2 (fun z => z _ _ rfl))]; exact e2⟩
theorem tabs_new {Z : List (Addr × Str)} {p : Addr} {o : HO} (t : LamX.Tabs Z H) (h : H p = none) : LamX.Tabs Z (upd H p o) := tabs_upd t fun u e => by rw [h] at e; cases e
theorem WR.plain {w : World} {k : Nat} {a : Addr} (h : WR K hd φ H w) (hk : φ[k]? = some a) : ∃ o, H a = some o ∧ Plain o := by
  have hl := (List.getElem?_eq_some_iff.mp hk).1
  rw [h.len] at hl
  exact (h.cells k w[k] a (by simp [hl]) hk).plain
variable {w w' : World} {p : Addr} {o : HO}
theorem WR.nin0 (h : WR K hd φ H w) (n : Fr0 H p) : p ∉ φ ∧ p ∉ hd := by
  constructor <;> intro z
  · obtain ⟨o, e, t⟩ := h.there p (.inl z); exact fr0_not n e t
  · obtain ⟨o, e, t⟩ := h.there p (.inr z); exact fr0_not n e t
theorem WR.nin (h : WR K hd φ H w) (n : H p = none) : p ∉ φ ∧ p ∉ hd := h.nin0 (fr0_none n)
theorem WR.new (h : WR K hd φ H w) (n : H p = none) : WR K hd φ (upd H p o) w := by
  refine ⟨h.len, h.nd, h.apart, fun a ha => ?_, fun k c a h1 h2 => (h.cells k c a h1 h2).mono (Ext.new n) ?_, tabs_new h.tabs n⟩
  · obtain ⟨u, e, t⟩ := h.there a ha
    exact (Ext.new (hd := hd) (φ := φ) n).there a u e t
  · rw [upd_ne]
    rintro rfl
    exact (h.nin n).1 (List.mem_of_getElem? h2)
/-- p is held apart from now on: nothing refers to it -/
theorem WR.hold (h : WR K hd φ H w) (n : H p = none) (ho : ∀ ps, o ≠ .tbl ps := by exact fun _ z => nomatch z) : WR K (p :: hd) φ (upd H p o) w := by
  refine ⟨h.len, h.nd, fun a ha => ?_, fun a ha => ?_, fun k c a h1 h2 => (h.cells k c a h1 h2).mono (Ext.hold n) ?_, tabs_new h.tabs n⟩
  · rw [List.mem_cons]
    rintro (rfl | z)
    · exact (h.nin n).1 ha
    · exact h.apart a ha z
  · rw [List.mem_cons] at ha
    by_cases e : a = p
    · subst e; exact ⟨o, upd_same, ho⟩
    · obtain ⟨u, q, t⟩ := h.there a (by rcases ha with z | z | z; exact .inl z; exact absurd z e; exact .inr z)
      exact ⟨u, by rw [upd_ne e]; exact q, t⟩
  · rw [upd_ne]
    rintro rfl
    exact (h.nin n).1 (List.mem_of_getElem? h2)
/-- p is not held any more -/
theorem Rep.free (h : Rep K (p :: hd) φ H t v) : Rep K hd φ H t v := h.held (fun _ _ _ h1 h2 => ⟨h1, fun z => h2 (List.mem_cons_of_mem _ z)⟩) fun _ _ z => z
theorem Reps.free (h : Reps K (p :: hd) φ H ts xs) : Reps K hd φ H ts xs := h.held (fun _ _ _ h1 h2 => ⟨h1, fun z => h2 (List.mem_cons_of_mem _ z)⟩) fun _ _ z => z
theorem WR.free (h : WR K (p :: hd) φ H w) : WR K hd φ H w :=
  ⟨h.len, h.nd, fun a ha z => h.apart a ha (List.mem_cons_of_mem _ z), fun a ha => h.there a (ha.imp id (List.mem_cons_of_mem _)), fun k c a h1 h2 => (h.cells k c a h1 h2).held (fun _ _ _ h1 h2 => ⟨h1, fun z => h2 (List.mem_cons_of_mem _ z)⟩) fun _ _ z => z, h.tabs⟩
/-- what is held becomes a cell -/
theorem cell_g : ∀ a o, H a = some o → a ∉ φ → a ∉ p :: hd → a ∉ φ ++ [p] ∧ a ∉ hd := fun a o _ h1 h2 => by
  rw [List.mem_append, List.mem_singleton, List.mem_cons] at *
  exact ⟨fun z => z.elim h1 fun e => h2 (.inl e), fun z => h2 (.inr z)⟩
theorem cell_l : ∀ (k : Nat) (a : Addr), φ[k]? = some a → (φ ++ [p])[k]? = some a := fun k a h => by
  rw [List.getElem?_append_left (List.getElem?_eq_some_iff.mp h).1]; exact h
theorem Rep.cell (h : Rep K (p :: hd) φ H t v) : Rep K hd (φ ++ [p]) H t v := h.held cell_g cell_l
theorem Reps.cell (h : Reps K (p :: hd) φ H ts xs) : Reps K hd (φ ++ [p]) H ts xs := h.held cell_g cell_l
theorem WR.cell {c : Cell} (h : WR K (p :: hd) φ H w) (hp : p ∉ hd) (hc : CellR K (p :: hd) φ H c p) : WR K hd (φ ++ [p]) H (w ++ [c]) := by
  have np : p ∉ φ := fun z => h.apart p z List.mem_cons_self
  refine ⟨by simp [h.len], ?_, fun a ha => ?_, fun a ha => ?_, fun k c' a h1 h2 => ?_, h.tabs⟩
  · rw [List.nodup_append]
    exact ⟨h.nd, by simp, fun a ha b hb => by rw [List.mem_singleton.mp hb]; rintro rfl; exact np ha⟩
  · rcases List.mem_append.mp ha with z | z
    · exact fun q => h.apart a z (List.mem_cons_of_mem _ q)
    · rw [List.mem_singleton.mp z]; exact hp
  · refine h.there a ?_
    rcases ha with z | z
    · rcases List.mem_append.mp z with z | z
      · exact .inl z
      · exact .inr (by rw [List.mem_singleton.mp z]; exact List.mem_cons_self)
    · exact .inr (List.mem_cons_of_mem _ z)
  · by_cases hk : k < w.length
    · rw [List.getElem?_append_left hk] at h1
      rw [List.getElem?_append_left (by rw [h.len]; exact hk)] at h2
      exact (h.cells k c' a h1 h2).held cell_g cell_l
    · have e : k = w.length := by
        have := (List.getElem?_eq_some_iff.mp h1).1
        simp at this; omega
      subst e
      rw [List.getElem?_append_right (Nat.le_refl _)] at h1
      rw [List.getElem?_append_right (by rw [h.len]; exact Nat.le_refl _)] at h2
      simp [h.len] at h1 h2
      subst h1 h2
      exact hc.held cell_g cell_l
/-- a cell is written -/
theorem WR.write {k : Nat} {a : Addr} {c : Cell} (h : WR K hd φ H w) (hk : φ[k]? = some a) (hc : CellR K hd φ (upd H a o) c a) (ho : ∀ ps, o ≠ .tbl ps := by exact fun _ z => nomatch z) : WR K hd φ (upd H a o) (w.set k c) := by
  have ha : a ∈ φ := List.mem_of_getElem? hk
  refine ⟨by simp [h.len], h.nd, h.apart, fun b hb => ?_, fun j c' b h1 h2 => ?_, tabs_upd h.tabs fun u e => ?_⟩
  · obtain ⟨u, e, t⟩ := h.there b hb
    exact (Ext.write (hd := hd) (φ := φ) ha ho).there b u e t
  · rw [List.getElem?_set] at h1
    split at h1
    · rename_i e
      subst e
      rw [hk] at h2; cases h2
      split at h1
      · cases h1; exact hc
      · cases h1
    · rename_i e
      refine (h.cells j c' b h1 h2).mono (Ext.write ha ho) ?_
      rw [upd_ne]
      rintro rfl
      have j1 := (List.getElem?_eq_some_iff.mp hk)
      have j2 := (List.getElem?_eq_some_iff.mp h2)
      obtain ⟨l1, e1⟩ := j1
      obtain ⟨l2, e2⟩ := j2
      exact e ((List.getElem_inj h.nd).mp (e1.trans e2.symm))
  · obtain ⟨v, e', hp⟩ := h.plain hk
    rw [e] at e'
    cases e'
    exact hp
/-- tables alone have changed -/
theorem WR.tables (h : WR K hd φ H w) (e : LamX.ExtN H H') (t : LamX.Tabs K.2.1 H') : WR K hd φ H' w := by
  refine ⟨h.len, h.nd, h.apart, fun a ha => ?_, fun k c a h1 h2 => ?_, t⟩
  · obtain ⟨o, q, n⟩ := h.there a ha
    exact ⟨o, e a o q n, n⟩
  · obtain ⟨o, q, n⟩ := h.there a (.inl (List.mem_of_getElem? h2))
    exact (h.cells k c a h1 h2).mono (Ext.tables e) ((e a o q n).trans q.symm)
end
end VS

set_option Elab.async false
set_option linter.all false
set_option maxRecDepth 100000
set_option maxHeartbeats 2000000
namespace VS
open PySem PySem.Spec PyProof.Rows L2

structure SR (K : KT) (hd φ : List Addr) (H : Hp) (σ : L2.St) (ρ : Env) : Prop where
  len : σ.length = ρ.length
  get : ∀ (i : Nat) t, ρ[i]? = some (some t) → ∃ v, σ[i]? = some (some v) ∧ Rep K hd φ H t v
section
variable {K : KT} {hd hd' φ φ' : List Addr} {H H' : Hp} {σ : L2.St} {ρ : Env} {t : T} {v : V}
theorem SR.mono (h : SR K hd φ H σ ρ) (e : Ext hd φ H hd' φ' H') : SR K hd' φ' H' σ ρ := ⟨h.len, fun i t ht => by
  obtain ⟨v, h1, h2⟩ := h.get i t ht
  exact ⟨v, h1, h2.mono e⟩⟩
theorem SR.set (h : SR K hd φ H σ ρ) (r : Rep K hd φ H t v) (i : Nat) : SR K hd φ H (σ.set i (some v)) (ρ.set i (some t)) := ⟨by simp [h.len], fun j u hu => by
  rw [List.getElem?_set] at hu
  split at hu
  · rename_i e
    subst e
    split at hu
    · rename_i hi
      cases hu
      exact ⟨v, by rw [List.getElem?_set_self (by rw [h.len]; exact hi)], r⟩
    · cases hu
  · rename_i e
    obtain ⟨x, h1, h2⟩ := h.get j u hu
    exact ⟨x, by rw [List.getElem?_set_ne e]; exact h1, h2⟩⟩
theorem SR.start (h : Reps K hd φ H ts xs) (n : Nat) : SR K hd φ H (xs.map some ++ List.replicate n none) (ts.map some ++ List.replicate n none) := ⟨by simp [h.len], fun i t ht => by
  have hl := h.len
  by_cases hi : i < ts.length
  · rw [List.getElem?_append_left (by simpa using hi)] at ht
    rw [List.getElem?_map, List.getElem?_eq_getElem hi] at ht
    have e : ts[i] = t := by simpa using ht
    obtain ⟨x, h1, h2⟩ := h.at (i := i) (t := t) (by rw [List.getElem?_eq_getElem hi, e])
    refine ⟨x, ?_, h2⟩
    rw [List.getElem?_append_left (by simp; omega), List.getElem?_map, h1]
    rfl
  · rw [List.getElem?_append_right (by simp; omega), List.getElem?_replicate] at ht
    split at ht <;> simp at ht⟩
end

/-! ### what an expression is worth: its reading by a function -/
abbrev ME := Env → World → R T
abbrev MF := Env → World → R (List T)
abbrev MT := Env → World → R Bool
/-- an error in flight, as its class and its dict are told -/
def RepX (K : KT) (hd φ : List Addr) (H : Hp) (t : T) (cls : Value) (d : Option Addr) : Prop :=
  ∃ x ks ts C, t = .exc x ks ts ∧ cls = .ref C ∧ GlbAt K.1 x C ∧ ((ks = [] ∧ ts = [] ∧ d = none) ∨ ∃ dd vs, d = some dd ∧ (ks ≠ [] ∧ ks.length = ts.length) ∧ NdX hd φ H dd (.xd (ks.zip vs)) ∧ Reps K hd φ H ts vs)
/-- behind a run that an error ends: what is wished of it, where it is wished -/
def PstX (K : KT) (W : Option WX) (hd φ : List Addr) (H : Hp) (t : T) (ρ : Env) (w' : World) : Prop := match W with
  | none => False
  | some W => ∀ H' φ' σ', Ext hd φ H hd φ' H' → WR K hd φ' H' w' → SR K hd φ' H' σ' ρ → ∀ cls d, RepX K hd φ' H' t cls d → W cls d σ' H'
theorem PstX.mono {K : KT} {W : Option WX} {hd φ φ1 : List Addr} {H H1 : Hp} {t : T} {ρ : Env} {w : World} (e : Ext hd φ H hd φ1 H1) (p : PstX K W hd φ H t ρ w) : PstX K W hd φ1 H1 t ρ w := by
  cases W with
  | none => exact p
  | some W => intro H' φ' σ' e' wr sr; exact p H' φ' σ' (e.trans e') wr sr
/-- behind a run that ends as r says -/
def Pst {α : Type} (K : KT) (W : Option WX) (hd : List Addr) (C : α → List Addr → Hp → Prop) (φ : List Addr) (H : Hp) : R α → Prop
  | .ok d w' => ∀ H' φ', Ext hd φ H hd φ' H' → WR K hd φ' H' w' → C d φ' H'
  | .ex t ρ w' => PstX K W hd φ H t ρ w'
  | .no => False
/-- a new list, that nothing refers to -/
def PstF (K : KT) (W : Option WX) (hd : List Addr) (Q : VK) (φ : List Addr) (H : Hp) : R (List T) → Prop
  | .ok ds w' => ∀ p xs H' φ', Ext hd φ H (p :: hd) φ' H' → WR K (p :: hd) φ' H' w' → Fr0 H p → p ∉ hd → H' p = some (.lst xs) → Reps K (p :: hd) φ' H' ds xs → Q (.ref p) H'
  | .ex t ρ w' => PstX K W hd φ H t ρ w'
  | .no => False
structure IsPst {α : Type} (K : KT) (W : Option WX) (hd : List Addr) (P : List Addr → Hp → R α → Prop) : Prop where
  mono : ∀ φ H φ1 H1 r, Ext hd φ H hd φ1 H1 → P φ H r → P φ1 H1 r
  no : ∀ φ H, ¬ P φ H .no
  ex : ∀ φ H t ρ w, P φ H (.ex t ρ w) → PstX K W hd φ H t ρ w
theorem isPst {α : Type} {K : KT} {W : Option WX} {hd : List Addr} {C : α → List Addr → Hp → Prop} : IsPst K W hd (Pst K W hd C) where
  mono := fun φ H φ1 H1 r e p => by
    cases r with
    | no => exact p
    | ex t ρ w => exact PstX.mono e p
    | ok d w => intro H' φ' e' wr; exact p H' φ' (e.trans e') wr
  no := fun _ _ h => h
  ex := fun _ _ _ _ _ h => h
theorem isPstF {K : KT} {W : Option WX} {hd : List Addr} {Q : VK} : IsPst K W hd (PstF K W hd Q) where
  mono := fun φ H φ1 H1 r e p => by
    cases r with
    | no => exact p
    | ex t ρ w => exact PstX.mono e p
    | ok d w => intro q xs H' φ' e' wr hn hq hx rs; exact p q xs H' φ' (e.trans e') wr (e.fresh hn) hq hx rs
  no := fun _ _ h => h
  ex := fun _ _ _ _ _ h => h
/-- r, then f -/
theorem Pst.then {α β : Type} {K : KT} {W : Option WX} {hd φ : List Addr} {H : Hp} {C : α → List Addr → Hp → Prop} {P : List Addr → Hp → R β → Prop} {r : R α} {f : α → World → R β} (ip : IsPst K W hd P) (p : P φ H (r.bind f))
    (h : ∀ d w1 φ1 H1, Ext hd φ H hd φ1 H1 → WR K hd φ1 H1 w1 → P φ1 H1 (f d w1) → C d φ1 H1) : Pst K W hd C φ H r := by
  cases r with
  | no => exact (ip.no _ _ p).elim
  | ex t ρ w => exact ip.ex _ _ _ _ _ p
  | ok d w => intro H1 φ1 e wr; exact h d w φ1 H1 e wr (ip.mono _ _ _ _ _ e p)
/-- r as it ends -/
theorem Pst.imp {α : Type} {K : KT} {W : Option WX} {hd φ : List Addr} {H : Hp} {C C' : α → List Addr → Hp → Prop} {r : R α} (p : Pst K W hd C φ H r) (h : ∀ d φ1 H1, Ext hd φ H hd φ1 H1 → C d φ1 H1 → C' d φ1 H1) : Pst K W hd C' φ H r := by
  cases r with
  | no => exact p
  | ex t ρ w => exact p
  | ok d w => intro H1 φ1 e wr; exact h d φ1 H1 e (p H1 φ1 e wr)
theorem Pst.ok {α : Type} {K : KT} {W : Option WX} {hd φ : List Addr} {H : Hp} {C : α → List Addr → Hp → Prop} {d : α} {w : World} (p : Pst K W hd C φ H (.ok d w)) (wr : WR K hd φ H w) : C d φ H := p H φ Ext.refl wr

abbrev CE (K : KT) (hd : List Addr) (Q : VK) : T → List Addr → Hp → Prop := fun d φ' H' => ∀ v, Rep K hd φ' H' d v → Q v H'
abbrev CA (K : KT) (hd : List Addr) (Q : List V → Hp → Prop) : List T → List Addr → Hp → Prop := fun d φ' H' => ∀ v, Reps K hd φ' H' d v → Q v H'
abbrev CT (Q : Bool → Hp → Prop) : Bool → List Addr → Hp → Prop := fun d _ H' => Q d H'
def rdE (K : KT) (W : Option WX) (m : ME) : TE := fun σ H Q => ∃ hd φ ρ w, SR K hd φ H σ ρ ∧ WR K hd φ H w ∧ Pst K W hd (CE K hd Q) φ H (m ρ w)
def rdA (K : KT) (W : Option WX) (m : MF) : TA := fun σ H Q => ∃ hd φ ρ w, SR K hd φ H σ ρ ∧ WR K hd φ H w ∧ Pst K W hd (CA K hd Q) φ H (m ρ w)
def rdT (K : KT) (W : Option WX) (m : MT) : TT := fun σ H Q => ∃ hd φ ρ w, SR K hd φ H σ ρ ∧ WR K hd φ H w ∧ Pst K W hd (CT Q) φ H (m ρ w)
def rdF (K : KT) (W : Option WX) (m : MF) : TE := fun σ H Q => ∃ hd φ ρ w, SR K hd φ H σ ρ ∧ WR K hd φ H w ∧ PstF K W hd Q φ H (m ρ w)
section
variable {X : Cx} {e a b c : Expr} {pos : Pos} {Z : ZT} {W : Option WX}
theorem PE_imp {t t' : TE} (h : PE X e t) (i : ∀ σ H Q, t' σ H Q → t σ H Q) : PE X e t' := ⟨fun pins s σ H Q I q => h.run pins s σ H Q I (i σ H Q q)⟩
theorem PT_imp {t t' : TT} (h : PT X e t) (i : ∀ σ H Q, t' σ H Q → t σ H Q) : PT X e t' := ⟨fun pins s σ H Q I q => h.run pins s σ H Q I (i σ H Q q)⟩
theorem PW_imp {t t' : TT} (h : PW X e t) (i : ∀ σ H Q, t' σ H Q → t σ H Q) : PW X e t' := ⟨fun wh pins s σ H Q I q => h.run wh pins s σ H Q I (i σ H Q q)⟩
theorem PA_imp {es : List Expr} {t t' : TA} (h : PA X es t) (i : ∀ σ H Q, t' σ H Q → t σ H Q) : PA X es t' := ⟨fun po pins s σ H Q I q => h.run po pins s σ H Q I (i σ H Q q)⟩
theorem PS_imp {st : Stmt} {t t' : TS} (h : PS X st t) (i : ∀ D σ H, t' D σ H → t D σ H) : PS X st t' := ⟨fun pins s σ H D I q => h.run pins s σ H D I (i D σ H q)⟩
theorem PSs_imp {st : List Stmt} {t t' : TS} (h : PSs X st t) (i : ∀ D σ H, t' D σ H → t D σ H) : PSs X st t' := ⟨fun pins s σ H D I q => h.run pins s σ H D I (i D σ H q)⟩

/-! ### names, constants -/
def mVar (i : Nat) : ME := fun ρ w => match ρ[i]? with
  | some (some t) => .ok t w
  | _ => .no
def mC (t : T) : ME := fun _ w => .ok t w
theorem de_var (i : Nat) {x : Str} (hN : X.N[i]? = some x := by rfl) (hv : Vis X.env.scope x := by first | exact Or.inl rfl | exact Or.inr (Or.inl rfl) | exact Or.inr (Or.inr rfl)) (hd : (x == ("__debug__" : Str)) = false := by decide)
    (hcd : (x == ("__classdict__" : Str)) = false := by decide) : PE X (.Name x pos) (rdE (X.K, Z) W (mVar i)) := PE_imp (pe_var hN hv hd hcd) fun σ H Q => by
  rintro ⟨hd, φ, ρ, w, sr, wr, p⟩
  unfold mVar at p
  split at p
  · rename_i t ht
    obtain ⟨v, h1, h2⟩ := sr.get i t ht
    exact ⟨v, h1, p.ok wr v h2⟩
  · exact p.elim
theorem de_int {i : Int} {j : Nat} : PE X (.Constant (.int i) j pos) (rdE (X.K, Z) W (mC (.int i))) := PE_imp pe_int fun σ H Q => by
  rintro ⟨hd, φ, ρ, w, sr, wr, p⟩; exact p.ok wr _ (by unfold Rep; rfl)
theorem de_bl {b : Bool} {j : Nat} : PE X (.Constant (.bool b) j pos) (rdE (X.K, Z) W (mC (.bl b))) := PE_imp pe_bl fun σ H Q => by
  rintro ⟨hd, φ, ρ, w, sr, wr, p⟩; exact p.ok wr _ (by unfold Rep; rfl)
theorem de_non {j : Nat} : PE X (.Constant .none j pos) (rdE (X.K, Z) W (mC .non)) := PE_imp pe_non fun σ H Q => by
  rintro ⟨hd, φ, ρ, w, sr, wr, p⟩; exact p.ok wr _ (by unfold Rep; rfl)
theorem de_str {x : Str} {j : Nat} : PE X (.Constant (.str x) j pos) (rdE (X.K, Z) W (mC (.str x))) := PE_imp pe_str fun σ H Q => by
  rintro ⟨hd, φ, ρ, w, sr, wr, p⟩; exact p.ok wr _ (by unfold Rep; rfl)
/-- a constant of the module that is an int -/
theorem de_gint {x : Str} {i : Int} {u : Value} (hm : X.mg x = some u) (r : RelV (.int i) u) (hg : Gl X x := by rfl) (hd : (x == ("__debug__" : Str)) = false := by decide) : PE X (.Name x pos) (rdE (X.K, Z) W (mC (.int i))) := PE_imp (pe_glob hg hm r hd) fun σ H Q => by
  rintro ⟨hd, φ, ρ, w, sr, wr, p⟩; exact p.ok wr _ (by unfold Rep; rfl)
/-- a built-in type by its name -/
theorem de_gty {x : Str} {n : String} (hm : X.mg x = none) (hv : bootBuiltins x = some (.type n)) (hg : Gl X x := by rfl) (hn : x ≠ "__name__" := by decide) (hd : (x == ("__debug__" : Str)) = false := by decide) : PE X (.Name x pos) (rdE (X.K, Z) W (mC (.ty n))) := PE_imp (pe_bltn hg hm hv (v := .ty n) rfl hn hd) fun σ H Q => by
  rintro ⟨hd, φ, ρ, w, sr, wr, p⟩; exact p.ok wr _ (by unfold Rep; rfl)

/-! ### operators: by what they do to values -/
abbrev S2 := T → T → World → R T
def mOp2 (s : S2) (a b : ME) : ME := fun ρ w => (a ρ w).bind fun x w1 => (b ρ w1).bind fun y w2 => s x y w2
/-- what r asks is what s gives -/
def Op2 (K : KT) (s : S2) (r : R2) : Prop := ∀ (W : Option WX) hd φ H w dx dy x y Q, WR K hd φ H w → Rep K hd φ H dx x → Rep K hd φ H dy y → Pst K W hd (CE K hd Q) φ H (s dx dy w) → r x y H Q
theorem Op2.read {K : KT} {W : Option WX} {s : S2} {r : R2} (hs : Op2 K s r) {a b : ME} : ∀ σ H Q, rdE K W (mOp2 s a b) σ H Q → tOp r (rdE K W a) (rdE K W b) σ H Q := fun σ H Q => by
  rintro ⟨hd, φ, ρ, w, sr, wr, p⟩
  refine ⟨hd, φ, ρ, w, sr, wr, Pst.then isPst p fun dx w1 φ1 H1 e1 wr1 p1 x rx => ?_⟩
  refine ⟨hd, φ1, ρ, w1, sr.mono e1, wr1, Pst.then isPst p1 fun dy w2 φ2 H2 e2 wr2 p2 y ry => ?_⟩
  exact hs W hd φ2 H2 w2 dx dy x y Q wr2 (rx.mono e2) ry p2
theorem de_op {op : Operator} {r : R2} {s : S2} {ma mb : ME} (ho : OpR X (binaryOp op) r) (hs : Op2 (X.K, Z) s r) (ha : PE X a (rdE (X.K, Z) W ma)) (hb : PE X b (rdE (X.K, Z) W mb)) : PE X (.BinOp a op b pos) (rdE (X.K, Z) W (mOp2 s ma mb)) := PE_imp (pe_op ho ha hb) hs.read
theorem de_cmp {op : CmpOp} {r : R2} {s : S2} {ma mb : ME} (ho : OpR X (compareOp op) r) (hs : Op2 (X.K, Z) s r) (ha : PE X a (rdE (X.K, Z) W ma)) (hb : PE X b (rdE (X.K, Z) W mb)) (hm : behindInMarks op b = false) : PE X (.Compare a [op] [b] pos) (rdE (X.K, Z) W (mOp2 s ma mb)) := PE_imp (pe_cmpR ho ha hb hm) hs.read
theorem de_ix {r : R2} {s : S2} {ma mb : ME} (ho : IxR X r) (hs : Op2 (X.K, Z) s r) (ha : PE X a (rdE (X.K, Z) W ma)) (hb : PE X b (rdE (X.K, Z) W mb)) (hp : PlainIx b := by exact fun _ _ => rfl) : PE X (.Subscript a b pos) (rdE (X.K, Z) W (mOp2 s ma mb)) := PE_imp (pe_ix ho ha hb hp) hs.read
abbrev S1 := T → World → R T
def mOp1 (s : S1) (a : ME) : ME := fun ρ w => (a ρ w).bind s
def Op1 (K : KT) (s : S1) (r : V → Hp → VK → Prop) : Prop := ∀ (W : Option WX) hd φ H w dx x Q, WR K hd φ H w → Rep K hd φ H dx x → Pst K W hd (CE K hd Q) φ H (s dx w) → r x H Q
theorem de_un {op : UnaryOp} {r : V → Hp → VK → Prop} {s : S1} {ma : ME} (ho : UnR X (unaryOp op) r) (hs : Op1 (X.K, Z) s r) (ha : PE X a (rdE (X.K, Z) W ma)) : PE X (.UnaryOp op a pos) (rdE (X.K, Z) W (mOp1 s ma)) := PE_imp (pe_un ho ha) fun σ H Q => by
  rintro ⟨hd, φ, ρ, w, sr, wr, p⟩
  exact ⟨hd, φ, ρ, w, sr, wr, Pst.then isPst p fun dx w1 φ1 H1 e1 wr1 p1 x rx => hs W hd φ1 H1 w1 dx x Q wr1 rx p1⟩

/-! ### tests -/
/-- a value that is a bool -/
def asB : R T → R Bool := fun r => r.bind fun d w => match d with
  | .bl b => .ok b w
  | _ => .no
def toB : T → World → R Bool := fun d w => match d with
  | .bl b => .ok b w
  | _ => .no
theorem asB_bind {β : Type} {r : R T} {f : Bool → World → R β} : (asB r).bind f = r.bind fun d w => (toB d w).bind f := by cases r <;> rfl
def mTest (m : ME) : MT := fun ρ w => asB (m ρ w)
theorem test_read {K : KT} {W : Option WX} {m : ME} : ∀ σ H Q, rdT K W (mTest m) σ H Q → tTest (rdE K W m) σ H Q := fun σ H Q => by
  rintro ⟨hd, φ, ρ, w, sr, wr, p⟩
  refine ⟨hd, φ, ρ, w, sr, wr, Pst.then isPst p fun d w1 φ1 H1 e1 wr1 p1 v rv => ?_⟩
  cases d with
  | bl b => unfold Rep at rv; exact ⟨b, rv, p1.ok wr1⟩
  | _ => exact p1.elim
theorem dt_cmp {op : CmpOp} {r : R2} {s : S2} {ma mb : ME} (ho : OpR X (compareOp op) r) (hs : Op2 (X.K, Z) s r) (ha : PE X a (rdE (X.K, Z) W ma)) (hb : PE X b (rdE (X.K, Z) W mb)) (hm : behindInMarks op b = false) : PT X (.Compare a [op] [b] pos) (rdT (X.K, Z) W (mTest (mOp2 s ma mb))) :=
  PT_imp (pt_cmpR ho ha hb hm) fun σ H Q h => by
    have h := test_read σ H Q h
    exact hs.read σ H _ h
/-- a op1 b op2 c -/
def mChain (s s' : S2) (a b c : ME) : ME := fun ρ w => (a ρ w).bind fun x w1 => (b ρ w1).bind fun y w2 => (asB (s x y w2)).bind fun k w3 => if k = true then (c ρ w3).bind fun z w4 => s' y z w4 else .ok (.bl false) w3
theorem chain_read {K : KT} {W : Option WX} {s s' : S2} {r r' : R2} (hs : Op2 K s r) (hs' : Op2 K s' r') {a b c : ME} : ∀ σ H Q, rdE K W (mChain s s' a b c) σ H Q → tChain r r' (rdE K W a) (rdE K W b) (rdE K W c) σ H Q := fun σ H Q => by
  rintro ⟨hd, φ, ρ, w, sr, wr, p⟩
  refine ⟨hd, φ, ρ, w, sr, wr, Pst.then isPst p fun dx w1 φ1 H1 e1 wr1 p1 x rx => ?_⟩
  refine ⟨hd, φ1, ρ, w1, sr.mono e1, wr1, Pst.then isPst p1 fun dy w2 φ2 H2 e2 wr2 p2 y ry => ?_⟩
  refine hs W hd φ2 H2 w2 dx dy x y _ wr2 (rx.mono e2) ry ?_
  rw [asB_bind] at p2
  refine Pst.then isPst p2 fun d w3 φ3 H3 e3 wr3 p3 z rz => ?_
  · cases d with
    | bl k =>
      unfold Rep at rz
      refine ⟨k, rz, ?_⟩
      cases k with
      | true =>
        simp only [toB, bind_ok, if_true] at p3; rw [if_pos rfl]
        refine ⟨hd, φ3, ρ, w3, (sr.mono e1).mono (e2.trans e3), wr3, Pst.then isPst p3 fun dz w4 φ4 H4 e4 wr4 p4 z' rz' => ?_⟩
        exact hs' W hd φ4 H4 w4 dy dz y z' Q wr4 (ry.mono (e3.trans e4)) rz' p4
      | false =>
        simp only [toB, bind_ok, Bool.false_eq_true, if_false] at p3; rw [if_neg Bool.false_ne_true]
        exact p3.ok wr3 _ (by unfold Rep; rfl)
    | _ => exact p3.elim
theorem de_chain {op op' : CmpOp} {r r' : R2} {s s' : S2} {ma mb mc : ME} (ho : OpR X (compareOp op) r) (hs : Op2 (X.K, Z) s r) (ho' : OpR X (compareOp op') r') (hs' : Op2 (X.K, Z) s' r') (ha : PE X a (rdE (X.K, Z) W ma)) (hb : PE X b (rdE (X.K, Z) W mb)) (hc : PE X c (rdE (X.K, Z) W mc))
    (hm : lastMarks [op, op'] [b, c] = false := by with_unfolding_all rfl) : PE X (.Compare a [op, op'] [b, c] pos) (rdE (X.K, Z) W (mChain s s' ma mb mc)) := PE_imp (pe_chain ho ho' ha hb hc hm) (chain_read hs hs')
theorem dt_chain {op op' : CmpOp} {r r' : R2} {s s' : S2} {ma mb mc : ME} (ho : OpR X (compareOp op) r) (hs : Op2 (X.K, Z) s r) (ho' : OpR X (compareOp op') r') (hs' : Op2 (X.K, Z) s' r') (ha : PE X a (rdE (X.K, Z) W ma)) (hb : PE X b (rdE (X.K, Z) W mb)) (hc : PE X c (rdE (X.K, Z) W mc))
    (hm : lastMarks [op, op'] [b, c] = false := by with_unfolding_all rfl) : PT X (.Compare a [op, op'] [b, c] pos) (rdT (X.K, Z) W (mTest (mChain s s' ma mb mc))) := PT_imp (pt_chain ho ho' ha hb hc hm) fun σ H Q h => by
    have h := test_read σ H Q h
    exact chain_read hs hs' σ H _ h
/-- a sequence that is read -/
def seq? (w : World) : T → Option (List T)
  | .tup ts => some ts
  | .lst ts => some ts
  | .frz ts => some ts
  | .cell k => match w[k]? with
    | some (.lst ts) => some ts
    | _ => none
  | _ => none
variable {K : KT} {hd φ : List Addr} {H : Hp} {w : World}
theorem cell_at (wr : WR K hd φ H w) {k : Nat} {v : V} {c : Cell} (r : Rep K hd φ H (.cell k) v) (hc : w[k]? = some c) : ∃ a, v = .ref a ∧ φ[k]? = some a ∧ a ∈ φ ∧ CellR K hd φ H c a := by
  unfold Rep at r
  obtain ⟨a, e, hk⟩ := r
  exact ⟨a, e, hk, List.mem_of_getElem? hk, wr.cells k c a hc hk⟩
theorem seq_at (wr : WR K hd φ H w) {t : T} {v : V} {ts : List T} (r : Rep K hd φ H t v) (hs : seq? w t = some ts) : ∃ a xs, v = .ref a ∧ (SqL K.1 H a xs ∨ SqT K.1 H a xs) ∧ Reps K hd φ H ts xs := by
  cases t with
  | tup us =>
    cases hs
    unfold Rep at r
    obtain ⟨a, xs, e, n, rs⟩ := r
    exact ⟨a, xs, e, .inr (SqT.of n.1), rs⟩
  | lst us =>
    cases hs
    unfold Rep at r
    obtain ⟨a, xs, e, n, rs⟩ := r
    exact ⟨a, xs, e, .inl (SqL.of n.1), rs⟩
  | frz us =>
    cases hs
    unfold Rep at r
    obtain ⟨a, xs, e, n, rs⟩ := r
    rcases n with ⟨o, n, rfl | ⟨u, rfl⟩, _⟩ | n
    · exact ⟨a, xs, e, .inl (SqL.of n), rs⟩
    · exact ⟨a, xs, e, .inl (.inl (.inr ⟨u, n⟩)), rs⟩
    · rcases n with (n | ⟨_, n⟩) | n
      · cases n
      · cases n
      · exact ⟨a, xs, e, .inl (.inr n), rs⟩
  | cell k =>
    unfold seq? at hs
    simp only at hs
    split at hs
    · rename_i us hk
      cases hs
      obtain ⟨a, e, hk, _, xs, h1, h2⟩ := cell_at wr r hk
      exact ⟨a, xs, e, .inl (SqL.of h1), h2⟩
    · cases hs
  | _ => cases hs
def isEmp (w : World) : T → Option Bool
  | .cell k => match w[k]? with
    | some (.lst ts) => some ts.isEmpty
    | some (.dic kvs) => some kvs.isEmpty
    | _ => none
  | .dct ks _ => some ks.isEmpty
  | t => (seq? w t).map (·.isEmpty)
/-- a value's truth -/
def sTru : T → World → R Bool := fun t w => match t with
  | .non => .ok false w
  | .bl b => .ok b w
  | .int i => .ok (i != 0) w
  | t => match isEmp w t with
    | some b => .ok (!b) w
    | none => .no
theorem tru_at (wr : WR K hd φ H w) {t : T} {v : V} {b : Bool} {w' : World} (r : Rep K hd φ H t v) (hs : sTru t w = .ok b w') : TruV K.1 v H b ∧ w' = w := by
  have sq : ∀ ts, seq? w t = some ts → TruV K.1 v H (!ts.isEmpty) := fun ts h => by
    obtain ⟨a, xs, rfl, h1, h2⟩ := seq_at wr r h
    have e : ts.isEmpty = xs.isEmpty := by
      have := h2.len
      cases ts <;> cases xs <;> simp_all
    rcases h1 with h1 | h1
    · exact .inl ⟨xs, h1, by rw [e]⟩
    · exact .inr (.inl ⟨xs, h1, by rw [e]⟩)
  cases t with
  | non => unfold Rep at r; subst r; cases hs; exact ⟨rfl, rfl⟩
  | bl b => unfold Rep at r; subst r; cases hs; exact ⟨rfl, rfl⟩
  | int i => unfold Rep at r; subst r; cases hs; exact ⟨rfl, rfl⟩
  | str x => cases hs
  | ty x => cases hs
  | tup ts => cases hs; exact ⟨sq ts rfl, rfl⟩
  | lst ts => cases hs; exact ⟨sq ts rfl, rfl⟩
  | frz ts => cases hs; exact ⟨sq ts rfl, rfl⟩
  | rng n => cases hs
  | glb x => cases hs
  | exc x ks ts => cases hs
  | dct ks ts =>
    cases hs
    unfold Rep at r
    obtain ⟨a, vs, rfl, l, n, rs⟩ := r
    refine ⟨.inr (.inr ⟨ks.zip vs, n.1, ?_⟩), rfl⟩
    have := rs.len
    cases ks <;> cases vs <;> simp_all
  | cell k =>
    unfold sTru isEmp at hs
    simp only at hs
    cases q : w[k]? with
    | none => rw [q] at hs; cases hs
    | some c =>
      rw [q] at hs
      cases c with
      | lst ts => cases hs; exact ⟨sq ts (by unfold seq?; simp only [q]), rfl⟩
      | dic kvs =>
        cases hs
        obtain ⟨a, rfl, _, _, ys, h1, h2, h3⟩ := cell_at wr r q
        refine ⟨.inr (.inr ⟨ys, h1, ?_⟩), rfl⟩
        have e : ys.length = kvs.length := by simpa using congrArg List.length h2
        cases ys <;> cases kvs <;> simp_all
      | dit kvs => cases hs
      | din kvs => cases hs
      | obj x ks ts => cases hs
theorem sTru_ne {t u : T} {w w' : World} {ρ : Env} : sTru t w ≠ .ex u ρ w' := fun h => by
  unfold sTru at h
  split at h <;> first | cases h | (split at h <;> cases h)
def mTru (m : ME) : MT := fun ρ w => (m ρ w).bind sTru
theorem dt_tru {ma : ME} (ha : PE X a (rdE (X.K, Z) W ma)) (he : ∀ whole, isTrue a X.env whole = (do let v ← whole; standAt a.pos; holding [v] (truthy v)) := by exact fun _ => rfl) : PT X a (rdT (X.K, Z) W (mTru ma)) := PT_imp (pt_truth ha he) fun σ H Q => by
  rintro ⟨hd, φ, ρ, w, sr, wr, p⟩
  refine ⟨hd, φ, ρ, w, sr, wr, Pst.then isPst p fun d w1 φ1 H1 e1 wr1 p1 v rv => ?_⟩
  cases q : sTru d w1 with
  | no => rw [q] at p1; exact p1.elim
  | ex _ _ _ => exact absurd q sTru_ne
  | ok b w2 =>
    rw [q] at p1
    obtain ⟨h1, rfl⟩ := tru_at wr1 rv q
    exact ⟨b, h1, p1.ok wr1⟩
def mAnd (a b : MT) : MT := fun ρ w => (a ρ w).bind fun x w1 => if x = true then b ρ w1 else .ok false w1
def mOr (a b : MT) : MT := fun ρ w => (a ρ w).bind fun x w1 => if x = true then .ok true w1 else b ρ w1
def mNot (a : MT) : MT := fun ρ w => (a ρ w).bind fun x w1 => .ok (!x) w1
variable {rest : List Expr}
theorem dw_and1 {ma : MT} (ha : PT X a (rdT (X.K, Z) W ma)) : PW X (.BoolOp .And [a] pos) (rdT (X.K, Z) W ma) := pw_and1 ha
theorem dw_or1 {ma : MT} (ha : PT X a (rdT (X.K, Z) W ma)) : PW X (.BoolOp .Or [a] pos) (rdT (X.K, Z) W ma) := pw_or1 ha
theorem dw_and {ma mb : MT} (ha : PT X a (rdT (X.K, Z) W ma)) (hb : PW X (.BoolOp .And (b :: rest) pos) (rdT (X.K, Z) W mb)) : PW X (.BoolOp .And (a :: b :: rest) pos) (rdT (X.K, Z) W (mAnd ma mb)) := PW_imp (pw_and ha hb) fun σ H Q => by
  rintro ⟨hd, φ, ρ, w, sr, wr, p⟩
  refine ⟨hd, φ, ρ, w, sr, wr, Pst.then isPst p fun d w1 φ1 H1 e1 wr1 p1 => ?_⟩
  cases d with
  | true => show (if true = true then _ else _); rw [if_pos rfl] at p1 ⊢; exact ⟨hd, φ1, ρ, w1, sr.mono e1, wr1, p1⟩
  | false => show (if false = true then _ else _); rw [if_neg Bool.false_ne_true] at p1 ⊢; exact p1.ok wr1
theorem dw_or {ma mb : MT} (ha : PT X a (rdT (X.K, Z) W ma)) (hb : PW X (.BoolOp .Or (b :: rest) pos) (rdT (X.K, Z) W mb)) : PW X (.BoolOp .Or (a :: b :: rest) pos) (rdT (X.K, Z) W (mOr ma mb)) := PW_imp (pw_or ha hb) fun σ H Q => by
  rintro ⟨hd, φ, ρ, w, sr, wr, p⟩
  refine ⟨hd, φ, ρ, w, sr, wr, Pst.then isPst p fun d w1 φ1 H1 e1 wr1 p1 => ?_⟩
  cases d with
  | true => show (if true = true then _ else _); rw [if_pos rfl] at p1 ⊢; exact p1.ok wr1
  | false => show (if false = true then _ else _); rw [if_neg Bool.false_ne_true] at p1 ⊢; exact ⟨hd, φ1, ρ, w1, sr.mono e1, wr1, p1⟩
theorem dt_w {ma : MT} (h : PW X a (rdT (X.K, Z) W ma)) : PT X a (rdT (X.K, Z) W ma) := h.pt
theorem dt_not {ma : MT} (ha : PT X a (rdT (X.K, Z) W ma)) : PT X (.UnaryOp .Not a pos) (rdT (X.K, Z) W (mNot ma)) := PT_imp (pt_not ha) fun σ H Q => by
  rintro ⟨hd, φ, ρ, w, sr, wr, p⟩
  exact ⟨hd, φ, ρ, w, sr, wr, Pst.then isPst p fun d w1 φ1 H1 e1 wr1 p1 => p1.ok wr1⟩
/-! .. as values -/
def mAndV (a b : ME) : ME := fun ρ w => (a ρ w).bind fun x w1 => (sTru x w1).bind fun k w2 => if k = true then b ρ w2 else .ok x w2
def mOrV (a b : ME) : ME := fun ρ w => (a ρ w).bind fun x w1 => (sTru x w1).bind fun k w2 => if k = true then .ok x w2 else b ρ w2
def mNotV (a : ME) : ME := fun ρ w => (a ρ w).bind fun x w1 => (sTru x w1).bind fun k w2 => .ok (.bl (!k)) w2
theorem de_one {op : BoolOp} {t : TE} (h : PE X a t) : PE X (.BoolOp op [a] pos) t := pe_one h
theorem de_and {ma mb : ME} (ha : PE X a (rdE (X.K, Z) W ma)) (hb : PE X (.BoolOp .And (b :: rest) pos) (rdE (X.K, Z) W mb)) : PE X (.BoolOp .And (a :: b :: rest) pos) (rdE (X.K, Z) W (mAndV ma mb)) := PE_imp (pe_andT ha hb) fun σ H Q => by
  rintro ⟨hd, φ, ρ, w, sr, wr, p⟩
  refine ⟨hd, φ, ρ, w, sr, wr, Pst.then isPst p fun d w1 φ1 H1 e1 wr1 p1 v rv => ?_⟩
  cases q : sTru d w1 with
  | no => rw [q] at p1; exact p1.elim
  | ex _ _ _ => exact absurd q sTru_ne
  | ok k w2 =>
    rw [q] at p1
    obtain ⟨h1, rfl⟩ := tru_at wr1 rv q
    refine ⟨k, h1, ?_⟩
    rw [bind_ok] at p1
    cases k with
    | true => rw [if_pos rfl] at p1 ⊢; exact ⟨hd, φ1, ρ, _, sr.mono e1, wr1, p1⟩
    | false => rw [if_neg Bool.false_ne_true] at p1 ⊢; exact p1.ok wr1 v rv
theorem de_or {ma mb : ME} (ha : PE X a (rdE (X.K, Z) W ma)) (hb : PE X (.BoolOp .Or (b :: rest) pos) (rdE (X.K, Z) W mb)) : PE X (.BoolOp .Or (a :: b :: rest) pos) (rdE (X.K, Z) W (mOrV ma mb)) := PE_imp (pe_orT ha hb) fun σ H Q => by
  rintro ⟨hd, φ, ρ, w, sr, wr, p⟩
  refine ⟨hd, φ, ρ, w, sr, wr, Pst.then isPst p fun d w1 φ1 H1 e1 wr1 p1 v rv => ?_⟩
  cases q : sTru d w1 with
  | no => rw [q] at p1; exact p1.elim
  | ex _ _ _ => exact absurd q sTru_ne
  | ok k w2 =>
    rw [q] at p1
    obtain ⟨h1, rfl⟩ := tru_at wr1 rv q
    refine ⟨k, h1, ?_⟩
    rw [bind_ok] at p1
    cases k with
    | true => rw [if_pos rfl] at p1 ⊢; exact p1.ok wr1 v rv
    | false => rw [if_neg Bool.false_ne_true] at p1 ⊢; exact ⟨hd, φ1, ρ, _, sr.mono e1, wr1, p1⟩
theorem de_not {ma : ME} (ha : PE X a (rdE (X.K, Z) W ma)) : PE X (.UnaryOp .Not a pos) (rdE (X.K, Z) W (mNotV ma)) := PE_imp (pe_notT ha) fun σ H Q => by
  rintro ⟨hd, φ, ρ, w, sr, wr, p⟩
  refine ⟨hd, φ, ρ, w, sr, wr, Pst.then isPst p fun d w1 φ1 H1 e1 wr1 p1 v rv => ?_⟩
  cases q : sTru d w1 with
  | no => rw [q] at p1; exact p1.elim
  | ex _ _ _ => exact absurd q sTru_ne
  | ok k w2 =>
    rw [q] at p1
    obtain ⟨h1, rfl⟩ := tru_at wr1 rv q
    exact ⟨k, h1, p1.ok wr1 _ (by unfold Rep; rfl)⟩
def mIf (c : MT) (a b : ME) : ME := fun ρ w => (c ρ w).bind fun k w1 => if k = true then a ρ w1 else b ρ w1
theorem de_if {mc : MT} {ma mb : ME} (hc : PT X c (rdT (X.K, Z) W mc)) (ha : PE X a (rdE (X.K, Z) W ma)) (hb : PE X b (rdE (X.K, Z) W mb)) : PE X (.IfExp c a b pos) (rdE (X.K, Z) W (mIf mc ma mb)) := PE_imp (pe_ifExp hc ha hb) fun σ H Q => by
  rintro ⟨hd, φ, ρ, w, sr, wr, p⟩
  refine ⟨hd, φ, ρ, w, sr, wr, Pst.then isPst p fun k w1 φ1 H1 e1 wr1 p1 => ?_⟩
  cases k with
  | true => show (if true = true then _ else _); rw [if_pos rfl] at p1 ⊢; exact ⟨hd, φ1, ρ, w1, sr.mono e1, wr1, p1⟩
  | false => show (if false = true then _ else _); rw [if_neg Bool.false_ne_true] at p1 ⊢; exact ⟨hd, φ1, ρ, w1, sr.mono e1, wr1, p1⟩

/-! ### arguments, displays, new lists -/
variable {es : List Expr}
def mNil : MF := fun _ w => .ok [] w
def mCons (a : ME) (r : MF) : MF := fun ρ w => (a ρ w).bind fun x w1 => (r ρ w1).bind fun xs w2 => .ok (x :: xs) w2
theorem da_nil : PA X [] (rdA (X.K, Z) W mNil) := PA_imp pa_nil fun σ H Q => by
  rintro ⟨hd, φ, ρ, w, sr, wr, p⟩
  exact p.ok wr _ Reps.nil
theorem da_cons {ma : ME} {mr : MF} (ha : PE X a (rdE (X.K, Z) W ma)) (hr : PA X es (rdA (X.K, Z) W mr)) (hs : starEach (a :: es) X.env = (false, eval a X.env) :: starEach es X.env := by rfl) : PA X (a :: es) (rdA (X.K, Z) W (mCons ma mr)) := PA_imp (pa_cons ha hr hs) fun σ H Q => by
  rintro ⟨hd, φ, ρ, w, sr, wr, p⟩
  refine ⟨hd, φ, ρ, w, sr, wr, Pst.then isPst p fun x w1 φ1 H1 e1 wr1 p1 v rv => ?_⟩
  refine ⟨hd, φ1, ρ, w1, sr.mono e1, wr1, Pst.then isPst p1 fun xs w2 φ2 H2 e2 wr2 p2 vs rvs => ?_⟩
  exact p2.ok wr2 _ (Reps.cons (rv.mono e2) rvs)
def mTup (m : MF) : ME := fun ρ w => (m ρ w).bind fun ts w1 => if ts.length ≤ sizeLine then .ok (.tup ts) w1 else .no
theorem de_tup {x1 : Nat} {m : MF} (h : PA X es (rdA (X.K, Z) W m)) : PE X (.Tuple es x1 pos) (rdE (X.K, Z) W (mTup m)) := PE_imp (pe_tup h) fun σ H Q => by
  rintro ⟨hd, φ, ρ, w, sr, wr, p⟩
  refine ⟨hd, φ, ρ, w, sr, wr, Pst.then isPst p fun xs w1 φ1 H1 e1 wr1 p1 vs rvs => ?_⟩
  split at p1
  · rename_i hl
    refine ⟨by rw [← rvs.len]; exact hl, fun q hq => ?_⟩
    refine p1 (upd H1 q (.tup vs)) φ1 (Ext.new hq) (wr1.new hq) _ ?_
    unfold Rep
    exact ⟨q, vs, rfl, ⟨upd_same, wr1.nin hq⟩, rvs.mono (Ext.new hq)⟩
  · exact p1.elim
def mLst (m : MF) : MF := fun ρ w => (m ρ w).bind fun ts w1 => if ts.length ≤ sizeLine then .ok ts w1 else .no
theorem df_lst {m : MF} (h : PA X es (rdA (X.K, Z) W m)) : PE X (.List es pos) (rdF (X.K, Z) W (mLst m)) := PE_imp (pe_lst h) fun σ H Q => by
  rintro ⟨hd, φ, ρ, w, sr, wr, p⟩
  refine ⟨hd, φ, ρ, w, sr, wr, Pst.then isPstF p fun xs w1 φ1 H1 e1 wr1 p1 vs rvs => ?_⟩
  split at p1
  · rename_i hl
    refine ⟨by rw [← rvs.len]; exact hl, fun q hq => ?_⟩
    exact p1 q vs (upd H1 q (.lst vs)) φ1 (Ext.hold hq) (wr1.hold hq) (fr0_none hq) (wr1.nin hq).2 upd_same (rvs.mono (Ext.hold hq))
  · exact p1.elim
/-- a new list as a value that stays as it is -/
def mVal (m : MF) : ME := fun ρ w => (m ρ w).bind fun ts w1 => .ok (.lst ts) w1
theorem de_val {m : MF} (h : PE X e (rdF (X.K, Z) W m)) : PE X e (rdE (X.K, Z) W (mVal m)) := PE_imp h fun σ H Q => by
  rintro ⟨hd, φ, ρ, w, sr, wr, p⟩
  refine ⟨hd, φ, ρ, w, sr, wr, ?_⟩
  unfold mVal at p
  cases q : m ρ w with
  | no => rw [q] at p; exact p
  | ex _ _ _ => rw [q] at p; exact p
  | ok ts w1 =>
    rw [q] at p
    intro a xs H' φ' e1 wr1 hn ha hx rs
    refine p H' φ' e1.free wr1.free _ ?_
    unfold Rep
    exact ⟨a, xs, rfl, ⟨hx, fun z => wr1.apart a z List.mem_cons_self, ha⟩, rs.free⟩
/-- a new list as a cell -/
def mCell (m : MF) : ME := fun ρ w => (m ρ w).bind fun ts w1 => .ok (.cell w1.length) (w1 ++ [.lst ts])
theorem de_cell {m : MF} (h : PE X e (rdF (X.K, Z) W m)) : PE X e (rdE (X.K, Z) W (mCell m)) := PE_imp h fun σ H Q => by
  rintro ⟨hd, φ, ρ, w, sr, wr, p⟩
  refine ⟨hd, φ, ρ, w, sr, wr, ?_⟩
  unfold mCell at p
  cases q : m ρ w with
  | no => rw [q] at p; exact p
  | ex _ _ _ => rw [q] at p; exact p
  | ok ts w1 =>
    rw [q] at p
    intro a xs H' φ' e1 wr1 hn ha hx rs
    refine p H' (φ' ++ [a]) (e1.cell hn) (wr1.cell ha ⟨xs, hx, rs⟩) _ ?_
    unfold Rep
    refine ⟨a, rfl, ?_⟩
    rw [← wr1.len, List.getElem?_append_right (Nat.le_refl _)]
    simp
end
theorem SR.free {K : KT} {hd φ : List Addr} {H : Hp} {σ : L2.St} {ρ : Env} {p : Addr} (h : SR K (p :: hd) φ H σ ρ) : SR K hd φ H σ ρ := ⟨h.len, fun i t ht => by
  obtain ⟨v, h1, h2⟩ := h.get i t ht
  exact ⟨v, h1, h2.free⟩⟩
theorem NdX.free {hd φ : List Addr} {H : Hp} {p a : Addr} {o : HO} (h : NdX (p :: hd) φ H a o) : NdX hd φ H a o := ⟨h.1, h.2.1, fun z => h.2.2 (List.mem_cons_of_mem _ z)⟩
theorem RepX.free {K : KT} {hd φ : List Addr} {H : Hp} {p : Addr} {t : T} {cls : Value} {d : Option Addr} (h : RepX K (p :: hd) φ H t cls d) : RepX K hd φ H t cls d := by
  obtain ⟨x, ks, ts, C, e1, e2, g, q⟩ := h
  refine ⟨x, ks, ts, C, e1, e2, g, ?_⟩
  rcases q with q | ⟨dd, vs, e3, l, n, r⟩
  · exact .inl q
  · exact .inr ⟨dd, vs, e3, l, n.free, r.free⟩
/-- a thing made beside, held apart -/
theorem PstX.hold {K : KT} {W : Option WX} {hd φ : List Addr} {H : Hp} {t : T} {ρ : Env} {w : World} {l : Addr} {o : HO} (hl : H l = none) (p : PstX K W hd φ H t ρ w) : PstX K W (l :: hd) φ (upd H l o) t ρ w := by
  cases W with
  | none => exact p
  | some W => intro H' φ' σ' e wr sr cls d rx; exact p H' φ' σ' ((Ext.hold hl).trans e).free wr.free sr.free cls d rx.free
end VS

set_option Elab.async false
set_option linter.all false
set_option maxRecDepth 100000
set_option maxHeartbeats 2000000
namespace VS
open PySem PySem.Spec PyProof.Rows L2
section
variable {X : Cx} {e a b c : Expr} {pos : Pos} {es : List Expr} {x : Str} {p : Pos} {Z : ZT} {W : Option WX}

/-! ### calls of built-ins -/
abbrev SC := List T → World → R T
abbrev SCF := List T → World → R (List T)
def mCall (s : SC) (m : MF) : ME := fun ρ w => (m ρ w).bind s
def mCallF (s : SCF) (m : MF) : MF := fun ρ w => (m ρ w).bind s
def OpC (K : KT) (s : SC) (r : List V → Hp → VK → Prop) : Prop := ∀ (W : Option WX) hd φ H w ds xs Q, WR K hd φ H w → Reps K hd φ H ds xs → Pst K W hd (CE K hd Q) φ H (s ds w) → r xs H Q
def OpCF (K : KT) (s : SCF) (r : List V → Hp → VK → Prop) : Prop := ∀ (W : Option WX) hd φ H w ds xs Q, WR K hd φ H w → Reps K hd φ H ds xs → PstF K W hd Q φ H (s ds w) → r xs H Q
theorem OpC.read {K : KT} {W : Option WX} {s : SC} {r : List V → Hp → VK → Prop} (hs : OpC K s r) {m : MF} : ∀ σ H Q, rdE K W (mCall s m) σ H Q → tCB r (rdA K W m) σ H Q := fun σ H Q => by
  rintro ⟨hd, φ, ρ, w, sr, wr, q⟩
  exact ⟨hd, φ, ρ, w, sr, wr, Pst.then isPst q fun ds w1 φ1 H1 e1 wr1 p1 xs rx => hs W hd φ1 H1 w1 ds xs Q wr1 rx p1⟩
theorem OpCF.read {K : KT} {W : Option WX} {s : SCF} {r : List V → Hp → VK → Prop} (hs : OpCF K s r) {m : MF} : ∀ σ H Q, rdF K W (mCallF s m) σ H Q → tCB r (rdA K W m) σ H Q := fun σ H Q => by
  rintro ⟨hd, φ, ρ, w, sr, wr, q⟩
  exact ⟨hd, φ, ρ, w, sr, wr, Pst.then isPstF q fun ds w1 φ1 H1 e1 wr1 p1 xs rx => hs W hd φ1 H1 w1 ds xs Q wr1 rx p1⟩
theorem de_callB {id : String} {s : SC} {r : List V → Hp → VK → Prop} {m : MF} (hc : CallR X (.builtin id) r) (hs : OpC (X.K, Z) s r) (hm : X.mg x = none) (hv : bootBuiltins x = some (.builtin id)) (ha : PA X (e :: es) (rdA (X.K, Z) W m)) (hg : Gl X x := by rfl) (hn : x ≠ "__name__" := by decide) (hdb : (x == ("__debug__" : Str)) = false := by decide)
    (he : starEach (e :: es) X.env = (false, eval e X.env) :: starEach es X.env := by rfl) (hpl : (backTo pos (starEach es X.env)).any (·.1) = false := by rfl) : PE X (.Call (.Name x p) (e :: es) [] pos) (rdE (X.K, Z) W (mCall s m)) := PE_imp (pe_callB hc hg hm hv ha hn hdb he hpl) hs.read
theorem df_callB {id : String} {s : SCF} {r : List V → Hp → VK → Prop} {m : MF} (hc : CallR X (.builtin id) r) (hs : OpCF (X.K, Z) s r) (hm : X.mg x = none) (hv : bootBuiltins x = some (.builtin id)) (ha : PA X (e :: es) (rdA (X.K, Z) W m)) (hg : Gl X x := by rfl) (hn : x ≠ "__name__" := by decide) (hdb : (x == ("__debug__" : Str)) = false := by decide)
    (he : starEach (e :: es) X.env = (false, eval e X.env) :: starEach es X.env := by rfl) (hpl : (backTo pos (starEach es X.env)).any (·.1) = false := by rfl) : PE X (.Call (.Name x p) (e :: es) [] pos) (rdF (X.K, Z) W (mCallF s m)) := PE_imp (pe_callB hc hg hm hv ha hn hdb he hpl) hs.read
theorem de_callTy {id : String} {s : SC} {r : List V → Hp → VK → Prop} {m : MF} (hc : CallR X (.type id) r) (hs : OpC (X.K, Z) s r) (hm : X.mg x = none) (hv : bootBuiltins x = some (.type id)) (ha : PA X (e :: es) (rdA (X.K, Z) W m)) (hg : Gl X x := by rfl) (hn : x ≠ "__name__" := by decide) (hdb : (x == ("__debug__" : Str)) = false := by decide)
    (he : starEach (e :: es) X.env = (false, eval e X.env) :: starEach es X.env := by rfl) (hpl : (backTo pos (starEach es X.env)).any (·.1) = false := by rfl) : PE X (.Call (.Name x p) (e :: es) [] pos) (rdE (X.K, Z) W (mCall s m)) := PE_imp (pe_callTy hc hg hm hv ha hn hdb he hpl) hs.read
theorem df_callTy {id : String} {s : SCF} {r : List V → Hp → VK → Prop} {m : MF} (hc : CallR X (.type id) r) (hs : OpCF (X.K, Z) s r) (hm : X.mg x = none) (hv : bootBuiltins x = some (.type id)) (ha : PA X (e :: es) (rdA (X.K, Z) W m)) (hg : Gl X x := by rfl) (hn : x ≠ "__name__" := by decide) (hdb : (x == ("__debug__" : Str)) = false := by decide)
    (he : starEach (e :: es) X.env = (false, eval e X.env) :: starEach es X.env := by rfl) (hpl : (backTo pos (starEach es X.env)).any (·.1) = false := by rfl) : PE X (.Call (.Name x p) (e :: es) [] pos) (rdF (X.K, Z) W (mCallF s m)) := PE_imp (pe_callTy hc hg hm hv ha hn hdb he hpl) hs.read
/-- operators whose end is a new list -/
abbrev S2F := T → T → World → R (List T)
def mOp2F (s : S2F) (a b : ME) : MF := fun ρ w => (a ρ w).bind fun x w1 => (b ρ w1).bind fun y w2 => s x y w2
def Op2F (K : KT) (s : S2F) (r : R2) : Prop := ∀ (W : Option WX) hd φ H w dx dy x y Q, WR K hd φ H w → Rep K hd φ H dx x → Rep K hd φ H dy y → PstF K W hd Q φ H (s dx dy w) → r x y H Q
theorem Op2F.read {K : KT} {W : Option WX} {s : S2F} {r : R2} (hs : Op2F K s r) {a b : ME} : ∀ σ H Q, rdF K W (mOp2F s a b) σ H Q → tOp r (rdE K W a) (rdE K W b) σ H Q := fun σ H Q => by
  rintro ⟨hd, φ, ρ, w, sr, wr, p⟩
  refine ⟨hd, φ, ρ, w, sr, wr, Pst.then isPstF p fun dx w1 φ1 H1 e1 wr1 p1 x rx => ?_⟩
  refine ⟨hd, φ1, ρ, w1, sr.mono e1, wr1, Pst.then isPstF p1 fun dy w2 φ2 H2 e2 wr2 p2 y ry => ?_⟩
  exact hs W hd φ2 H2 w2 dx dy x y Q wr2 (rx.mono e2) ry p2
theorem df_op {op : Operator} {r : R2} {s : S2F} {ma mb : ME} (ho : OpR X (binaryOp op) r) (hs : Op2F (X.K, Z) s r) (ha : PE X a (rdE (X.K, Z) W ma)) (hb : PE X b (rdE (X.K, Z) W mb)) : PE X (.BinOp a op b pos) (rdF (X.K, Z) W (mOp2F s ma mb)) := PE_imp (pe_op ho ha hb) hs.read

/-! ### calls of defs -/
abbrev Sem := List T → World → R T
def spOf (K : KT) (n : Nat) (f : Sem) : Sp := fun vs H Q E => ∃ hd φ w ds, ds.length = n ∧ WR K hd φ H w ∧ Reps K hd φ H ds vs ∧ Pst K (some fun cls d _ H' => E cls d H') hd (CE K hd Q) φ H (f ds w)
/-- an error of a callee is in the caller's slots -/
def R.at {α : Type} (ρ : Env) : R α → R α
  | .ex t _ w => .ex t ρ w
  | r => r
theorem at_ok {α : Type} {a : α} {w : World} {ρ : Env} : (R.ok a w).at ρ = .ok a w := rfl
theorem at_ex {α : Type} {t : T} {w : World} {ρ ρ' : Env} : (R.ex t ρ' w : R α).at ρ = .ex t ρ w := rfl
theorem at_no {α : Type} {ρ : Env} : (R.no : R α).at ρ = .no := rfl
def TakesO (X : Cx) : Option WX → Prop
  | none => True
  | some W => Takes X W
def wE : Option WX → L2.St → XK
  | none, _ => fun _ _ _ => False
  | some W, σ => fun cls d H => W cls d σ H
theorem passO {X : Cx} {W : Option WX} (tk : TakesO X W) (σ : L2.St) : PassesAt (L2.CX X.prog X.w) X σ (wE W σ) := by
  cases W with
  | some W => exact passAt tk σ
  | none =>
    intro pins H s e s' I c
    obtain ⟨_, _, _, _, _, _, _, _, _, _, _, _, z⟩ := c
    exact z.elim
/-- what a callee gives is what the caller wishes -/
theorem Pst.callee {α : Type} {K : KT} {W : Option WX} {hd φ : List Addr} {H : Hp} {σ : L2.St} {ρ : Env} {C : α → List Addr → Hp → Prop} {r : R α} (sr : SR K hd φ H σ ρ) (p : Pst K W hd C φ H (r.at ρ)) : Pst K (some fun cls d _ H' => wE W σ cls d H') hd C φ H r := by
  cases r with
  | ok d w => exact p
  | no => exact p
  | ex t ρ' w =>
    cases W with
    | none => exact p.elim
    | some W => intro H' φ' σ' e wr _ cls d rx; exact p H' φ' σ e wr (sr.mono e) cls d rx
theorem spOf_len {K : KT} {n : Nat} {f : Sem} : ∀ vs H Q E, spOf K n f vs H Q E → vs.length = n := by
  rintro vs H Q E ⟨hd, φ, w, ds, l, _, r, _⟩
  rw [← r.len, l]
def mDef (n : Nat) (f : Sem) (m : MF) : ME := fun ρ w => (m ρ w).bind fun ds w1 => if ds.length = n then (f ds w1).at ρ else .no
theorem def_read {K : KT} {W : Option WX} {n : Nat} {f : Sem} {m : MF} : ∀ σ H Q, rdE K W (mDef n f m) σ H Q → tCallS (spOf K n f) (wE W) (rdA K W m) σ H Q := fun σ H Q => by
  rintro ⟨hd, φ, ρ, w, sr, wr, q⟩
  refine ⟨hd, φ, ρ, w, sr, wr, Pst.then isPst q fun ds w1 φ1 H1 e1 wr1 p1 xs rx => ?_⟩
  split at p1
  · rename_i hl
    exact ⟨hd, φ1, w1, ds, hl, wr1, rx, p1.callee (sr.mono e1)⟩
  · exact p1.elim
/-- a def as it stands behind the top, and what it is worth -/
structure Df (P : Program) (w : PySem.World) (K : PySem.W.Frag) (Z : ZT) (mg : Str → Option Value) (base : Heap) (k : Nat) (x : Str) (ps : List Str) (f : Sem) : Prop where
  ex : ∃ (ad : Addr) (fd : FuncData), FnOk P w K mg base (L2.CX P w) k ad fd ps (spOf (K, Z) ps.length f) ∧ mg x = some (.ref ad) ∧ PySem.W.keepIn K (.ref ad) = true ∧ Binds K fd ps []
theorem de_def {k n : Nat} {ps : List Str} {f : Sem} {m : MF} (F : Df X.prog X.w X.K Z X.mg X.base k x ps f) (tk : TakesO X W) (hr : Room k X.A) (ha : PA X (e :: es) (rdA (X.K, Z) W m)) (hn : ps.length = n := by rfl) (hg : Gl X x := by rfl) (hdb : (x == ("__debug__" : Str)) = false := by decide)
    (he : starEach (e :: es) X.env = (false, eval e X.env) :: starEach es X.env := by rfl) (hpl : (backTo pos (starEach es X.env)).any (·.1) = false := by rfl) : PE X (.Call (.Name x p) (e :: es) [] pos) (rdE (X.K, Z) W (mDef n f m)) := by
  subst hn
  obtain ⟨ad, fd, ok, hm, hk, hb⟩ := F.ex
  exact PE_imp (pe_callS (E := wE W) ok hr hg hm hk hb (passO tk) ha hdb he hpl) def_read

/-! ### statements -/
inductive Fl where
  | nx | ret (t : T) | bk | ct
abbrev MS := Env → World → R (Env × Fl)
abbrev CS (K : KT) (hd : List Addr) (D : Ends) : Env × Fl → List Addr → Hp → Prop := fun r φ' H' => match r.2 with
  | .nx => ∀ σ', SR K hd φ' H' σ' r.1 → D.nx σ' H'
  | .ret t => ∀ v, Rep K hd φ' H' t v → D.rt v H'
  | .bk => ∀ σ', SR K hd φ' H' σ' r.1 → D.bk σ' H'
  | .ct => ∀ σ', SR K hd φ' H' σ' r.1 → D.ct σ' H'
def rdS (K : KT) (W : Option WX) (m : MS) : TS := fun D σ H => ∃ hd φ ρ w, SR K hd φ H σ ρ ∧ WR K hd φ H w ∧ Pst K W hd (CS K hd D) φ H (m ρ w)
def mSkip : MS := fun ρ w => .ok (ρ, .nx) w
def mSeq (a b : MS) : MS := fun ρ w => (a ρ w).bind fun r w1 => match r.2 with
  | .nx => b r.1 w1
  | _ => .ok r w1
variable {st : Stmt} {rest : List Stmt} {m1 m2 : MS}
theorem ds_nil : PSs X [] (rdS (X.K, Z) W mSkip) := PSs_imp pss_nil fun D σ H => by
  rintro ⟨hd, φ, ρ, w, sr, wr, p⟩
  exact p.ok wr σ sr
theorem ds_one (h : PS X st (rdS (X.K, Z) W m1)) : PSs X [st] (rdS (X.K, Z) W m1) := pss_one h
theorem ds_cons (h1 : PS X st (rdS (X.K, Z) W m1)) (h2 : PSs X rest (rdS (X.K, Z) W m2)) : PSs X (st :: rest) (rdS (X.K, Z) W (mSeq m1 m2)) := PSs_imp (pss_cons h1 h2) fun D σ H => by
  rintro ⟨hd, φ, ρ, w, sr, wr, p⟩
  refine ⟨hd, φ, ρ, w, sr, wr, Pst.then isPst p fun r w1 φ1 H1 e1 wr1 p1 => ?_⟩
  obtain ⟨ρ1, fl⟩ := r
  cases fl with
  | nx => exact fun σ1 sr1 => ⟨hd, φ1, ρ1, w1, sr1, wr1, p1⟩
  | ret t => exact p1.ok wr1
  | bk => exact p1.ok wr1
  | ct => exact p1.ok wr1
theorem ds_never : PS X st (rdS (X.K, Z) W fun _ _ => .no) := PS_imp ps_never fun D σ H => by
  rintro ⟨hd, φ, ρ, w, sr, wr, p⟩
  exact p.elim
def mRet (m : ME) : MS := fun ρ w => (m ρ w).bind fun t w1 => .ok (ρ, .ret t) w1
theorem ds_ret {m : ME} (h : PE X e (rdE (X.K, Z) W m)) : PS X (.Return (some e) pos) (rdS (X.K, Z) W (mRet m)) := PS_imp (ps_ret h) fun D σ H => by
  rintro ⟨hd, φ, ρ, w, sr, wr, p⟩
  exact ⟨hd, φ, ρ, w, sr, wr, Pst.then isPst p fun t w1 φ1 H1 e1 wr1 p1 => p1.ok wr1⟩
def mDrop (m : ME) : MS := fun ρ w => (m ρ w).bind fun _ w1 => .ok (ρ, .nx) w1
theorem ds_expr {m : ME} (h : PE X e (rdE (X.K, Z) W m)) (hs : swapsWith e none pos.line X.env = pure false := by rfl) : PS X (.Expr e pos) (rdS (X.K, Z) W (mDrop m)) := PS_imp (ps_expr h hs) fun D σ H => by
  rintro ⟨hd, φ, ρ, w, sr, wr, p⟩
  exact ⟨hd, φ, ρ, w, sr, wr, Pst.then isPst p fun t w1 φ1 H1 e1 wr1 p1 v _ => p1.ok wr1 σ (sr.mono e1)⟩
def mIfS (c : MT) (a b : MS) : MS := fun ρ w => (c ρ w).bind fun k w1 => if k = true then a ρ w1 else b ρ w1
theorem ds_if {mc : MT} {as bs : List Stmt} (hc : PT X c (rdT (X.K, Z) W mc)) (ha : PSs X as (rdS (X.K, Z) W m1)) (hb : PSs X bs (rdS (X.K, Z) W m2)) : PS X (.If c as bs pos) (rdS (X.K, Z) W (mIfS mc m1 m2)) := PS_imp (ps_if hc ha hb) fun D σ H => by
  rintro ⟨hd, φ, ρ, w, sr, wr, p⟩
  refine ⟨hd, φ, ρ, w, sr, wr, Pst.then isPst p fun k w1 φ1 H1 e1 wr1 p1 => ?_⟩
  cases k with
  | true => show (if true = true then _ else _); rw [if_pos rfl] at p1 ⊢; exact ⟨hd, φ1, ρ, w1, sr.mono e1, wr1, p1⟩
  | false => show (if false = true then _ else _); rw [if_neg Bool.false_ne_true] at p1 ⊢; exact ⟨hd, φ1, ρ, w1, sr.mono e1, wr1, p1⟩
theorem ds_break : PS X (.Break pos) (rdS (X.K, Z) W fun ρ w => .ok (ρ, .bk) w) := PS_imp ps_break fun D σ H => by
  rintro ⟨hd, φ, ρ, w, sr, wr, p⟩
  exact p.ok wr σ sr
theorem ds_continue : PS X (.Continue pos) (rdS (X.K, Z) W fun ρ w => .ok (ρ, .ct) w) := PS_imp ps_continue fun D σ H => by
  rintro ⟨hd, φ, ρ, w, sr, wr, p⟩
  exact p.ok wr σ sr

/-! ### targets -/
abbrev MG := T → Env → World → R Env
abbrev CG (K : KT) (hd : List Addr) (S : List Nat) (σ : L2.St) (Q : L2.St → Hp → Prop) : Env → List Addr → Hp → Prop := fun ρ' φ' H' => ∀ σ', SR K hd φ' H' σ' ρ' → (∀ vs : List Nat, (∀ i ∈ S, i ∈ vs) → wipe σ' vs = wipe σ vs) → Q σ' H'
def rdG (K : KT) (W : Option WX) (g : MG) (S : List Nat) : TG := fun v σ H Q => ∃ hd φ ρ w t, SR K hd φ H σ ρ ∧ WR K hd φ H w ∧ Rep K hd φ H t v ∧ Pst K W hd (CG K hd S σ Q) φ H (g t ρ w)
theorem PG_imp {tg : Expr} {t t' : TG} (h : PG X tg t) (i : ∀ v σ H Q, t' v σ H Q → t v σ H Q) : PG X tg t' := ⟨fun pins s σ H v u Q I r q => h.run pins s σ H v u Q I r (i v σ H Q q)⟩
theorem PGs_imp {tg : List Expr} {t t' : TGs} (h : PGs X tg t) (i : ∀ v σ H Q, t' v σ H Q → t v σ H Q) : PGs X tg t' := ⟨fun pins s σ H v u Q I r q => h.run pins s σ H v u Q I r (i v σ H Q q)⟩
theorem wipe_get {σ : L2.St} (vs : List Nat) (i : Nat) : (wipe σ vs)[i]? = if i ∈ vs ∧ i < σ.length then some none else σ[i]? := by
  induction vs with
  | nil => simp [wipe]
  | cons v vs ih =>
    unfold wipe
    rw [List.getElem?_set, wipe_length]
    by_cases h : v = i
    · subst h
      by_cases hl : v < σ.length
      · rw [if_pos rfl, if_pos hl, if_pos ⟨List.mem_cons_self, hl⟩]
      · rw [if_pos rfl, if_neg hl, if_neg (fun z => hl z.2), List.getElem?_eq_none (by omega)]
    · rw [if_neg h, ih]
      have e : (i ∈ v :: vs ∧ i < σ.length) ↔ (i ∈ vs ∧ i < σ.length) := by
        rw [List.mem_cons]
        constructor
        · rintro ⟨z | z, l⟩
          · exact absurd z.symm h
          · exact ⟨z, l⟩
        · rintro ⟨z, l⟩; exact ⟨.inr z, l⟩
      simp only [e]
theorem wipe_set {σ : L2.St} {vs : List Nat} {i : Nat} {o : Option V} (h : i ∈ vs) : wipe (σ.set i o) vs = wipe σ vs := by
  apply List.ext_getElem?
  intro j
  rw [wipe_get, wipe_get, List.length_set, List.getElem?_set]
  by_cases e : i = j
  · subst e
    by_cases hl : i < σ.length
    · rw [if_pos ⟨h, hl⟩, if_pos ⟨h, hl⟩]
    · have e2 : σ[i]? = none := List.getElem?_eq_none (by omega)
      simp [hl, e2]
  · rw [if_neg e]
def mgName (i : Nat) : MG := fun t ρ w => .ok (ρ.set i (some t)) w
theorem dg_name (i : Nat) {x : Str} (hN : X.N.Nodup) (hi : X.N[i]? = some x := by rfl) (hx : Loc X.env.scope x := by first | exact .inl rfl | exact .inr rfl) (hf : X.fn x = true ∨ X.env.scope.names.lookup x = some .local := by first | exact .inl rfl | exact .inr rfl | assumption) : PG X (.Name x pos) (rdG (X.K, Z) W (mgName i) [i]) := PG_imp (pg_name hN hi hx hf) fun v σ H Q => by
  rintro ⟨hd, φ, ρ, w, t, sr, wr, r, p⟩
  exact p.ok wr _ (sr.set r i) fun vs h => wipe_set (h i List.mem_cons_self)
abbrev MGs := List T → Env → World → R Env
def rdGs (K : KT) (W : Option WX) (g : MGs) (S : List Nat) : TGs := fun vs σ H Q => ∃ hd φ ρ w ts, SR K hd φ H σ ρ ∧ WR K hd φ H w ∧ Reps K hd φ H ts vs ∧ Pst K W hd (CG K hd S σ Q) φ H (g ts ρ w)
def mgNil : MGs := fun ts ρ w => match ts with
  | [] => .ok ρ w
  | _ => .no
def mgCons (g : MG) (r : MGs) : MGs := fun ts ρ w => match ts with
  | [] => .no
  | t :: ts => (g t ρ w).bind fun ρ1 w1 => r ts ρ1 w1
theorem dgs_nil : PGs X [] (rdGs (X.K, Z) W mgNil []) := PGs_imp pgs_nil fun v σ H Q => by
  rintro ⟨hd, φ, ρ, w, ts, sr, wr, r, p⟩
  cases ts with
  | nil => unfold Reps at r; exact ⟨r, p.ok wr σ sr fun _ _ => rfl⟩
  | cons _ _ => exact p.elim
theorem dgs_cons {tg : Expr} {tgs : List Expr} {g : MG} {r : MGs} {S S' : List Nat} (h1 : PG X tg (rdG (X.K, Z) W g S)) (h2 : PGs X tgs (rdGs (X.K, Z) W r S')) (hs : (assignEach (tg :: tgs) X.env).map (·.2) = assign tg X.env :: (assignEach tgs X.env).map (·.2) := by rfl) : PGs X (tg :: tgs) (rdGs (X.K, Z) W (mgCons g r) (S ++ S')) := PGs_imp (pgs_cons h1 h2 hs) fun v σ H Q => by
  rintro ⟨hd, φ, ρ, w, ts, sr, wr, rr, p⟩
  cases ts with
  | nil => exact p.elim
  | cons t ts =>
    unfold Reps at rr
    obtain ⟨x, xs, rfl, rx, rxs⟩ := rr
    refine ⟨x, xs, rfl, hd, φ, ρ, w, t, sr, wr, rx, Pst.then isPst p fun ρ1 w1 φ1 H1 e1 wr1 p1 σ1 sr1 hw1 => ?_⟩
    refine ⟨hd, φ1, ρ1, w1, ts, sr1, wr1, rxs.mono e1, p1.imp fun ρ2 φ2 H2 e2 h σ2 sr2 hw2 => h σ2 sr2 fun vs hv => ?_⟩
    rw [hw2 vs fun i hi => hv i (List.mem_append_right _ hi), hw1 vs fun i hi => hv i (List.mem_append_left _ hi)]
def mgTup (n : Nat) (g : MGs) : MG := fun t ρ w => match t with
  | .tup ts => if ts.length = n then g ts ρ w else .no
  | _ => .no
theorem dg_tup {k n : Nat} {tgs : List Expr} {g : MGs} {S : List Nat} (hc : X.calm = true) (h : PGs X tgs (rdGs (X.K, Z) W g S)) (hn : (assignEach tgs X.env).length = n := by rfl) (hst : (assignEach tgs X.env).findIdx? (·.1) = none := by rfl) : PG X (.Tuple tgs k pos) (rdG (X.K, Z) W (mgTup n g) S) := PG_imp (pg_tup hc h hn hst) fun v σ H Q => by
  rintro ⟨hd, φ, ρ, w, t, sr, wr, r, p⟩
  cases t with
  | tup ts =>
    unfold mgTup at p
    simp only at p
    unfold Rep at r
    obtain ⟨a, xs, e1, n1, rs⟩ := r
    split at p
    · rename_i hl
      exact ⟨a, xs, e1, SqT.of n1.1, by rw [← rs.len]; exact hl, hd, φ, ρ, w, ts, sr, wr, rs, p⟩
    · exact p.elim
  | _ => exact p.elim
/-- o[i] = v -/
abbrev S3 := T → T → T → World → R Unit
def OpSet (K : KT) (s : S3) (r : TSet) : Prop := ∀ (W : Option WX) hd φ H w d1 d2 d3 x y z Q, WR K hd φ H w → Rep K hd φ H d1 x → Rep K hd φ H d2 y → Rep K hd φ H d3 z → Pst K W hd (fun _ _ H' => Q H') φ H (s d1 d2 d3 w) → r x y z H Q
def mgSub (s : S3) (o i : ME) : MG := fun t ρ w => (o ρ w).bind fun d1 w1 => (i ρ w1).bind fun d2 w2 => (s d1 d2 t w2).bind fun _ w3 => .ok ρ w3
theorem dg_sub {o i : Expr} {mo mi : ME} {s : S3} {r : TSet} (ho : PE X o (rdE (X.K, Z) W mo)) (hi : PE X i (rdE (X.K, Z) W mi)) (hp : PSet X r) (hs : OpSet (X.K, Z) s r)
    (ha : ∀ v, assign (.Subscript o i pos) X.env v = (do
      let ov ← holding [v] (eval o X.env)
      let iv ← holding [v, ov] (eval i X.env)
      standAt pos
      holding [v, ov, iv] (setItem ov iv v)
      release [v, ov, iv] []) := by exact fun _ => rfl) : PG X (.Subscript o i pos) (rdG (X.K, Z) W (mgSub s mo mi) []) := PG_imp (pg_sub ho hi hp ha) fun v σ H Q => by
  rintro ⟨hd, φ, ρ, w, t, sr, wr, r, p⟩
  refine ⟨hd, φ, ρ, w, sr, wr, Pst.then isPst p fun d1 w1 φ1 H1 e1 wr1 p1 x rx => ?_⟩
  refine ⟨hd, φ1, ρ, w1, sr.mono e1, wr1, Pst.then isPst p1 fun d2 w2 φ2 H2 e2 wr2 p2 y ry => ?_⟩
  refine hs W hd φ2 H2 w2 d1 d2 t x y v _ wr2 (rx.mono e2) ry (r.mono (e1.trans e2)) ?_
  refine Pst.then isPst p2 fun _ w3 φ3 H3 e3 wr3 p3 => ?_
  exact p3.ok wr3 σ (sr.mono ((e1.trans e2).trans e3)) fun _ _ => rfl
def mAsg (m : ME) (g : MG) : MS := fun ρ w => (m ρ w).bind fun t w1 => (g t ρ w1).bind fun ρ1 w2 => .ok (ρ1, .nx) w2
theorem asg_read {K : KT} {W : Option WX} {m : ME} {g : MG} {S : List Nat} : ∀ D σ H, rdS K W (mAsg m g) D σ H → tAsg (rdE K W m) (rdG K W g S) D σ H := fun D σ H => by
  rintro ⟨hd, φ, ρ, w, sr, wr, p⟩
  refine ⟨hd, φ, ρ, w, sr, wr, Pst.then isPst p fun t w1 φ1 H1 e1 wr1 p1 v rv => ?_⟩
  refine ⟨hd, φ1, ρ, w1, t, sr.mono e1, wr1, rv, Pst.then isPst p1 fun ρ1 w2 φ2 H2 e2 wr2 p2 σ1 sr1 _ => ?_⟩
  exact p2.ok wr2 σ1 sr1
theorem ds_asg {tg : Expr} {m : ME} {g : MG} {S : List Nat} (he : PE X e (rdE (X.K, Z) W m)) (hg : PG X tg (rdG (X.K, Z) W g S)) (hs : swapsWithSole [tg] e pos.line X.env = pure false := by rfl) (hw : swappedStores [tg] e X.env = pure none := by rfl)
    (h1 : (assignEach [tg] X.env).map (·.2) = [assign tg X.env] := by rfl) : PS X (.Assign [tg] e pos) (rdS (X.K, Z) W (mAsg m g)) := PS_imp (ps_asg he hg hs hw h1) asg_read
theorem name_read {K : KT} {W : Option WX} {m : ME} {i : Nat} : ∀ D σ H, rdS K W (mAsg m (mgName i)) D σ H → tAsg (rdE K W m) (gName i) D σ H := fun D σ H => by
  rintro ⟨hd, φ, ρ, w, sr, wr, p⟩
  refine ⟨hd, φ, ρ, w, sr, wr, Pst.then isPst p fun t w1 φ1 H1 e1 wr1 p1 v rv => ?_⟩
  exact p1.ok wr1 _ ((sr.mono e1).set rv i)
theorem ds_set (i : Nat) {x : Str} {pos' : Pos} {m : ME} (hN : X.N.Nodup) (he : PE X e (rdE (X.K, Z) W m)) (hi : X.N[i]? = some x := by rfl) (hx : Loc X.env.scope x := by first | exact .inl rfl | exact .inr rfl) (hs : swapsWith e (some (.Name x pos')) pos.line X.env = pure false := by rfl) (hf : X.fn x = true ∨ X.env.scope.names.lookup x = some .local := by first | exact .inl rfl | exact .inr rfl | assumption) :
    PS X (.Assign [.Name x pos'] e pos) (rdS (X.K, Z) W (mAsg m (mgName i))) := PS_imp (ps_set hN hi hx he hs hf) name_read
/-- x, y = a, b: two local names -/
def mPar (i j : Nat) (m : MF) : MS := fun ρ w => (m ρ w).bind fun ts w1 => match ts with
  | [t, u] => .ok ((ρ.set i (some t)).set j (some u), .nx) w1
  | _ => .no
theorem ds_par (i j : Nat) {x y : Str} {m : MF} {px py pt : Pos} {kt k2 : Nat} {pt2 : Pos} (hc : X.calm = true) (hN : X.N.Nodup) (ha : PA X [a, b] (rdA (X.K, Z) W m)) (hi : X.N[i]? = some x := by rfl) (hj : X.N[j]? = some y := by rfl) (hij : i ≠ j := by decide)
    (hx : X.env.scope.names.lookup x = some .local := by rfl) (hy : X.env.scope.names.lookup y = some .local := by rfl)
    (hw : swappedStores [.Tuple [.Name x px, .Name y py] kt pt] (.Tuple [a, b] k2 pt2) X.env = pure (some [x, y]) := by rfl)
    (hs : swapsWithSole [.Tuple [.Name x px, .Name y py] kt pt] (.Tuple [a, b] k2 pt2) pos.line X.env = pure false := by rfl) :
    PS X (.Assign [.Tuple [.Name x px, .Name y py] kt pt] (.Tuple [a, b] k2 pt2) pos) (rdS (X.K, Z) W (mPar i j m)) := PS_imp (ps_par hc hN hi hj hij hx hy ha hw hs) fun D σ H => by
  rintro ⟨hd, φ, ρ, w, sr, wr, p⟩
  refine ⟨hd, φ, ρ, w, sr, wr, Pst.then isPst p fun ts w1 φ1 H1 e1 wr1 p1 vs rvs => ?_⟩
  match ts, p1 with
  | [t, u], p1 =>
    unfold Reps at rvs
    obtain ⟨v1, r1, rfl, q1, rvs⟩ := rvs
    unfold Reps at rvs
    obtain ⟨v2, r2, rfl, q2, rvs⟩ := rvs
    unfold Reps at rvs
    subst rvs
    exact ⟨v1, v2, rfl, p1.ok wr1 _ (((sr.mono e1).set q1 i).set q2 j)⟩
def mPar3 (i j l : Nat) (m : MF) : MS := fun ρ w => (m ρ w).bind fun ts w1 => match ts with
  | [t, u, v] => .ok (((ρ.set i (some t)).set j (some u)).set l (some v), .nx) w1
  | _ => .no
theorem ds_par3 (i j l : Nat) {x y z : Str} {m : MF} {px py pz pt : Pos} {kt k2 : Nat} {pt2 : Pos} (hc : X.calm = true) (hN : X.N.Nodup) (ha : PA X [a, b, c] (rdA (X.K, Z) W m)) (hi : X.N[i]? = some x := by rfl) (hj : X.N[j]? = some y := by rfl) (hl : X.N[l]? = some z := by rfl) (hij : i ≠ j := by decide) (hil : i ≠ l := by decide) (hjl : j ≠ l := by decide)
    (hx : X.env.scope.names.lookup x = some .local := by rfl) (hy : X.env.scope.names.lookup y = some .local := by rfl) (hz : X.env.scope.names.lookup z = some .local := by rfl)
    (hw : swappedStores [.Tuple [.Name x px, .Name y py, .Name z pz] kt pt] (.Tuple [a, b, c] k2 pt2) X.env = pure (some [x, y, z]) := by rfl)
    (hs : swapsWithSole [.Tuple [.Name x px, .Name y py, .Name z pz] kt pt] (.Tuple [a, b, c] k2 pt2) pos.line X.env = pure false := by rfl) :
    PS X (.Assign [.Tuple [.Name x px, .Name y py, .Name z pz] kt pt] (.Tuple [a, b, c] k2 pt2) pos) (rdS (X.K, Z) W (mPar3 i j l m)) := PS_imp (ps_par3 hc hN hi hj hl hij hil hjl hx hy hz ha hw hs) fun D σ H => by
  rintro ⟨hd, φ, ρ, w, sr, wr, p⟩
  refine ⟨hd, φ, ρ, w, sr, wr, Pst.then isPst p fun ts w1 φ1 H1 e1 wr1 p1 vs rvs => ?_⟩
  match ts, p1 with
  | [t, u, z], p1 =>
    unfold Reps at rvs
    obtain ⟨v1, r1, rfl, q1, rvs⟩ := rvs
    unfold Reps at rvs
    obtain ⟨v2, r2, rfl, q2, rvs⟩ := rvs
    unfold Reps at rvs
    obtain ⟨v3, r3, rfl, q3, rvs⟩ := rvs
    unfold Reps at rvs
    subst rvs
    exact ⟨v1, v2, v3, rfl, p1.ok wr1 _ ((((sr.mono e1).set q1 i).set q2 j).set q3 l)⟩

/-! ### while -/
def whl (c : MT) (b : MS) : Nat → Env → World → R (Env × Fl)
  | 0, _, _ => .no
  | n + 1, ρ, w => (c ρ w).bind fun k w1 => if k = true then (b ρ w1).bind fun r w2 => match r.2 with
      | .nx => whl c b n r.1 w2
      | .ct => whl c b n r.1 w2
      | .bk => .ok (r.1, .nx) w2
      | .ret t => .ok (r.1, .ret t) w2
    else .ok (ρ, .nx) w1
def mWhile (n : Nat) (c : MT) (b : MS) : MS := whl c b n
theorem ds_while (n : Nat) {mc : MT} {body : List Stmt} (hp : PassesOwn (model X.prog X.w) X.A X.env X.xe) (hc : PT X c (rdT (X.K, Z) W mc)) (hb : PSs X body (rdS (X.K, Z) W m1)) : PS X (.While c body [] pos) (rdS (X.K, Z) W (mWhile n mc m1)) := PS_imp (ps_while hp hc hb) fun D σ H => by
  rintro ⟨hd, φ, ρ, w, sr, wr, p⟩
  refine ⟨fun m σ H => ∃ φ ρ w, SR (X.K, Z) hd φ H σ ρ ∧ WR (X.K, Z) hd φ H w ∧ Pst (X.K, Z) W hd (CS (X.K, Z) hd D) φ H (whl mc m1 m ρ w), ⟨n, φ, ρ, w, sr, wr, p⟩, fun m σ H => ?_⟩
  rintro ⟨φ, ρ, w, sr, wr, p⟩
  cases m with
  | zero => exact p.elim
  | succ m =>
    refine ⟨hd, φ, ρ, w, sr, wr, Pst.then isPst p fun k w1 φ1 H1 e1 wr1 p1 => ?_⟩
    cases k with
    | false => show (if false = true then _ else _); rw [if_neg Bool.false_ne_true] at p1 ⊢; exact p1.ok wr1 σ (sr.mono e1)
    | true =>
      show (if true = true then _ else _)
      rw [if_pos rfl] at p1 ⊢
      refine ⟨fun σ' H' => ∃ φ ρ w, SR (X.K, Z) hd φ H' σ' ρ ∧ WR (X.K, Z) hd φ H' w ∧ Pst (X.K, Z) W hd (CS (X.K, Z) hd D) φ H' (whl mc m1 m ρ w), fun σ' H' h => ⟨m, Nat.lt_succ_self m, h⟩, hd, φ1, ρ, w1, sr.mono e1, wr1, Pst.then isPst p1 fun r w2 φ2 H2 e2 wr2 p2 => ?_⟩
      obtain ⟨ρ2, fl⟩ := r
      cases fl with
      | nx => exact fun σ2 sr2 => ⟨φ2, ρ2, w2, sr2, wr2, p2⟩
      | ct => exact fun σ2 sr2 => ⟨φ2, ρ2, w2, sr2, wr2, p2⟩
      | bk => exact p2.ok wr2
      | ret t => exact p2.ok wr2
end
end VS

set_option Elab.async false
set_option linter.all false
set_option maxRecDepth 100000
set_option maxHeartbeats 2000000
namespace VS
open PySem PySem.Spec PyProof.Rows L2

/-- as Ext, but the list at D (a comprehension's, held apart) may have grown -/
structure ExtD (D : Option Addr) (hd φ : List Addr) (H : Hp) (hd' φ' : List Addr) (H' : Hp) : Prop where
  pre : ∃ more, φ' = φ ++ more ∧ ∀ p ∈ more, Fr0 H p
  held : ∀ a ∈ hd', a ∈ hd ∨ Fr0 H a
  keep : ∀ b o, H b = some o → b ∉ φ → (∀ ps, o ≠ .tbl ps) → D ≠ some b → H' b = some o
  there : ∀ b o, H b = some o → (∀ ps, o ≠ .tbl ps) → ∃ o', H' b = some o' ∧ ∀ ps, o' ≠ .tbl ps
section
variable {K : KT} {D : Option Addr} {hd hd' φ φ' : List Addr} {H H' : Hp} {t : T} {v : V} {ts : List T} {xs : List V} {w : World} {d : Addr}
theorem Ext.toD (e : Ext hd φ H hd' φ' H') : ExtD D hd φ H hd' φ' H' := ⟨e.pre, e.held, fun b o h n nt _ => e.keep b o h n nt, e.there⟩
theorem ExtD.nin (e : ExtD D hd φ H hd' φ' H') {b : Addr} {o : HO} (h : H b = some o) (hn : b ∉ φ) (ht : ∀ ps, o ≠ .tbl ps) : b ∉ φ' := by
  obtain ⟨m, rfl, n⟩ := e.pre
  rw [List.mem_append]
  rintro (z | z)
  · exact hn z
  · exact fr0_not (n b z) h ht
theorem ExtD.fresh (e : ExtD D hd φ H hd' φ' H') {p : Addr} (h : Fr0 H' p) : Fr0 H p := fun o q => by
  cases o with
  | tbl ps => exact ⟨ps, rfl⟩
  | _ =>
    obtain ⟨o', h', n⟩ := e.there p _ q (fun _ z => nomatch z)
    exact (fr0_not h h' n).elim
theorem ExtD.trans {hd1 hd2 φ1 φ2 : List Addr} {H1 H2 : Hp} (a : ExtD D hd φ H hd1 φ1 H1) (b : ExtD D hd1 φ1 H1 hd2 φ2 H2) : ExtD D hd φ H hd2 φ2 H2 := by
  refine ⟨?_, fun c hc => ?_, fun c o hc hn nt hD => b.keep c o (a.keep c o hc hn nt hD) (a.nin hc hn nt) nt hD, fun c o hc nt => ?_⟩
  · obtain ⟨m1, e1, n1⟩ := a.pre
    obtain ⟨m2, e2, n2⟩ := b.pre
    refine ⟨m1 ++ m2, by rw [e2, e1, List.append_assoc], fun p hp => ?_⟩
    rcases List.mem_append.mp hp with z | z
    · exact n1 p z
    · exact a.fresh (n2 p z)
  · rcases b.held c hc with z | z
    · exact a.held c z
    · exact .inr (a.fresh z)
  · obtain ⟨o', h', n'⟩ := a.there c o hc nt
    exact b.there c o' h' n'
theorem ExtD.grow (hD : d ∈ hd) {o : HO} (ho : ∀ ps, o ≠ .tbl ps := by exact fun _ z => nomatch z) : ExtD (some d) hd φ H hd φ (upd H d o) :=
  ⟨⟨[], by simp, fun _ h => by simp at h⟩, fun _ h => .inl h, fun b u hb _ _ hn => by rw [upd_ne (fun (e : b = d) => hn (by rw [e]))]; exact hb, fun b u hb n => by
    by_cases e : b = d
    · subst e; exact ⟨o, upd_same, ho⟩
    · exact ⟨u, by rw [upd_ne e]; exact hb, n⟩⟩
/-- seen from ahead of D -/
theorem ExtD.plain (e : ExtD (some d) hd φ H hd' φ' H') (h : Fr0 H d) : Ext hd φ H hd' φ' H' :=
  ⟨e.pre, e.held, fun b o hb hn nt => e.keep b o hb hn nt (by rintro ⟨⟩; exact fr0_not h hb nt), e.there⟩
def Off (D : Option Addr) (hd : List Addr) (H : Hp) : Prop := ∀ d, D = some d → d ∈ hd ∨ Fr0 H d
theorem off_none : Off none hd H := fun _ h => nomatch h
theorem Off.ne (hD : Off D hd H) {a : Addr} {o : HO} (h : H a = some o) (n : a ∉ hd) (nt : ∀ ps, o ≠ .tbl ps) : D ≠ some a := fun e => by
  rcases hD a e with z | z
  · exact n z
  · exact fr0_not z h nt
theorem ExtD.nhd (e : ExtD D hd φ H hd' φ' H') {b : Addr} {o : HO} (h : H b = some o) (hn : b ∉ hd) (ht : ∀ ps, o ≠ .tbl ps) : b ∉ hd' := fun z => by
  rcases e.held b z with z | z
  · exact hn z
  · exact fr0_not z h ht
theorem NdX.monoD {a : Addr} {o : HO} (e : ExtD D hd φ H hd' φ' H') (hD : Off D hd H) (n : ∀ ps, o ≠ .tbl ps) (h : NdX hd φ H a o) : NdX hd' φ' H' a o := ⟨e.keep _ _ h.1 h.2.1 n (hD.ne h.1 h.2.2 n), e.nin h.1 h.2.1 n, e.nhd h.1 h.2.2 n⟩
theorem NdT.monoD {a : Addr} (e : ExtD D hd φ H hd' φ' H') (hD : Off D hd H) (h : NdT hd φ H a xs) : NdT hd' φ' H' a xs := ⟨e.keep _ _ h.1 h.2.1 (fun _ z => nomatch z) (hD.ne h.1 h.2.2 fun _ z => nomatch z), e.nin h.1 h.2.1 (fun _ z => nomatch z), e.nhd h.1 h.2.2 (fun _ z => nomatch z)⟩
theorem NdL.monoD {a : Addr} (e : ExtD D hd φ H hd' φ' H') (hD : Off D hd H) (h : NdL hd φ H a xs) : NdL hd' φ' H' a xs := ⟨e.keep _ _ h.1 h.2.1 (fun _ z => nomatch z) (hD.ne h.1 h.2.2 fun _ z => nomatch z), e.nin h.1 h.2.1 (fun _ z => nomatch z), e.nhd h.1 h.2.2 (fun _ z => nomatch z)⟩
theorem NdF.monoD {a : Addr} (e : ExtD D hd φ H hd' φ' H') (hD : Off D hd H) (h : NdF K hd φ H a xs) : NdF K hd' φ' H' a xs := by
  rcases h with ⟨o, h, z, h2, h3⟩ | h
  · have nt : ∀ ps, o ≠ .tbl ps := by rcases z with rfl | ⟨u, rfl⟩ <;> exact fun _ z => nomatch z
    exact .inl ⟨o, e.keep _ _ h h2 nt (hD.ne h h3 nt), z, e.nin h h2 nt, e.nhd h h3 nt⟩
  · exact .inr h
mutual
theorem Rep.monoD (e : ExtD D hd φ H hd' φ' H') (hD : Off D hd H) : ∀ {t : T} {v : V}, Rep K hd φ H t v → Rep K hd' φ' H' t v
  | .non, _, h => h
  | .bl _, _, h => h
  | .int _, _, h => h
  | .str _, _, h => h
  | .ty _, _, h => h
  | .tup ts, v, h => by
    unfold Rep at h ⊢
    obtain ⟨a, xs, e1, n, r⟩ := h
    exact ⟨a, xs, e1, n.monoD e hD, Reps.monoD e hD r⟩
  | .lst ts, v, h => by
    unfold Rep at h ⊢
    obtain ⟨a, xs, e1, n, r⟩ := h
    exact ⟨a, xs, e1, n.monoD e hD, Reps.monoD e hD r⟩
  | .frz ts, v, h => by
    unfold Rep at h ⊢
    obtain ⟨a, xs, e1, n, r⟩ := h
    exact ⟨a, xs, e1, n.monoD e hD, Reps.monoD e hD r⟩
  | .rng n, v, h => by
    unfold Rep at h ⊢
    obtain ⟨a, e1, h1, h2, h3⟩ := h
    exact ⟨a, e1, e.keep _ _ h1 h2 (fun _ z => nomatch z) (hD.ne h1 h3 fun _ z => nomatch z), e.nin h1 h2 (fun _ z => nomatch z), e.nhd h1 h3 (fun _ z => nomatch z)⟩
  | .cell k, v, h => by
    unfold Rep at h ⊢
    obtain ⟨a, e1, hk⟩ := h
    obtain ⟨m, rfl, _⟩ := e.pre
    exact ⟨a, e1, by rw [List.getElem?_append_left (List.getElem?_eq_some_iff.mp hk).1]; exact hk⟩
  | .glb x, v, h => by unfold Rep at h ⊢; exact h
  | .exc x ks ts, v, h => by
    unfold Rep at h ⊢
    obtain ⟨a, C, d, e1, g, n, q⟩ := h
    refine ⟨a, C, d, e1, g, n.monoD e hD exC_ne, ?_⟩
    rcases q with q | ⟨dd, vs, e2, l, n2, r⟩
    · exact .inl q
    · exact .inr ⟨dd, vs, e2, l, n2.monoD e hD (fun _ z => nomatch z), Reps.monoD e hD r⟩
  | .dct ks ts, v, h => by
    unfold Rep at h ⊢
    obtain ⟨a, vs, e1, l, n, r⟩ := h
    exact ⟨a, vs, e1, l, n.monoD e hD (fun _ z => nomatch z), Reps.monoD e hD r⟩
theorem Reps.monoD (e : ExtD D hd φ H hd' φ' H') (hD : Off D hd H) : ∀ {ts : List T} {xs : List V}, Reps K hd φ H ts xs → Reps K hd' φ' H' ts xs
  | [], _, h => by unfold Reps at h ⊢; exact h
  | t :: ts, _, h => by
    unfold Reps at h ⊢
    obtain ⟨x, r, e1, a, b⟩ := h
    exact ⟨x, r, e1, Rep.monoD e hD a, Reps.monoD e hD b⟩
end
theorem CellR.monoD {c : Cell} {a : Addr} (e : ExtD D hd φ H hd' φ' H') (hD : Off D hd H) (ha : H' a = H a) (h : CellR K hd φ H c a) : CellR K hd' φ' H' c a := by
  cases c with
  | lst ts => obtain ⟨xs, h1, h2⟩ := h; exact ⟨xs, ha.trans h1, h2.monoD e hD⟩
  | dic kvs => obtain ⟨ys, h1, h2, h3⟩ := h; exact ⟨ys, ha.trans h1, h2, h3.monoD e hD⟩
  | dit kvs => obtain ⟨ys, h1, h2, h3⟩ := h; exact ⟨ys, ha.trans h1, h2, h3.monoD e hD⟩
  | din kvs => obtain ⟨ys, h1, h2, h3, h4⟩ := h; exact ⟨ys, ha.trans h1, h2, h3.monoD e hD, h4.monoD e hD⟩
  | obj x ks ts => obtain ⟨C, dx, vs, h1, h2, h3, h4, h5⟩ := h; exact ⟨C, dx, vs, ha.trans h1, h2, h3, h4.monoD e hD (fun _ z => nomatch z), h5.monoD e hD⟩
theorem SR.monoD {σ : L2.St} {ρ : Env} (h : SR K hd φ H σ ρ) (e : ExtD D hd φ H hd' φ' H') (hD : Off D hd H) : SR K hd' φ' H' σ ρ := ⟨h.len, fun i t ht => by
  obtain ⟨v, h1, h2⟩ := h.get i t ht
  exact ⟨v, h1, h2.monoD e hD⟩⟩
theorem WR.grow (h : WR K hd φ H w) (hD : d ∈ hd) {o : HO} {v : HO} (hx : H d = some v) (hp : Plain v := by exact trivial) (ho : ∀ ps, o ≠ .tbl ps := by exact fun _ z => nomatch z) : WR K hd φ (upd H d o) w := by
  have e : ExtD (some d) hd φ H hd φ (upd H d o) := ExtD.grow hD ho
  have off : Off (some d) hd H := fun d' hd' => by cases hd'; exact .inl hD
  refine ⟨h.len, h.nd, h.apart, fun a ha => ?_, fun k c a h1 h2 => (h.cells k c a h1 h2).monoD e off ?_, tabs_upd h.tabs fun u q => by rw [hx] at q; cases q; exact hp⟩
  · obtain ⟨u, q, n⟩ := h.there a ha
    exact e.there a u q n
  · rw [upd_ne]
    rintro rfl
    exact h.apart _ (List.mem_of_getElem? h2) hD
end

/-! ### what is walked -/
/-- a cell that is walked stays as it is -/
abbrev OC := Option (Nat × List T)
def Kept (oc : OC) (ts : List T) (w : World) : Prop := ∀ k l, oc = some (k, l) → w[k]? = some (.lst l)
theorem kept_none {ts : List T} {w : World} : Kept none ts w := fun _ _ h => nomatch h
theorem kept_some {k : Nat} {ts l : List T} {w : World} (h : w[k]? = some (.lst l)) : Kept (some (k, l)) ts w := fun j m e => by cases e; exact h
def Src (K : KT) (hd₀ φ₀ : List Addr) (H₀ : Hp) (J : It) (ts : List T) (oc : OC) : Prop :=
  ∀ (D : Option Addr) i hd φ H w, Off D hd₀ H₀ → ExtD D hd₀ φ₀ H₀ hd φ H → WR K hd φ H w → Kept oc ts w →
    (∀ t, ts[i]? = some t → J.go i H ∧ ∀ x H', J.yld i H x H' → Ext hd φ H hd φ H' ∧ WR K hd φ H' w ∧ Rep K hd φ H' t x) ∧ (ts.length ≤ i → J.stop i H)
abbrev MI := Env → World → R (List T × OC)
abbrev CI (K : KT) (hd : List Addr) (Q : It → Hp → Prop) : List T × OC → List Addr → Hp → Prop := fun r φ' H' => ∀ J, Src K hd φ' H' J r.1 r.2 → Q J H'
def rdI (K : KT) (W : Option WX) (m : MI) : TI := fun σ H Q => ∃ hd φ ρ w, SR K hd φ H σ ρ ∧ WR K hd φ H w ∧ Pst K W hd (CI K hd Q) φ H (m ρ w)
section
variable {X : Cx} {e a b c : Expr} {pos : Pos} {tg : Expr} {K : KT} {Z : ZT} {W : Option WX}
theorem PI_imp {t t' : TI} (h : PI X tg e t) (i : ∀ σ H Q, t' σ H Q → t σ H Q) : PI X tg e t' := ⟨fun pins s σ H Q I q => h.run pins s σ H Q I (i σ H Q q)⟩
theorem PI_or {t t' : TI} (h : PI X tg e t) (h' : PI X tg e t') : PI X tg e (fun σ H Q => t σ H Q ∨ t' σ H Q) := ⟨fun pins s σ H Q I q => q.elim (h.run pins s σ H Q I) (h'.run pins s σ H Q I)⟩
/-- the items of a sequence, and its cell -/
def items (w : World) : T → Option (List T × OC)
  | .tup ts => some (ts, none)
  | .lst ts => some (ts, none)
  | .frz ts => some (ts, none)
  | .cell k => match w[k]? with
    | some (.lst ts) => some (ts, some (k, ts))
    | _ => none
  | _ => none
def sItems : T → World → R (List T × OC) := fun t w => match items w t with
  | some r => .ok r w
  | none => .no
def mItems (m : ME) : MI := fun ρ w => (m ρ w).bind sItems
theorem src_list {hd₀ φ₀ : List Addr} {H₀ : Hp} {a : Addr} {ts : List T} {oc : OC}
    (h : ∀ (D : Option Addr) hd φ H w, Off D hd₀ H₀ → ExtD D hd₀ φ₀ H₀ hd φ H → WR K hd φ H w → Kept oc ts w → ∃ xs, SqL K.1 H a xs ∧ Reps K hd φ H ts xs)
 : Src K hd₀ φ₀ H₀ (Itl K.1 a) ts oc := fun D i hd φ H w off e wr kp => by
  obtain ⟨xs, h1, h2⟩ := h D hd φ H w off e wr kp
  refine ⟨fun t ht => ?_, fun hl => ⟨xs, h1, by rw [← h2.len]; exact hl⟩⟩
  obtain ⟨x, hx, rx⟩ := h2.at ht
  refine ⟨⟨xs, x, h1, hx⟩, fun y H' hy => ?_⟩
  obtain ⟨rfl, hy⟩ := hy
  have := (hy xs h1).symm.trans hx
  cases this
  exact ⟨Ext.refl, wr, rx⟩
theorem src_tup {hd₀ φ₀ : List Addr} {H₀ : Hp} {a : Addr} {ts : List T} {oc : OC}
    (h : ∀ (D : Option Addr) hd φ H w, Off D hd₀ H₀ → ExtD D hd₀ φ₀ H₀ hd φ H → WR K hd φ H w → Kept oc ts w → ∃ xs, SqT K.1 H a xs ∧ Reps K hd φ H ts xs) : Src K hd₀ φ₀ H₀ (Itt K.1 a) ts oc := fun D i hd φ H w off e wr kp => by
  obtain ⟨xs, h1, h2⟩ := h D hd φ H w off e wr kp
  refine ⟨fun t ht => ?_, fun hl => ⟨xs, h1, by rw [← h2.len]; exact hl⟩⟩
  obtain ⟨x, hx, rx⟩ := h2.at ht
  refine ⟨⟨xs, x, h1, hx⟩, fun y H' hy => ?_⟩
  obtain ⟨rfl, hy⟩ := hy
  have := (hy xs h1).symm.trans hx
  cases this
  exact ⟨Ext.refl, wr, rx⟩
/-- at later heaps -/
theorem lst_later {hd₀ φ₀ : List Addr} {H₀ : Hp} {t : T} {v : V} {ts : List T} {oc : OC} {w₀ : World} (r : Rep K hd₀ φ₀ H₀ t v) (hs : items w₀ t = some (ts, oc)) (nt : ∀ us, t ≠ .tup us) :
    ∃ a, v = .ref a ∧ Kept oc ts w₀ ∧ ∀ (D : Option Addr) hd φ H w, Off D hd₀ H₀ → ExtD D hd₀ φ₀ H₀ hd φ H → WR K hd φ H w → Kept oc ts w → ∃ xs, SqL K.1 H a xs ∧ Reps K hd φ H ts xs := by
  cases t with
  | tup us => exact absurd rfl (nt us)
  | lst us =>
    cases hs
    unfold Rep at r
    obtain ⟨a, xs, e1, n, rs⟩ := r
    exact ⟨a, e1, kept_none, fun D hd φ H w off e wr kp => ⟨xs, SqL.of (n.monoD e off).1, rs.monoD e off⟩⟩
  | frz us =>
    cases hs
    unfold Rep at r
    obtain ⟨a, xs, e1, n, rs⟩ := r
    refine ⟨a, e1, kept_none, fun D hd φ H w off e wr kp => ⟨xs, ?_, rs.monoD e off⟩⟩
    rcases n.monoD e off with ⟨o, n, rfl | ⟨u, rfl⟩, _⟩ | n
    · exact SqL.of n
    · exact .inl (.inr ⟨u, n⟩)
    · rcases n with (n | ⟨_, n⟩) | n
      · cases n
      · cases n
      · exact .inr n
  | cell k =>
    unfold items at hs
    simp only at hs
    split at hs
    · rename_i us hk
      cases hs
      unfold Rep at r
      obtain ⟨a, e1, ha⟩ := r
      refine ⟨a, e1, kept_some hk, fun D hd φ H w off e wr kp => ?_⟩
      obtain ⟨m, e2, _⟩ := e.pre
      obtain ⟨xs, h1, h2⟩ := wr.cells k _ a (kp k _ rfl) (by rw [e2, List.getElem?_append_left (List.getElem?_eq_some_iff.mp ha).1]; exact ha)
      exact ⟨xs, SqL.of h1, h2⟩
    · cases hs
  | _ => cases hs
theorem di_seq {m : ME} (h : PE X e (rdE (X.K, Z) W m)) : PI X tg e (rdI (X.K, Z) W (mItems m)) := PI_imp (PI_or (pi_list h) (pi_tup h)) fun σ H Q => by
  rintro ⟨hd, φ, ρ, w, sr, wr, p⟩
  unfold mItems at p
  cases q : m ρ w with
  | no => rw [q] at p; exact p.elim
  | ex _ _ _ => (rw [q] at p; first | exact p | (rw [q]; exact p) | exact .inl ⟨hd, φ, ρ, w, sr, wr, by rw [q]; exact p⟩)
  | ok t w1 =>
    rw [q, bind_ok] at p
    unfold sItems at p
    cases q2 : items w1 t with
    | none => rw [q2] at p; exact p.elim
    | some r =>
      rw [q2] at p
      obtain ⟨ts, oc⟩ := r
      have two : (∀ us, t ≠ .tup us) ∨ ∃ us, t = .tup us := by
        cases t with
        | tup us => exact .inr ⟨us, rfl⟩
        | _ => exact .inl fun _ e => nomatch e
      rcases two with nt | ⟨us, rfl⟩
      · refine .inl ⟨hd, φ, ρ, w, sr, wr, ?_⟩
        rw [q]
        intro H' φ' e1 wr1 v rv
        obtain ⟨a, rfl, kp, h1⟩ := lst_later rv q2 nt
        obtain ⟨xs, h2, h3⟩ := h1 none hd φ' H' w1 off_none Ext.refl.toD wr1 kp
        exact ⟨a, rfl, ⟨xs, h2⟩, p H' φ' e1 wr1 _ (src_list h1)⟩
      · refine .inr ⟨hd, φ, ρ, w, sr, wr, ?_⟩
        rw [q]
        intro H' φ' e1 wr1 v rv
        cases q2
        unfold Rep at rv
        obtain ⟨a, xs, rfl, n, rs⟩ := rv
        exact ⟨a, rfl, ⟨xs, SqT.of n.1⟩, p H' φ' e1 wr1 _ (src_tup fun D hd φ H w off e wr kp => ⟨xs, SqT.of (n.monoD e off).1, rs.monoD e off⟩)⟩
/-- range -/
def rgT (lo : Int) (n : Nat) : List T := (List.range n).map fun i => .int (lo + (i : Nat))
theorem rgT_length {lo : Int} {n : Nat} : (rgT lo n).length = n := by unfold rgT; simp
theorem rgT_at {lo : Int} {n i : Nat} {t : T} (h : (rgT lo n)[i]? = some t) : t = .int (lo + i) ∧ i < n := by
  unfold rgT at h
  rw [List.getElem?_map] at h
  cases q : (List.range n)[i]? with
  | none => rw [q] at h; cases h
  | some j =>
    rw [q] at h
    obtain ⟨h1, h2⟩ := List.getElem?_eq_some_iff.mp q
    rw [List.getElem_range] at h2
    subst h2
    exact ⟨(Option.some.inj h).symm, by simpa using h1⟩
theorem src_range {hd₀ φ₀ : List Addr} {H₀ : Hp} {lo : Int} {n : Nat} : Src K hd₀ φ₀ H₀ (Itr lo n) (rgT lo n) none := fun D i hd φ H w off e wr kp => by
  refine ⟨fun t ht => ?_, fun hl => by rw [rgT_length] at hl; exact hl⟩
  obtain ⟨rfl, hi⟩ := rgT_at ht
  refine ⟨hi, fun y H' hy => ?_⟩
  obtain ⟨rfl, rfl⟩ := hy
  exact ⟨Ext.refl, wr, by unfold Rep; rfl⟩
def RgOk (i j : Int) : Prop := -(2 ^ 62) ≤ i ∧ i < 2 ^ 62 ∧ -(2 ^ 62) ≤ j ∧ j < 2 ^ 62
instance {i j : Int} : Decidable (RgOk i j) := by unfold RgOk; infer_instance
def sRange1 : List T → World → R (List T × OC) := fun ts w => match ts with
  | [.int j] => if RgOk 0 j then .ok (rgT 0 j.toNat, none) w else .no
  | _ => .no
def sRange2 : List T → World → R (List T × OC) := fun ts w => match ts with
  | [.int i, .int j] => if RgOk i j then .ok (rgT i (j - i).toNat, none) w else .no
  | _ => .no
def mRange1 (m : MF) : MI := fun ρ w => (m ρ w).bind sRange1
def mRange2 (m : MF) : MI := fun ρ w => (m ρ w).bind sRange2
theorem rep_int {hd φ : List Addr} {H : Hp} {i : Int} {v : V} (h : Rep K hd φ H (.int i) v) : v = .int i := by unfold Rep at h; exact h
theorem reps1 {hd φ : List Addr} {H : Hp} {t : T} {vs : List V} (h : Reps K hd φ H [t] vs) : ∃ v, vs = [v] ∧ Rep K hd φ H t v := by
  unfold Reps at h
  obtain ⟨v, r, rfl, h1, h2⟩ := h
  unfold Reps at h2
  subst h2
  exact ⟨v, rfl, h1⟩
theorem reps2 {hd φ : List Addr} {H : Hp} {t u : T} {vs : List V} (h : Reps K hd φ H [t, u] vs) : ∃ v x, vs = [v, x] ∧ Rep K hd φ H t v ∧ Rep K hd φ H u x := by
  unfold Reps at h
  obtain ⟨v, r, rfl, h1, h2⟩ := h
  obtain ⟨x, rfl, h3⟩ := reps1 h2
  exact ⟨v, x, rfl, h1, h3⟩
theorem di_range1 {p : Pos} {m : MF} (hm : X.mg "range" = none) (ha : PA X [a] (rdA (X.K, Z) W m)) (hg : Gl X "range" := by rfl) (hs : starEach [a] X.env = [(false, eval a X.env)] := by rfl) : PI X tg (.Call (.Name "range" p) [a] [] pos) (rdI (X.K, Z) W (mRange1 m)) := PI_imp (pi_range1 hg hm ha hs) fun σ H Q => by
  rintro ⟨hd, φ, ρ, w, sr, wr, p⟩
  refine ⟨hd, φ, ρ, w, sr, wr, ?_⟩
  unfold mRange1 at p
  cases q : m ρ w with
  | no => rw [q] at p; exact p.elim
  | ex _ _ _ => (rw [q] at p; first | exact p | (rw [q]; exact p) | exact .inl ⟨hd, φ, ρ, w, sr, wr, by rw [q]; exact p⟩)
  | ok ts w1 =>
    rw [q, bind_ok] at p
    intro H' φ' e1 wr1 vs rvs
    unfold sRange1 at p
    match ts, p with
    | [.int j], p =>
      obtain ⟨v, rfl, r1⟩ := reps1 rvs
      cases rep_int r1
      simp only at p
      split at p
      · rename_i ok
        exact ⟨j, rfl, ok.2.2.1, ok.2.2.2, p H' φ' e1 wr1 _ src_range⟩
      · exact p.elim
theorem di_range2 {p : Pos} {m : MF} (hm : X.mg "range" = none) (ha : PA X [a, b] (rdA (X.K, Z) W m)) (hg : Gl X "range" := by rfl) (hs : starEach [a, b] X.env = [(false, eval a X.env), (false, eval b X.env)] := by rfl) (hs2 : starEach [b] X.env = [(false, eval b X.env)] := by rfl) : PI X tg (.Call (.Name "range" p) [a, b] [] pos) (rdI (X.K, Z) W (mRange2 m)) := PI_imp (pi_range2 hg hm ha hs hs2) fun σ H Q => by
  rintro ⟨hd, φ, ρ, w, sr, wr, p⟩
  refine ⟨hd, φ, ρ, w, sr, wr, ?_⟩
  unfold mRange2 at p
  cases q : m ρ w with
  | no => rw [q] at p; exact p.elim
  | ex _ _ _ => (rw [q] at p; first | exact p | (rw [q]; exact p) | exact .inl ⟨hd, φ, ρ, w, sr, wr, by rw [q]; exact p⟩)
  | ok ts w1 =>
    rw [q, bind_ok] at p
    intro H' φ' e1 wr1 vs rvs
    unfold sRange2 at p
    match ts, p with
    | [.int i, .int j], p =>
      obtain ⟨v, x, rfl, r1, r2⟩ := reps2 rvs
      cases rep_int r1
      cases rep_int r2
      simp only at p
      split at p
      · rename_i ok
        exact ⟨i, j, rfl, ok, p H' φ' e1 wr1 _ src_range⟩
      · exact p.elim

/-! ### for -/
open Classical in
noncomputable def forL (g : MG) (b : MS) (oc : OC) (all : List T) : List T → Env → World → R (Env × Fl)
  | [], ρ, w => if Kept oc all w then .ok (ρ, .nx) w else .no
  | t :: ts, ρ, w => if Kept oc all w then (g t ρ w).bind fun ρ1 w1 => (b ρ1 w1).bind fun r w2 => match r.2 with
      | .nx => forL g b oc all ts r.1 w2
      | .ct => forL g b oc all ts r.1 w2
      | .bk => .ok (r.1, .nx) w2
      | .ret t => .ok (r.1, .ret t) w2
    else .no
noncomputable def mFor (it : MI) (g : MG) (b : MS) : MS := fun ρ w => (it ρ w).bind fun r w1 => forL g b r.2 r.1 r.1 ρ w1
variable {m1 : MS}
theorem ds_for {it : MI} {g : MG} {S : List Nat} {body : List Stmt} (hp : PassesOwn (model X.prog X.w) X.A X.env X.xe) (hc : X.calm = true) (hi : PI X tg e (rdI (X.K, Z) W it)) (hg : PG X tg (rdG (X.K, Z) W g S)) (hb : PSs X body (rdS (X.K, Z) W m1)) (hs : ∀ x, foldedSetIterable e X.env x = pure x := by intro _; rfl) :
    PS X (.For tg e body [] pos) (rdS (X.K, Z) W (mFor it g m1)) := PS_imp (ps_for hp hc hi hg hb hs) fun Ds σ H => by
  rintro ⟨hd, φ, ρ, w, sr, wr, p⟩
  refine ⟨hd, φ, ρ, w, sr, wr, Pst.then isPst p fun r w1 φ1 H1 e1 wr1 p1 J src => ?_⟩
  obtain ⟨all, oc⟩ := r
  simp only at p1 src
  refine ⟨fun i m σ H => m + i = all.length ∧ ∃ φ ρ w, Ext hd φ1 H1 hd φ H ∧ SR (X.K, Z) hd φ H σ ρ ∧ WR (X.K, Z) hd φ H w ∧ Pst (X.K, Z) W hd (CS (X.K, Z) hd Ds) φ H (forL g m1 oc all (all.drop i) ρ w), ⟨all.length, by omega, φ1, ρ, w1, Ext.refl, sr.mono e1, wr1, by rw [List.drop_zero]; exact p1⟩, fun i m σ H => ?_⟩
  rintro ⟨hm, φ, ρ, w, ee, sr, wr, p⟩
  by_cases hi : i < all.length
  · have hdr : all.drop i = all[i] :: all.drop (i + 1) := List.drop_eq_getElem_cons hi
    rw [hdr] at p
    unfold forL at p
    split at p
    · rename_i kp
      obtain ⟨s1, _⟩ := src none i hd φ H w off_none ee.toD wr kp
      obtain ⟨go, yl⟩ := s1 all[i] (by simp [hi])
      refine .inr ⟨go, fun σ' H' => ∃ φ ρ w, Ext hd φ1 H1 hd φ H' ∧ SR (X.K, Z) hd φ H' σ' ρ ∧ WR (X.K, Z) hd φ H' w ∧ Pst (X.K, Z) W hd (CS (X.K, Z) hd Ds) φ H' (forL g m1 oc all (all.drop (i + 1)) ρ w), fun σ' H' h => ⟨m - 1, by omega, by omega, h⟩, fun x H' hy => ?_⟩
      obtain ⟨e2, wr2, rx⟩ := yl x H' hy
      refine ⟨hd, φ, ρ, w, all[i], sr.mono e2, wr2, rx, Pst.then isPst (isPst.mono _ _ _ _ _ e2 p) fun ρ1 w3 φ3 H3 e3 wr3 p3 σ3 sr3 _ => ?_⟩
      refine ⟨hd, φ3, ρ1, w3, sr3, wr3, Pst.then isPst p3 fun r w4 φ4 H4 e4 wr4 p4 => ?_⟩
      have e5 := ((ee.trans e2).trans e3).trans e4
      obtain ⟨ρ4, fl⟩ := r
      cases fl with
      | nx => exact fun σ4 sr4 => ⟨φ4, ρ4, w4, e5, sr4, wr4, p4⟩
      | ct => exact fun σ4 sr4 => ⟨φ4, ρ4, w4, e5, sr4, wr4, p4⟩
      | bk => exact p4.ok wr4
      | ret t => exact p4.ok wr4
    · exact p.elim
  · have hdr : all.drop i = [] := List.drop_eq_nil_of_le (by omega)
    rw [hdr] at p
    unfold forL at p
    split at p
    · rename_i kp
      obtain ⟨_, s2⟩ := src none i hd φ H w off_none ee.toD wr kp
      exact .inl ⟨s2 (by omega), p.ok wr σ sr⟩
    · exact p.elim
end
end VS

set_option Elab.async false
set_option linter.all false
set_option maxRecDepth 100000
set_option maxHeartbeats 2000000
namespace VS
open PySem PySem.Spec PyProof.Rows L2

/-! ### list comprehensions -/
def wipeE (ρ : Env) : List Nat → Env
  | [] => ρ
  | v :: vs => (wipeE ρ vs).set v none
section
variable {K : KT} {hd φ : List Addr} {H : Hp} {σ : L2.St} {ρ : Env} {w : World}
theorem SR.unset (h : SR K hd φ H σ ρ) (i : Nat) : SR K hd φ H (σ.set i none) (ρ.set i none) := ⟨by simp [h.len], fun j u hu => by
  rw [List.getElem?_set] at hu
  split at hu
  · split at hu <;> simp at hu
  · rename_i e
    obtain ⟨x, h1, h2⟩ := h.get j u hu
    exact ⟨x, by rw [List.getElem?_set_ne e]; exact h1, h2⟩⟩
theorem SR.wipe (h : SR K hd φ H σ ρ) : ∀ vs : List Nat, SR K hd φ H (wipe σ vs) (wipeE ρ vs)
  | [] => h
  | v :: vs => by unfold L2.wipe wipeE; exact (SR.wipe h vs).unset v
end
open Classical in
noncomputable def compL (g : MG) (c : MT) (e : ME) (oc : OC) (all : List T) (ρ0 : Env) : List T → List T → World → R (List T)
  | [], out, w => if Kept oc all w then .ok out w else .no
  | t :: ts, out, w => if Kept oc all w then (g t ρ0 w).bind fun ρ1 w1 => (c ρ1 w1).bind fun k w2 => if k = true then (e ρ1 w2).bind fun y w3 => if out.length < sizeLine then compL g c e oc all ρ0 ts (out ++ [y]) w3 else .no
      else compL g c e oc all ρ0 ts out w2
    else .no
/-- behind a loop that fills the list at d -/
def PstD (K : KT) (hd : List Addr) (d : Addr) (C : Hp → World → List T → List Addr → Prop) (φ : List Addr) (H : Hp) : R (List T) → Prop
  | .ok out w' => ∀ H' φ' acc, ExtD (some d) hd φ H hd φ' H' → WR K hd φ' H' w' → H' d = some (.lst acc) → Reps K hd φ' H' out acc → C H' w' out φ'
  | .ex _ _ _ => False
  | .no => False
section
variable {X : Cx} {e iter : Expr} {tg : Expr} {K : KT} {Z : ZT} {W : Option WX}
theorem PstD.mono {hd : List Addr} {d : Addr} {C : Hp → World → List T → List Addr → Prop} {φ φ1 : List Addr} {H H1 : Hp} {r : R (List T)} (e : ExtD (some d) hd φ H hd φ1 H1) (p : PstD K hd d C φ H r) : PstD K hd d C φ1 H1 r := by
  cases r with
  | no => exact p
  | ex _ _ _ => exact p
  | ok out w => intro H' φ' acc e' wr hx rs; exact p H' φ' acc (e.trans e') wr hx rs
theorem isPstD {hd : List Addr} {d : Addr} {C : Hp → World → List T → List Addr → Prop} : IsPst K none hd (PstD K hd d C) where
  mono := fun φ H φ1 H1 r e p => p.mono e.toD
  no := fun _ _ h => h
  ex := fun _ _ _ _ _ h => h
theorem wipe_wipe {σ : L2.St} (vs : List Nat) : wipe (wipe σ vs) vs = wipe σ vs := by
  apply List.ext_getElem?
  intro j
  rw [wipe_get, wipe_get, wipe_length]
  split <;> rfl
theorem comp_loop {hd₀ φ₀ hd φ1 : List Addr} {H₀ H1 : Hp} {d : Addr} {J : It} {all : List T} {oc : OC} {g : MG} {S vs : List Nat} {mc : MT} {me : ME} {σ0 : L2.St} {ρ0 : Env} {w1 : World} {out : List T} {acc : List V} {Qd : Hp → Prop}
    (src : Src K hd₀ φ₀ H₀ J all oc) (off : Off (some d) hd₀ H₀) (e0 : ExtD (some d) hd₀ φ₀ H₀ hd φ1 H1) (hdm : d ∈ hd) (sr : SR K hd φ1 H1 σ0 ρ0) (wr : WR K hd φ1 H1 w1) (hx : H1 d = some (.lst acc)) (rs : Reps K hd φ1 H1 out acc)
    (hS : ∀ i ∈ S, i ∈ vs) {σw : L2.St} (hw : wipe σ0 vs = σw) (p : PstD K hd d (fun H' _ _ _ => Qd H') φ1 H1 (compL g mc me oc all ρ0 all out w1)) :
    ∃ W : Nat → Nat → Hp → Prop, (∃ m, W 0 m H1) ∧ ∀ i m H, W i m H →
      (J.stop i H ∧ Qd H) ∨ (J.go i H ∧ ∃ Nx : Hp → Prop, (∀ H', Nx H' → ∃ m', m' < m ∧ W (i + 1) m' H') ∧ ∀ x H', J.yld i H x H' → rdG K none g S x σ0 H' fun σ2 H2 => wipe σ2 vs = σw ∧ rdT K none mc σ2 H2 fun b H3 =>
        if b = true then rdE K none me σ2 H3 fun y H4 => ∃ acc, H4 d = some (.lst acc) ∧ acc.length < sizeLine ∧ Nx (upd H4 d (.lst (acc ++ [y]))) else Nx H3) := by
  have offd : ∀ H', Off (some d) hd H' := fun H' d' h => by cases h; exact .inl hdm
  refine ⟨fun i m H => m + i = all.length ∧ ∃ φ w out acc, ExtD (some d) hd φ1 H1 hd φ H ∧ WR K hd φ H w ∧ H d = some (.lst acc) ∧ Reps K hd φ H out acc ∧ PstD K hd d (fun H' _ _ _ => Qd H') φ H (compL g mc me oc all ρ0 (all.drop i) out w),
    ⟨all.length, by omega, φ1, w1, out, acc, Ext.refl.toD, wr, hx, rs, by rw [List.drop_zero]; exact p⟩, fun i m H => ?_⟩
  rintro ⟨hm, φ, w, out, acc, ee, wr, hx, rs, p⟩
  by_cases hi : i < all.length
  · have hdr : all.drop i = all[i] :: all.drop (i + 1) := List.drop_eq_getElem_cons hi
    rw [hdr] at p
    unfold compL at p
    split at p
    · rename_i kp
      obtain ⟨s1, _⟩ := src (some d) i hd φ H w off (e0.trans ee) wr kp
      obtain ⟨go, yl⟩ := s1 all[i] (by simp [hi])
      refine .inr ⟨go, fun H' => ∃ φ w out acc, ExtD (some d) hd φ1 H1 hd φ H' ∧ WR K hd φ H' w ∧ H' d = some (.lst acc) ∧ Reps K hd φ H' out acc ∧ PstD K hd d (fun H' _ _ _ => Qd H') φ H' (compL g mc me oc all ρ0 (all.drop (i + 1)) out w), fun H' h => ⟨m - 1, by omega, by omega, h⟩, fun x H' hy => ?_⟩
      obtain ⟨e2, wr2, rx⟩ := yl x H' hy
      have dn : ∀ {φ' : List Addr} {H' : Hp} {w' : World}, WR K hd φ' H' w' → d ∉ φ' := fun wr z => wr.apart d z hdm
      have hx2 := e2.keep d _ hx (dn wr) (fun _ z => nomatch z)
      refine ⟨hd, φ, ρ0, w, all[i], sr.monoD (ee.trans e2.toD) (offd H1), wr2, rx, Pst.then isPstD (p.mono e2.toD) fun ρ1 w3 φ3 H3 e3 wr3 p3 σ3 sr3 hw3 => ⟨(hw3 vs hS).trans hw, ?_⟩⟩
      have hx3 := e3.keep d _ hx2 (dn wr2) (fun _ z => nomatch z)
      refine ⟨hd, φ3, ρ1, w3, sr3, wr3, Pst.then isPstD p3 fun k w4 φ4 H4 e4 wr4 p4 => ?_⟩
      have hx4 := e4.keep d _ hx3 (dn wr3) (fun _ z => nomatch z)
      have r4 : Reps K hd φ4 H4 out acc := ((rs.mono e2).mono e3).mono e4
      cases k with
      | false =>
        show (if false = true then _ else _)
        rw [if_neg Bool.false_ne_true] at p4 ⊢
        exact ⟨φ4, w4, out, acc, (((ee.trans e2.toD).trans e3.toD).trans e4.toD), wr4, hx4, r4, p4⟩
      | true =>
        show (if true = true then _ else _)
        rw [if_pos rfl] at p4 ⊢
        refine ⟨hd, φ4, ρ1, w4, sr3.mono e4, wr4, Pst.then isPstD p4 fun y w5 φ5 H5 e5 wr5 p5 v rv => ?_⟩
        have hx5 := e5.keep d _ hx4 (dn wr4) (fun _ z => nomatch z)
        have r5 := r4.mono e5
        split at p5
        · rename_i hl
          have eg : ExtD (some d) hd φ5 H5 hd φ5 (upd H5 d (.lst (acc ++ [v]))) := ExtD.grow hdm
          refine ⟨acc, hx5, by rw [← r5.len]; exact hl, φ5, w5, out ++ [y], acc ++ [v], ((((ee.trans e2.toD).trans e3.toD).trans e4.toD).trans e5.toD).trans eg, wr5.grow hdm hx5, upd_same, ?_, p5.mono eg⟩
          exact (r5.append (Reps.cons rv Reps.nil)).monoD eg (offd H5)
        · exact p5.elim
    · exact p.elim
  · have hdr : all.drop i = [] := List.drop_eq_nil_of_le (by omega)
    rw [hdr] at p
    unfold compL at p
    split at p
    · rename_i kp
      obtain ⟨_, s2⟩ := src (some d) i hd φ H w off (e0.trans ee) wr kp
      exact .inl ⟨s2 (by omega), p H φ acc Ext.refl.toD wr hx rs⟩
    · exact p.elim
/-- no error is let out -/
def noX {α : Type} : R α → R α
  | .ex _ _ _ => .no
  | r => r
theorem noX_ok {α : Type} {a : α} {w : World} : noX (.ok a w) = .ok a w := rfl
noncomputable def mComp (vs : List Nat) (it : MI) (g : MG) (c : MT) (e : ME) : MF := fun ρ w => (it ρ w).bind fun r w1 => noX (compL g c e r.2 r.1 (wipeE ρ vs) r.1 [] w1)
theorem comp_read {it : MI} {g : MG} {S vs : List Nat} {mc : MT} {me : ME} (hS : ∀ i ∈ S, i ∈ vs) : ∀ σ H Q, rdF K W (mComp vs it g mc me) σ H Q → tLc (rdI K W it) (rdG K none g S) (rdT K none mc) (rdE K none me) vs σ H Q := fun σ H Q => by
  rintro ⟨hd, φ, ρ, w, sr, wr, p⟩
  refine ⟨hd, φ, ρ, w, sr, wr, Pst.then isPstF p fun r w1 φ1 H1 e1 wr1 p1 J src D nD => ?_⟩
  obtain ⟨all, oc⟩ := r
  simp only at p1 src
  have eh : Ext hd φ1 H1 (D :: hd) φ1 (upd H1 D (.lst [])) := Ext.hold nD
  have hD : D ∉ hd := (wr1.nin nD).2
  refine comp_loop (hd := D :: hd) (φ1 := φ1) (vs := vs) (σ0 := wipe σ vs) (ρ0 := wipeE ρ vs) (w1 := w1) (out := []) (acc := []) (mc := mc) (me := me) (g := g) (oc := oc) (all := all) (Qd := fun H' => Q (.ref D) H') src (fun d h => by cases h; exact .inr (fr0_none nD)) eh.toD List.mem_cons_self (((sr.mono e1).mono eh).wipe vs) (wr1.hold nD) upd_same Reps.nil hS (wipe_wipe vs) ?_
  cases q : compL g mc me oc all (wipeE ρ vs) all [] w1 with
  | no => rw [q] at p1; exact p1
  | ex _ _ _ => rw [q] at p1; exact p1.elim
  | ok out w' =>
    rw [q] at p1
    intro H' φ' acc e' wr' hx rs
    exact p1 D acc H' φ' ((eh.toD.trans e').plain (fr0_none nD)) wr' (fr0_none nD) hD hx rs
variable {elt : Expr} {ifs : List Expr} {scope : Scope} {own : List (Str × Nat)} {pos : Pos}
/-- what a block is read in -/
abbrev InBlk (X : Cx) (scope : Scope) (F : Cx → Prop) : Prop := ∀ (s : Shared) (H : Hp) (C : Addr) (cl : List (Str × Addr)) (fp : List Addr), F (X.blk s H scope (compEnvC scope cl C X.env) fp)
def PTs_imp {t t' : TT} (h : PTs X ifs t) (i : ∀ σ H Q, t' σ H Q → t σ H Q) : PTs X ifs t' := ⟨fun pins s σ H Q I q => h.run pins s σ H Q I (i σ H Q q)⟩
def mYes : MT := fun _ w => .ok true w
theorem dts_nil : PTs X [] (rdT (X.K, Z) W mYes) := PTs_imp pts_nil fun σ H Q => by
  rintro ⟨hd, φ, ρ, w, sr, wr, p⟩
  exact p.ok wr
theorem dts_one {c : Expr} {m : MT} (h : PT X c (rdT (X.K, Z) W m)) : PTs X [c] (rdT (X.K, Z) W m) := pts_one h
theorem df_comp {it : MI} {g : MG} {S : List Nat} {mc : MT} {me : ME} (hc : X.calm = true) (hN : X.N.Nodup) (hi : PI X tg iter (rdI (X.K, Z) W it)) (ok : blkC X.N X.env.scope scope own = true)
    (hg : InBlk X scope fun Y => PG Y tg (rdG (X.K, Z) none g S)) (ht : InBlk X scope fun Y => PTs Y ifs (rdT (X.K, Z) none mc)) (he : InBlk X scope fun Y => PE Y elt (rdE (X.K, Z) none me)) (hS : ∀ i ∈ S, i ∈ own.map (·.2) := by decide) (hs : ∀ x, foldedSetIterable iter X.env x = pure x := by intro _; rfl) :
    PE X (.ListComp elt [⟨tg, iter, ifs, 0⟩] scope pos) (rdF (X.K, Z) W (mComp (own.map (·.2)) it g mc me)) := PE_imp (pe_lc hc hN hi (blkOk_by ok) hg ht he hs) (comp_read hS)
/-- name = [..], both on one line -/
theorem setF_read {m : MF} {i : Nat} {t : TE} (h : ∀ σ H Q, rdF K W m σ H Q → t σ H Q) (cell : Bool) : ∀ D σ H, rdS K W (mAsg (if cell = true then mCell m else mVal m) (mgName i)) D σ H → tAsg t (gName i) D σ H := fun D σ H => by
  rintro ⟨hd, φ, ρ, w, sr, wr, p⟩
  refine h σ H _ ⟨hd, φ, ρ, w, sr, wr, ?_⟩
  cases cell with
  | false =>
    simp only [Bool.false_eq_true, if_false] at p
    unfold mAsg mVal at p
    cases q : m ρ w with
    | no => rw [q] at p; exact p
    | ex _ _ _ => rw [q] at p; exact p
    | ok ts w1 =>
      rw [q] at p
      intro a xs H' φ' e1 wr1 hn ha hx rs
      refine p H' φ' e1.free wr1.free _ ((sr.mono e1.free).set ?_ i)
      unfold Rep
      exact ⟨a, xs, rfl, ⟨hx, fun z => wr1.apart a z List.mem_cons_self, ha⟩, rs.free⟩
  | true =>
    simp only [if_true] at p
    unfold mAsg mCell at p
    cases q : m ρ w with
    | no => rw [q] at p; exact p
    | ex _ _ _ => rw [q] at p; exact p
    | ok ts w1 =>
      rw [q] at p
      intro a xs H' φ' e1 wr1 hn ha hx rs
      refine p H' (φ' ++ [a]) (e1.cell hn) (wr1.cell ha ⟨xs, hx, rs⟩) _ ((sr.mono (e1.cell hn)).set ?_ i)
      unfold Rep
      refine ⟨a, rfl, ?_⟩
      rw [← wr1.len, List.getElem?_append_right (Nat.le_refl _)]
      simp
theorem ds_setLc (i : Nat) (cell : Bool) {y : Str} {py spos : Pos} {it : MI} {g : MG} {S : List Nat} {mc : MT} {me : ME} (hc : X.calm = true) (hN : X.N.Nodup) (hi : PI X tg iter (rdI (X.K, Z) W it)) (ok : blkC X.N X.env.scope scope own = true)
    (hg : InBlk X scope fun Y => PG Y tg (rdG (X.K, Z) none g S)) (ht : InBlk X scope fun Y => PTs Y ifs (rdT (X.K, Z) none mc)) (he : InBlk X scope fun Y => PE Y elt (rdE (X.K, Z) none me)) (hsw : swapsWith (.ListComp elt [⟨tg, iter, ifs, 0⟩] scope pos) (some (.Name y py)) spos.line X.env = pure true) (hy : X.N[i]? = some y := by rfl) (hyl : X.env.scope.names.lookup y = some .local := by rfl)
    (hS : ∀ i ∈ S, i ∈ own.map (·.2) := by decide) (hs : ∀ x, foldedSetIterable iter X.env x = pure x := by intro _; rfl) :
    PS X (.Assign [.Name y py] (.ListComp elt [⟨tg, iter, ifs, 0⟩] scope pos) spos) (rdS (X.K, Z) W (mAsg (if cell = true then mCell (mComp (own.map (·.2)) it g mc me) else mVal (mComp (own.map (·.2)) it g mc me)) (mgName i))) :=
  PS_imp (ps_setLc hc hN hy hyl hsw hi (blkOk_by ok) hg ht he hs) (setF_read (comp_read hS) cell)

/-! two clauses -/
open Classical in
noncomputable def compL2 (g : MG) (c : MT) (it1 : MI) (vs1 : List Nat) (g1 : MG) (c1 : MT) (e : ME) (oc : OC) (all : List T) (ρ0 : Env) : List T → List T → World → R (List T)
  | [], out, w => if Kept oc all w then .ok out w else .no
  | t :: ts, out, w => if Kept oc all w then (g t ρ0 w).bind fun ρ1 w1 => (c ρ1 w1).bind fun k w2 => if k = true then (it1 ρ1 w2).bind fun r w3 => (compL g1 c1 e r.2 r.1 (wipeE ρ1 vs1) r.1 out w3).bind fun out w4 => compL2 g c it1 vs1 g1 c1 e oc all ρ0 ts out w4
      else compL2 g c it1 vs1 g1 c1 e oc all ρ0 ts out w2
    else .no
noncomputable def mComp2 (vs : List Nat) (it : MI) (g : MG) (c : MT) (it1 : MI) (vs1 : List Nat) (g1 : MG) (c1 : MT) (e : ME) : MF := fun ρ w => (it ρ w).bind fun r w1 => noX (compL2 g c it1 vs1 g1 c1 e r.2 r.1 (wipeE ρ vs) r.1 [] w1)
/-- the inner loop, then f -/
theorem PstD.then {β : Type} {hd φ : List Addr} {H : Hp} {d : Addr} {P : List Addr → Hp → R β → Prop} {C : Hp → World → List T → List Addr → Prop} {r : R (List T)} {f : List T → World → R β} (mono : ∀ φ H φ1 H1 r, ExtD (some d) hd φ H hd φ1 H1 → P φ H r → P φ1 H1 r) (no : ¬ P φ H .no) (ex : ∀ t ρ w, ¬ P φ H (.ex t ρ w)) (p : P φ H (r.bind f))
    (h : ∀ out w1 φ1 H1 acc, ExtD (some d) hd φ H hd φ1 H1 → WR K hd φ1 H1 w1 → H1 d = some (.lst acc) → Reps K hd φ1 H1 out acc → P φ1 H1 (f out w1) → C H1 w1 out φ1) : PstD K hd d C φ H r := by
  cases r with
  | no => exact (no p).elim
  | ex t ρ w => exact (ex _ _ _ p).elim
  | ok d w => intro H1 φ1 acc e wr hx rs; exact h d w φ1 H1 acc e wr hx rs (mono _ _ _ _ _ e p)
theorem comp2_read {it it1 : MI} {g g1 : MG} {S S1 vs vs1 : List Nat} {mc mc1 : MT} {me : ME} (hS : ∀ i ∈ S, i ∈ vs) (hS1 : ∀ i ∈ S1, i ∈ vs1) : ∀ σ H Q, rdF K W (mComp2 vs it g mc it1 vs1 g1 mc1 me) σ H Q → tLc2 (rdI K W it) (rdG K none g S) (rdT K none mc) (rdI K none it1) (rdG K none g1 S1) (rdT K none mc1) (rdE K none me) vs vs1 σ H Q := fun σ H Q => by
  rintro ⟨hd₀, φ, ρ, w, sr, wr, p⟩
  refine ⟨hd₀, φ, ρ, w, sr, wr, Pst.then isPstF p fun r w1 φ1 H1 e1 wr1 p1 J src D nD => ?_⟩
  obtain ⟨all, oc⟩ := r
  simp only at p1 src
  have eh : Ext hd₀ φ1 H1 (D :: hd₀) φ1 (upd H1 D (.lst [])) := Ext.hold nD
  have hD : D ∉ hd₀ := (wr1.nin nD).2
  have offd : ∀ H', Off (some D) (D :: hd₀) H' := fun H' d' h => by cases h; exact .inl List.mem_cons_self
  have dn : ∀ {φ' : List Addr} {H' : Hp} {w' : World}, WR K (D :: hd₀) φ' H' w' → D ∉ φ' := fun wr z => wr.apart D z List.mem_cons_self
  have p1 : PstD K (D :: hd₀) D (fun H' _ _ _ => Q (.ref D) H') φ1 (upd H1 D (.lst [])) (compL2 g mc it1 vs1 g1 mc1 me oc all (wipeE ρ vs) all [] w1) := by
    cases q : compL2 g mc it1 vs1 g1 mc1 me oc all (wipeE ρ vs) all [] w1 with
    | no => rw [q] at p1; exact p1
    | ex _ _ _ => rw [q] at p1; exact p1.elim
    | ok out w' =>
      rw [q] at p1
      intro H' φ' acc e' wr' hx rs
      exact p1 D acc H' φ' ((eh.toD.trans e').plain (fr0_none nD)) wr' (fr0_none nD) hD hx rs
  refine ⟨fun i m H => m + i = all.length ∧ ∃ φ w out acc, ExtD (some D) (D :: hd₀) φ1 (upd H1 D (.lst [])) (D :: hd₀) φ H ∧ WR K (D :: hd₀) φ H w ∧ H D = some (.lst acc) ∧ Reps K (D :: hd₀) φ H out acc ∧ PstD K (D :: hd₀) D (fun H' _ _ _ => Q (.ref D) H') φ H (compL2 g mc it1 vs1 g1 mc1 me oc all (wipeE ρ vs) (all.drop i) out w),
    ⟨all.length, by omega, φ1, w1, [], [], Ext.refl.toD, wr1.hold nD, upd_same, Reps.nil, by rw [List.drop_zero]; exact p1⟩, fun i m H => ?_⟩
  rintro ⟨hm, φ, w, out, acc, ee, wr, hx, rs, p⟩
  have src0 := src (some D) i (D :: hd₀) φ H w (fun d h => by cases h; exact .inr (fr0_none nD)) (eh.toD.trans ee) wr
  by_cases hi : i < all.length
  · have hdr : all.drop i = all[i] :: all.drop (i + 1) := List.drop_eq_getElem_cons hi
    rw [hdr] at p
    unfold compL2 at p
    split at p
    · rename_i kp
      obtain ⟨s1, _⟩ := src0 kp
      obtain ⟨go, yl⟩ := s1 all[i] (by simp [hi])
      refine .inr ⟨go, fun H' => ∃ φ w out acc, ExtD (some D) (D :: hd₀) φ1 (upd H1 D (.lst [])) (D :: hd₀) φ H' ∧ WR K (D :: hd₀) φ H' w ∧ H' D = some (.lst acc) ∧ Reps K (D :: hd₀) φ H' out acc ∧ PstD K (D :: hd₀) D (fun H' _ _ _ => Q (.ref D) H') φ H' (compL2 g mc it1 vs1 g1 mc1 me oc all (wipeE ρ vs) (all.drop (i + 1)) out w), fun H' h => ⟨m - 1, by omega, by omega, h⟩, fun x H' hy => ?_⟩
      obtain ⟨e2, wr2, rx⟩ := yl x H' hy
      have hx2 := e2.keep D _ hx (dn wr) (fun _ z => nomatch z)
      refine ⟨D :: hd₀, φ, wipeE ρ vs, w, all[i], (((sr.mono e1).mono eh).wipe vs).monoD (ee.trans e2.toD) (offd _), wr2, rx, Pst.then isPstD (p.mono e2.toD) fun ρ1 w3 φ3 H3 e3 wr3 p3 σ3 sr3 hw => ⟨(hw vs hS).trans (wipe_wipe vs), ?_⟩⟩
      have hx3 := e3.keep D _ hx2 (dn wr2) (fun _ z => nomatch z)
      refine ⟨D :: hd₀, φ3, ρ1, w3, sr3, wr3, Pst.then isPstD p3 fun k w4 φ4 H4 e4 wr4 p4 => ?_⟩
      have hx4 := e4.keep D _ hx3 (dn wr3) (fun _ z => nomatch z)
      have r4 : Reps K (D :: hd₀) φ4 H4 out acc := ((rs.mono e2).mono e3).mono e4
      have e04 := ((ee.trans e2.toD).trans e3.toD).trans e4.toD
      cases k with
      | false =>
        show (if false = true then _ else _)
        rw [if_neg Bool.false_ne_true] at p4 ⊢
        exact ⟨φ4, w4, out, acc, e04, wr4, hx4, r4, p4⟩
      | true =>
        show (if true = true then _ else _)
        rw [if_pos rfl] at p4 ⊢
        refine ⟨D :: hd₀, φ4, ρ1, w4, sr3.mono e4, wr4, Pst.then isPstD p4 fun r w5 φ5 H5 e5 wr5 p5 J1 src1 => ?_⟩
        obtain ⟨all1, oc1⟩ := r
        simp only at p5 src1
        have hx5 := e5.keep D _ hx4 (dn wr4) (fun _ z => nomatch z)
        refine comp_loop (hd := D :: hd₀) (φ1 := φ5) (vs := vs1) (σ0 := wipe σ3 vs1) (ρ0 := wipeE ρ1 vs1) (w1 := w5) (out := out) (acc := acc) (mc := mc1) (me := me) (g := g1) (oc := oc1) (all := all1) src1 (offd _) Ext.refl.toD List.mem_cons_self (((sr3.mono e4).mono e5).wipe vs1) wr5 hx5 (r4.mono e5) hS1 (wipe_wipe vs1) ?_
        refine PstD.then (P := PstD K (D :: hd₀) D fun H' _ _ _ => Q (.ref D) H') (fun _ _ _ _ _ e p => p.mono e) (fun h => h) (fun _ _ _ h => h) p5 fun out6 w6 φ6 H6 acc6 e6 wr6 hx6 rs6 p6 => ?_
        exact ⟨φ6, w6, out6, acc6, (e04.trans e5.toD).trans e6, wr6, hx6, rs6, p6⟩
    · exact p.elim
  · have hdr : all.drop i = [] := List.drop_eq_nil_of_le (by omega)
    rw [hdr] at p
    unfold compL2 at p
    split at p
    · rename_i kp
      obtain ⟨_, s2⟩ := src0 kp
      exact .inl ⟨s2 (by omega), p H φ acc Ext.refl.toD wr hx rs⟩
    · exact p.elim
theorem df_comp2 {tg1 iter1 : Expr} {ifs1 : List Expr} {vs1 : List Nat} {it it1 : MI} {g g1 : MG} {S S1 : List Nat} {mc mc1 : MT} {me : ME} (hc : X.calm = true) (hN : X.N.Nodup) (hi : PI X tg iter (rdI (X.K, Z) W it)) (ok : blkC X.N X.env.scope scope own = true)
    (hg : InBlk X scope fun Y => PG Y tg (rdG (X.K, Z) none g S)) (ht : InBlk X scope fun Y => PTs Y ifs (rdT (X.K, Z) none mc)) (hi1 : InBlk X scope fun Y => PI Y tg1 iter1 (rdI (X.K, Z) none it1)) (hg1 : InBlk X scope fun Y => PG Y tg1 (rdG (X.K, Z) none g1 S1)) (ht1 : InBlk X scope fun Y => PTs Y ifs1 (rdT (X.K, Z) none mc1)) (he : InBlk X scope fun Y => PE Y elt (rdE (X.K, Z) none me))
    (hv : ∀ i ∈ vs1, i ∈ own.map (·.2) := by decide) (hS : ∀ i ∈ S, i ∈ own.map (·.2) := by decide) (hS1 : ∀ i ∈ S1, i ∈ vs1 := by decide) (hs : ∀ x, foldedSetIterable iter X.env x = pure x := by intro _; rfl) (hs1 : ∀ env x, foldedSetIterable iter1 env x = pure x := by intro _ _; rfl) :
    PE X (.ListComp elt [⟨tg, iter, ifs, 0⟩, ⟨tg1, iter1, ifs1, 0⟩] scope pos) (rdF (X.K, Z) W (mComp2 (own.map (·.2)) it g mc it1 vs1 g1 mc1 me)) := PE_imp (pe_lc2 hc hN hi (blkOk_by ok) hv hg ht hi1 hg1 ht1 he hs hs1) (comp2_read hS hS1)
end
end VS

set_option Elab.async false
set_option linter.all false
set_option maxRecDepth 100000
set_option maxHeartbeats 2000000
namespace VS
open PySem PySem.Spec PyProof.Rows L2
section
variable {X : Cx} {K : KT} {Z : ZT} {W : Option WX} {hd φ : List Addr} {H : Hp} {w : World}
theorem PE_or {e : Expr} {t t' : TE} (h : PE X e t) (h' : PE X e t') : PE X e (fun σ H Q => t σ H Q ∨ t' σ H Q) := ⟨fun pins s σ H Q I q => q.elim (h.run pins s σ H Q I) (h'.run pins s σ H Q I)⟩
theorem PT_or {e : Expr} {t t' : TT} (h : PT X e t) (h' : PT X e t') : PT X e (fun σ H Q => t σ H Q ∨ t' σ H Q) := ⟨fun pins s σ H Q I q => q.elim (h.run pins s σ H Q I) (h'.run pins s σ H Q I)⟩
theorem Pst.int {Q : VK} {i : Int} {w' : World} (p : Pst K W hd (CE K hd Q) φ H (.ok (.int i) w')) (wr : WR K hd φ H w') : Q (.int i) H := p.ok wr _ (by unfold Rep; rfl)
theorem Pst.bl {Q : VK} {i : Bool} {w' : World} (p : Pst K W hd (CE K hd Q) φ H (.ok (.bl i) w')) (wr : WR K hd φ H w') : Q (.bl i) H := p.ok wr _ (by unfold Rep; rfl)
/-- a new tuple -/
theorem Pst.tup {Q : VK} {ts : List T} {xs : List V} {w' : World} (p : Pst K W hd (CE K hd Q) φ H (.ok (.tup ts) w')) (wr : WR K hd φ H w') (r : Reps K hd φ H ts xs) : ∀ q, H q = none → Q (.ref q) (upd H q (.tup xs)) := fun q hq => by
  refine p (upd H q (.tup xs)) φ (Ext.new hq) (wr.new hq) _ ?_
  unfold Rep
  exact ⟨q, xs, rfl, ⟨upd_same, wr.nin hq⟩, r.mono (Ext.new hq)⟩
/-- a new list -/
theorem PstF.new {Q : VK} {ts : List T} {xs : List V} {w' : World} (p : PstF K W hd Q φ H (.ok ts w')) (wr : WR K hd φ H w') (r : Reps K hd φ H ts xs) : ∀ q, H q = none → Q (.ref q) (upd H q (.lst xs)) := fun q hq =>
  p q xs (upd H q (.lst xs)) φ (Ext.hold hq) (wr.hold hq) (fr0_none hq) (wr.nin hq).2 upd_same (r.mono (Ext.hold hq))

/-! ### ints -/
def s2I (C : Int → Int → Prop) [∀ i j, Decidable (C i j)] (g : Int → Int → T) : S2 := fun x y w => match x, y with
  | .int i, .int j => if C i j then .ok (g i j) w else .no
  | _, _ => .no
instance {i j : Int} : Decidable (CMul i j) := by unfold CMul; infer_instance
instance {i j : Int} : Decidable (CDiv i j) := by unfold CDiv; infer_instance
instance {i j : Int} : Decidable (CPow i j) := by unfold CPow; infer_instance
abbrev CTrue : Int → Int → Prop := fun _ _ => True
theorem op2I {C : Int → Int → Prop} [∀ i j, Decidable (C i j)] {g : Int → Int → Int} : Op2 K (s2I C fun i j => .int (g i j)) (rI C fun i j => .int (g i j)) := fun W hd φ H w dx dy x y Q wr rx ry p => by
  cases dx with
  | int i =>
    cases dy with
    | int j =>
      cases rep_int rx
      cases rep_int ry
      unfold s2I at p
      simp only at p
      split at p
      · rename_i hc
        exact ⟨i, j, rfl, rfl, hc, p.int wr⟩
      · exact p.elim
    | _ => exact p.elim
  | _ => exact p.elim
theorem op2I0 {g : Int → Int → Int} : Op2 K (s2I CTrue fun i j => .int (g i j)) (rI0 fun i j => .int (g i j)) := fun W hd φ H w dx dy x y Q wr rx ry p => by
  obtain ⟨i, j, e1, e2, _, q⟩ := op2I W hd φ H w dx dy x y Q wr rx ry p
  exact ⟨i, j, e1, e2, q⟩
theorem op2B0 {g : Int → Int → Bool} : Op2 K (s2I CTrue fun i j => .bl (g i j)) (rI0 fun i j => .bl (g i j)) := fun W hd φ H w dx dy x y Q wr rx ry p => by
  cases dx with
  | int i =>
    cases dy with
    | int j =>
      cases rep_int rx
      cases rep_int ry
      unfold s2I at p
      simp only at p
      rw [if_pos trivial] at p
      exact ⟨i, j, rfl, rfl, p.bl wr⟩
    | _ => exact p.elim
  | _ => exact p.elim
def sSub : S2 := s2I CTrue fun i j => .int (i - j)
def sFdiv : S2 := s2I CDiv fun i j => .int (i / j)
def sMod : S2 := s2I (fun _ j => 0 < j) fun i j => .int (i % j)
def sPow : S2 := s2I CPow fun i j => .int (i ^ j.toNat)
def sShl : S2 := s2I CPow fun i j => .int (i * 2 ^ j.toNat)
def sBor : S2 := s2I CTrue fun i j => .int (Builtin.bitOr i j)
def sBand : S2 := s2I CTrue fun i j => .int (Builtin.bitAnd i j)
def sLt : S2 := s2I CTrue fun i j => .bl (decide (i < j))
def sLe : S2 := s2I CTrue fun i j => .bl (decide (i ≤ j))
def sGt : S2 := s2I CTrue fun i j => .bl (decide (j < i))
def sGe : S2 := s2I CTrue fun i j => .bl (decide (j ≤ i))
variable {a b : Expr} {pos : Pos} {ma mb : ME}
section
variable (ha : PE X a (rdE (X.K, Z) W ma)) (hb : PE X b (rdE (X.K, Z) W mb))
include ha hb
theorem de_sub : PE X (.BinOp a .Sub b pos) (rdE (X.K, Z) W (mOp2 sSub ma mb)) := de_op op_sub op2I0 ha hb
theorem de_fdiv : PE X (.BinOp a .FloorDiv b pos) (rdE (X.K, Z) W (mOp2 sFdiv ma mb)) := de_op op_fdiv op2I ha hb
theorem de_mod : PE X (.BinOp a .Mod b pos) (rdE (X.K, Z) W (mOp2 sMod ma mb)) := de_op op_mod op2I ha hb
theorem de_pow : PE X (.BinOp a .Pow b pos) (rdE (X.K, Z) W (mOp2 sPow ma mb)) := de_op op_pow op2I ha hb
theorem de_shl : PE X (.BinOp a .LShift b pos) (rdE (X.K, Z) W (mOp2 sShl ma mb)) := de_op op_shl op2I ha hb
theorem de_bor : PE X (.BinOp a .BitOr b pos) (rdE (X.K, Z) W (mOp2 sBor ma mb)) := de_op op_or op2I0 ha hb
theorem de_band : PE X (.BinOp a .BitAnd b pos) (rdE (X.K, Z) W (mOp2 sBand ma mb)) := de_op op_and op2I0 ha hb
theorem de_lt : PE X (.Compare a [.Lt] [b] pos) (rdE (X.K, Z) W (mOp2 sLt ma mb)) := de_cmp op_lt op2B0 ha hb (nomark _)
theorem de_le : PE X (.Compare a [.LtE] [b] pos) (rdE (X.K, Z) W (mOp2 sLe ma mb)) := de_cmp op_le op2B0 ha hb (nomark _)
theorem de_gt : PE X (.Compare a [.Gt] [b] pos) (rdE (X.K, Z) W (mOp2 sGt ma mb)) := de_cmp op_gt op2B0 ha hb (nomark _)
theorem de_ge : PE X (.Compare a [.GtE] [b] pos) (rdE (X.K, Z) W (mOp2 sGe ma mb)) := de_cmp op_ge op2B0 ha hb (nomark _)
theorem dt_lt : PT X (.Compare a [.Lt] [b] pos) (rdT (X.K, Z) W (mTest (mOp2 sLt ma mb))) := dt_cmp op_lt op2B0 ha hb (nomark _)
theorem dt_le : PT X (.Compare a [.LtE] [b] pos) (rdT (X.K, Z) W (mTest (mOp2 sLe ma mb))) := dt_cmp op_le op2B0 ha hb (nomark _)
theorem dt_gt : PT X (.Compare a [.Gt] [b] pos) (rdT (X.K, Z) W (mTest (mOp2 sGt ma mb))) := dt_cmp op_gt op2B0 ha hb (nomark _)
theorem dt_ge : PT X (.Compare a [.GtE] [b] pos) (rdT (X.K, Z) W (mTest (mOp2 sGe ma mb))) := dt_cmp op_ge op2B0 ha hb (nomark _)
end
def sNeg : S1 := fun x w => match x with
  | .int i => .ok (.int (-i)) w
  | _ => .no
theorem de_neg (ha : PE X a (rdE (X.K, Z) W ma)) : PE X (.UnaryOp .USub a pos) (rdE (X.K, Z) W (mOp1 sNeg ma)) := de_un un_neg (fun W hd φ H w dx x Q wr rx p => by
  cases dx with
  | int i => cases rep_int rx; exact ⟨i, rfl, p.int wr⟩
  | _ => exact p.elim) ha

/-! ### + and * -/
def sAdd : S2 := fun x y w => match x, y with
  | .int i, .int j => .ok (.int (i + j)) w
  | .str i, .str j => if i.length + j.length ≤ sizeLine then .ok (.str (i ++ j)) w else .no
  | .tup ts, .tup us => if ts.length + us.length ≤ sizeLine then .ok (.tup (ts ++ us)) w else .no
  | _, _ => .no
theorem opAdd : Op2 K sAdd (fun x y H Q => (rI0 fun i j => .int (i + j)) x y H Q ∨ (fun x y H Q => ∃ i j, x = .str i ∧ y = .str j ∧ i.length + j.length ≤ sizeLine ∧ Q (.str (i ++ j)) H) x y H Q ∨ rCatA K.1 x y H Q) := fun W hd φ H w dx dy x y Q wr rx ry p => by
  cases dx with
  | int i =>
    cases dy with
    | int j => cases rep_int rx; cases rep_int ry; exact .inl ⟨i, j, rfl, rfl, p.int wr⟩
    | _ => exact p.elim
  | str i =>
    cases dy with
    | str j =>
      unfold Rep at rx ry
      subst rx ry
      unfold sAdd at p
      simp only at p
      split at p
      · rename_i hl
        exact .inr (.inl ⟨i, j, rfl, rfl, hl, p.ok wr _ (by unfold Rep; rfl)⟩)
      · exact p.elim
    | _ => exact p.elim
  | tup ts =>
    cases dy with
    | tup us =>
      unfold sAdd at p
      simp only at p
      split at p
      · rename_i hl
        have rx' := rx
        have ry' := ry
        unfold Rep at rx ry
        obtain ⟨l, xs, rfl, n1, r1⟩ := rx
        obtain ⟨m, ys, rfl, n2, r2⟩ := ry
        refine .inr (.inr ⟨l, m, xs, ys, rfl, rfl, SqT.of n1.1, SqT.of n2.1, by rw [← r1.len, ← r2.len]; exact hl, fun e => ?_, fun _ e => ?_, fun _ _ => p.tup wr (r1.append r2)⟩)
        · have : ts = [] := List.eq_nil_of_length_eq_zero (by rw [r1.len, e]; rfl)
          subst this
          exact p.ok wr _ ry'
        · have : us = [] := List.eq_nil_of_length_eq_zero (by rw [r2.len, e]; rfl)
          subst this
          rw [List.append_nil] at p
          exact p.ok wr _ rx'
      · exact p.elim
    | _ => exact p.elim
  | _ => exact p.elim
theorem de_add (ha : PE X a (rdE (X.K, Z) W ma)) (hb : PE X b (rdE (X.K, Z) W mb)) : PE X (.BinOp a .Add b pos) (rdE (X.K, Z) W (mOp2 sAdd ma mb)) := de_op (op_add.or (op_add_str.or op_catA)) opAdd ha hb
/-- a list that stands by itself, not the script -/
def lst? (w : World) : T → Option (List T)
  | .lst ts => some ts
  | .cell k => match w[k]? with
    | some (.lst ts) => some ts
    | _ => none
  | _ => none
theorem lst_at (wr : WR K hd φ H w) {t : T} {v : V} {ts : List T} (r : Rep K hd φ H t v) (hs : lst? w t = some ts) : ∃ a xs, v = .ref a ∧ H a = some (.lst xs) ∧ Reps K hd φ H ts xs := by
  cases t with
  | lst us =>
    cases hs
    unfold Rep at r
    obtain ⟨a, xs, e, n, rs⟩ := r
    exact ⟨a, xs, e, n.1, rs⟩
  | cell k =>
    unfold lst? at hs
    simp only at hs
    split at hs
    · rename_i us hk
      cases hs
      obtain ⟨a, e, hk, _, xs, h1, h2⟩ := cell_at wr r hk
      exact ⟨a, xs, e, h1, h2⟩
    · cases hs
  | _ => cases hs
def sCat : S2F := fun x y w => match lst? w x, lst? w y with
  | some ts, some us => if ts.length + us.length ≤ sizeLine then .ok (ts ++ us) w else .no
  | _, _ => .no
theorem df_add (ha : PE X a (rdE (X.K, Z) W ma)) (hb : PE X b (rdE (X.K, Z) W mb)) : PE X (.BinOp a .Add b pos) (rdF (X.K, Z) W (mOp2F sCat ma mb)) := df_op op_cat (fun W hd φ H w dx dy x y Q wr rx ry p => by
  unfold sCat at p
  cases q1 : lst? w dx with
  | none => rw [q1] at p; exact p.elim
  | some ts =>
    cases q2 : lst? w dy with
    | none => rw [q1, q2] at p; exact p.elim
    | some us =>
      rw [q1, q2] at p
      simp only at p
      split at p
      · rename_i hl
        obtain ⟨l, xs, rfl, h1, r1⟩ := lst_at wr rx q1
        obtain ⟨m, ys, rfl, h2, r2⟩ := lst_at wr ry q2
        exact ⟨l, m, xs, ys, rfl, rfl, h1, h2, by rw [← r1.len, ← r2.len]; exact hl, p.new wr (r1.append r2)⟩
      · exact p.elim) ha hb
def sMul : S2 := fun x y w => match x, y with
  | .int i, .int j => if CMul i j then .ok (.int (i * j)) w else .no
  | .tup ts, .int k => if ts ≠ [] ∧ 2 ≤ k ∧ k ≤ 1000 ∧ ts.length ≤ 1000 then .ok (.tup (List.replicate k.toNat ts).flatten) w else .no
  | _, _ => .no
theorem de_mul (ha : PE X a (rdE (X.K, Z) W ma)) (hb : PE X b (rdE (X.K, Z) W mb)) : PE X (.BinOp a .Mult b pos) (rdE (X.K, Z) W (mOp2 sMul ma mb)) := de_op (op_mul.or op_repT) (fun W hd φ H w dx dy x y Q wr rx ry p => by
  cases dx with
  | int i =>
    cases dy with
    | int j =>
      cases rep_int rx
      cases rep_int ry
      unfold sMul at p
      simp only at p
      split at p
      · rename_i hc; exact .inl ⟨i, j, rfl, rfl, hc, p.int wr⟩
      · exact p.elim
    | _ => exact p.elim
  | tup ts =>
    cases dy with
    | int j =>
      cases rep_int ry
      unfold Rep at rx
      obtain ⟨l, xs, rfl, n1, r1⟩ := rx
      unfold sMul at p
      simp only at p
      split at p
      · rename_i hc
        refine .inr ⟨l, j, xs, rfl, rfl, SqT.of n1.1, fun e => hc.1 (List.eq_nil_of_length_eq_zero (by rw [r1.len, e]; rfl)), hc.2.1, hc.2.2.1, by rw [← r1.len]; exact hc.2.2.2, p.tup wr (r1.flat _)⟩
      · exact p.elim
    | _ => exact p.elim
  | _ => exact p.elim) ha hb
def sRep : S2F := fun x y w => match lst? w x, y with
  | some ts, .int k => if -(2 ^ 63) ≤ k ∧ k < 2 ^ 63 ∧ ts.length * k.toNat ≤ sizeLine then .ok (List.replicate k.toNat ts).flatten w else .no
  | _, _ => .no
theorem df_mul (ha : PE X a (rdE (X.K, Z) W ma)) (hb : PE X b (rdE (X.K, Z) W mb)) : PE X (.BinOp a .Mult b pos) (rdF (X.K, Z) W (mOp2F sRep ma mb)) := df_op op_rep (fun W hd φ H w dx dy x y Q wr rx ry p => by
  unfold sRep at p
  cases q1 : lst? w dx with
  | none => rw [q1] at p; exact p.elim
  | some ts =>
    cases dy with
    | int k =>
      rw [q1] at p
      simp only at p
      split at p
      · rename_i hl
        cases rep_int ry
        obtain ⟨l, xs, rfl, h1, r1⟩ := lst_at wr rx q1
        exact ⟨l, k, xs, rfl, rfl, h1, hl.1, hl.2.1, by rw [← r1.len]; exact hl.2.2, p.new wr (r1.flat _)⟩
      · exact p.elim
    | _ => rw [q1] at p; exact p.elim) ha hb

/-! ### == and != -/
mutual
def pd0 : T → Option PyData
  | .non => some .none
  | .bl b => some (.bool b)
  | .int i => some (.int i)
  | .str x => some (.str x)
  | .ty _ => none
  | .tup ts => (pds0 ts).map .tuple
  | .lst ts => (pds0 ts).map .list
  | .frz ts => (pds0 ts).map .list
  | .rng _ => none
  | .glb _ => none
  | .exc _ _ _ => none
  | .dct _ _ => none
  | .cell _ => none
def pds0 : List T → Option (List PyData)
  | [] => some []
  | t :: ts => match pd0 t, pds0 ts with
    | some d, some ds => some (d :: ds)
    | _, _ => none
end
mutual
def pd (w : World) : T → Option PyData
  | .non => some .none
  | .bl b => some (.bool b)
  | .int i => some (.int i)
  | .str x => some (.str x)
  | .ty _ => none
  | .tup ts => (pds w ts).map .tuple
  | .lst ts => (pds w ts).map .list
  | .frz ts => (pds w ts).map .list
  | .rng _ => none
  | .glb _ => none
  | .exc _ _ _ => none
  | .dct _ _ => none
  | .cell k => match w[k]? with
    | some (.lst ts) => (pds0 ts).map .list
    | _ => none
def pds (w : World) : List T → Option (List PyData)
  | [] => some []
  | t :: ts => match pd w t, pds w ts with
    | some d, some ds => some (d :: ds)
    | _, _ => none
end
theorem pds0_cons {t : T} {ts : List T} {ds : List PyData} (h : pds0 (t :: ts) = some ds) : ∃ d r, ds = d :: r ∧ pd0 t = some d ∧ pds0 ts = some r := by
  unfold pds0 at h
  split at h
  · rename_i d r e1 e2; cases h; exact ⟨d, r, rfl, e1, e2⟩
  · cases h
theorem pds_cons {t : T} {ts : List T} {ds : List PyData} (h : pds w (t :: ts) = some ds) : ∃ d r, ds = d :: r ∧ pd w t = some d ∧ pds w ts = some r := by
  unfold pds at h
  split at h
  · rename_i d r e1 e2; cases h; exact ⟨d, r, rfl, e1, e2⟩
  · cases h
theorem map_some {α β : Type} {f : α → β} {o : Option α} {b : β} (h : o.map f = some b) : ∃ a, o = some a ∧ f a = b := by
  cases o with
  | none => cases h
  | some a => exact ⟨a, rfl, Option.some.inj h⟩
theorem frz_sq {a : Addr} {xs : List V} (n : NdF K hd φ H a xs) : SqL K.1 H a xs := by
  rcases n with ⟨o, n, rfl | ⟨u, rfl⟩, _⟩ | n
  · exact SqL.of n
  · exact .inl (.inr ⟨u, n⟩)
  · rcases n with (n | ⟨_, n⟩) | n
    · cases n
    · cases n
    · exact .inr n
mutual
theorem dp0 : ∀ {t : T} {v : V} {d : PyData}, Rep K hd φ H t v → pd0 t = some d → Dp K.1 H v d
  | .non, v, d, r, h => by unfold Rep at r; unfold pd0 at h; subst r; cases h; exact .non
  | .bl b, v, d, r, h => by unfold Rep at r; unfold pd0 at h; subst r; cases h; exact .bl b
  | .int i, v, d, r, h => by unfold Rep at r; unfold pd0 at h; subst r; cases h; exact .int i
  | .str x, v, d, r, h => by unfold Rep at r; unfold pd0 at h; subst r; cases h; exact .str x
  | .ty _, v, d, r, h => by unfold pd0 at h; cases h
  | .rng _, v, d, r, h => by unfold pd0 at h; cases h
  | .glb _, v, d, r, h => by unfold pd0 at h; cases h
  | .exc _ _ _, v, d, r, h => by unfold pd0 at h; cases h
  | .dct _ _, v, d, r, h => by unfold pd0 at h; cases h
  | .cell _, v, d, r, h => by unfold pd0 at h; cases h
  | .tup ts, v, d, r, h => by
    unfold Rep at r; unfold pd0 at h
    obtain ⟨a, xs, rfl, n, rs⟩ := r
    obtain ⟨ds, h1, rfl⟩ := map_some h
    exact .tup (SqT.of n.1) (dps0 rs h1)
  | .lst ts, v, d, r, h => by
    unfold Rep at r; unfold pd0 at h
    obtain ⟨a, xs, rfl, n, rs⟩ := r
    obtain ⟨ds, h1, rfl⟩ := map_some h
    exact .lst (SqL.of n.1) (dps0 rs h1)
  | .frz ts, v, d, r, h => by
    unfold Rep at r; unfold pd0 at h
    obtain ⟨a, xs, rfl, n, rs⟩ := r
    obtain ⟨ds, h1, rfl⟩ := map_some h
    exact .lst (frz_sq n) (dps0 rs h1)
theorem dps0 : ∀ {ts : List T} {vs : List V} {ds : List PyData}, Reps K hd φ H ts vs → pds0 ts = some ds → DpAll K.1 H vs ds
  | [], vs, ds, r, h => by unfold Reps at r; unfold pds0 at h; subst r; cases h; exact .nil
  | t :: ts, vs, ds, r, h => by
    unfold Reps at r
    obtain ⟨x, xs, rfl, r1, r2⟩ := r
    obtain ⟨d, ds', rfl, h1, h2⟩ := pds0_cons h
    exact .cons (dp0 r1 h1) (dps0 r2 h2)
end
mutual
theorem dp (wr : WR K hd φ H w) : ∀ {t : T} {v : V} {d : PyData}, Rep K hd φ H t v → pd w t = some d → Dp K.1 H v d
  | .non, v, d, r, h => by unfold Rep at r; unfold pd at h; subst r; cases h; exact .non
  | .bl b, v, d, r, h => by unfold Rep at r; unfold pd at h; subst r; cases h; exact .bl b
  | .int i, v, d, r, h => by unfold Rep at r; unfold pd at h; subst r; cases h; exact .int i
  | .str x, v, d, r, h => by unfold Rep at r; unfold pd at h; subst r; cases h; exact .str x
  | .ty _, v, d, r, h => by unfold pd at h; cases h
  | .rng _, v, d, r, h => by unfold pd at h; cases h
  | .glb _, v, d, r, h => by unfold pd at h; cases h
  | .exc _ _ _, v, d, r, h => by unfold pd at h; cases h
  | .dct _ _, v, d, r, h => by unfold pd at h; cases h
  | .cell k, v, d, r, h => by
    unfold pd at h
    split at h
    · rename_i ts hk
      obtain ⟨ds, h1, rfl⟩ := map_some h
      obtain ⟨a, rfl, _, _, xs, h2, h3⟩ := cell_at wr r hk
      exact .lst (SqL.of h2) (dps0 h3 h1)
    · cases h
  | .tup ts, v, d, r, h => by
    unfold Rep at r; unfold pd at h
    obtain ⟨a, xs, rfl, n, rs⟩ := r
    obtain ⟨ds, h1, rfl⟩ := map_some h
    exact .tup (SqT.of n.1) (dps wr rs h1)
  | .lst ts, v, d, r, h => by
    unfold Rep at r; unfold pd at h
    obtain ⟨a, xs, rfl, n, rs⟩ := r
    obtain ⟨ds, h1, rfl⟩ := map_some h
    exact .lst (SqL.of n.1) (dps wr rs h1)
  | .frz ts, v, d, r, h => by
    unfold Rep at r; unfold pd at h
    obtain ⟨a, xs, rfl, n, rs⟩ := r
    obtain ⟨ds, h1, rfl⟩ := map_some h
    exact .lst (frz_sq n) (dps wr rs h1)
theorem dps (wr : WR K hd φ H w) : ∀ {ts : List T} {vs : List V} {ds : List PyData}, Reps K hd φ H ts vs → pds w ts = some ds → DpAll K.1 H vs ds
  | [], vs, ds, r, h => by unfold Reps at r; unfold pds at h; subst r; cases h; exact .nil
  | t :: ts, vs, ds, r, h => by
    unfold Reps at r
    obtain ⟨x, xs, rfl, r1, r2⟩ := r
    obtain ⟨d, ds', rfl, h1, h2⟩ := pds_cons h
    exact .cons (dp wr r1 h1) (dps wr r2 h2)
end
def eqT (w : World) (x y : T) : Option Bool := match pd w x, pd w y with
  | some d, some e => if SeqAt.shaped d = true ∧ SeqAt.shaped e = true then some (PyData.eqv d e) else none
  | _, _ => none
def sEq : S2 := fun x y w => match eqT w x y with
  | some b => .ok (.bl b) w
  | none => .no
def sNe : S2 := fun x y w => match eqT w x y with
  | some b => .ok (.bl (!b)) w
  | none => .no
theorem eqT_some {x y : T} {b : Bool} (h : eqT w x y = some b) : ∃ d e, pd w x = some d ∧ pd w y = some e ∧ SeqAt.shaped d = true ∧ SeqAt.shaped e = true ∧ b = PyData.eqv d e := by
  unfold eqT at h
  split at h
  · rename_i d e h1 h2
    split at h
    · rename_i hs; cases h; exact ⟨d, e, h1, h2, hs.1, hs.2, rfl⟩
    · cases h
  · cases h
theorem opEq : Op2 K sEq (rEqD K.1) := fun W hd φ H w dx dy x y Q wr rx ry p => by
  unfold sEq at p
  cases q : eqT w dx dy with
  | none => rw [q] at p; exact p.elim
  | some k =>
    rw [q] at p
    obtain ⟨d, e, h1, h2, h3, h4, rfl⟩ := eqT_some q
    exact ⟨d, e, dp wr rx h1, dp wr ry h2, h3, h4, p.bl wr⟩
theorem opNe : Op2 K sNe (rNeD K.1) := fun W hd φ H w dx dy x y Q wr rx ry p => by
  unfold sNe at p
  cases q : eqT w dx dy with
  | none => rw [q] at p; exact p.elim
  | some k =>
    rw [q] at p
    obtain ⟨d, e, h1, h2, h3, h4, rfl⟩ := eqT_some q
    exact ⟨d, e, dp wr rx h1, dp wr ry h2, h3, h4, p.bl wr⟩
section
variable (hu : X.A.units + 64 < cLine) (ha : PE X a (rdE (X.K, Z) W ma)) (hb : PE X b (rdE (X.K, Z) W mb))
include hu ha hb
theorem de_eq : PE X (.Compare a [.Eq] [b] pos) (rdE (X.K, Z) W (mOp2 sEq ma mb)) := de_cmp (op_eqD hu) opEq ha hb (nomark _)
theorem de_ne : PE X (.Compare a [.NotEq] [b] pos) (rdE (X.K, Z) W (mOp2 sNe ma mb)) := de_cmp (op_neD hu) opNe ha hb (nomark _)
theorem dt_eq : PT X (.Compare a [.Eq] [b] pos) (rdT (X.K, Z) W (mTest (mOp2 sEq ma mb))) := dt_cmp (op_eqD hu) opEq ha hb (nomark _)
theorem dt_ne : PT X (.Compare a [.NotEq] [b] pos) (rdT (X.K, Z) W (mTest (mOp2 sNe ma mb))) := dt_cmp (op_neD hu) opNe ha hb (nomark _)
end
/-! ### is None -/
def isNon : T → Bool
  | .non => true
  | _ => false
theorem isNon_at {t : T} {v : V} (r : Rep K hd φ H t v) : decide (v = .non) = isNon t := by
  cases t with
  | non => unfold Rep at r; subst r; rfl
  | bl b => unfold Rep at r; subst r; rfl
  | int b => unfold Rep at r; subst r; rfl
  | str b => unfold Rep at r; subst r; rfl
  | ty b => unfold Rep at r; subst r; rfl
  | tup ts => unfold Rep at r; obtain ⟨_, _, rfl, _⟩ := r; rfl
  | lst ts => unfold Rep at r; obtain ⟨_, _, rfl, _⟩ := r; rfl
  | frz ts => unfold Rep at r; obtain ⟨_, _, rfl, _⟩ := r; rfl
  | rng n => unfold Rep at r; obtain ⟨_, rfl, _⟩ := r; rfl
  | glb n => unfold Rep at r; obtain ⟨_, rfl, _⟩ := r; rfl
  | exc _ _ _ => unfold Rep at r; obtain ⟨_, _, _, rfl, _⟩ := r; rfl
  | dct _ _ => unfold Rep at r; obtain ⟨_, _, rfl, _⟩ := r; rfl
  | cell k => unfold Rep at r; obtain ⟨_, rfl, _⟩ := r; rfl
def sIs : S2 := fun x y w => match y with
  | .non => .ok (.bl (isNon x)) w
  | _ => .no
def sIsNot : S2 := fun x y w => match y with
  | .non => .ok (.bl (!isNon x)) w
  | _ => .no
theorem opIs : Op2 K sIs (fun x y H Q => y = .non ∧ Q (.bl (decide (x = .non))) H) := fun W hd φ H w dx dy x y Q wr rx ry p => by
  cases dy with
  | non => unfold Rep at ry; exact ⟨ry, by rw [isNon_at rx]; exact p.bl wr⟩
  | _ => exact p.elim
theorem opIsNot : Op2 K sIsNot (fun x y H Q => y = .non ∧ Q (.bl (!decide (x = .non))) H) := fun W hd φ H w dx dy x y Q wr rx ry p => by
  cases dy with
  | non => unfold Rep at ry; exact ⟨ry, by rw [isNon_at rx]; exact p.bl wr⟩
  | _ => exact p.elim
section
variable (ha : PE X a (rdE (X.K, Z) W ma)) (hb : PE X b (rdE (X.K, Z) W mb))
include ha hb
theorem de_is : PE X (.Compare a [.Is] [b] pos) (rdE (X.K, Z) W (mOp2 sIs ma mb)) := de_cmp op_isN opIs ha hb (nomark _)
theorem de_isnot : PE X (.Compare a [.IsNot] [b] pos) (rdE (X.K, Z) W (mOp2 sIsNot ma mb)) := de_cmp op_notN opIsNot ha hb (nomark _)
theorem dt_is : PT X (.Compare a [.Is] [b] pos) (rdT (X.K, Z) W (mTest (mOp2 sIs ma mb))) := dt_cmp op_isN opIs ha hb (nomark _)
theorem dt_isnot : PT X (.Compare a [.IsNot] [b] pos) (rdT (X.K, Z) W (mTest (mOp2 sIsNot ma mb))) := dt_cmp op_notN opIsNot ha hb (nomark _)
end
end
end VS

set_option Elab.async false
set_option linter.all false
set_option maxRecDepth 100000
set_option maxHeartbeats 2000000
namespace VS
open PySem PySem.Spec PyProof.Rows L2
section
variable {X : Cx} {K : KT} {hd φ : List Addr} {H : Hp} {w : World} {a b : Expr} {pos : Pos} {ma mb : ME} {Z : ZT} {W : Option WX}

/-! ### dicts -/
def keyT : T → Option Key
  | .int i => some (.inl i)
  | .str x => some (.inr x)
  | _ => none
def keysT : List T → Option (List Key)
  | [] => some []
  | t :: ts => match keyT t, keysT ts with
    | some k, some ks => some (k :: ks)
    | _, _ => none
def valT {κ : Type} [DecidableEq κ] (kvs : List (κ × T)) (k : κ) : Option T := (kvs.find? fun kv => decide (kv.1 = k)).map (·.2)
def putT {κ : Type} [DecidableEq κ] (kvs : List (κ × T)) (k : κ) (t : T) : List (κ × T) := if (kvs.any fun kv => decide (kv.1 = k)) = true then kvs.map fun kv => if kv.1 = k then (kv.1, t) else kv else kvs ++ [(k, t)]
theorem key_at {t : T} {v : V} {k : Key} (r : Rep K hd φ H t v) (h : keyT t = some k) : v = kV k := by
  cases t with
  | int i => cases h; unfold Rep at r; exact r
  | str i => cases h; unfold Rep at r; exact r
  | _ => cases h
theorem keys_at : ∀ {ts : List T} {vs : List V} {ks : List Key}, Reps K hd φ H ts vs → keysT ts = some ks → vs = ks.map kV
  | [], vs, ks, r, h => by cases h; unfold Reps at r; exact r
  | t :: ts, vs, ks, r, h => by
    unfold Reps at r
    obtain ⟨x, xs, rfl, r1, r2⟩ := r
    unfold keysT at h
    split at h
    · rename_i k ks' h1 h2
      cases h
      rw [key_at r1 h1, keys_at r2 h2]
      rfl
    · cases h
theorem valT_at {κ : Type} [DecidableEq κ] : ∀ {kvs : List (κ × T)} {ys : List (κ × V)}, ys.map (·.1) = kvs.map (·.1) → Reps K hd φ H (kvs.map (·.2)) (ys.map (·.2)) → ∀ k : κ,
    (match valT kvs k with | some t => ∃ v, valV ys k = some v ∧ Rep K hd φ H t v | none => valV ys k = none)
  | [], ys, e, r, k => by
    have : ys = [] := by cases ys with
      | nil => rfl
      | cons _ _ => simp at e
    subst this
    rfl
  | (k', t) :: kvs, [], e, r, k => by simp at e
  | (k', t) :: kvs, (k2, v) :: ys, e, r, k => by
    have e1 : k2 = k' := by simpa using congrArg List.head? e
    have e2 : ys.map (·.1) = kvs.map (·.1) := by simpa using congrArg List.tail e
    subst e1
    have r' : Reps K hd φ H (t :: kvs.map (·.2)) (v :: ys.map (·.2)) := r
    unfold Reps at r'
    obtain ⟨x, xs, e3, r1, r2⟩ := r'
    cases e3
    by_cases h : k2 = k
    · have h1 : valT ((k2, t) :: kvs) k = some t := by simp [valT, List.find?_cons, h]
      rw [h1]
      exact ⟨v, valV_pos h, r1⟩
    · have h1 : valT ((k2, t) :: kvs) k = valT kvs k := by simp [valT, List.find?_cons, h]
      rw [h1, valV_neg h]
      exact valT_at e2 r2 k
theorem putT_at {κ : Type} [DecidableEq κ] {kvs : List (κ × T)} {ys : List (κ × V)} (e : ys.map (·.1) = kvs.map (·.1)) (r : Reps K hd φ H (kvs.map (·.2)) (ys.map (·.2))) (k : κ) {t : T} {v : V} (rt : Rep K hd φ H t v) :
    (putK ys k v).map (·.1) = (putT kvs k t).map (·.1) ∧ Reps K hd φ H ((putT kvs k t).map (·.2)) ((putK ys k v).map (·.2)) := by
  have ea : (ys.any fun kv => decide (kv.1 = k)) = kvs.any fun kv => decide (kv.1 = k) := by
    have h1 : ∀ {α : Type} (l : List (κ × α)), (l.any fun kv => decide (kv.1 = k)) = (l.map (·.1)).any fun x => decide (x = k) := fun l => by rw [List.any_map]; rfl
    rw [h1, h1, e]
  unfold putK putT
  rw [ea]
  split
  · refine ⟨?_, ?_⟩
    · have h1 : ∀ {α : Type} (l : List (κ × α)) (x : α), (l.map fun kv => if kv.1 = k then (kv.1, x) else kv).map (·.1) = l.map (·.1) := fun l x => by
        rw [List.map_map]
        apply List.map_congr_left
        intro p _
        show (if p.1 = k then (p.1, x) else p).1 = p.1
        split <;> rfl
      rw [h1, h1, e]
    · clear ea
      rename_i hany
      clear hany
      induction kvs generalizing ys with
      | nil =>
        have : ys = [] := by cases ys with
          | nil => rfl
          | cons _ _ => simp at e
        subst this
        exact Reps.nil
      | cons p kvs ih =>
        cases ys with
        | nil => simp at e
        | cons q ys =>
          have e1 : q.1 = p.1 := by simpa using congrArg List.head? e
          have e2 : ys.map (·.1) = kvs.map (·.1) := by simpa using congrArg List.tail e
          have r' : Reps K hd φ H (p.2 :: kvs.map (·.2)) (q.2 :: ys.map (·.2)) := r
          unfold Reps at r'
          obtain ⟨x, xs, e3, r1, r2⟩ := r'
          cases e3
          show Reps K hd φ H ((if p.1 = k then (p.1, t) else p).2 :: _) ((if q.1 = k then (q.1, v) else q).2 :: _)
          refine Reps.cons ?_ (ih e2 r2)
          rw [e1]
          split
          · exact rt
          · exact r1
  · refine ⟨by rw [List.map_append, List.map_append, e]; rfl, ?_⟩
    rw [List.map_append, List.map_append]
    exact r.append (Reps.cons rt Reps.nil)
/-! ### subscripts -/
def sIx : S2 := fun x y w => match x, y with
  | .cell k, y => match w[k]?, y with
    | some (.lst ts), .int i => match atI ts i with
      | some t => .ok t w
      | none => .no
    | some (.dic kvs), y => match keyT y with
      | some key => match valT kvs key with
        | some t => .ok t w
        | none => .no
      | none => .no
    | some (.dit kvs), .tup us => match keysT us with
      | some key => match valT kvs key with
        | some t => .ok t w
        | none => .no
      | none => .no
    | _, _ => .no
  | x, .int i => match seq? w x with
    | some ts => match atI ts i with
      | some t => .ok t w
      | none => .no
    | none => .no
  | _, _ => .no
theorem Reps.atI {ts : List T} {xs : List V} {i : Int} {t : T} (h : Reps K hd φ H ts xs) (ht : L2.atI ts i = some t) : ∃ v, L2.atI xs i = some v ∧ Rep K hd φ H t v := by
  unfold L2.atI at ht ⊢
  rw [← h.len]
  cases q : ixN ts.length i with
  | none => rw [q] at ht; cases ht
  | some j =>
    rw [q] at ht
    exact h.at ht
theorem opIx (x y : V) (Q : VK) (wr : WR K hd φ H w) {dx dy : T} (rx : Rep K hd φ H dx x) (ry : Rep K hd φ H dy y) (p : Pst K W hd (CE K hd Q) φ H (sIx dx dy w)) :
    rIx K.1 x y H Q ∨ ∃ a v, x = .ref a ∧ DGet H a y (some v) ∧ Q v H := by
  have sq : ∀ ts i, seq? w dx = some ts → dy = .int i → Pst K W hd (CE K hd Q) φ H (match atI ts i with | some t => .ok t w | none => .no) → rIx K.1 x y H Q := fun ts i h1 h2 p => by
    rename Pst K W hd (CE K hd Q) φ H (sIx dx dy w) => p0
    clear p0
    subst h2
    cases rep_int ry
    obtain ⟨a, xs, rfl, h3, h4⟩ := seq_at wr rx h1
    cases q : atI ts i with
    | none => rw [q] at p; exact p.elim
    | some t =>
      rw [q] at p
      obtain ⟨v, h5, h6⟩ := h4.atI q
      rcases h3 with h3 | h3
      · exact .inl ⟨a, xs, i, v, rfl, rfl, h3, h5, p.ok wr v h6⟩
      · exact .inr (.inl ⟨a, xs, i, v, rfl, rfl, h3, h5, p.ok wr v h6⟩)
  cases dx with
  | cell k =>
    unfold sIx at p
    simp only at p
    cases q : w[k]? with
    | none => rw [q] at p; exact p.elim
    | some c =>
      rw [q] at p
      cases c with
      | lst ts =>
        cases dy with
        | int i => exact .inl (sq ts i (by unfold seq?; simp only [q]) rfl p)
        | _ => exact p.elim
      | dic kvs =>
        simp only at p
        cases q2 : keyT dy with
        | none => rw [q2] at p; exact p.elim
        | some key =>
          rw [q2] at p
          simp only at p
          obtain ⟨l, rfl, _, _, ys, h1, h2, h3⟩ := cell_at wr rx q
          have h4 := valT_at h2 h3 key
          cases q3 : valT kvs key with
          | none => rw [q3] at p; exact p.elim
          | some t =>
            rw [q3] at p h4
            obtain ⟨v, h5, h6⟩ := h4
            rw [key_at ry q2]
            exact .inr ⟨l, v, rfl, by rw [← h5]; exact DGet.k h1, p.ok wr v h6⟩
      | dit kvs =>
        cases dy with
        | tup us =>
          simp only at p
          cases q2 : keysT us with
          | none => rw [q2] at p; exact p.elim
          | some key =>
            rw [q2] at p
            simp only at p
            obtain ⟨l, rfl, _, _, ys, h1, h2, h3⟩ := cell_at wr rx q
            have h4 := valT_at h2 h3 key
            cases q3 : valT kvs key with
            | none => rw [q3] at p; exact p.elim
            | some t =>
              rw [q3] at p h4
              obtain ⟨v, h5, h6⟩ := h4
              unfold Rep at ry
              obtain ⟨m, zs, rfl, n, rz⟩ := ry
              have e := keys_at rz q2
              subst e
              exact .inr ⟨l, v, rfl, by rw [← h5]; exact DGet.t h1 n.1, p.ok wr v h6⟩
        | _ => exact p.elim
      | obj x ks ts => cases dy <;> exact p.elim
      | din kvs => cases dy <;> exact p.elim
  | tup ts =>
    cases dy with
    | int i => exact .inl (sq ts i rfl rfl p)
    | _ => exact p.elim
  | lst ts =>
    cases dy with
    | int i => exact .inl (sq ts i rfl rfl p)
    | _ => exact p.elim
  | frz ts =>
    cases dy with
    | int i => exact .inl (sq ts i rfl rfl p)
    | _ => exact p.elim
  | _ => cases dy <;> exact p.elim
def rIxD : R2 := fun x y H Q => ∃ a v, x = .ref a ∧ DGet H a y (some v) ∧ Q v H
theorem ix_dict (hu : X.A.units + 1 < cLine) : IxR X rIxD := by
  intro value slice pins s σ H x y v u Q I rx ry h hs
  obtain ⟨a, z, rfl, g, q⟩ := h
  obtain rfl : v = Value.ref a := rx
  have hT := dict_typeIs I g
  unfold subscriptTail
  refine wpAny_bind ?_
  rw [getitemInPython_of_ne hT.not_modules]
  refine wpAny_bind (wpAny_specialOf hT PySem.F.slot_dict_getitem.lookup ?_)
  have h₂ : wpAny (model X.prog X.w) X.A (getItem (.ref a) u) (EP X pins σ Q) X.xe s := d_getItem hu I g ry fun w' s3 I3 rw' => ⟨z, H, I3, rw', q⟩
  have fin : wpAny (model X.prog X.w) X.A (subscripted slice false (.ref a) u) (fun r s₃ => wpAny (model X.prog X.w) X.A (letTemporaryGo value (.ref a) r >>= fun _ => pure r) (EP X pins σ Q) X.xe s₃) X.xe s := by
    rw [hs]
    exact wpAny_operating (wpAny_mono h₂ (fun r s₃ h₃ => wpAny_bind (wpAny_letTemporaryGo (wpAny_pure h₃))) fun _ _ x => x)
  first
    | exact wpAny_pure (wpAny_bind fin)
    | exact wpAny_bind (wpAny_pure (wpAny_bind fin))
    | exact wpAny_bind fin
theorem de_sub' (hu : X.A.units + 1 < cLine) (ha : PE X a (rdE (X.K, Z) W ma)) (hb : PE X b (rdE (X.K, Z) W mb)) (hp : PlainIx b := by exact fun _ _ => rfl) : PE X (.Subscript a b pos) (rdE (X.K, Z) W (mOp2 sIx ma mb)) :=
  de_ix (ix_seq.or (ix_dict hu)) (fun W hd φ H w dx dy x y Q wr rx ry p => opIx x y Q wr rx ry p) ha hb hp
/-! ### slices -/
abbrev MO := Env → World → R (Option Int)
abbrev CO (Q : Option Int → Hp → Prop) : Option Int → List Addr → Hp → Prop := fun d _ H' => Q d H'
def rdO (K : KT) (W : Option WX) (m : MO) : TO := fun σ H Q => ∃ hd φ ρ w, SR K hd φ H σ ρ ∧ WR K hd φ H w ∧ Pst K W hd (CO Q) φ H (m ρ w)
theorem PO_imp {e : Option Expr} {t t' : TO} (h : PO X e t) (i : ∀ σ H Q, t' σ H Q → t σ H Q) : PO X e t' := ⟨fun pins s σ H Q I q => h.run pins s σ H Q I (i σ H Q q)⟩
def mNoPart : MO := fun _ w => .ok none w
def mPart (m : ME) : MO := fun ρ w => (m ρ w).bind fun t w1 => match t with
  | .int i => .ok (some i) w1
  | _ => .no
theorem do_none : PO X none (rdO (X.K, Z) W mNoPart) := PO_imp po_none fun σ H Q => by
  rintro ⟨hd, φ, ρ, w, sr, wr, p⟩
  exact p.ok wr
theorem do_some (h : PE X a (rdE (X.K, Z) W ma)) : PO X (some a) (rdO (X.K, Z) W (mPart ma)) := PO_imp (po_some h) fun σ H Q => by
  rintro ⟨hd, φ, ρ, w, sr, wr, p⟩
  refine ⟨hd, φ, ρ, w, sr, wr, Pst.then isPst p fun d w1 φ1 H1 e1 wr1 p1 v rv => ?_⟩
  cases d with
  | int i => cases rep_int rv; exact ⟨i, rfl, p1.ok wr1⟩
  | _ => exact p1.elim
def cutT (xs : List T) (lo hi : Option Int) : List T := (xs.drop (HT.sIx xs.length 0 lo)).take (HT.sIx xs.length xs.length hi - HT.sIx xs.length 0 lo)
theorem Reps.cut {ts : List T} {xs : List V} (h : Reps K hd φ H ts xs) (lo hi : Option Int) : Reps K hd φ H (cutT ts lo hi) (cutV xs lo hi) := by
  unfold cutT cutV
  rw [h.len]
  exact (h.drop _).take _
def mSlT (a : ME) (lo hi : MO) : ME := fun ρ w => (a ρ w).bind fun t w1 => (lo ρ w1).bind fun l w2 => (hi ρ w2).bind fun u w3 => match t with
  | .tup ts => .ok (.tup (cutT ts l u)) w3
  | _ => .no
def mSlL (a : ME) (lo hi : MO) : MF := fun ρ w => (a ρ w).bind fun t w1 => (lo ρ w1).bind fun l w2 => (hi ρ w2).bind fun u w3 => match lst? w3 t with
  | some ts => .ok (cutT ts l u) w3
  | _ => .no
theorem de_slice {lo hi : Option Expr} {ml mh : MO} {p2 : Pos} (ha : PE X a (rdE (X.K, Z) W ma)) (hl : PO X lo (rdO (X.K, Z) W ml)) (hh : PO X hi (rdO (X.K, Z) W mh)) : PE X (.Subscript a (.Slice lo hi none p2) pos) (rdE (X.K, Z) W (mSlT ma ml mh)) := PE_imp (pe_slice sl_tupA ha hl hh) fun σ H Q => by
  rintro ⟨hd, φ, ρ, w, sr, wr, p⟩
  refine ⟨hd, φ, ρ, w, sr, wr, Pst.then isPst p fun t w1 φ1 H1 e1 wr1 p1 v rv => ?_⟩
  refine ⟨hd, φ1, ρ, w1, sr.mono e1, wr1, Pst.then isPst p1 fun l w2 φ2 H2 e2 wr2 p2 => ?_⟩
  refine ⟨hd, φ2, ρ, w2, sr.mono (e1.trans e2), wr2, Pst.then isPst p2 fun u w3 φ3 H3 e3 wr3 p3 => ?_⟩
  cases t with
  | tup ts =>
    have rv3 := (rv.mono e2).mono e3
    unfold Rep at rv3
    obtain ⟨q, xs, rfl, n, rs⟩ := rv3
    refine ⟨q, xs, rfl, SqT.of n.1, fun e => ?_, fun _ => p3.tup wr3 (rs.cut l u)⟩
    have e4 : cutT ts l u = ts := by
      unfold cutT
      rw [rs.len, e.1, e.2, List.drop_zero, Nat.sub_zero, ← rs.len]
      exact List.take_length
    simp only at p3
    rw [e4] at p3
    exact p3.ok wr3 _ (by unfold Rep; exact ⟨q, xs, rfl, n, rs⟩)
  | _ => exact p3.elim
theorem df_slice {lo hi : Option Expr} {ml mh : MO} {p2 : Pos} (ha : PE X a (rdE (X.K, Z) W ma)) (hl : PO X lo (rdO (X.K, Z) W ml)) (hh : PO X hi (rdO (X.K, Z) W mh)) : PE X (.Subscript a (.Slice lo hi none p2) pos) (rdF (X.K, Z) W (mSlL ma ml mh)) := PE_imp (pe_slice sl_list ha hl hh) fun σ H Q => by
  rintro ⟨hd, φ, ρ, w, sr, wr, p⟩
  refine ⟨hd, φ, ρ, w, sr, wr, Pst.then isPstF p fun t w1 φ1 H1 e1 wr1 p1 v rv => ?_⟩
  refine ⟨hd, φ1, ρ, w1, sr.mono e1, wr1, Pst.then isPstF p1 fun l w2 φ2 H2 e2 wr2 p2 => ?_⟩
  refine ⟨hd, φ2, ρ, w2, sr.mono (e1.trans e2), wr2, Pst.then isPstF p2 fun u w3 φ3 H3 e3 wr3 p3 => ?_⟩
  cases q : lst? w3 t with
  | none => rw [q] at p3; exact p3.elim
  | some ts =>
    rw [q] at p3
    obtain ⟨l', xs, rfl, h1, h2⟩ := lst_at wr3 ((rv.mono e2).mono e3) q
    exact ⟨l', xs, rfl, SqL.of h1, p3.new wr3 (h2.cut l u)⟩
/-! ### built-in functions -/
variable {e e2 : Expr} {es : List Expr} {p : Pos} {m : MF}
def sLen : SC := fun ds w => match ds with
  | [.cell k] => match w[k]? with
    | some (.lst ts) => .ok (.int ts.length) w
    | some (.dic kvs) => .ok (.int kvs.length) w
    | _ => .no
  | [t] => match seq? w t with
    | some ts => .ok (.int ts.length) w
    | none => .no
  | _ => .no
theorem opLen : OpC K sLen (fun xs H Q => (∃ p ys, xs = [.ref p] ∧ (SqL K.1 H p ys ∨ SqT K.1 H p ys) ∧ Q (.int ys.length) H) ∨ ∃ a kvs, xs = [V.ref a] ∧ H a = some (.dK kvs) ∧ Q (.int kvs.length) H) := fun W hd φ H w ds xs Q wr rx p => by
  have sq : ∀ t ts, ds = [t] → seq? w t = some ts → Pst K W hd (CE K hd Q) φ H (.ok (.int ts.length) w) → ∃ p ys, xs = [.ref p] ∧ (SqL K.1 H p ys ∨ SqT K.1 H p ys) ∧ Q (.int ys.length) H := fun t ts e1 h pp => by
    rw [e1] at rx
    obtain ⟨v, rfl, r⟩ := reps1 rx
    obtain ⟨a, xs, rfl, h1, h2⟩ := seq_at wr r h
    exact ⟨a, xs, rfl, h1, by rw [← h2.len]; exact pp.int wr⟩
  cases ds with
  | nil => exact p.elim
  | cons t r =>
    cases r with
    | cons u r => cases t <;> exact p.elim
    | nil =>
      cases t with
      | cell k =>
        unfold sLen at p
        simp only at p
        cases q : w[k]? with
        | none => rw [q] at p; exact p.elim
        | some c =>
          rw [q] at p
          cases c with
          | lst ts => exact .inl (sq _ ts rfl (by unfold seq?; simp only [q]) p)
          | dic kvs =>
            obtain ⟨v, rfl, r⟩ := reps1 rx
            obtain ⟨a, rfl, _, _, ys, h1, h2, h3⟩ := cell_at wr r q
            have e : ys.length = kvs.length := by simpa using congrArg List.length h2
            exact .inr ⟨a, ys, rfl, h1, by rw [e]; exact p.int wr⟩
          | dit kvs => exact p.elim
          | din kvs => exact p.elim
          | obj x ks ts => exact p.elim
      | tup ts => exact .inl (sq _ ts rfl rfl p)
      | lst ts => exact .inl (sq _ ts rfl rfl p)
      | frz ts => exact .inl (sq _ ts rfl rfl p)
      | _ => exact p.elim
theorem de_len (hm : X.mg "len" = none) (ha : PA X [e] (rdA (X.K, Z) W m)) (hg : Gl X "len" := by rfl) (he : starEach [e] X.env = (false, eval e X.env) :: starEach [] X.env := by rfl) (hpl : (backTo pos (starEach [] X.env)).any (·.1) = false := by rfl) : PE X (.Call (.Name "len" p) [e] [] pos) (rdE (X.K, Z) W (mCall sLen m)) :=
  de_callB (call_len_seq.or call_lenD) opLen hm PySem.boot_len ha hg (by decide) (by decide) he hpl
def sAbs : SC := fun ds w => match ds with
  | [.int i] => .ok (.int (if i < 0 then -i else i)) w
  | _ => .no
theorem de_abs (hm : X.mg "abs" = none) (ha : PA X [e] (rdA (X.K, Z) W m)) (hg : Gl X "abs" := by rfl) (he : starEach [e] X.env = (false, eval e X.env) :: starEach [] X.env := by rfl) (hpl : (backTo pos (starEach [] X.env)).any (·.1) = false := by rfl) : PE X (.Call (.Name "abs" p) [e] [] pos) (rdE (X.K, Z) W (mCall sAbs m)) :=
  de_callB call_abs (fun W hd φ H w ds xs Q wr rx p => by
    match ds, p with
    | [.int i], p => obtain ⟨v, rfl, r⟩ := reps1 rx; cases rep_int r; exact ⟨i, rfl, p.int wr⟩) hm (by decide +kernel) ha hg (by decide) (by decide) he hpl
def s2i (g : Int → Int → Int) : SC := fun ds w => match ds with
  | [.int i, .int j] => .ok (.int (g i j)) w
  | _ => .no
theorem op2i {g : Int → Int → Int} : OpC K (s2i g) (fun xs H Q => ∃ i j, xs = [.int i, .int j] ∧ Q (.int (g i j)) H) := fun W hd φ H w ds xs Q wr rx p => by
  match ds, p with
  | [.int i, .int j], p => obtain ⟨v, u, rfl, r1, r2⟩ := reps2 rx; cases rep_int r1; cases rep_int r2; exact ⟨i, j, rfl, p.int wr⟩
def sMax2 : SC := s2i fun i j => if j > i then j else i
def sMin2 : SC := s2i fun i j => if j < i then j else i
theorem de_max2 (hc : X.calm = true) (hm : X.mg "max" = none) (ha : PA X [e, e2] (rdA (X.K, Z) W m)) (hg : Gl X "max" := by rfl) (he : starEach [e, e2] X.env = (false, eval e X.env) :: starEach [e2] X.env := by rfl) (hpl : (backTo pos (starEach [e2] X.env)).any (·.1) = false := by rfl) : PE X (.Call (.Name "max" p) [e, e2] [] pos) (rdE (X.K, Z) W (mCall sMax2 m)) :=
  de_callB (call_max2 hc) op2i hm (by decide +kernel) ha hg (by decide) (by decide) he hpl
theorem de_min2 (hc : X.calm = true) (hm : X.mg "min" = none) (ha : PA X [e, e2] (rdA (X.K, Z) W m)) (hg : Gl X "min" := by rfl) (he : starEach [e, e2] X.env = (false, eval e X.env) :: starEach [e2] X.env := by rfl) (hpl : (backTo pos (starEach [e2] X.env)).any (·.1) = false := by rfl) : PE X (.Call (.Name "min" p) [e, e2] [] pos) (rdE (X.K, Z) W (mCall sMin2 m)) :=
  de_callB (call_min2 hc) op2i hm (by decide +kernel) ha hg (by decide) (by decide) he hpl
def sInt : SC := fun ds w => match ds with
  | [.int i] => .ok (.int i) w
  | [.bl k] => .ok (.int (if k then 1 else 0)) w
  | _ => .no
theorem de_int1 (hm : X.mg "int" = none) (ha : PA X [e] (rdA (X.K, Z) W m)) (hg : Gl X "int" := by rfl) (he : starEach [e] X.env = (false, eval e X.env) :: starEach [] X.env := by rfl) (hpl : (backTo pos (starEach [] X.env)).any (·.1) = false := by rfl) : PE X (.Call (.Name "int" p) [e] [] pos) (rdE (X.K, Z) W (mCall sInt m)) :=
  de_callTy call_int1 (fun W hd φ H w ds xs Q wr rx p => by
    match ds, p with
    | [.int i], p => obtain ⟨v, rfl, r⟩ := reps1 rx; cases rep_int r; exact .inl ⟨i, rfl, p.int wr⟩
    | [.bl k], p => obtain ⟨v, rfl, r⟩ := reps1 rx; unfold Rep at r; subst r; exact .inr ⟨k, rfl, p.int wr⟩) hm (by decide +kernel) ha hg (by decide) (by decide) he hpl
def sList : SCF := fun ds w => match ds with
  | [t] => match seq? w t with
    | some ts => .ok ts w
    | none => .no
  | _ => .no
theorem df_list (hm : X.mg "list" = none) (ha : PA X [e] (rdA (X.K, Z) W m)) (hg : Gl X "list" := by rfl) (he : starEach [e] X.env = (false, eval e X.env) :: starEach [] X.env := by rfl) (hpl : (backTo pos (starEach [] X.env)).any (·.1) = false := by rfl) : PE X (.Call (.Name "list" p) [e] [] pos) (rdF (X.K, Z) W (mCallF sList m)) :=
  df_callTy call_list_of (fun W hd φ H w ds xs Q wr rx p => by
    match ds, p with
    | [t], p =>
      unfold sList at p
      simp only at p
      cases q : seq? w t with
      | none => rw [q] at p; exact p.elim
      | some ts =>
        rw [q] at p
        obtain ⟨v, rfl, r⟩ := reps1 rx
        obtain ⟨a, xs, rfl, h1, h2⟩ := seq_at wr r q
        exact ⟨a, xs, rfl, h1, p.new wr h2⟩) hm (by decide +kernel) ha hg (by decide) (by decide) he hpl
def sTup : SC := fun ds w => match ds with
  | [t] => match seq? w t with
    | some ts => .ok (.tup ts) w
    | none => .no
  | _ => .no
theorem de_tuple (hm : X.mg "tuple" = none) (ha : PA X [e] (rdA (X.K, Z) W m)) (hg : Gl X "tuple" := by rfl) (he : starEach [e] X.env = (false, eval e X.env) :: starEach [] X.env := by rfl) (hpl : (backTo pos (starEach [] X.env)).any (·.1) = false := by rfl) : PE X (.Call (.Name "tuple" p) [e] [] pos) (rdE (X.K, Z) W (mCall sTup m)) :=
  de_callTy call_tuple_of (fun W hd φ H w ds xs Q wr rx p => by
    match ds, p with
    | [t], p =>
      unfold sTup at p
      simp only at p
      cases q : seq? w t with
      | none => rw [q] at p; exact p.elim
      | some ts =>
        rw [q] at p
        obtain ⟨v, rfl, r⟩ := reps1 rx
        have r' := r
        cases t with
        | tup us =>
          cases q
          unfold Rep at r
          obtain ⟨a, xs, rfl, n, rs⟩ := r
          exact ⟨a, xs, rfl, .inr ⟨SqT.of n.1, p.ok wr _ r'⟩⟩
        | lst us =>
          cases q
          unfold Rep at r
          obtain ⟨a, xs, rfl, n, rs⟩ := r
          exact ⟨a, xs, rfl, .inl ⟨SqL.of n.1, p.tup wr rs⟩⟩
        | frz us =>
          cases q
          unfold Rep at r
          obtain ⟨a, xs, rfl, n, rs⟩ := r
          exact ⟨a, xs, rfl, .inl ⟨frz_sq n, p.tup wr rs⟩⟩
        | cell k =>
          unfold seq? at q
          simp only at q
          split at q
          · rename_i us hk
            cases q
            obtain ⟨a, rfl, _, _, xs, h1, h2⟩ := cell_at wr r hk
            exact ⟨a, xs, rfl, .inl ⟨SqL.of h1, p.tup wr h2⟩⟩
          · cases q
        | _ => cases q) hm (by decide +kernel) ha hg (by decide) (by decide) he hpl
def blsT : List T → Option (List Bool)
  | [] => some []
  | .bl b :: ts => (blsT ts).map (b :: ·)
  | _ :: _ => none
theorem bls_at : ∀ {ts : List T} {vs : List V} {bs : List Bool}, Reps K hd φ H ts vs → blsT ts = some bs → vs = bs.map V.bl
  | [], vs, bs, r, h => by cases h; unfold Reps at r; exact r
  | .bl b :: ts, vs, bs, r, h => by
    unfold Reps at r
    obtain ⟨x, xs, rfl, r1, r2⟩ := r
    unfold Rep at r1
    subst r1
    obtain ⟨cs, h1, rfl⟩ := map_some h
    rw [bls_at r2 h1]
    rfl
  | .non :: ts, vs, bs, r, h => by cases h
  | .int _ :: ts, vs, bs, r, h => by cases h
  | .str _ :: ts, vs, bs, r, h => by cases h
  | .ty _ :: ts, vs, bs, r, h => by cases h
  | .tup _ :: ts, vs, bs, r, h => by cases h
  | .lst _ :: ts, vs, bs, r, h => by cases h
  | .frz _ :: ts, vs, bs, r, h => by cases h
  | .rng _ :: ts, vs, bs, r, h => by cases h
  | .glb _ :: ts, vs, bs, r, h => by cases h
  | .exc _ _ _ :: ts, vs, bs, r, h => by cases h
  | .dct _ _ :: ts, vs, bs, r, h => by cases h
  | .cell _ :: ts, vs, bs, r, h => by cases h
def sAll : SC := fun ds w => match ds with
  | [t] => match lst? w t with
    | some ts => match blsT ts with
      | some bs => .ok (.bl (bs.all id)) w
      | none => .no
    | none => .no
  | _ => .no
def sAny : SC := fun ds w => match ds with
  | [t] => match lst? w t with
    | some ts => match blsT ts with
      | some bs => .ok (.bl (bs.any id)) w
      | none => .no
    | none => .no
  | _ => .no
theorem de_all (hc : X.calm = true) (hm : X.mg "all" = none) (ha : PA X [e] (rdA (X.K, Z) W m)) (hg : Gl X "all" := by rfl) (he : starEach [e] X.env = (false, eval e X.env) :: starEach [] X.env := by rfl) (hpl : (backTo pos (starEach [] X.env)).any (·.1) = false := by rfl) : PE X (.Call (.Name "all" p) [e] [] pos) (rdE (X.K, Z) W (mCall sAll m)) :=
  de_callB (cr_all hc) (fun W hd φ H w ds xs Q wr rx p => by
    match ds, p with
    | [t], p =>
      unfold sAll at p
      simp only at p
      cases q : lst? w t with
      | none => rw [q] at p; exact p.elim
      | some ts =>
        cases q2 : blsT ts with
        | none => simp only [q, q2] at p; exact p.elim
        | some bs =>
          simp only [q, q2] at p
          obtain ⟨v, rfl, r⟩ := reps1 rx
          obtain ⟨a, xs, rfl, h1, h2⟩ := lst_at wr r q
          have e := bls_at h2 q2
          subst e
          exact ⟨a, bs, rfl, SqL.of h1, p.bl wr⟩) hm (by decide +kernel) ha hg (by decide) (by decide) he hpl
theorem de_any (hc : X.calm = true) (hm : X.mg "any" = none) (ha : PA X [e] (rdA (X.K, Z) W m)) (hg : Gl X "any" := by rfl) (he : starEach [e] X.env = (false, eval e X.env) :: starEach [] X.env := by rfl) (hpl : (backTo pos (starEach [] X.env)).any (·.1) = false := by rfl) : PE X (.Call (.Name "any" p) [e] [] pos) (rdE (X.K, Z) W (mCall sAny m)) :=
  de_callB (cr_any hc) (fun W hd φ H w ds xs Q wr rx p => by
    match ds, p with
    | [t], p =>
      unfold sAny at p
      simp only at p
      cases q : lst? w t with
      | none => rw [q] at p; exact p.elim
      | some ts =>
        cases q2 : blsT ts with
        | none => simp only [q, q2] at p; exact p.elim
        | some bs =>
          simp only [q, q2] at p
          obtain ⟨v, rfl, r⟩ := reps1 rx
          obtain ⟨a, xs, rfl, h1, h2⟩ := lst_at wr r q
          have e := bls_at h2 q2
          subst e
          exact ⟨a, bs, rfl, SqL.of h1, p.bl wr⟩) hm (by decide +kernel) ha hg (by decide) (by decide) he hpl
/-! ### isinstance -/
def kindT (w : World) : T → Option String
  | .non => some "NoneType"
  | .bl _ => some "bool"
  | .int _ => some "int"
  | .str _ => some "str"
  | .tup _ => some "tuple"
  | .lst _ => some "list"
  | .dct _ _ => some "dict"
  | .cell k => match w[k]? with
    | some (.lst _) => some "list"
    | some (.dic _) => some "dict"
    | some (.dit _) => some "dict"
    | _ => none
  | _ => none
def kinds : List String := ["NoneType", "bool", "int", "str", "tuple", "list", "dict"]
def isiB (a n : String) : Bool := a == n || (a == "bool" && n == "int")
theorem kit_tab : ∀ a ∈ kinds, ∀ n ∈ kinds, kitB a n = some (isiB a n) := by decide +kernel
theorem kindT_mem {t : T} {a : String} (h : kindT w t = some a) : a ∈ kinds := by
  unfold kindT at h
  split at h <;> first | (cases h; decide) | (split at h <;> first | (cases h; decide) | cases h) | cases h
theorem kind_at (wr : WR K hd φ H w) {t : T} {v : V} {a : String} (r : Rep K hd φ H t v) (h : kindT w t = some a) : TyX K.1 H v (.type a) := by
  cases t with
  | non => cases h; unfold Rep at r; subst r; exact .base .non
  | bl b => cases h; unfold Rep at r; subst r; exact .base (.bl b)
  | int i => cases h; unfold Rep at r; subst r; exact .base (.int i)
  | str i => cases h; unfold Rep at r; subst r; exact .base (.str i)
  | tup ts => cases h; unfold Rep at r; obtain ⟨l, xs, rfl, n, _⟩ := r; exact .base (.tup n.1)
  | lst ts => cases h; unfold Rep at r; obtain ⟨l, xs, rfl, n, _⟩ := r; exact .base (.lst n.1)
  | dct ks ts => cases h; unfold Rep at r; obtain ⟨l, xs, rfl, _, n, _⟩ := r; exact .base (.dK n.1)
  | cell k =>
    unfold kindT at h
    simp only at h
    cases q : w[k]? with
    | none => rw [q] at h; cases h
    | some c =>
      rw [q] at h
      cases c with
      | lst ts => cases h; obtain ⟨l, rfl, _, _, xs, h1, _⟩ := cell_at wr r q; exact .base (.lst h1)
      | dic kvs => cases h; obtain ⟨l, rfl, _, _, xs, h1, _⟩ := cell_at wr r q; exact .base (.dK h1)
      | din kvs => cases h
      | dit kvs => cases h; obtain ⟨l, rfl, _, _, xs, h1, _⟩ := cell_at wr r q; exact .base (.dT h1)
      | obj x ks ts => cases h
  | _ => cases h
def tysT : List T → Option (List String)
  | [] => some []
  | .ty n :: ts => (tysT ts).map (n :: ·)
  | _ :: _ => none
def sIsi : SC := fun ds w => match ds with
  | [t, .ty n] => match kindT w t with
    | some a => if n ∈ kinds then .ok (.bl (isiB a n)) w else .no
    | none => .no
  | [t, .tup ts] => match kindT w t, tysT ts with
    | some a, some ns => if ∀ n ∈ ns, n ∈ kinds then .ok (.bl (ns.any fun n => isiB a n)) w else .no
    | _, _ => .no
  | _ => .no
theorem tys_at : ∀ {ts : List T} {vs : List V} {ns : List String}, Reps K hd φ H ts vs → tysT ts = some ns → vs = ns.map V.ty
  | [], vs, bs, r, h => by cases h; unfold Reps at r; exact r
  | .ty b :: ts, vs, bs, r, h => by
    unfold Reps at r
    obtain ⟨x, xs, rfl, r1, r2⟩ := r
    unfold Rep at r1
    subst r1
    obtain ⟨cs, h1, rfl⟩ := map_some h
    rw [tys_at r2 h1]
    rfl
  | .non :: ts, vs, bs, r, h => by cases h
  | .int _ :: ts, vs, bs, r, h => by cases h
  | .str _ :: ts, vs, bs, r, h => by cases h
  | .bl _ :: ts, vs, bs, r, h => by cases h
  | .tup _ :: ts, vs, bs, r, h => by cases h
  | .lst _ :: ts, vs, bs, r, h => by cases h
  | .frz _ :: ts, vs, bs, r, h => by cases h
  | .rng _ :: ts, vs, bs, r, h => by cases h
  | .glb _ :: ts, vs, bs, r, h => by cases h
  | .exc _ _ _ :: ts, vs, bs, r, h => by cases h
  | .dct _ _ :: ts, vs, bs, r, h => by cases h
  | .cell _ :: ts, vs, bs, r, h => by cases h
theorem kit_any {a : String} (ha : a ∈ kinds) : ∀ {ns : List String}, (∀ n ∈ ns, n ∈ kinds) → PySem.W.kitAny K.1 (.type a) (ns.map Value.type) = some (ns.any fun n => isiB a n)
  | [], _ => kitAny_nil
  | n :: ns, h => by
    have h1 := kit_ty (K := K.1) (kit_tab a ha n (h n List.mem_cons_self))
    have h2 := kit_any ha fun m hm => h m (List.mem_cons_of_mem _ hm)
    refine kitAny_cons h1 (fun e => ?_) (fun e => ?_)
    · rw [h2, List.any_cons, e, Bool.false_or]
    · rw [List.any_cons, e, Bool.true_or]
theorem cls_all : ∀ ns : List String, Paired ClsV (ns.map V.ty) (ns.map Value.type)
  | [] => .nil
  | n :: ns => .cons (.ty n) (cls_all ns)
theorem opIsi : OpC K sIsi (fun xs H Q => rIsi K.1 xs H Q ∨ rIsiT K.1 xs H Q) := fun W hd φ H w ds xs Q wr rx p => by
  match ds, p with
  | [t, .ty n], p =>
    unfold sIsi at p
    simp only at p
    cases q : kindT w t with
    | none => rw [q] at p; exact p.elim
    | some a =>
      rw [q] at p
      simp only at p
      split at p
      · rename_i hn
        obtain ⟨v, u, rfl, r1, r2⟩ := reps2 rx
        unfold Rep at r2
        subst r2
        exact .inl ⟨v, .ty n, .type a, .type n, isiB a n, rfl, .ty n, kind_at wr r1 q, kit_ty (kit_tab a (kindT_mem q) n hn), p.bl wr⟩
      · exact p.elim
  | [t, .tup ts], p =>
    unfold sIsi at p
    simp only at p
    cases q : kindT w t with
    | none => simp only [q] at p; exact p.elim
    | some a =>
      cases q2 : tysT ts with
      | none => simp only [q, q2] at p; exact p.elim
      | some ns =>
        simp only [q, q2] at p
        split at p
        · rename_i hn
          obtain ⟨v, u, rfl, r1, r2⟩ := reps2 rx
          unfold Rep at r2
          obtain ⟨l, ys, rfl, n2, r3⟩ := r2
          have e := tys_at r3 q2
          subst e
          exact .inr ⟨v, l, ns.map V.ty, .type a, ns.map Value.type, _, rfl, n2.1, cls_all ns, kind_at wr r1 q, kit_any (kindT_mem q) hn, p.bl wr⟩
        · exact p.elim
theorem de_isi (hm : X.mg "isinstance" = none) (ha : PA X [e, e2] (rdA (X.K, Z) W m)) (hg : Gl X "isinstance" := by rfl) (he : starEach [e, e2] X.env = (false, eval e X.env) :: starEach [e2] X.env := by rfl) (hpl : (backTo pos (starEach [e2] X.env)).any (·.1) = false := by rfl) : PE X (.Call (.Name "isinstance" p) [e, e2] [] pos) (rdE (X.K, Z) W (mCall sIsi m)) :=
  de_callB (call_isi.or call_isiT) opIsi hm (by decide +kernel) ha hg (by decide) (by decide) he hpl
end
end VS

set_option Elab.async false
set_option linter.all false
set_option maxRecDepth 100000
set_option maxHeartbeats 2000000
namespace VS
open PySem PySem.Spec PyProof.Rows L2
section
variable {X : Cx} {K : KT} {hd φ : List Addr} {H : Hp} {w : World} {a b o e : Expr} {es : List Expr} {pos : Pos} {ma mb mo : ME} {m : MF} {Z : ZT} {W : Option WX}
theorem reps_rg (lo : Int) (n : Nat) : Reps K hd φ H (rgT lo n) ((List.range n).map fun i => V.int (lo + (i : Nat))) := by
  unfold rgT
  refine Reps.iff.mpr ⟨by simp, fun i t x h1 h2 => ?_⟩
  rw [List.getElem?_map] at h1 h2
  cases q : (List.range n)[i]? with
  | none => rw [q] at h1; cases h1
  | some j => rw [q] at h1 h2; cases h1; cases h2; unfold Rep; rfl
instance {i j : Int} : Decidable (L2.RgOk i j) := by unfold L2.RgOk; infer_instance
def mLRg1 (m : ME) : MF := fun ρ w => (m ρ w).bind fun t w1 => match t with
  | .int n => if L2.RgOk 0 n then .ok (rgT 0 n.toNat) w1 else .no
  | _ => .no
theorem df_listRg1 {p p2 q2 : Pos} (hc : X.calm = true) (hm : X.mg "list" = none) (hm2 : X.mg "range" = none) (ha : PE X a (rdE (X.K, Z) W ma)) (hg : Gl X "list" := by rfl) (hg2 : Gl X "range" := by rfl) (na : starEach [a] X.env = (false, eval a X.env) :: starEach [] X.env := by rfl)
    (na2 : starEach [.Call (.Name "range" p2) [a] [] q2] X.env = (false, eval (.Call (.Name "range" p2) [a] [] q2) X.env) :: starEach [] X.env := by rfl) : PE X (.Call (.Name "list" p) [.Call (.Name "range" p2) [a] [] q2] [] pos) (rdF (X.K, Z) W (mLRg1 ma)) := PE_imp (pe_listRg hc hg hm (prg_1 hg2 hm2 ha na) na2) fun σ H Q => by
  rintro ⟨hd, φ, ρ, w, sr, wr, p⟩
  refine ⟨hd, φ, ρ, w, sr, wr, Pst.then isPstF p fun d w1 φ1 H1 e1 wr1 p1 v rv => ?_⟩
  cases d with
  | int n =>
    cases rep_int rv
    simp only at p1
    split at p1
    · rename_i ok
      refine ⟨n, rfl, ok, fun q hq => p1.new wr1 ?_ q hq⟩
      have := reps_rg (K := (X.K, Z)) (hd := hd) (φ := φ1) (H := H1) 0 n.toNat
      unfold rgV
      rw [Int.sub_zero]
      exact this
    · exact p1.elim
  | _ => exact p1.elim
def mLRg2 (m m2 : ME) : MF := fun ρ w => (m ρ w).bind fun t w1 => (m2 ρ w1).bind fun u w2 => match t, u with
  | .int i, .int j => if L2.RgOk i j then .ok (rgT i (j - i).toNat) w2 else .no
  | _, _ => .no
theorem df_listRg2 {p p2 q2 : Pos} (hc : X.calm = true) (hm : X.mg "list" = none) (hm2 : X.mg "range" = none) (ha : PE X a (rdE (X.K, Z) W ma)) (hb : PE X b (rdE (X.K, Z) W mb)) (hg : Gl X "list" := by rfl) (hg2 : Gl X "range" := by rfl) (na : starEach [a, b] X.env = (false, eval a X.env) :: starEach [b] X.env := by rfl) (nb : starEach [b] X.env = (false, eval b X.env) :: starEach [] X.env := by rfl) (hp2 : (backTo q2 (starEach [b] X.env)).any (·.1) = false := by rfl)
    (na2 : starEach [.Call (.Name "range" p2) [a, b] [] q2] X.env = (false, eval (.Call (.Name "range" p2) [a, b] [] q2) X.env) :: starEach [] X.env := by rfl) : PE X (.Call (.Name "list" p) [.Call (.Name "range" p2) [a, b] [] q2] [] pos) (rdF (X.K, Z) W (mLRg2 ma mb)) := PE_imp (pe_listRg hc hg hm (prg_2 hg2 hm2 ha hb na nb hp2) na2) fun σ H Q => by
  rintro ⟨hd, φ, ρ, w, sr, wr, p⟩
  refine ⟨hd, φ, ρ, w, sr, wr, Pst.then isPstF p fun d w1 φ1 H1 e1 wr1 p1 v rv => ?_⟩
  refine ⟨hd, φ1, ρ, w1, sr.mono e1, wr1, Pst.then isPstF p1 fun d2 w2 φ2 H2 e2 wr2 p2 v2 rv2 => ?_⟩
  cases d with
  | int i =>
    cases d2 with
    | int j =>
      cases rep_int rv
      cases rep_int rv2
      simp only at p2
      split at p2
      · rename_i ok
        exact ⟨i, j, rfl, rfl, ok, fun q hq => p2.new wr2 (reps_rg i (j - i).toNat) q hq⟩
      · exact p2.elim
    | _ => exact p2.elim
  | _ => exact p2.elim

/-! ### methods of lists -/
abbrev SM := T → List T → World → R T
def OpM (K : KT) (s : SM) (r : V → List V → Hp → VK → Prop) : Prop := ∀ (W : Option WX) hd φ H w d ds x xs Q, WR K hd φ H w → Rep K hd φ H d x → Reps K hd φ H ds xs → Pst K W hd (CE K hd Q) φ H (s d ds w) → r x xs H Q
def mMeth (s : SM) (o : ME) (m : MF) : ME := fun ρ w => (o ρ w).bind fun d w1 => match lst? w1 d with
  | some _ => (m ρ w1).bind fun ds w2 => s d ds w2
  | none => .no
theorem meth_read {s : SM} {r : V → List V → Hp → VK → Prop} (hs : OpM K s r) : ∀ σ H Q, rdE K W (mMeth s mo m) σ H Q → tBM K.1 "list" r (rdE K W mo) (rdA K W m) σ H Q := fun σ H Q => by
  rintro ⟨hd, φ, ρ, w, sr, wr, p⟩
  refine ⟨hd, φ, ρ, w, sr, wr, Pst.then isPst p fun d w1 φ1 H1 e1 wr1 p1 x rx => ?_⟩
  cases q : lst? w1 d with
  | none => rw [q] at p1; exact p1.elim
  | some ts =>
    rw [q] at p1
    obtain ⟨l, xs, e, h1, h2⟩ := lst_at wr1 rx q
    refine ⟨by rw [e]; exact .inl ⟨rfl, xs, SqL.of h1⟩, hd, φ1, ρ, w1, sr.mono e1, wr1, Pst.then isPst p1 fun ds w2 φ2 H2 e2 wr2 p2 vs rvs => ?_⟩
    exact hs W hd φ2 H2 w2 d ds x vs Q wr2 (rx.mono e2) rvs p2
/-- a cell that is a list, written -/
theorem Pst.write {Q : VK} {k : Nat} {l : Addr} {xs ys : List V} {us : List T} {t : T} {v : V} (wr : WR K hd φ H w) (hk : φ[k]? = some l) (rs : Reps K hd φ H us ys) (rt : Rep K hd φ H t v)
    (p : Pst K W hd (CE K hd Q) φ H (.ok t (w.set k (.lst us)))) : Q v (upd H l (.lst ys)) := by
  have e : Ext hd φ H hd φ (upd H l (.lst ys)) := Ext.write (List.mem_of_getElem? hk)
  exact p _ _ e (wr.write hk ⟨ys, upd_same, rs.mono e⟩) _ (rt.mono e)
def sAppend : SM := fun d ds w => match d, ds with
  | .cell k, [t] => match w[k]? with
    | some (.lst ts) => if ts.length < sizeLine then .ok .non (w.set k (.lst (ts ++ [t]))) else .no
    | _ => .no
  | _, _ => .no
theorem opAppend : OpM K sAppend rAppend := fun W hd φ H w d ds x xs Q wr rx rxs p => by
  cases d with
  | cell k =>
    cases ds with
    | nil => exact p.elim
    | cons t r =>
      cases r with
      | cons _ _ => exact p.elim
      | nil =>
        unfold sAppend at p
        simp only at p
        cases q : w[k]? with
        | none => rw [q] at p; exact p.elim
        | some c =>
          rw [q] at p
          cases c with
          | lst ts =>
            simp only at p
            split at p
            · rename_i hl
              obtain ⟨l, rfl, hk, _, ys, h1, h2⟩ := cell_at wr rx q
              obtain ⟨v, rfl, rt⟩ := reps1 rxs
              exact ⟨l, ys, v, rfl, rfl, h1, by rw [← h2.len]; exact hl, Pst.write (xs := ys) wr hk (h2.append (Reps.cons rt Reps.nil)) (by unfold Rep; rfl) p⟩
            · exact p.elim
          | _ => exact p.elim
  | _ => exact p.elim
theorem de_append {apos : Pos} (ho : PE X o (rdE (X.K, Z) W mo)) (ha : PA X [e] (rdA (X.K, Z) W m))
    (hbase : attributeBase o "append" X.env (eval o X.env) = eval o X.env := by rfl) (hline : (apos.endLine == pos.line) = true := by rfl)
    (hfew : ((backTo pos (starEach [e] X.env)).all (fun x => !x.1) && (backToKw pos (keywordEach [] X.env)).all (fun x => x.1.isSome)
      && decide (([e] : List Expr).length + ([] : List Keyword).length + (if ([] : List Keyword).isEmpty then 0 else 1) < 30)) = true := by rfl)
    (hs : starEach [e] X.env = (false, eval e X.env) :: starEach [] X.env := by rfl) (hplain : (backTo pos (starEach [] X.env)).any (·.1) = false := by rfl) :
    PE X (.Call (.Attribute o "append" apos) [e] [] pos) (rdE (X.K, Z) W (mMeth sAppend mo m)) :=
  PE_imp (pe_bm PySem.F.plainAttrs_list PySem.F.slot_list_append PySem.F.type_list_append mt_append ho ha hbase hfew hline hs hplain) (meth_read opAppend)
def sPopAt : SM := fun d ds w => match d, ds with
  | .cell k, [.int i] => match w[k]? with
    | some (.lst ts) => if -(2 ^ 63) ≤ i ∧ i < 2 ^ 63 then match seqIndex? i ts.length with
        | some j => match ts[j]? with
          | some t => .ok t (w.set k (.lst (ts.eraseIdx j)))
          | none => .no
        | none => .no
      else .no
    | _ => .no
  | _, _ => .no
theorem opPopAt : OpM K sPopAt rPopAt := fun W hd φ H w d ds x xs Q wr rx rxs p => by
  cases d with
  | cell k =>
    cases ds with
    | nil => exact p.elim
    | cons t r =>
      cases r with
      | cons _ _ => cases t <;> exact p.elim
      | nil =>
        cases t with
        | int i =>
          unfold sPopAt at p
          simp only at p
          cases q : w[k]? with
          | none => rw [q] at p; exact p.elim
          | some c =>
            rw [q] at p
            cases c with
            | lst ts =>
              simp only at p
              split at p
              · rename_i hl
                obtain ⟨l, rfl, hk, _, ys, h1, h2⟩ := cell_at wr rx q
                obtain ⟨v, rfl, rt⟩ := reps1 rxs
                cases rep_int rt
                cases q2 : seqIndex? i ts.length with
                | none => rw [q2] at p; exact p.elim
                | some j =>
                  rw [q2] at p
                  simp only at p
                  cases q3 : ts[j]? with
                  | none => rw [q3] at p; exact p.elim
                  | some t =>
                    rw [q3] at p
                    obtain ⟨y, h3, h4⟩ := h2.at q3
                    exact ⟨l, ys, i, j, y, rfl, rfl, h1, hl.1, hl.2, by rw [← h2.len]; exact q2, h3, Pst.write (xs := ys) wr hk (h2.eraseIdx j) h4 p⟩
              · exact p.elim
            | _ => exact p.elim
        | _ => exact p.elim
  | _ => exact p.elim
theorem de_popAt {apos : Pos} (ho : PE X o (rdE (X.K, Z) W mo)) (ha : PA X [e] (rdA (X.K, Z) W m))
    (hbase : attributeBase o "pop" X.env (eval o X.env) = eval o X.env := by rfl) (hline : (apos.endLine == pos.line) = true := by rfl)
    (hfew : ((backTo pos (starEach [e] X.env)).all (fun x => !x.1) && (backToKw pos (keywordEach [] X.env)).all (fun x => x.1.isSome)
      && decide (([e] : List Expr).length + ([] : List Keyword).length + (if ([] : List Keyword).isEmpty then 0 else 1) < 30)) = true := by rfl)
    (hs : starEach [e] X.env = (false, eval e X.env) :: starEach [] X.env := by rfl) (hplain : (backTo pos (starEach [] X.env)).any (·.1) = false := by rfl) :
    PE X (.Call (.Attribute o "pop" apos) [e] [] pos) (rdE (X.K, Z) W (mMeth sPopAt mo m)) :=
  PE_imp (pe_bm PySem.F.plainAttrs_list PySem.F.slot_list_pop PySem.F.type_list_pop mt_popAt ho ha hbase hfew hline hs hplain) (meth_read opPopAt)

/-! ### o[i] = v -/
def rSetD : TSet := fun o i v H Q => ∃ a H', o = .ref a ∧ DPut H a i v H' ∧ Q H'
theorem set_dict (hu : X.A.units + 1 < cLine) : PSet X rSetD := by
  intro pins s σ H o i v ov iv u Q I ro ri rv h
  obtain ⟨a, H', rfl, g, q⟩ := h
  obtain rfl : ov = Value.ref a := ro
  exact d_setItem hu I g ri rv fun s' I' => ⟨H', I', q⟩
theorem PSet.or {t t' : TSet} (h : PSet X t) (h' : PSet X t') : PSet X (fun o i v H Q => t o i v H Q ∨ t' o i v H Q) := by
  intro pins s σ H o i v ov iv u Q I ro ri rv q
  rcases q with q | q
  · exact h pins s σ H o i v ov iv u Q I ro ri rv q
  · exact h' pins s σ H o i v ov iv u Q I ro ri rv q
def sSet : S3 := fun o i t w => match o with
  | .cell k => match w[k]? with
    | some (.lst ts) => match i with
      | .int n => match ixN ts.length n with
        | some j => .ok () (w.set k (.lst (ts.set j t)))
        | none => .no
      | _ => .no
    | some (.dic kvs) => match keyT i with
      | some key => if kvs.length < sizeLine then .ok () (w.set k (.dic (putT kvs key t))) else .no
      | none => .no
    | some (.dit kvs) => match i with
      | .tup us => match keysT us with
        | some key => if kvs.length < sizeLine then .ok () (w.set k (.dit (putT kvs key t))) else .no
        | none => .no
      | _ => .no
    | _ => .no
  | _ => .no
theorem opSet : OpSet K sSet (fun o i v H Q => rSetL o i v H Q ∨ rSetD o i v H Q) := fun W hd φ H w d1 d2 d3 x y z Q wr r1 r2 r3 p => by
  cases d1 with
  | cell k =>
    unfold sSet at p
    simp only at p
    cases q : w[k]? with
    | none => rw [q] at p; exact p.elim
    | some c =>
      rw [q] at p
      cases c with
      | lst ts =>
        cases d2 with
        | int n =>
          cases rep_int r2
          simp only at p
          cases q2 : ixN ts.length n with
          | none => rw [q2] at p; exact p.elim
          | some j =>
            rw [q2] at p
            obtain ⟨l, rfl, hk, hm, ys, h1, h2⟩ := cell_at wr r1 q
            have e : Ext hd φ H hd φ (upd H l (.lst (ys.set j z))) := Ext.write hm
            exact .inl ⟨l, ys, n, j, rfl, rfl, h1, by rw [← h2.len]; exact q2, p _ _ e (wr.write hk ⟨_, upd_same, (h2.set r3 j).mono e⟩)⟩
        | _ => exact p.elim
      | dic kvs =>
        simp only at p
        cases q2 : keyT d2 with
        | none => rw [q2] at p; exact p.elim
        | some key =>
          rw [q2] at p
          simp only at p
          split at p
          · rename_i hl
            obtain ⟨l, rfl, hk, hm, ys, h1, h2, h3⟩ := cell_at wr r1 q
            have e : Ext hd φ H hd φ (upd H l (.dK (putK ys key z))) := Ext.write hm
            have hlen : ys.length = kvs.length := by simpa using congrArg List.length h2
            obtain ⟨g1, g2⟩ := putT_at h2 h3 key r3
            rw [key_at r2 q2]
            exact .inr ⟨l, _, rfl, DPut.k h1 (by rw [hlen]; exact hl), p _ _ e (wr.write hk ⟨_, upd_same, g1, g2.mono e⟩)⟩
          · exact p.elim
      | dit kvs =>
        cases d2 with
        | tup us =>
          simp only at p
          cases q2 : keysT us with
          | none => rw [q2] at p; exact p.elim
          | some key =>
            rw [q2] at p
            simp only at p
            split at p
            · rename_i hl
              obtain ⟨l, rfl, hk, hm, ys, h1, h2, h3⟩ := cell_at wr r1 q
              have e : Ext hd φ H hd φ (upd H l (.dT (putK ys key z))) := Ext.write hm
              have hlen : ys.length = kvs.length := by simpa using congrArg List.length h2
              obtain ⟨g1, g2⟩ := putT_at h2 h3 key r3
              unfold Rep at r2
              obtain ⟨m, zs, rfl, n, rz⟩ := r2
              have e' := keys_at rz q2
              subst e'
              exact .inr ⟨l, _, rfl, DPut.t h1 n.1 (by rw [hlen]; exact hl), p _ _ e (wr.write hk ⟨_, upd_same, g1, g2.mono e⟩)⟩
            · exact p.elim
        | _ => exact p.elim
      | obj x ks ts => exact p.elim
      | din kvs => exact p.elim
  | _ => exact p.elim
theorem dg_item (hu : X.A.units + 1 < cLine) {i : Expr} {mi : ME} (ho : PE X o (rdE (X.K, Z) W mo)) (hi : PE X i (rdE (X.K, Z) W mi))
    (ha : ∀ v, assign (.Subscript o i pos) X.env v = (do
      let ov ← holding [v] (eval o X.env)
      let iv ← holding [v, ov] (eval i X.env)
      standAt pos
      holding [v, ov, iv] (setItem ov iv v)
      release [v, ov, iv] []) := by exact fun _ => rfl) : PG X (.Subscript o i pos) (rdG (X.K, Z) W (mgSub sSet mo mi) []) := dg_sub ho hi (PSet.or set_list (set_dict hu)) opSet ha

/-! ### {} and {k: v, ..} -/
/-- a dict held apart becomes a cell -/
def mDict0 : ME := fun _ w => .ok (.cell w.length) (w ++ [.dic []])
def mDictT0 : ME := fun _ w => .ok (.cell w.length) (w ++ [.dit []])
theorem new_cell {Q : VK} {o : HO} {c : Cell} (wr : WR K hd φ H w) (p : Pst K W hd (CE K hd Q) φ H (.ok (.cell w.length) (w ++ [c]))) (hc : ∀ l, H l = none → CellR K (l :: hd) φ (upd H l o) c l) (ho : ∀ ps, o ≠ .tbl ps := by exact fun _ z => nomatch z) : ∀ l, H l = none → Q (.ref l) (upd H l o) := fun l hl => by
  refine p _ (φ ++ [l]) ((Ext.hold hl).cell (fr0_none hl)) ((wr.hold hl ho).cell (wr.nin hl).2 (hc l hl)) _ ?_
  unfold Rep
  refine ⟨l, rfl, ?_⟩
  rw [← wr.len, List.getElem?_append_right (Nat.le_refl _)]
  simp
theorem de_dict0 : PE X (.Dict [] [] pos) (rdE (X.K, Z) W mDict0) := PE_imp pe_dnewK fun σ H Q => by
  rintro ⟨hd, φ, ρ, w, sr, wr, p⟩
  exact new_cell wr p fun l hl => ⟨[], upd_same, rfl, Reps.nil⟩
theorem de_dictT0 : PE X (.Dict [] [] pos) (rdE (X.K, Z) W mDictT0) := PE_imp pe_dnewT fun σ H Q => by
  rintro ⟨hd, φ, ρ, w, sr, wr, p⟩
  exact new_cell wr p fun l hl => ⟨[], upd_same, rfl, Reps.nil⟩
/-- the pairs of a display: keys are written texts or ints -/
abbrev MPs := Env → World → R (List (Key × T))
def mpNil : MPs := fun _ w => .ok [] w
def mpCons (k v : ME) (r : MPs) : MPs := fun ρ w => (k ρ w).bind fun kt w1 => (v ρ w1).bind fun t w2 => (r ρ w2).bind fun ps w3 => match keyT kt with
  | some key => .ok ((key, t) :: ps) w3
  | none => .no
def rdP (K : KT) (W : Option WX) (m : MPs) : L2.St → Hp → (List (V × V) → Hp → Prop) → Prop := fun σ H Q => ∃ hd φ ρ w, SR K hd φ H σ ρ ∧ WR K hd φ H w ∧
  Pst K W hd (fun kvs φ' H' => ∀ ys : List (Key × V), ys.map (·.1) = kvs.map (·.1) → Reps K hd φ' H' (kvs.map (·.2)) (ys.map (·.2)) → Q (ys.map fun kv => (kV kv.1, kv.2)) H') φ H (m ρ w)
structure DPs (X : Cx) (Z : ZT) (W : Option WX) (pos : Pos) (keys : List (Option Expr)) (values : List Expr) (m : MPs) : Prop where
  ex : ∃ trs, PPs X pos keys values trs ∧ ∀ σ H Q, rdP (X.K, Z) W m σ H Q → tPairs trs σ H Q
theorem dp_nil : DPs X Z W pos [] [] mpNil := ⟨[], pps_nil, fun σ H Q => by
  rintro ⟨hd, φ, ρ, w, sr, wr, p⟩
  exact p.ok wr [] rfl Reps.nil⟩
theorem dp_cons {k v : Expr} {ks : List (Option Expr)} {vs : List Expr} {mk mv : ME} {mr : MPs} (hk : PE X k (rdE (X.K, Z) W mk)) (hv : PE X v (rdE (X.K, Z) W mv)) (hr : DPs X Z W pos ks vs mr) : DPs X Z W pos (some k :: ks) (v :: vs) (mpCons mk mv mr) := by
  obtain ⟨trs, h1, h2⟩ := hr.ex
  refine ⟨_, pps_cons hk hv h1, fun σ H Q => ?_⟩
  rintro ⟨hd, φ, ρ, w, sr, wr, p⟩
  refine ⟨hd, φ, ρ, w, sr, wr, Pst.then isPst p fun kt w1 φ1 H1 e1 wr1 p1 x rx => ?_⟩
  refine ⟨hd, φ1, ρ, w1, sr.mono e1, wr1, Pst.then isPst p1 fun t w2 φ2 H2 e2 wr2 p2 y ry => ?_⟩
  refine h2 σ H2 _ ⟨hd, φ2, ρ, w2, sr.mono (e1.trans e2), wr2, Pst.then isPst p2 fun ps w3 φ3 H3 e3 wr3 p3 ys g1 g2 => ?_⟩
  cases q : keyT kt with
  | none => rw [q] at p3; exact p3.elim
  | some key =>
    rw [q] at p3
    have := p3.ok wr3 ((key, y) :: ys) (by simp [g1]) (Reps.cons (ry.mono e3) g2)
    rw [key_at rx q]
    exact this
def mDict (m : MPs) : ME := fun ρ w => (m ρ w).bind fun kvs w1 => if kvs.length ≤ 15 ∧ (kvs.map (·.1)).Nodup then .ok (.cell w1.length) (w1 ++ [.dic kvs]) else .no
theorem merge_id : ∀ (ys acc : List (Key × V)), ((acc ++ ys).map (·.1)).Nodup → mergeK acc ys = acc ++ ys
  | [], acc, _ => by rw [List.append_nil]; rfl
  | p :: ys, acc, h => by
    show mergeK (putK acc p.1 p.2) ys = _
    have hn : valV acc p.1 = none := by
      cases q : valV acc p.1 with
      | none => rfl
      | some v =>
        exfalso
        have h1 : (acc.any fun kv => decide (kv.1 = p.1)) = true := by rw [valV_any, q]; rfl
        obtain ⟨z, hz, e⟩ := List.any_eq_true.mp h1
        have e := of_decide_eq_true e
        rw [List.map_append, List.nodup_append] at h
        exact h.2.2 z.1 (List.mem_map.mpr ⟨z, hz, rfl⟩) p.1 (by simp) e
    rw [putK_new _ hn, merge_id ys (acc ++ [(p.1, p.2)]) (by simpa using h)]
    simp
theorem de_dict {keys : List (Option Expr)} {values : List Expr} {m : MPs} (h : DPs X Z W pos keys values m) (hall : keys.all (·.isSome) = true := by rfl) (hl : keys.length = values.length := by rfl) (h0 : keys ≠ [] := by exact fun h => nomatch h) (h15 : keys.length ≤ 15 := by decide) : PE X (.Dict keys values pos) (rdE (X.K, Z) W (mDict m)) := by
  obtain ⟨trs, h1, h2⟩ := h.ex
  refine PE_imp (pe_disp h1 hall hl h0 h15) fun σ H Q => ?_
  rintro ⟨hd, φ, ρ, w, sr, wr, p⟩
  intro l hln
  have eh : Ext hd φ H (l :: hd) φ (upd H l (.dK [])) := Ext.hold hln
  refine h2 σ _ _ ⟨l :: hd, φ, ρ, w, sr.mono eh, wr.hold hln, ?_⟩
  unfold mDict at p
  cases q : m ρ w with
  | no => rw [q] at p; exact p.elim
  | ex t ρ' w' => rw [q] at p; exact PstX.hold hln p
  | ok kvs w1 =>
    rw [q, bind_ok] at p
    intro H' φ' e1 wr1 ys g1 g2
    have hx : H' l = some (.dK []) := e1.keep l _ upd_same (wr.hold (o := .dK []) hln |>.apart l · List.mem_cons_self) (fun _ z => nomatch z)
    split at p
    · rename_i hc
      refine ⟨hx, ys, rfl, by rw [show ys.length = kvs.length by simpa using congrArg List.length g1]; exact hc.1, ?_⟩
      have em : mergeK [] ys = ys := merge_id ys [] (by simpa [g1] using hc.2)
      rw [em]
      have eg : ExtD (some l) (l :: hd) φ' H' (l :: hd) φ' (upd H' l (.dK ys)) := ExtD.grow List.mem_cons_self
      have off : Off (some l) (l :: hd) H' := fun d h => by cases h; exact .inl List.mem_cons_self
      have e2 : Ext hd φ H (l :: hd) φ' (upd H' l (.dK ys)) := ((eh.toD.trans e1.toD).trans eg).plain (fr0_none hln)
      refine p _ (φ' ++ [l]) (e2.cell (fr0_none hln)) ((wr1.grow List.mem_cons_self hx).cell (wr.nin hln).2 ⟨ys, upd_same, g1, g2.monoD eg off⟩) _ ?_
      unfold Rep
      refine ⟨l, rfl, ?_⟩
      rw [← wr1.len, List.getElem?_append_right (Nat.le_refl _)]
      simp
    · exact p.elim
end
end VS

set_option Elab.async false
set_option linter.all false
set_option maxRecDepth 100000
set_option maxHeartbeats 2000000
namespace VS
open PySem PySem.Spec PyProof.Rows L2

/-! ### defs -/
/-- a body as a function of the arguments -/
def runB (n : Nat) (b : MS) : Sem := fun ds w => match b (ds.map some ++ List.replicate (n - ds.length) none) w with
  | .ok (_, .ret t) w' => .ok t w'
  | .ok (_, .nx) w' => .ok .non w'
  | .ex t _ w' => .ex t [] w'
  | _ => .no
/-! cells of the world ahead alone -/
mutual
def NoRef (n : Nat) : T → Prop
  | .cell k => k < n
  | .tup ts => NoRefs n ts
  | .lst ts => NoRefs n ts
  | .frz ts => NoRefs n ts
  | .exc _ _ ts => NoRefs n ts
  | .dct _ ts => NoRefs n ts
  | _ => True
def NoRefs (n : Nat) : List T → Prop
  | [] => True
  | t :: ts => NoRef n t ∧ NoRefs n ts
end
def NoRefC (n : Nat) : Cell → Prop
  | .lst ts => NoRefs n ts
  | .dic kvs => NoRefs n (kvs.map (·.2))
  | .dit kvs => NoRefs n (kvs.map (·.2))
  | .din kvs => NoRefs n (kvs.map (·.2)) ∧ NoRefs n (nkTs (kvs.map (·.1)))
  | .obj _ _ ts => NoRefs n ts
mutual
def mapC (g : Nat → T) : T → T
  | .cell k => g k
  | .tup ts => .tup (mapCs g ts)
  | .lst ts => .lst (mapCs g ts)
  | .frz ts => .frz (mapCs g ts)
  | .non => .non
  | .bl b => .bl b
  | .int i => .int i
  | .str x => .str x
  | .ty n => .ty n
  | .rng n => .rng n
  | .glb x => .glb x
  | .exc x ks ts => .exc x ks (mapCs g ts)
  | .dct ks ts => .dct ks (mapCs g ts)
def mapCs (g : Nat → T) : List T → List T
  | [] => []
  | t :: ts => mapC g t :: mapCs g ts
end
/-- the cells from n on read out -/
def fz (n : Nat) (w : World) : Nat → T → T
  | 0, t => t
  | f + 1, t => mapC (fun k => if k < n then .cell k else match w[k]? with
    | some (.lst ts) => .lst (ts.map (fz n w f))
    | _ => .cell k) t
def GcOk (w w' : World) : Prop := w.length ≤ w'.length ∧ ∀ (k : Nat) c, k < w.length → w'[k]? = some c → w[k]? = some c ∨ NoRefC w.length c
open Classical in
noncomputable def gcR (w : World) : R T → R T
  | .ok t w' => if GcOk w w' ∧ NoRef w.length (fz w.length w' 3 t) then .ok (fz w.length w' 3 t) (w'.take w.length) else .no
  | .ex t _ w' => if GcOk w w' ∧ NoRef w.length t then .ex t [] (w'.take w.length) else .no
  | .no => .no
noncomputable def gc (f : Sem) : Sem := fun ds w => gcR w (f ds w)
section
variable {K : KT} {hd φ φ' : List Addr} {H H' : Hp} {w w' : World} {n : Nat}
mutual
theorem noRef_of : ∀ {t : T} {v : V}, Rep K hd φ H t v → NoRef φ.length t
  | .non, _, _ => by unfold NoRef; trivial
  | .bl _, _, _ => by unfold NoRef; trivial
  | .int _, _, _ => by unfold NoRef; trivial
  | .str _, _, _ => by unfold NoRef; trivial
  | .ty _, _, _ => by unfold NoRef; trivial
  | .rng _, _, _ => by unfold NoRef; trivial
  | .glb _, _, _ => by unfold NoRef; trivial
  | .exc x ks ts, v, h => by
    unfold Rep at h; unfold NoRef
    obtain ⟨_, _, _, _, _, _, q⟩ := h
    rcases q with ⟨_, rfl, _⟩ | ⟨_, _, _, _, _, r⟩
    · unfold NoRefs; trivial
    · exact noRefs_of r
  | .dct ks ts, v, h => by unfold Rep at h; unfold NoRef; obtain ⟨_, _, _, _, _, r⟩ := h; exact noRefs_of r
  | .tup ts, v, h => by unfold Rep at h; unfold NoRef; obtain ⟨_, _, _, _, r⟩ := h; exact noRefs_of r
  | .lst ts, v, h => by unfold Rep at h; unfold NoRef; obtain ⟨_, _, _, _, r⟩ := h; exact noRefs_of r
  | .frz ts, v, h => by unfold Rep at h; unfold NoRef; obtain ⟨_, _, _, _, r⟩ := h; exact noRefs_of r
  | .cell k, v, h => by unfold Rep at h; unfold NoRef; obtain ⟨_, _, r⟩ := h; exact (List.getElem?_eq_some_iff.mp r).1
theorem noRefs_of : ∀ {ts : List T} {vs : List V}, Reps K hd φ H ts vs → NoRefs φ.length ts
  | [], _, _ => by unfold NoRefs; trivial
  | t :: ts, _, h => by unfold Reps at h; unfold NoRefs; obtain ⟨_, _, _, r1, r2⟩ := h; exact ⟨noRef_of r1, noRefs_of r2⟩
end
theorem noRefC_of {c : Cell} {a : Addr} (h : CellR K hd φ H c a) : NoRefC φ.length c := by
  cases c with
  | lst ts => obtain ⟨_, _, r⟩ := h; exact noRefs_of r
  | dic kvs => obtain ⟨_, _, _, r⟩ := h; exact noRefs_of r
  | dit kvs => obtain ⟨_, _, _, r⟩ := h; exact noRefs_of r
  | din kvs => obtain ⟨_, _, _, r1, r2⟩ := h; exact ⟨noRefs_of r1, noRefs_of r2⟩
  | obj x ks ts => obtain ⟨_, _, _, _, _, _, _, r⟩ := h; exact noRefs_of r
/-! back to the cells ahead -/
mutual
theorem Rep.back (nn : ∀ a, a ∉ φ' → a ∉ φ) (g : ∀ (k : Nat) (a : Addr), k < n → φ'[k]? = some a → φ[k]? = some a) : ∀ {t : T} {v : V}, Rep K hd φ' H t v → NoRef n t → Rep K hd φ H t v
  | .non, _, h, _ => h
  | .bl _, _, h, _ => h
  | .int _, _, h, _ => h
  | .str _, _, h, _ => h
  | .ty _, _, h, _ => h
  | .tup ts, v, h, q => by
    unfold Rep at h ⊢; unfold NoRef at q
    obtain ⟨a, xs, e, ⟨n1, n2, n3⟩, r⟩ := h
    exact ⟨a, xs, e, ⟨n1, nn a n2, n3⟩, Reps.back nn g r q⟩
  | .lst ts, v, h, q => by
    unfold Rep at h ⊢; unfold NoRef at q
    obtain ⟨a, xs, e, ⟨n1, n2, n3⟩, r⟩ := h
    exact ⟨a, xs, e, ⟨n1, nn a n2, n3⟩, Reps.back nn g r q⟩
  | .frz ts, v, h, q => by
    unfold Rep at h ⊢; unfold NoRef at q
    obtain ⟨a, xs, e, n0, r⟩ := h
    refine ⟨a, xs, e, ?_, Reps.back nn g r q⟩
    rcases n0 with ⟨u, n1, z, n2, n3⟩ | n0
    · exact .inl ⟨u, n1, z, nn a n2, n3⟩
    · exact .inr n0
  | .rng n, v, h, q => by
    unfold Rep at h ⊢
    obtain ⟨a, e, h1, h2, h3⟩ := h
    exact ⟨a, e, h1, nn a h2, h3⟩
  | .glb x, v, h, q => by unfold Rep at h ⊢; exact h
  | .exc x ks ts, v, h, q => by
    unfold Rep at h ⊢; unfold NoRef at q
    obtain ⟨a, C, d, e, gl, ⟨n1, n2, n3⟩, z⟩ := h
    refine ⟨a, C, d, e, gl, ⟨n1, nn a n2, n3⟩, ?_⟩
    rcases z with z | ⟨dd, vs, e2, l, ⟨m1, m2, m3⟩, r⟩
    · exact .inl z
    · exact .inr ⟨dd, vs, e2, l, ⟨m1, nn dd m2, m3⟩, Reps.back nn g r q⟩
  | .dct ks ts, v, h, q => by
    unfold Rep at h ⊢; unfold NoRef at q
    obtain ⟨a, vs, e, l, ⟨n1, n2, n3⟩, r⟩ := h
    exact ⟨a, vs, e, l, ⟨n1, nn a n2, n3⟩, Reps.back nn g r q⟩
  | .cell k, v, h, q => by
    unfold Rep at h ⊢; unfold NoRef at q
    obtain ⟨a, e, hk⟩ := h
    exact ⟨a, e, g k a q hk⟩
theorem Reps.back (nn : ∀ a, a ∉ φ' → a ∉ φ) (g : ∀ (k : Nat) (a : Addr), k < n → φ'[k]? = some a → φ[k]? = some a) : ∀ {ts : List T} {vs : List V}, Reps K hd φ' H ts vs → NoRefs n ts → Reps K hd φ H ts vs
  | [], _, h, _ => by unfold Reps at h ⊢; exact h
  | t :: ts, _, h, q => by
    unfold Reps at h ⊢; unfold NoRefs at q
    obtain ⟨x, r, e, a, b⟩ := h
    exact ⟨x, r, e, Rep.back nn g a q.1, Reps.back nn g b q.2⟩
end
mutual
theorem Rep.mapC (nn : ∀ a, a ∉ φ' → a ∉ φ) {g : Nat → T} (gg : ∀ (k : Nat) v, Rep K hd φ' H (.cell k) v → NoRef n (g k) → Rep K hd φ H (g k) v) : ∀ {t : T} {v : V}, Rep K hd φ' H t v → NoRef n (VS.mapC g t) → Rep K hd φ H (VS.mapC g t) v
  | .non, _, h, _ => by unfold VS.mapC; exact h
  | .bl _, _, h, _ => by unfold VS.mapC; exact h
  | .int _, _, h, _ => by unfold VS.mapC; exact h
  | .str _, _, h, _ => by unfold VS.mapC; exact h
  | .ty _, _, h, _ => by unfold VS.mapC; exact h
  | .tup ts, v, h, q => by
    unfold VS.mapC at q ⊢; unfold Rep at h ⊢; unfold NoRef at q
    obtain ⟨a, xs, e, ⟨n1, n2, n3⟩, r⟩ := h
    exact ⟨a, xs, e, ⟨n1, nn a n2, n3⟩, Reps.mapC nn gg r q⟩
  | .lst ts, v, h, q => by
    unfold VS.mapC at q ⊢; unfold Rep at h ⊢; unfold NoRef at q
    obtain ⟨a, xs, e, ⟨n1, n2, n3⟩, r⟩ := h
    exact ⟨a, xs, e, ⟨n1, nn a n2, n3⟩, Reps.mapC nn gg r q⟩
  | .frz ts, v, h, q => by
    unfold VS.mapC at q ⊢; unfold Rep at h ⊢; unfold NoRef at q
    obtain ⟨a, xs, e, n0, r⟩ := h
    refine ⟨a, xs, e, ?_, Reps.mapC nn gg r q⟩
    rcases n0 with ⟨u, n1, z, n2, n3⟩ | n0
    · exact .inl ⟨u, n1, z, nn a n2, n3⟩
    · exact .inr n0
  | .rng n, v, h, q => by
    unfold VS.mapC; unfold Rep at h ⊢
    obtain ⟨a, e, h1, h2, h3⟩ := h
    exact ⟨a, e, h1, nn a h2, h3⟩
  | .glb x, v, h, q => by unfold VS.mapC; unfold Rep at h ⊢; exact h
  | .exc x ks ts, v, h, q => by
    unfold VS.mapC at q ⊢; unfold Rep at h ⊢; unfold NoRef at q
    obtain ⟨a, C, d, e, gl, ⟨n1, n2, n3⟩, z⟩ := h
    refine ⟨a, C, d, e, gl, ⟨n1, nn a n2, n3⟩, ?_⟩
    rcases z with ⟨z1, z2, z3⟩ | ⟨dd, vs, e2, l, ⟨m1, m2, m3⟩, r⟩
    · subst z2; exact .inl ⟨z1, by unfold VS.mapCs; rfl, z3⟩
    · have r' := Reps.mapC nn gg r q
      exact .inr ⟨dd, vs, e2, ⟨l.1, by rw [l.2, r.len, r'.len]⟩, ⟨m1, nn dd m2, m3⟩, r'⟩
  | .dct ks ts, v, h, q => by
    unfold VS.mapC at q ⊢; unfold Rep at h ⊢; unfold NoRef at q
    obtain ⟨a, vs, e, l, ⟨n1, n2, n3⟩, r⟩ := h
    have r' := Reps.mapC nn gg r q
    exact ⟨a, vs, e, by rw [l, r.len, r'.len], ⟨n1, nn a n2, n3⟩, r'⟩
  | .cell k, v, h, q => by
    unfold VS.mapC at q ⊢
    exact gg k v h q
theorem Reps.mapC (nn : ∀ a, a ∉ φ' → a ∉ φ) {g : Nat → T} (gg : ∀ (k : Nat) v, Rep K hd φ' H (.cell k) v → NoRef n (g k) → Rep K hd φ H (g k) v) : ∀ {ts : List T} {vs : List V}, Reps K hd φ' H ts vs → NoRefs n (VS.mapCs g ts) → Reps K hd φ H (VS.mapCs g ts) vs
  | [], _, h, _ => by unfold VS.mapCs; unfold Reps at h ⊢; exact h
  | t :: ts, _, h, q => by
    unfold VS.mapCs at q ⊢; unfold Reps at h ⊢; unfold NoRefs at q
    obtain ⟨x, r, e, a, b⟩ := h
    exact ⟨x, r, e, Rep.mapC nn gg a q.1, Reps.mapC nn gg b q.2⟩
end
theorem Rep.fz (wr : WR K hd φ' H w') (nn : ∀ a, a ∉ φ' → a ∉ φ) (g : ∀ (k : Nat) (a : Addr), k < n → φ'[k]? = some a → φ[k]? = some a) (far : ∀ (k : Nat) (a : Addr), n ≤ k → φ'[k]? = some a → a ∉ φ) :
    ∀ (f : Nat) {t : T} {v : V}, Rep K hd φ' H t v → NoRef n (VS.fz n w' f t) → Rep K hd φ H (VS.fz n w' f t) v
  | 0, t, v, h, q => Rep.back nn g h q
  | f + 1, t, v, h, q => by
    unfold VS.fz at q ⊢
    refine Rep.mapC nn (fun k v h q => ?_) h q
    split at q
    · rename_i hk
      rw [if_pos hk]
      exact Rep.back nn g h q
    · rename_i hk
      rw [if_neg hk]
      split at q
      · rename_i ts hw
        obtain ⟨a, rfl, ha, hm, xs, h1, h2⟩ := cell_at wr h hw
        show Rep K hd φ H (.lst (ts.map (VS.fz n w' f))) (.ref a)
        unfold Rep
        refine ⟨a, xs, rfl, ⟨h1, far k a (by omega) ha, wr.apart a hm⟩, ?_⟩
        unfold NoRef at q
        clear h1 hw h
        induction ts generalizing xs with
        | nil => unfold Reps at h2; subst h2; exact Reps.nil
        | cons t ts ih =>
          unfold Reps at h2
          obtain ⟨x, r, rfl, r1, r2⟩ := h2
          unfold List.map NoRefs at q
          exact Reps.cons (Rep.fz wr nn g far f r1 q.1) (ih r r2 q.2)
      · exfalso
        unfold NoRef at q
        exact hk q
theorem sr_nil : SR K hd φ H [] [] := ⟨rfl, fun i t h => by simp at h⟩
/-- the cells made since φ are let go -/
theorem gc_back (wr : WR K hd φ H w) (ok : GcOk w w') (e : Ext hd φ H hd φ' H') (wr' : WR K hd φ' H' w') :
    Ext hd φ H hd φ H' ∧ WR K hd φ H' (w'.take w.length) ∧ (∀ a, a ∉ φ' → a ∉ φ) ∧ (∀ (k : Nat) (a : Addr), k < w.length → φ'[k]? = some a → φ[k]? = some a) ∧ (∀ (k : Nat) (a : Addr), w.length ≤ k → φ'[k]? = some a → a ∉ φ) := by
  obtain ⟨hl, hc⟩ := ok
  obtain ⟨more, e1, fresh⟩ := e.pre
  have hlen : φ.length = w.length := wr.len
  have nn : ∀ a, a ∉ φ' → a ∉ φ := fun a h z => h (by rw [e1]; exact List.mem_append_left _ z)
  have g : ∀ (k : Nat) (a : Addr), k < w.length → φ'[k]? = some a → φ[k]? = some a := fun k a hk h => by
    rw [e1, List.getElem?_append_left (by omega)] at h
    exact h
  have far : ∀ (k : Nat) (a : Addr), w.length ≤ k → φ'[k]? = some a → a ∉ φ := fun k a hk h z => by
    rw [e1, List.getElem?_append_right (by omega)] at h
    have nd := wr'.nd
    rw [e1, List.nodup_append] at nd
    exact nd.2.2 a z a (List.mem_of_getElem? h) rfl
  refine ⟨⟨⟨[], by simp, fun _ h => by simp at h⟩, fun _ h => .inl h, e.keep, e.there⟩, ⟨?_, wr.nd, wr.apart, fun a ha => ?_, fun k c a h1 h2 => ?_, wr'.tabs⟩, nn, g, far⟩
  · rw [List.length_take, hlen]; omega
  · obtain ⟨o, ho, nt⟩ := wr.there a ha
    exact e.there a o ho nt
  · rw [List.getElem?_take] at h1
    split at h1
    · rename_i hk
      have h2' : φ'[k]? = some a := by rw [e1, List.getElem?_append_left (by omega)]; exact h2
      have cr := wr'.cells k c a h1 h2'
      have nr : NoRefC w.length c := by
        rcases hc k c hk h1 with z | z
        · have := noRefC_of (wr.cells k c a z h2)
          rw [hlen] at this
          exact this
        · exact z
      cases c with
      | lst ts => obtain ⟨xs, h3, h4⟩ := cr; exact ⟨xs, h3, Reps.back nn g h4 nr⟩
      | dic kvs => obtain ⟨ys, h3, h4, h5⟩ := cr; exact ⟨ys, h3, h4, Reps.back nn g h5 nr⟩
      | dit kvs => obtain ⟨ys, h3, h4, h5⟩ := cr; exact ⟨ys, h3, h4, Reps.back nn g h5 nr⟩
      | din kvs => obtain ⟨ys, h3, h4, h5, h6⟩ := cr; exact ⟨ys, h3, h4, Reps.back nn g h5 nr.1, Reps.back nn g h6 nr.2⟩
      | obj x ks ts => obtain ⟨C, dx, vs, h1, h2, h3, ⟨m1, m2, m3⟩, h5⟩ := cr; exact ⟨C, dx, vs, h1, h2, h3, ⟨m1, nn dx m2, m3⟩, Reps.back nn g h5 nr⟩
    · cases h1
theorem RepX.back (nn : ∀ a, a ∉ φ' → a ∉ φ) (g : ∀ (k : Nat) (a : Addr), k < n → φ'[k]? = some a → φ[k]? = some a) {t : T} {cls : Value} {d : Option Addr} (h : RepX K hd φ' H t cls d) (q : NoRef n t) : RepX K hd φ H t cls d := by
  obtain ⟨x, ks, ts, C, rfl, e2, gl, z⟩ := h
  unfold NoRef at q
  refine ⟨x, ks, ts, C, rfl, e2, gl, ?_⟩
  rcases z with z | ⟨dd, vs, e3, l, ⟨m1, m2, m3⟩, r⟩
  · exact .inl z
  · exact .inr ⟨dd, vs, e3, l, ⟨m1, nn dd m2, m3⟩, Reps.back nn g r q⟩
theorem gc_read {Q : VK} {E : XK} {r : R T} (wr : WR K hd φ H w) (p : Pst K (some fun cls d _ H' => E cls d H') hd (CE K hd Q) φ H (gcR w r)) : Pst K (some fun cls d _ H' => E cls d H') hd (CE K hd Q) φ H r := by
  cases r with
  | no => exact p
  | ex t ρ w' =>
    unfold gcR at p
    simp only at p
    by_cases ok : GcOk w w' ∧ NoRef w.length t
    · rw [if_pos ok] at p
      intro H' φ' σ' e wr' _ cls d rx
      obtain ⟨e1, wr1, nn, g, far⟩ := gc_back wr ok.1 e wr'
      exact p H' φ [] e1 wr1 sr_nil cls d (rx.back nn g ok.2)
    · rw [if_neg ok] at p; exact p.elim
  | ok t w' =>
    unfold gcR at p
    simp only at p
    by_cases ok : GcOk w w' ∧ NoRef w.length (fz w.length w' 3 t)
    · rw [if_pos ok] at p
      intro H' φ' e wr' v rv
      obtain ⟨e1, wr1, nn, g, far⟩ := gc_back wr ok.1 e wr'
      exact p H' φ e1 wr1 v (Rep.fz wr' nn g far 3 rv ok.2)
    · rw [if_neg ok] at p; exact p.elim
end

/-! ### from the text to what a def is worth -/
/-- a def's body, read in every call -/
def Bd (P : Program) (w : PySem.World) (K : PySem.W.Frag) (Z : ZT) (mg : Str → Option Value) (base : Heap) (N : List Str) (qual : Str) (st : Stmt) (cdv : Value) (k : Nat) (m : MS) : Prop :=
  ∀ (f : Addr) (A : Around) (outer : List PySem.Env) (s : Shared) (H : Hp) (E : XK) (W : Option WX), Room k (A.deeper (envOfC qual (defScope st) s.heap.objs.size f cdv)) → TakesO (cxOf (L2.CX P w) P w K mg base N qual (defScope st) f cdv A outer s H E) W →
    PSs (cxOf (L2.CX P w) P w K mg base N qual (defScope st) f cdv A outer s H E) (defBody st) (rdS (K, Z) W m)
section
variable {P : Program} {w : PySem.World} {K : PySem.W.Frag} {Z : ZT} {mg : Str → Option Value} {base : Heap}
/-- a def at f, its code object told -/
structure FunC (K : PySem.W.Frag) (x qual : Str) (st : Stmt) (f : Addr) (fd : FuncData) (cdv : Value) : Prop where
  ex : ∃ (oc : Value) (od : Option Addr) (kV doc pm : Value) (an : Option Addr) (ct : Value) (osl : Array (Option Value)), fd = PySem.W.fnOf x qual (defArgs st) (defBody st) (defScope st) .none kV doc pm an cdv ct ∧
    K.lookup f = some ⟨oc, od, .func fd, osl⟩ ∧ PySem.W.codeIn K cdv qual = true
theorem ok_of {x : Str} {st : Stmt} {f : Addr} {fd : FuncData} {cdv : Value} {N ps : List Str} {k : Nat} {m : MS} (F : FunC K x x st f fd cdv) (S : FnScope N ps (defScope st)) (body : Bd P w K Z mg base N x st cdv k m) : FnOk P w K mg base (L2.CX P w) (k + 1) f fd ps (spOf (K, Z) ps.length (runB N.length m)) := by
  obtain ⟨oc, od, kV, doc, pm, an, ct, osl, rfl, lk, hcd⟩ := F.ex
  refine fn_of lk hcd S spOf_len fun A outer s H vs Q E hr hsp => ⟨rdS (K, Z) (some fun cls d _ H' => E cls d H') m, body f A outer s H E _ hr (show Takes _ _ from takes_of rfl rfl rfl rfl), ?_⟩
  obtain ⟨hd, φ, w, ds, l, wr, rs, p⟩ := hsp
  refine ⟨hd, φ, ds.map some ++ List.replicate (N.length - ds.length) none, w, ?_, wr, ?_⟩
  · unfold L2.start
    rw [← rs.len]
    exact SR.start rs _
  · unfold runB at p
    cases q : m (ds.map some ++ List.replicate (N.length - ds.length) none) w with
    | no => rw [q] at p; exact p
    | ex t ρ w' =>
      rw [q] at p
      intro H' φ' σ' e wr' _ cls d rx
      exact p H' φ' [] e wr' sr_nil cls d rx
    | ok r w' =>
      rw [q] at p
      obtain ⟨ρ, fl⟩ := r
      cases fl with
      | nx => intro H' φ' e wr' σ' sr'; exact p H' φ' e wr' _ (by unfold Rep; rfl)
      | ret t => intro H' φ' e wr'; exact p H' φ' e wr'
      | bk => exact p.elim
      | ct => exact p.elim
theorem df_gc {x : Str} {ps : List Str} {k : Nat} {g : Sem} (D : Df P w K Z mg base k x ps g) : Df P w K Z mg base k x ps (gc g) := by
  obtain ⟨f, fd, ok, hm, hk, hb⟩ := D.ex
  refine ⟨f, fd, ok.imp fun vs H Q E h => ?_, hm, hk, hb⟩
  obtain ⟨hd, φ, w, ds, l, wr, rs, p⟩ := h
  exact ⟨hd, φ, w, ds, l, wr, rs, gc_read wr p⟩
/-- more stack -/
theorem Df.mono {x : Str} {ps : List Str} {j k : Nat} {g : Sem} (D : Df P w K Z mg base j x ps g) (h : j ≤ k) : Df P w K Z mg base k x ps g := by
  obtain ⟨f, fd, ok, hm, hk, hb⟩ := D.ex
  exact ⟨f, fd, ok.mono h, hm, hk, hb⟩
/-- a def of the text as the top has left it; its code object -/
structure At (K : PySem.W.Frag) (x : Str) (st : Stmt) (cd : Value) : Prop where
  ex : ∃ (f : Addr) (oc : Value) (od an : Option Addr) (sl : Array (Option Value)) (kV dc pm ct : Value), PySem.W.nsIn K mainGlobals x = some (some (.ref f)) ∧
    K.lookup f = some ⟨oc, od, .func (PySem.W.fnOf x x (defArgs st) (defBody st) (defScope st) .none kV dc pm an cd ct), sl⟩ ∧ PySem.W.codeIn K cd x = true ∧ PySem.W.keepIn K (.ref f) = true
theorem At.df {x : Str} {st : Stmt} {cd : Value} {N ps : List Str} {k : Nat} {m : MS} {h : Heap} (a : At K x st cd) (X : K.In h) (G : h.Ns mainGlobals mg) (S : FnScope N ps (defScope st))
    (hb : ∀ (kV doc pm : Value) (an : Option Addr) (cdv ct : Value) (us : List Value), us.length = ps.length → bindArgs (PySem.W.fnOf x x (defArgs st) (defBody st) (defScope st) .none kV doc pm an cdv ct) ⟨us, []⟩ = pure (ps.zip us))
    (body : Bd P w K Z mg base N x st cd k m) : Df P w K Z mg base (k + 1) x ps (runB N.length m) := by
  obtain ⟨f, oc, od, an, sl, kV, dc, pm, ct, h1, h2, h3, h4⟩ := a.ex
  have F := fun_mk (st := st) h2 h3 h4
  exact ⟨f, _, ok_of ⟨_, _, _, _, _, _, _, _, rfl, h2, h3⟩ S body, PySem.W.mg_of X G h1, h4, F.binds hb⟩
/-- the law's promise -/
def spL (K : PySem.W.Frag) (Z : ZT) : Sp := fun vs H Q _ => ∃ (a : Addr) (ns : List Int), vs = [.ref a] ∧ SqL K H a (ns.map V.int) ∧ ns.length ≤ 63 ∧ LamX.Tabs Z.1 H ∧ ∀ H', Q (.bl true) H'
theorem reps_ints {K : KT} {hd φ : List Addr} {H : Hp} : ∀ ns : List Int, Reps K hd φ H (ns.map T.int) (ns.map V.int)
  | [] => Reps.nil
  | n :: ns => Reps.cons (by unfold Rep; rfl) (reps_ints ns)
theorem law_ok {k : Nat} {f : Addr} {fd : FuncData} {sem : Sem} (F : FnOk P w K mg base (L2.CX P w) k f fd ["script"] (spOf (K, Z) 1 sem)) (h : ∀ ns : List Int, ns.length ≤ 63 → ∃ w', sem [.frz (ns.map T.int)] [] = .ok (.bl true) w') : FnOk P w K mg base (L2.CX P w) k f fd ["script"] (spL K Z) := F.imp fun vs H Q E => by
  rintro ⟨a, ns, rfl, hS, hl, hT, q⟩
  obtain ⟨w', e⟩ := h ns hl
  refine ⟨[], [], [], [.frz (ns.map T.int)], rfl, ⟨rfl, List.nodup_nil, fun _ h => by simp at h, fun _ h => by simp at h, fun k c a h1 h2 => by simp at h1, hT⟩, Reps.cons ?_ Reps.nil, ?_⟩
  · unfold Rep
    refine ⟨a, ns.map V.int, rfl, ?_, reps_ints ns⟩
    rcases hS with (hS | ⟨o, hS⟩) | hS
    · exact .inl ⟨_, hS, .inl rfl, by simp, by simp⟩
    · exact .inl ⟨_, hS, .inr ⟨o, rfl⟩, by simp, by simp⟩
    · exact .inr (.inr hS)
  · rw [e]
    intro H' φ' _ _ v rv
    unfold Rep at rv
    subst rv
    exact q H'
theorem At.law {k : Nat} {m : MS} {N : List Str} {st : Stmt} {cd : Value} {h : Heap} {fa : Addr} (a : At K "law" st cd) (X : K.In h) (G : h.Ns mainGlobals mg) (hfa : mg "law" = some (.ref fa)) (S : FnScope N ["script"] (defScope st))
    (hb : ∀ (kV doc pm : Value) (an : Option Addr) (cdv ct : Value) (u : Value), bindArgs (PySem.W.fnOf "law" "law" (defArgs st) (defBody st) (defScope st) .none kV doc pm an cdv ct) ⟨[u], []⟩ = pure [(("script" : Str), u)])
    (C : Heap → Prop) (body : ∀ base : Heap, K.In base → base.Ns mainGlobals mg → C base → Bd P w K Z mg base N "law" st cd k m)
    (hl : ∀ ns : List Int, ns.length ≤ 63 → ∃ w', runB N.length m [.frz (ns.map T.int)] [] = .ok (.bl true) w') :
    ∃ fd : FuncData, (∀ (s : Shared) (u : Value), BindsTo s fd ⟨[u], []⟩ [("script", u)]) ∧ ∀ base : Heap, K.In base → base.Ns mainGlobals mg → C base → FnOk P w K mg base (L2.CX P w) (k + 1) fa fd ["script"] (spL K Z) := by
  obtain ⟨f, oc, od, an, sl, kV, dc, pm, ct, h1, h2, h3, h4⟩ := a.ex
  have e := hfa.symm.trans (PySem.W.mg_of X G h1)
  cases e
  exact ⟨_, fun s u => .of_eq (hb _ _ _ _ _ _ u), fun base b1 b2 b3 => law_ok (ok_of ⟨_, _, _, _, _, _, _, _, rfl, h2, h3⟩ S (body base b1 b2 b3)) hl⟩
theorem law_cx {H : Hp} {s : Shared} {e : Value} {s' : Shared} (h : L2.CX P w [] H s (fun _ _ _ => False) e s') : False := by
  obtain ⟨_, _, _, _, _, _, _, _, _, _, _, _, z⟩ := h
  exact z
end
end VS

set_option Elab.async false
set_option linter.all false
set_option maxRecDepth 100000
set_option maxHeartbeats 2000000
namespace VS
open PySem PySem.Spec PyProof.Rows L2
section
variable {X : Cx} {e : Expr} {es : List Expr} {x : Str} {p pos kpos : Pos} {nm : Option Str} {kws : List Keyword} {Z : ZT} {W : Option WX}
theorem de_gint' {i : Int} (h : ∃ t, X.mg x = some (.int i t)) (hg : Gl X x := by rfl) (hd : (x == ("__debug__" : Str)) = false := by decide) : PE X (.Name x pos) (rdE (X.K, Z) W (mC (.int i))) := by
  obtain ⟨t, h⟩ := h
  exact de_gint h ⟨t, rfl⟩ hg hd

/-! ### keywords, in the parameters' order -/
theorem PK_imp {t t' : TA} (h : PK X kws t) (i : ∀ σ H Q, t' σ H Q → t σ H Q) : PK X kws t' := ⟨fun po pins s σ H Q I q => h.run po pins s σ H Q I (i σ H Q q)⟩
theorem dk_nil : PK X [] (rdA (X.K, Z) W mNil) := PK_imp pk_nil fun σ H Q => by
  rintro ⟨hd, φ, ρ, w, sr, wr, p⟩
  exact p.ok wr _ Reps.nil
theorem dk_cons {ma : ME} {mr : MF} (ha : PE X e (rdE (X.K, Z) W ma)) (hr : PK X kws (rdA (X.K, Z) W mr)) : PK X (⟨nm, e, kpos⟩ :: kws) (rdA (X.K, Z) W (mCons ma mr)) := PK_imp (pk_cons ha hr) fun σ H Q => by
  rintro ⟨hd, φ, ρ, w, sr, wr, p⟩
  refine ⟨hd, φ, ρ, w, sr, wr, Pst.then isPst p fun x w1 φ1 H1 e1 wr1 p1 v rv => ?_⟩
  refine ⟨hd, φ1, ρ, w1, sr.mono e1, wr1, Pst.then isPst p1 fun xs w2 φ2 H2 e2 wr2 p2 vs rvs => ?_⟩
  exact p2.ok wr2 _ (Reps.cons (rv.mono e2) rvs)
end
theorem at_mk {K : PySem.W.Frag} {x : Str} {st : Stmt} {f : Addr} {oc : Value} {od an : Option Addr} {sl : Array (Option Value)} {kV dc pm cd ct : Value} (h1 : PySem.W.nsIn K mainGlobals x = some (some (.ref f)))
    (h2 : K.lookup f = some ⟨oc, od, .func (PySem.W.fnOf x x (defArgs st) (defBody st) (defScope st) .none kV dc pm an cd ct), sl⟩) (h3 : PySem.W.codeIn K cd x = true) (h4 : PySem.W.keepIn K (.ref f) = true) : At K x st cd := ⟨⟨_, _, _, _, _, _, _, _, _, h1, h2, h3, h4⟩⟩
end VS

set_option Elab.async false
set_option linter.all false
set_option maxRecDepth 100000
namespace VE
open PySem PySem.Spec PyProof.Rows L2
/-! enumerate(tuple), walked -/
set_option maxHeartbeats 1000000 in
theorem new_meets {v : Value} {o : Obj} {C : Heap → Prop} (B : Begins v o C) : Meets (Builtin.«enumerate.__new__» ⟨[.type "enumerate", v], []⟩) (fun _ R s => C s.heap ∧
      R (.ok (.ret (.ref (s.heap.push o).objs.size))) { s with heap := (s.heap.push o).push ⟨.type "enumerate", none, .fields #[.none, .bool false, .ref s.heap.objs.size, rawInt 0, .none, .none], #[]⟩ }) :=
  .of_wp fun prog w A R s h => by
    obtain ⟨hp, g, d, tk, os⟩ := s
    obtain ⟨hv, hR⟩ := h
    have hs' := sub_enumerate
    have it1 : ∀ {B' : Around} {E Q : Value → Shared → Prop}, Q (.ref hp.objs.size) ⟨hp.push o, g, d, tk, os⟩ → wpAny (model prog w) B' (pyIter v) Q E ⟨hp, g, d, tk, os⟩ := fun q => B.iter prog w _ _ ⟨hp, g, d, tk, os⟩ _ hv q
    wp_walk using it1
    refine wpAny_stack_any fun st => wpAny_pure ?_
    split
    · rename_i cc _ _ _ _ _
      cases (cc == Value.type "enumerate") <;> (wp_walk using it1) <;> exact ⟨_, rfl, hR⟩
    · wp_walk using it1
      exact ⟨_, rfl, hR⟩
section
variable {prog : Program} {w : PySem.World} {A : Around} {E : Value → Shared → Prop} {s : Shared}
theorem begins {v : Value} {o : Obj} {C : Heap → Prop} {Q : Value → Shared → Prop} (B : Begins v o C) (hC : C s.heap)
    (h : ∀ h', IsEnum h' (s.heap.objs.size + 1) s.heap.objs.size 0 .none → h'.get? s.heap.objs.size = some o → (∀ b u, s.heap.get? b = some u → h'.get? b = some u) → Q (.ref (s.heap.objs.size + 1)) { s with heap := h' }) : wpAny (model prog w) A (call (.type "enumerate") [v]) Q E s := by
  refine callType_new F.called_enumerate (by decide) (F.typeCall_enumerate_1 _) (F.newCall_enumerate_1 _) (fun ob => F.args_object_init_2 ob _) F.entry_enumerate_new (new_meets B) ⟨hC, ?_⟩
  have z : (s.heap.push o).objs.size = s.heap.objs.size + 1 := Heap.size_push ..
  show _ ∧ _
  rw [z]
  have e := Heap.get?_push_size (s.heap.push o) (o := ⟨.type "enumerate", none, .fields #[.none, .bool false, .ref s.heap.objs.size, rawInt 0, .none, .none], #[]⟩) rfl
  rw [z] at e
  exact ⟨⟨_, e, rfl⟩, h _ e (Heap.get?_push_of_some _ (Heap.get?_push_size _ B.free)) fun b u x => Heap.get?_push_of_some _ (Heap.get?_push_of_some _ x)⟩
end
/-- the items of the tuple at a with their numbers, each in a new pair -/
def IteT (K : PySem.W.Frag) (a : Addr) (n : Nat) : It :=
  ⟨fun i H => ∃ (xs : List V) (x : V), SqT K H a xs ∧ xs.length = n ∧ xs[i]? = some x, fun i H v H' => ∃ T x, v = .ref T ∧ H T = none ∧ H' = upd H T (.tup [.int (i : Nat), x]) ∧ (∀ xs, SqT K H a xs → xs[i]? = some x),
   fun i H => ∃ xs : List V, SqT K H a xs ∧ xs.length = n ∧ n ≤ i⟩
def tnT (a e it : Addr) (n : Nat) : Nat → Heap → Prop := fun i h => (∃ old, IsEnum h e it ((i : Nat) : Int) old) ∧ h.IsTupleIter it a i ∧ i ≤ n
theorem apart_ei {h : Heap} {a e it : Addr} {i j : Nat} {old : Value} (he : IsEnum h e it ((i : Nat) : Int) old) (hi : h.IsTupleIter it a j) : e ≠ it := by
  rintro rfl
  obtain ⟨o, h1, h2, _⟩ := hi
  rw [he] at h1
  cases h1
  exact absurd (Value.type.inj h2) (by decide)
theorem apart_ai {h : Heap} {a it : Addr} {j : Nat} {vs : Array Value} (ht : h.IsTuple a vs) (hi : h.IsTupleIter it a j) : a ≠ it := by
  rintro rfl
  obtain ⟨o, h1, h2, _⟩ := hi
  obtain ⟨o', g1, g2, _⟩ := ht
  rw [g1] at h1
  cases h1
  rw [g2] at h2
  exact absurd (Value.type.inj h2) (by decide)
theorem apart_ea {h : Heap} {a e it : Addr} {i : Nat} {old : Value} {vs : Array Value} (he : IsEnum h e it ((i : Nat) : Int) old) (ht : h.IsTuple a vs) : e ≠ a := by
  rintro rfl
  obtain ⟨o', g1, g2, _⟩ := ht
  rw [he] at g1
  cases g1
  exact absurd (Value.type.inj g2) (by decide)
theorem turnT {P : Program} {w : PySem.World} {K : PySem.W.Frag} {elts : List Expr} {kk : Nat} {tpos : Pos} (a e it : Addr) (n : Nat) : Turn P w K (.Tuple elts kk tpos) (IteT K a n) [e, it] e (tnT a e it n) where
  mem := List.mem_cons_self ..
  obj := fun i h st b hb => by
    obtain ⟨⟨old, he⟩, ⟨o, ho, hc, hd⟩, _⟩ := st
    rcases List.mem_cons.mp hb with rfl | hb
    · exact ⟨_, he, fun v q => nomatch q⟩
    · cases List.mem_singleton.mp hb
      exact ⟨o, ho, fun v q => by rw [hd] at q; cases q⟩
  keep := fun i h h' st k => ⟨⟨_, k e (List.mem_cons_self ..) _ st.1.choose_spec⟩, st.2.1.at fun o q => k it (List.mem_cons_of_mem _ (List.mem_cons_self ..)) o q, st.2.2⟩
  item := by
    intro X hP hw hK hc i pins s σ H E I hf st hg
    subst hP hw hK
    obtain ⟨⟨old, he⟩, hit, hin⟩ := st
    obtain ⟨xs, x, hq, hxl, hx⟩ := hg
    obtain ⟨its, rv, p, hz⟩ := I.tuple hq
    obtain ⟨u, hu, ru⟩ := rv.get hx
    have p' : s.heap.IsTuple a its.toArray := p
    have hlen := rv.length
    have hi : i < xs.length := (List.getElem?_eq_some_iff.mp hx).1
    have h0 := apart_ei he hit
    have D := Draws.tuple (prog := X.prog) (w := X.w) (A := X.A.in1) (show X.A.in1.handled = none from I.ok.hd hc) it a (apart_ai p' hit) its.toArray
    have hel : e < s.heap.objs.size := Heap.lt_size he
    refine wpAny_pyNext_enum_itemD (n := its.toArray.size) D he ⟨hit, p'⟩ (by simp; omega) h0 (fun hm => ?_) fun y h' tk py ho hst hT hsz hk => ?_
    · rcases List.mem_cons.mp hm with z | hm
      · exact h0 z
      · exact apart_ea he p' (List.mem_singleton.mp hm)
    · have hy : y = u := by
        have : its.toArray[i]? = some y := py
        rw [List.getElem?_toArray, hu] at this
        exact (Option.some.inj this).symm
      subst hy
      refine ⟨_, rfl, wpAny_letOwnedTupleGo_enum (s := { s with heap := h', toks := tk + 1 }) ho fun h2 he2 sb => ?_⟩
      have hT2 := (sb.2 _ (Nat.ne_of_gt hel)).trans hT
      have nw : ObjOk X.prog X.w (upd H s.heap.objs.size (.tup [.int (i : Nat), x])) h2 s.heap.objs.size (.tup [.int (i : Nat), x]) := ⟨(by decide : 2 ≤ sizeLine), [.int i tk, y], .cons ⟨_, rfl⟩ (.cons ru .nil), ⟨_, hT2, rfl, _, rfl⟩⟩
      have I1 : Inv X pins σ (upd H s.heap.objs.size (.tup [.int (i : Nat), x])) { s with heap := h2, toks := tk + 1 } := I.turnedNew (ch := [e, it]) (fun b o hb q => (sb.2 b (fun z => hb (by simp [z]))).trans (hk b o (fun z => hb (by simp [z])) (fun z => hb (by simp [z])) q)) hf (Nat.le_refl _) nw
      refine ⟨.ref s.heap.objs.size, _, I1, rfl, ⟨_, x, rfl, I.hok.fresh (Nat.le_refl _), rfl, fun ys hy => by rw [I.tuple_inj hy hq]; exact hx⟩, ⟨⟨y, by rw [show ((i + 1 : Nat) : Int) = (i : Int) + 1 from rfl]; exact he2⟩, hst.1.at fun o q => (sb.2 it (Ne.symm h0)).trans q, by omega⟩, fun b hb => ?_⟩
      have hlt : b < s.heap.objs.size := by
        rcases List.mem_cons.mp hb with rfl | hb
        · exact hel
        · cases List.mem_singleton.mp hb
          obtain ⟨_, q, _⟩ := hit
          exact Heap.lt_size q
      exact (upd_ne (Nat.ne_of_lt hlt)).trans (hf b hb).1
  done := by
    intro X hP hw hK hc i pins s σ H E I hf st hg
    subst hP hw hK
    obtain ⟨⟨old, he⟩, hit, hin⟩ := st
    obtain ⟨xs, hq, hxl, hni⟩ := hg
    obtain ⟨its, rv, p, hz⟩ := I.tuple hq
    have p' : s.heap.IsTuple a its.toArray := p
    have hlen := rv.length
    obtain ⟨f0, f1, f2, f3, f4, f5⟩ := hf it (by simp)
    have D := Draws.tuple (prog := X.prog) (w := X.w) (A := X.A.in1) (show X.A.in1.handled = none from I.ok.hd hc) it a (apart_ai p' hit) its.toArray
    have ei : i = its.toArray.size := by simp; omega
    exact wpAny_pyNext_enum_endD D he ⟨ei ▸ hit, p'⟩ fun h' eb => ⟨rfl, I.turned (t' := s.toks) (fun b o hb q => eb b o hb q) f0 f1 f3 f4 f5⟩
  self := fun A i s Q E st h => wpAny_pyIter_enum st.1.choose_spec h
def iEnT (K : PySem.W.Frag) (ta : TA) : TI := fun σ H R => ta σ H fun vs H1 => ∃ (a : Addr) (xs : List V), vs = [.ref a] ∧ SqT K H1 a xs ∧ R (IteT K a xs.length) H1
theorem pi_enT {X : Cx} {e : Expr} {ta : TA} {p pos tpos : Pos} {elts : List Expr} {kk : Nat} (hg : Gl X "enumerate") (hm : X.mg "enumerate" = none) (ha : PA X [e] ta) (hs : starEach [e] X.env = [(false, eval e X.env)] := by rfl) : PI X (.Tuple elts kk tpos) (.Call (.Name "enumerate" p) [e] [] pos) (iEnT X.K ta) := by
  refine ⟨fun pins s σ H R I h => ?_⟩
  refine Call_ (ld_blt I hg hm boot_enumerate (PyProof.Rows.callWith_type1 (thn (ha.run pos pins s σ H _ I h) fun us s1 ⟨vs, H1, I1, r1, q1⟩ => ?_) hs rfl))
  obtain ⟨a, xs, rfl, hq, q⟩ := q1
  cases r1 with
  | cons r1 rr =>
    cases rr
    cases r1
    obtain ⟨its, rv, p', hz⟩ := I1.tuple hq
    refine begins (begins_tuple a its.toArray) p' fun h' he hit hk => wpAny_pyIter_enum he ?_
    refine ⟨s1.heap.objs.size + 1, [s1.heap.objs.size + 1, s1.heap.objs.size], _, _, H1, rfl, I1.kept (t' := s1.toks) hk, turnT a (s1.heap.objs.size + 1) s1.heap.objs.size xs.length, ⟨⟨.none, he⟩, ⟨_, hit, rfl, rfl⟩, Nat.zero_le _⟩, fun b hb => ?_, q⟩
    have hle : s1.heap.objs.size ≤ b := by
      rcases List.mem_cons.mp hb with rfl | hb
      · exact Nat.le_add_right _ _
      · cases List.mem_singleton.mp hb
        exact Nat.le_refl _
    exact I1.fpOk hle (I1.hok.fresh hle)
end VE

set_option Elab.async false
set_option linter.all false
set_option maxRecDepth 100000
set_option maxHeartbeats 2000000
namespace VS
open PySem PySem.Spec PyProof.Rows L2
/-! ### enumerate -/
def enT : Nat → List T → List T
  | _, [] => []
  | i, t :: ts => .tup [.int (i : Int), t] :: enT (i + 1) ts
theorem enT_len : ∀ (ts : List T) (i : Nat), (enT i ts).length = ts.length
  | [], i => rfl
  | t :: ts, i => by unfold enT; simp [enT_len ts]
theorem enT_at : ∀ {ts : List T} {i j : Nat} {u : T}, (enT i ts)[j]? = some u → ∃ t, ts[j]? = some t ∧ u = .tup [.int ((i + j : Nat) : Int), t]
  | [], i, j, u, h => by unfold enT at h; cases h
  | t :: ts, i, 0, u, h => by unfold enT at h; cases h; exact ⟨t, rfl, rfl⟩
  | t :: ts, i, j + 1, u, h => by
    unfold enT at h
    obtain ⟨s, h1, h2⟩ := enT_at (ts := ts) (i := i + 1) (j := j) h
    refine ⟨s, h1, ?_⟩
    rw [h2, show i + 1 + j = i + (j + 1) by omega]
section
variable {X : Cx} {tg : Expr} {K : KT} {e : Expr} {pos : Pos} {Z : ZT} {W : Option WX}
theorem src_enT {hd₀ φ₀ : List Addr} {H₀ : Hp} {a : Addr} {ts : List T} {n : Nat} (hn : ts.length = n)
    (h : ∀ (D : Option Addr) hd φ H w, Off D hd₀ H₀ → ExtD D hd₀ φ₀ H₀ hd φ H → WR K hd φ H w → ∃ xs, SqT K.1 H a xs ∧ Reps K hd φ H ts xs) : Src K hd₀ φ₀ H₀ (VE.IteT K.1 a n) (enT 0 ts) none := fun D i hd φ H w off e wr kp => by
  obtain ⟨xs, h1, h2⟩ := h D hd φ H w off e wr
  have hl := h2.len
  refine ⟨fun t ht => ?_, fun hl' => ⟨xs, h1, by omega, by rw [enT_len] at hl'; omega⟩⟩
  obtain ⟨s, hs, rfl⟩ := enT_at ht
  obtain ⟨x, hx, rx⟩ := h2.at hs
  refine ⟨⟨xs, x, h1, by omega, hx⟩, fun y H' hy => ?_⟩
  obtain ⟨p, z, rfl, hp, rfl, hy⟩ := hy
  cases (hy xs h1).symm.trans hx
  refine ⟨Ext.new hp, wr.new hp, ?_⟩
  unfold Rep
  exact ⟨p, [.int (i : Nat), x], rfl, ⟨upd_same, wr.nin hp⟩, Reps.cons (by unfold Rep; rw [Nat.zero_add]) (Reps.cons (rx.mono (Ext.new hp)) Reps.nil)⟩
theorem src_enL {hd₀ φ₀ : List Addr} {H₀ : Hp} {a : Addr} {ts : List T} {oc : OC}
    (h : ∀ (D : Option Addr) hd φ H w, Off D hd₀ H₀ → ExtD D hd₀ φ₀ H₀ hd φ H → WR K hd φ H w → Kept oc ts w → ∃ xs, SqL K.1 H a xs ∧ Reps K hd φ H ts xs) : Src K hd₀ φ₀ H₀ (Ite K.1 a) (enT 0 ts) oc := fun D i hd φ H w off e wr kp => by
  obtain ⟨xs, h1, h2⟩ := h D hd φ H w off e wr kp
  have hl := h2.len
  refine ⟨fun t ht => ?_, fun hl' => ⟨xs, h1, by rw [enT_len] at hl'; omega⟩⟩
  obtain ⟨s, hs, rfl⟩ := enT_at ht
  obtain ⟨x, hx, rx⟩ := h2.at hs
  refine ⟨⟨xs, x, h1, hx⟩, fun y H' hy => ?_⟩
  obtain ⟨p, z, rfl, hp, rfl, hy⟩ := hy
  cases (hy xs h1).symm.trans hx
  refine ⟨Ext.new hp, wr.new hp, ?_⟩
  unfold Rep
  exact ⟨p, [.int (i : Nat), x], rfl, ⟨upd_same, wr.nin hp⟩, Reps.cons (by unfold Rep; rw [Nat.zero_add]) (Reps.cons (rx.mono (Ext.new hp)) Reps.nil)⟩
def sEnum : List T → World → R (List T × OC) := fun ts w => match ts with
  | [t] => match items w t with
    | some (us, oc) => .ok (enT 0 us, oc) w
    | none => .no
  | _ => .no
def mEnum (m : MF) : MI := fun ρ w => (m ρ w).bind sEnum
theorem di_enum {p tpos : Pos} {elts : List Expr} {kk : Nat} {m : MF} (hm : X.mg "enumerate" = none) (ha : PA X [e] (rdA (X.K, Z) W m)) (hg : Gl X "enumerate" := by rfl) (hs : starEach [e] X.env = [(false, eval e X.env)] := by rfl) : PI X (.Tuple elts kk tpos) (.Call (.Name "enumerate" p) [e] [] pos) (rdI (X.K, Z) W (mEnum m)) := PI_imp (PI_or (pi_enum hg hm ha hs) (VE.pi_enT hg hm ha hs)) fun σ H Q => by
  rintro ⟨hd, φ, ρ, w, sr, wr, p⟩
  unfold mEnum at p
  cases q : m ρ w with
  | no => rw [q] at p; exact p.elim
  | ex _ _ _ => rw [q] at p; exact .inl ⟨hd, φ, ρ, w, sr, wr, by rw [q]; exact p⟩
  | ok ts w1 =>
    rw [q, bind_ok] at p
    unfold sEnum at p
    match ts, p with
    | [t], p =>
      simp only at p
      cases hi : items w1 t with
      | none => rw [hi] at p; exact p.elim
      | some r =>
        rw [hi] at p
        obtain ⟨us, oc⟩ := r
        have two : (∀ vs, t ≠ .tup vs) ∨ ∃ vs, t = .tup vs := by
          cases t with
          | tup vs => exact .inr ⟨vs, rfl⟩
          | _ => exact .inl fun _ e => nomatch e
        rcases two with nt | ⟨vs, rfl⟩
        · refine .inl ⟨hd, φ, ρ, w, sr, wr, ?_⟩
          rw [q]
          intro H' φ' e1 wr1 vs rvs
          obtain ⟨v, rfl, rv⟩ := reps1 rvs
          obtain ⟨a, rfl, kp, h1⟩ := lst_later rv hi nt
          obtain ⟨xs, h2, h3⟩ := h1 none hd φ' H' w1 off_none Ext.refl.toD wr1 kp
          exact ⟨a, xs, rfl, h2, p H' φ' e1 wr1 _ (src_enL h1)⟩
        · cases hi
          refine .inr ⟨hd, φ, ρ, w, sr, wr, ?_⟩
          rw [q]
          intro H' φ' e1 wr1 vs rvs
          obtain ⟨v, rfl, rv⟩ := reps1 rvs
          unfold Rep at rv
          obtain ⟨a, xs, rfl, n, rs⟩ := rv
          exact ⟨a, xs, rfl, SqT.of n.1, p H' φ' e1 wr1 _ (src_enT rs.len fun D hd φ H w off e wr => ⟨xs, SqT.of (n.monoD e off).1, rs.monoD e off⟩)⟩
end
end VS

set_option Elab.async false
set_option linter.all false
set_option maxRecDepth 100000
set_option maxHeartbeats 2000000
namespace VS
open PySem PySem.Spec PyProof.Rows L2
section
variable {X : Cx} {K : KT} {hd φ : List Addr} {H : Hp} {w : World} {a b e : Expr} {es : List Expr} {ma mb : ME} {kws : List Keyword} {x : Str} {p pos : Pos} {Z : ZT} {W : Option WX}
/-! ### is True -/
def sIsB : S2 := fun x y w => match x, y with
  | .bl i, .bl j => .ok (.bl (decide (i = j))) w
  | _, _ => .no
theorem opIsB : Op2 K sIsB rIsB := fun W hd φ H w dx dy x y Q wr rx ry p => by
  cases dx with
  | bl i =>
    cases dy with
    | bl j =>
      unfold Rep at rx ry
      exact ⟨i, j, rx, ry, p.bl wr⟩
    | _ => exact p.elim
  | _ => exact p.elim
theorem de_isB (ha : PE X a (rdE (X.K, Z) W ma)) (hb : PE X b (rdE (X.K, Z) W mb)) : PE X (.Compare a [.Is] [b] pos) (rdE (X.K, Z) W (mOp2 sIsB ma mb)) := de_cmp op_isBl opIsB ha hb (nomark _)
theorem dt_isB (ha : PE X a (rdE (X.K, Z) W ma)) (hb : PE X b (rdE (X.K, Z) W mb)) : PT X (.Compare a [.Is] [b] pos) (rdT (X.K, Z) W (mTest (mOp2 sIsB ma mb))) := dt_cmp op_isBl opIsB ha hb (nomark _)
/-! ### xs[::-1] -/
theorem Reps.rev {ts : List T} {xs : List V} (h : Reps K hd φ H ts xs) : Reps K hd φ H ts.reverse xs.reverse := by
  induction ts generalizing xs with
  | nil => unfold Reps at h; subst h; exact Reps.nil
  | cons t ts ih =>
    unfold Reps at h
    obtain ⟨v, vs, rfl, h1, h2⟩ := h
    rw [List.reverse_cons, List.reverse_cons]
    exact (ih h2).append (Reps.cons h1 Reps.nil)
def mRevL (a : ME) : MF := fun ρ w => (a ρ w).bind fun t w1 => match lst? w1 t with
  | some ts => .ok ts.reverse w1
  | _ => .no
theorem df_revL {k : Nat} {p1 p2 p3 : Pos} (ha : PE X a (rdE (X.K, Z) W ma)) : PE X (.Subscript a (.Slice none none (some (.UnaryOp .USub (.Constant (.int 1) k p1) p2)) p3) pos) (rdF (X.K, Z) W (mRevL ma)) := PE_imp (pe_revL ha) fun σ H Q => by
  rintro ⟨hd, φ, ρ, w, sr, wr, p⟩
  refine ⟨hd, φ, ρ, w, sr, wr, Pst.then isPstF p fun t w1 φ1 H1 e1 wr1 p1 v rv => ?_⟩
  cases q : lst? w1 t with
  | none => rw [q] at p1; exact p1.elim
  | some ts =>
    rw [q] at p1
    obtain ⟨l', xs, rfl, h1, h2⟩ := lst_at wr1 rv q
    exact ⟨l', xs, rfl, SqL.of h1, p1.new wr1 h2.rev⟩
/-! ### calls by keywords in any sequence -/
def prm {α : Type} (ix : List Nat) (zs : List α) : List α := ix.filterMap fun i => zs[i]?
def gP {α : Type} (np nk : Nat) (ix : List Nat) (us ws : List α) : List α := if us.length = np ∧ ws.length = nk then prm ix (us ++ ws) else []
theorem prm_vals {vs : List V} {us : List Value} (h : Vals vs us) : ∀ ix : List Nat, Vals (prm ix vs) (prm ix us)
  | [] => .nil
  | i :: ix => by
    have ih := prm_vals h ix
    unfold prm at ih ⊢
    rw [List.filterMap_cons, List.filterMap_cons]
    cases q : vs[i]? with
    | none =>
      have : us[i]? = none := by rw [List.getElem?_eq_none_iff] at q ⊢; rw [← h.length]; exact q
      rw [this]
      exact ih
    | some v =>
      obtain ⟨u, hu, r⟩ := h.get q
      rw [hu]
      exact .cons r ih
theorem prm_reps {ts : List T} {vs : List V} (h : Reps K hd φ H ts vs) : ∀ ix : List Nat, Reps K hd φ H (prm ix ts) (prm ix vs)
  | [] => Reps.nil
  | i :: ix => by
    have ih := prm_reps h ix
    unfold prm at ih ⊢
    rw [List.filterMap_cons, List.filterMap_cons]
    cases q : ts[i]? with
    | none =>
      have : vs[i]? = none := by rw [List.getElem?_eq_none_iff] at q ⊢; rw [← h.len]; exact q
      rw [this]
      exact ih
    | some t =>
      obtain ⟨v, hv, r⟩ := h.at q
      rw [hv]
      exact Reps.cons r ih
theorem gP_rel {np nk : Nat} {ix : List Nat} {vs : List V} {us : List Value} {zs : List V} {ws : List Value} (a : Vals vs us) (b : Vals zs ws) : Vals (gP np nk ix vs zs) (gP np nk ix us ws) := by
  unfold gP
  rw [a.length, b.length]
  split
  · exact prm_vals (a.append b) ix
  · exact .nil
structure DfP (P : Program) (w : PySem.World) (K : PySem.W.Frag) (Z : ZT) (mg : Str → Option Value) (base : Heap) (k : Nat) (x : Str) (n np : Nat) (ks : List Str) (ix : List Nat) (f : Sem) : Prop where
  ex : ∃ (ad : Addr) (fd : FuncData) (ps : List Str), ps.length = n ∧ FnOk P w K mg base (L2.CX P w) k ad fd ps (spOf (K, Z) n f) ∧ mg x = some (.ref ad) ∧ PySem.W.keepIn K (.ref ad) = true ∧ KBinds K fd ps ks (gP np ks.length ix) (gP np ks.length ix)
def mDefP (n np nk : Nat) (ix : List Nat) (f : Sem) (m mk : MF) : ME := fun ρ w => (m ρ w).bind fun ds w1 => (mk ρ w1).bind fun es w2 => if ds.length = np ∧ es.length = nk ∧ (prm ix (ds ++ es)).length = n then (f (prm ix (ds ++ es)) w2).at ρ else .no
/-- run_fnk, where an error is told at the slots -/
theorem run_fnkO {CX : CXT} {f : Addr} {fd : FuncData} {ps ks : List Str} {k : Nat} {sp : Sp} {g : List Value → List Value → List Value} {gV : List V → List V → List V} {pins : List (Addr × Obj)} {σ : L2.St} {H : Hp} {s : Shared} {Q : VK} {E : L2.St → XK} {us ws : List Value} {vs zs : List V}
    (F : FnOk X.prog X.w X.K X.mg X.base CX k f fd ps sp) (hr : Room k X.A) (hb : KBinds X.K fd ps ks g gV) (hx : PassesAt CX X σ (E σ))
    (I : Inv X pins σ H s) (r : Vals vs us) (rz : Vals zs ws) (h : sp (gV vs zs) H Q (E σ)) : wpAny (model X.prog X.w) X.A (call (.ref f) us (ks.zip ws)) (EP X pins σ Q) X.xe s := by
  have r2 := hb.rel r rz
  have hl : (g us ws).length = ps.length := by rw [← r2.length]; exact F.len _ _ _ _ h
  refine wpAny_call (codeAny_mono (F.run X.A X.stack s H ⟨us, ks.zip ws⟩ (g us ws) (gV vs zs) Q (E σ) hr I.env0 (hb.to s us ws I.kIn hl) r2 h) fun r s' hq => ?_)
  cases r with
  | error e => exact hx pins H s e s' I hq
  | ok fl =>
    cases fl with
    | ret u => exact I.after hq
    | next => exact False.elim hq
    | brk => exact False.elim hq
    | cont => exact False.elim hq
def tCallKO (sp : Sp) (gV : List V → List V → List V) (E : L2.St → XK) (t tk : TA) : TE := fun σ H Q => t σ H fun vs H1 => tk σ H1 fun zs H2 => sp (gV vs zs) H2 Q (E σ)
theorem defP_read {k n np : Nat} {ks : List Str} {ix : List Nat} {f : Sem} {m mk : MF} (σ : L2.St) (H : Hp) (Q : VK) (h : rdE (X.K, Z) W (mDefP n np ks.length ix f m mk) σ H Q) : tCallKO (spOf (X.K, Z) n f) (gP np ks.length ix) (wE W) (rdA (X.K, Z) W m) (rdA (X.K, Z) W mk) σ H Q := by
  obtain ⟨hd, φ, ρ, w, sr, wr, q⟩ := h
  refine ⟨hd, φ, ρ, w, sr, wr, Pst.then isPst q fun ds w1 φ1 H1 e1 wr1 p1 xs rx => ?_⟩
  refine ⟨hd, φ1, ρ, w1, sr.mono e1, wr1, ?_⟩
  cases q2 : mk ρ w1 with
  | no => rw [q2] at p1; exact p1.elim
  | ex _ _ _ => rw [q2] at p1; exact p1
  | ok zs w2 =>
    rw [q2, bind_ok] at p1
    intro H2 φ2 e2 wr2 vz rz
    by_cases hc : ds.length = np ∧ zs.length = ks.length ∧ (prm ix (ds ++ zs)).length = n
    · rw [if_pos hc] at p1
      have e : gP np ks.length ix xs vz = prm ix (xs ++ vz) := by unfold gP; rw [if_pos ⟨by rw [← rx.len]; exact hc.1, by rw [← rz.len]; exact hc.2.1⟩]
      rw [e]
      exact ⟨hd, φ2, w2, prm ix (ds ++ zs), hc.2.2, wr2, prm_reps ((rx.mono e2).append rz) ix, (isPst.mono _ _ _ _ _ e2 p1).callee ((sr.mono e1).mono e2)⟩
    · rw [if_neg hc] at p1; exact p1.elim
theorem de_defP {k n np nk : Nat} {ks : List Str} {ix : List Nat} {f : Sem} {m mk : MF} (F : DfP X.prog X.w X.K Z X.mg X.base k x n np ks ix f) (tk : TakesO X W) (hr : Room k X.A) (ha : PA X (e :: es) (rdA (X.K, Z) W m)) (hkw : PK X kws (rdA (X.K, Z) W mk)) (hg : Gl X x := by rfl)
    (hall : (backToKw pos (keywordEach kws X.env)).all (·.1.isSome) = true := by rfl) (hks : (backToKw pos (keywordEach kws X.env)).filterMap (·.1) = ks := by rfl)
    (hdb : (x == ("__debug__" : Str)) = false := by decide) (he : starEach (e :: es) X.env = (false, eval e X.env) :: starEach es X.env := by rfl)
    (hpl : ((backTo pos (starEach (e :: es) X.env)).any (·.1) || (backToKw pos (keywordEach kws X.env)).any (·.1.isNone)) = false := by rfl) (hnk : ks.length = nk := by rfl) : PE X (.Call (.Name x p) (e :: es) kws pos) (rdE (X.K, Z) W (mDefP n np nk ix f m mk)) := by
  subst hnk
  obtain ⟨ad, fd, ps, hn, ok, hm, hk, hb⟩ := F.ex
  refine PE_imp (t := tCallKO (spOf (X.K, Z) n f) (gP np ks.length ix) (wE W) (rdA (X.K, Z) W m) (rdA (X.K, Z) W mk)) ⟨fun pins s σ H Q I h => ?_⟩ (defP_read (k := k))
  refine wpAny_Call_Name_kw (ld_glob I hg hm ?_ hdb)
  refine PySem.W.callWith_KW (h₀ := X.base) I.ok.mod.kin hk hall (thn (ha.run pos pins s σ H _ I h) fun us s1 ⟨vs, H1, I1, r, q⟩ => ?_) hpl he
  refine thn (hkw.run pos pins s1 σ H1 _ I1 q) fun ws s2 ⟨zs, H2, I2, rz, q2⟩ => ⟨I2.kIn, ?_⟩
  rw [hks]
  exact run_fnkO ok hr hb (passO tk σ) I2 r rz q2
theorem de_defP0 {k n nk : Nat} {ks : List Str} {ix : List Nat} {f : Sem} {mk : MF} (F : DfP X.prog X.w X.K Z X.mg X.base k x n 0 ks ix f) (tk : TakesO X W) (hr : Room k X.A) (hkw : PK X kws (rdA (X.K, Z) W mk)) (hg : Gl X x := by rfl)
    (hall : (backToKw pos (keywordEach kws X.env)).all (·.1.isSome) = true := by rfl) (hks : (backToKw pos (keywordEach kws X.env)).filterMap (·.1) = ks := by rfl)
    (hdb : (x == ("__debug__" : Str)) = false := by decide)
    (hpl : ((backTo pos (starEach [] X.env)).any (·.1) || (backToKw pos (keywordEach kws X.env)).any (·.1.isNone)) = false := by rfl) (hnk : ks.length = nk := by rfl) : PE X (.Call (.Name x p) [] kws pos) (rdE (X.K, Z) W (mDefP n 0 nk ix f mNil mk)) := by
  subst hnk
  obtain ⟨ad, fd, ps, hn, ok, hm, hk, hb⟩ := F.ex
  refine ⟨fun pins s σ H Q I h => ?_⟩
  obtain ⟨hd, φ, ρ, w, sr, wr, q⟩ := defP_read (k := k) (m := mNil) σ H Q h
  have q := q H φ Ext.refl wr [] Reps.nil
  refine wpAny_Call_Name_kw (ld_glob I hg hm ?_ hdb)
  refine PySem.W.callWith_KW0 (h₀ := X.base) I.ok.mod.kin hk hall (thn (hkw.run pos pins s σ H _ I q) fun ws s2 ⟨zs, H2, I2, rz, q2⟩ => ⟨I2.kIn, ?_⟩) hpl
  rw [hks]
  exact run_fnkO (us := []) ok hr hb (passO tk σ) I2 .nil rz q2
end
theorem At.dfP {P : Program} {w : PySem.World} {K : PySem.W.Frag} {Z : ZT} {cd : Value} {mg : Str → Option Value} {base : Heap} {x : Str} {st : Stmt} {N ps ks : List Str} {k np : Nat} {ix : List Nat} {m : MS} {h : Heap} (a : At K x st cd) (X : K.In h) (G : h.Ns mainGlobals mg) (S : FnScope N ps (defScope st)) (hne : ps ≠ [])
    (hb : ∀ (kV doc pm : Value) (an : Option Addr) (cdv ct : Value) (us ws : List Value), us.length = np → ws.length = ks.length → bindArgs (PySem.W.fnOf x x (defArgs st) (defBody st) (defScope st) .none kV doc pm an cdv ct) ⟨us, ks.zip ws⟩ = pure (ps.zip (prm ix (us ++ ws))))
    (body : Bd P w K Z mg base N x st cd k m) : DfP P w K Z mg base (k + 1) x ps.length np ks ix (runB N.length m) := by
  obtain ⟨f, oc, od, an, sl, kV, dc, pm, ct, h1, h2, h3, h4⟩ := a.ex
  refine ⟨f, _, ps, rfl, ok_of ⟨_, _, _, _, _, _, _, _, rfl, h2, h3⟩ S body, PySem.W.mg_of X G h1, h4, ⟨fun s us ws _ hl => ?_, fun a b => gP_rel a b⟩⟩
  unfold gP at hl ⊢
  split at hl
  · rename_i hc
    rw [if_pos hc]
    exact .of_eq (hb _ _ _ _ _ _ us ws hc.1 hc.2)
  · exfalso
    exact hne (List.eq_nil_of_length_eq_zero (by simpa using hl.symm))
end VS

set_option Elab.async false
set_option linter.all false
set_option maxRecDepth 100000
set_option maxHeartbeats 2000000
/-! VS13: dicts asked (in, not in, get), a display with one tuple for a key, range down. -/
namespace VS
open PySem PySem.Spec PyProof.Rows L2
/-- what a dict holds of a key; none where it is no dict, or no key -/
def getD? (w : World) (d y : T) : Option (Option T) := match d with
  | .cell k => match w[k]? with
    | some (.dic kvs) => match keyT y with
      | some key => some (valT kvs key)
      | none => none
    | some (.dit kvs) => match y with
      | .tup us => match keysT us with
        | some key => some (valT kvs key)
        | none => none
      | _ => none
    | _ => none
  | _ => none
def isDct (w : World) (d : T) : Bool := match d with
  | .cell k => match w[k]? with
    | some (.dic _) => true
    | some (.dit _) => true
    | _ => false
  | _ => false
def sIn : S2 := fun y d w => match getD? w d y with
  | some o => .ok (.bl o.isSome) w
  | none => .no
def sNotIn : S2 := fun y d w => match getD? w d y with
  | some o => .ok (.bl (!o.isSome)) w
  | none => .no
section
variable {K : KT} {hd φ : List Addr} {H : Hp} {w : World}
theorem dget_at (wr : WR K hd φ H w) {d y : T} {x z : V} {o : Option T} (rd : Rep K hd φ H d x) (ry : Rep K hd φ H y z) (h : getD? w d y = some o) :
    ∃ a o', x = .ref a ∧ DGet H a z o' ∧ o'.isSome = o.isSome ∧ ∀ t, o = some t → ∃ v, o' = some v ∧ Rep K hd φ H t v := by
  cases d with
  | cell k =>
    unfold getD? at h
    simp only at h
    cases q : w[k]? with
    | none => rw [q] at h; cases h
    | some c =>
      rw [q] at h
      cases c with
      | lst ts => cases h
      | obj x ks ts => first | cases h | (cases y <;> cases h)
      | din kvs => first | cases h | (cases y <;> cases h)
      | dic kvs =>
        simp only at h
        cases q2 : keyT y with
        | none => rw [q2] at h; cases h
        | some key =>
          rw [q2] at h
          cases h
          obtain ⟨l, rfl, _, _, ys, h1, h2, h3⟩ := cell_at wr rd q
          have h4 := valT_at h2 h3 key
          rw [key_at ry q2]
          refine ⟨l, valV ys key, rfl, DGet.k h1, ?_, fun t ht => ?_⟩
          · cases q3 : valT kvs key with
            | none => rw [q3] at h4; rw [h4]; rfl
            | some t =>
              rw [q3] at h4
              obtain ⟨v, h5, h6⟩ := h4
              rw [h5]; rfl
          · rw [ht] at h4
            exact h4
      | dit kvs =>
        cases y with
        | tup us =>
          simp only at h
          cases q2 : keysT us with
          | none => rw [q2] at h; cases h
          | some key =>
            rw [q2] at h
            cases h
            obtain ⟨l, rfl, _, _, ys, h1, h2, h3⟩ := cell_at wr rd q
            have h4 := valT_at h2 h3 key
            unfold Rep at ry
            obtain ⟨m, zs, rfl, n, rz⟩ := ry
            have e := keys_at rz q2
            subst e
            refine ⟨l, valV ys key, rfl, DGet.t h1 n.1, ?_, fun t ht => ?_⟩
            · cases q3 : valT kvs key with
              | none => rw [q3] at h4; rw [h4]; rfl
              | some t =>
                rw [q3] at h4
                obtain ⟨v, h5, h6⟩ := h4
                rw [h5]; rfl
            · rw [ht] at h4
              exact h4
        | _ => cases h
  | _ => cases h
theorem isD_of (wr : WR K hd φ H w) {d : T} {x : V} (rd : Rep K hd φ H d x) (h : isDct w d = true) : ∃ a, x = .ref a ∧ IsD H a := by
  cases d with
  | cell k =>
    unfold isDct at h
    simp only at h
    cases q : w[k]? with
    | none => rw [q] at h; cases h
    | some c =>
      rw [q] at h
      cases c with
      | lst ts => cases h
      | obj x ks ts => first | cases h | (cases y <;> cases h)
      | din kvs => first | cases h | (cases y <;> cases h)
      | dic kvs =>
        obtain ⟨l, rfl, _, _, ys, h1, _⟩ := cell_at wr rd q
        exact ⟨l, rfl, .inl ⟨ys, .inl h1⟩⟩
      | dit kvs =>
        obtain ⟨l, rfl, _, _, ys, h1, _⟩ := cell_at wr rd q
        exact ⟨l, rfl, .inr ⟨ys, .inl h1⟩⟩
  | _ => cases h
variable {X : Cx} {e a b c o i : Expr} {pos apos cpos : Pos} {ma mb mo mi : ME} {Z : ZT} {W : Option WX}
theorem in_read : ∀ σ H Q, rdE (X.K, Z) W (mOp2 sIn ma mb) σ H Q → tDIn (rdE (X.K, Z) W ma) (rdE (X.K, Z) W mb) σ H Q := fun σ H Q => by
  rintro ⟨hd, φ, ρ, w, sr, wr, p⟩
  refine ⟨hd, φ, ρ, w, sr, wr, Pst.then isPst p fun dx w1 φ1 H1 e1 wr1 p1 x rx => ?_⟩
  refine ⟨hd, φ1, ρ, w1, sr.mono e1, wr1, Pst.then isPst p1 fun dy w2 φ2 H2 e2 wr2 p2 y ry => ?_⟩
  unfold sIn at p2
  cases q : getD? w2 dy dx with
  | none => rw [q] at p2; exact p2.elim
  | some o =>
    rw [q] at p2
    obtain ⟨l, o', rfl, g, hs, _⟩ := dget_at wr2 ry (rx.mono e2) q
    exact ⟨l, o', rfl, g, p2.ok wr2 _ (by unfold Rep; rw [hs])⟩
theorem notin_read : ∀ σ H Q, rdE (X.K, Z) W (mOp2 sNotIn ma mb) σ H Q → tDNotIn (rdE (X.K, Z) W ma) (rdE (X.K, Z) W mb) σ H Q := fun σ H Q => by
  rintro ⟨hd, φ, ρ, w, sr, wr, p⟩
  refine ⟨hd, φ, ρ, w, sr, wr, Pst.then isPst p fun dx w1 φ1 H1 e1 wr1 p1 x rx => ?_⟩
  refine ⟨hd, φ1, ρ, w1, sr.mono e1, wr1, Pst.then isPst p1 fun dy w2 φ2 H2 e2 wr2 p2 y ry => ?_⟩
  unfold sNotIn at p2
  cases q : getD? w2 dy dx with
  | none => rw [q] at p2; exact p2.elim
  | some o =>
    rw [q] at p2
    obtain ⟨l, o', rfl, g, hs, _⟩ := dget_at wr2 ry (rx.mono e2) q
    exact ⟨l, o', rfl, g, p2.ok wr2 _ (by unfold Rep; rw [hs])⟩
theorem de_din (hu : X.A.units + 1 < cLine) (ha : PE X a (rdE (X.K, Z) W ma)) (hb : PE X b (rdE (X.K, Z) W mb)) (hm : behindInMarks .In b = false := by rfl) : PE X (.Compare a [.In] [b] pos) (rdE (X.K, Z) W (mOp2 sIn ma mb)) := PE_imp (pe_cmp (pc_din hu ha hb) hm) in_read
theorem de_dnotin (hu : X.A.units + 1 < cLine) (ha : PE X a (rdE (X.K, Z) W ma)) (hb : PE X b (rdE (X.K, Z) W mb)) (hm : behindInMarks .NotIn b = false := by rfl) : PE X (.Compare a [.NotIn] [b] pos) (rdE (X.K, Z) W (mOp2 sNotIn ma mb)) := PE_imp (pe_cmp (pc_dnotin hu ha hb) hm) notin_read
theorem dt_din (hu : X.A.units + 1 < cLine) (ha : PE X a (rdE (X.K, Z) W ma)) (hb : PE X b (rdE (X.K, Z) W mb)) (hm : behindInMarks .In b = false := by rfl) : PT X (.Compare a [.In] [b] pos) (rdT (X.K, Z) W (mTest (mOp2 sIn ma mb))) := PT_imp (pt_cmp (pc_din hu ha hb) hm) fun σ H Q h => in_read σ H _ (test_read σ H Q h)
theorem dt_dnotin (hu : X.A.units + 1 < cLine) (ha : PE X a (rdE (X.K, Z) W ma)) (hb : PE X b (rdE (X.K, Z) W mb)) (hm : behindInMarks .NotIn b = false := by rfl) : PT X (.Compare a [.NotIn] [b] pos) (rdT (X.K, Z) W (mTest (mOp2 sNotIn ma mb))) := PT_imp (pt_cmp (pc_dnotin hu ha hb) hm) fun σ H Q h => notin_read σ H _ (test_read σ H Q h)
/-- d.get(y) -/
def mDGet (a b : ME) : ME := fun ρ w => (a ρ w).bind fun d w1 => if isDct w1 d = true then (b ρ w1).bind fun y w2 => match getD? w2 d y with
  | some (some t) => .ok t w2
  | some none => .ok .non w2
  | none => .no
  else .no
theorem de_dget (hu : X.A.units + 1 < cLine) (ho : PE X o (rdE (X.K, Z) W mo)) (he : PE X e (rdE (X.K, Z) W mi)) (m : M1 X o "get" apos e cpos := by exact ⟨rfl, rfl, rfl, rfl⟩) : PE X (.Call (.Attribute o "get" apos) [e] [] cpos) (rdE (X.K, Z) W (mDGet mo mi)) := PE_imp (pe_dget1 hu ho he m) fun σ H Q => by
  rintro ⟨hd, φ, ρ, w, sr, wr, p⟩
  refine ⟨hd, φ, ρ, w, sr, wr, Pst.then isPst p fun d w1 φ1 H1 e1 wr1 p1 x rx => ?_⟩
  split at p1
  · rename_i hD
    obtain ⟨l, rfl, hl⟩ := isD_of wr1 rx hD
    refine ⟨l, rfl, hl, ⟨hd, φ1, ρ, w1, sr.mono e1, wr1, Pst.then isPst p1 fun y w2 φ2 H2 e2 wr2 p2 z rz => ?_⟩⟩
    cases q : getD? w2 d y with
    | none => rw [q] at p2; exact p2.elim
    | some o =>
      rw [q] at p2
      obtain ⟨l', o', hl', g, hs, hv⟩ := dget_at wr2 (rx.mono e2) rz q
      cases hl'
      refine ⟨o', g, ?_⟩
      cases o with
      | none =>
        cases o' with
        | none => exact p2.ok wr2 _ (by unfold Rep; rfl)
        | some v => cases hs
      | some t =>
        obtain ⟨v, rfl, rv⟩ := hv t rfl
        exact p2.ok wr2 v rv
  · exact p1.elim
/-! range down -/
def rgD (hi : Int) (n : Nat) : List T := (List.range n).map fun i => .int (hi + (i : Nat) * (-1))
theorem rgD_length {hi : Int} {n : Nat} : (rgD hi n).length = n := by unfold rgD; simp
theorem rgD_at {hi : Int} {n i : Nat} {t : T} (h : (rgD hi n)[i]? = some t) : t = .int (hi + (i : Nat) * (-1)) ∧ i < n := by
  unfold rgD at h
  rw [List.getElem?_map] at h
  cases q : (List.range n)[i]? with
  | none => rw [q] at h; cases h
  | some j =>
    rw [q] at h
    obtain ⟨h1, h2⟩ := List.getElem?_eq_some_iff.mp q
    rw [List.getElem_range] at h2
    subst h2
    exact ⟨(Option.some.inj h).symm, by simpa using h1⟩
theorem src_rangeD {hd₀ φ₀ : List Addr} {H₀ : Hp} {hi : Int} {n : Nat} : Src K hd₀ φ₀ H₀ (Itc hi (-1) n) (rgD hi n) none := fun D i hd φ H w off e wr kp => by
  refine ⟨fun t ht => ?_, fun hl => by rw [rgD_length] at hl; exact hl⟩
  obtain ⟨rfl, hi⟩ := rgD_at ht
  refine ⟨hi, fun y H' hy => ?_⟩
  obtain ⟨rfl, rfl⟩ := hy
  exact ⟨Ext.refl, wr, by unfold Rep; rfl⟩
def sRangeD : List T → World → R (List T × OC) := fun ts w => match ts with
  | [.int i, .int j, .int c] => if c = -1 ∧ RgOk i j then .ok (rgD i (i - j).toNat, none) w else .no
  | _ => .no
def mRangeD (m : MF) : MI := fun ρ w => (m ρ w).bind sRangeD
theorem reps3 {hd φ : List Addr} {H : Hp} {t u s : T} {vs : List V} (h : Reps K hd φ H [t, u, s] vs) : ∃ v x y, vs = [v, x, y] ∧ Rep K hd φ H t v ∧ Rep K hd φ H u x ∧ Rep K hd φ H s y := by
  unfold Reps at h
  obtain ⟨v, r, rfl, h1, h2⟩ := h
  obtain ⟨x, y, rfl, h3, h4⟩ := reps2 h2
  exact ⟨v, x, y, rfl, h1, h3, h4⟩
theorem di_rangeD {tg : Expr} {p : Pos} {m : MF} (hm : X.mg "range" = none) (ha : PA X [a, b, c] (rdA (X.K, Z) W m)) (hg : Gl X "range" := by rfl) (hs : starEach [a, b, c] X.env = (false, eval a X.env) :: starEach [b, c] X.env := by rfl) (hpl : (backTo pos (starEach [b, c] X.env)).any (·.1) = false := by rfl) : PI X tg (.Call (.Name "range" p) [a, b, c] [] pos) (rdI (X.K, Z) W (mRangeD m)) := PI_imp (pi_range3 hg hm ha hs hpl) fun σ H Q => by
  rintro ⟨hd, φ, ρ, w, sr, wr, p⟩
  refine ⟨hd, φ, ρ, w, sr, wr, ?_⟩
  unfold mRangeD at p
  cases q : m ρ w with
  | no => rw [q] at p; exact p.elim
  | ex _ _ _ => (rw [q] at p; first | exact p | (rw [q]; exact p))
  | ok ts w1 =>
    rw [q, bind_ok] at p
    intro H' φ' e1 wr1 vs rvs
    unfold sRangeD at p
    match ts, p with
    | [.int i, .int j, .int c], p =>
      obtain ⟨v, x, y, rfl, r1, r2, r3⟩ := reps3 rvs
      cases rep_int r1
      cases rep_int r2
      cases rep_int r3
      simp only at p
      split at p
      · rename_i ok
        obtain ⟨rfl, o1, o2, o3, o4⟩ := ok
        exact ⟨i, j, -1, (i - j).toNat, rfl, RgC.neg o1 o2 o3 o4, p H' φ' e1 wr1 _ src_rangeD⟩
      · exact p.elim
/-! {(a, b): v}: one pair, the key a tuple -/
def tDispT1 (tk tv : TE) : TE := fun σ H Q => ∀ p, H p = none → tk σ (upd H p (.dT [])) fun x H1 => tv σ H1 fun y H2 => H2 p = some (.dT []) ∧ ∃ b key, x = .ref b ∧ H2 b = some (.tup ((key : List Key).map kV)) ∧ Q (.ref p) (upd H2 p (.dT [(key, y)]))
theorem pe_dispT1 {k v : Expr} {tk tv : TE} (hu : X.A.units + 1 < cLine) (hk : PE X k tk) (hv : PE X v tv) : PE X (.Dict [some k] [v] pos) (tDispT1 tk tv) := by
  refine ⟨fun pins s σ H Q I q => ?_⟩
  have hn := I.hok.fresh (Nat.le_refl s.heap.objs.size)
  have I1 := I.laid (a := s.heap.objs.size) (o := .dT []) (h' := s.heap.push { cls := .type "dict", data := .dict #[] }) (t' := s.toks) (fun _ _ q => Heap.get?_push_of_some _ q) (Nat.le_refl _) (dt_empty s.heap I.big)
  have hlen : (pairTrees [some k] [v] X.env pos).length = 1 := by rw [pairTrees_length [some k] [v] X.env pos rfl rfl]; rfl
  rw [arm_eval_Dict, zip_pairTrees [some k] [v] X.env pos rfl rfl, dictDisplay_pairs (pairTrees [some k] [v] X.env pos) (fun h => by rw [h] at hlen; cases hlen) (by rw [hlen]; decide)]
  refine wpAny_bind (wpAny_standAt (wpAny_bind (wpAny_subDictH (knd := tupleKind (mixKind X.prog X.w)) (show X.A.units < cLine from Nat.lt_of_succ_lt hu) (by rw [hlen]; decide) (thn ((pps_cons hk hv (pps_nil (X := X) (pos := pos))).run pins _ σ _ (fun ps H2 => match ps with
    | [(x, y)] => H2 s.heap.objs.size = some (.dT []) ∧ ∃ b key, x = .ref b ∧ H2 b = some (.tup ((key : List Key).map kV)) ∧ Q (.ref s.heap.objs.size) (upd H2 s.heap.objs.size (.dT [(key, y)]))
    | _ => False) I1 (q _ hn)) fun ws s2 ⟨ps, H2, I2, rel, q2⟩ => ?_))))
  match ps, rel, q2 with
  | [(x, y)], rel, ⟨e, b, key, ex, eb, q2⟩ =>
    subst ex
    cases rel with
    | @cons a c as cs r rt =>
      cases rt
      obtain ⟨kv, u⟩ := c
      obtain ⟨r1, r2⟩ := r
      obtain rfl : kv = Value.ref b := r1
      obtain ⟨z, hd, xs, rx, dd⟩ := dt_of I2.hok e
      cases rx
      refine ⟨[(key, b, u)], ⟨rfl, rfl, key_of I2.hok eb, trivial⟩, dd, fun h' tk dd' hs => wpAny_pure ?_⟩
      have dd2 : h'.DictOfH (tupleKind (mixKind X.prog X.w)) s.heap.objs.size [(key, b, u)] := dd'
      obtain ⟨o, es, ep, ho, h2, h3, h4, _, h5⟩ := dd2
      refine ⟨.ref s.heap.objs.size, _, d_write (ob := .dT [(key, y)]) I2 (by rw [e]; exact True.intro) hs ⟨o, ho⟩ ⟨by rw [sizeLine_eq]; show 1 ≤ _; omega, hd, [(key, b, u)], .cons ⟨rfl, ?_, r2⟩ .nil, o, es, ep, ho, h2, h3, h4, h5⟩, rfl, q2⟩
      show upd H2 _ _ b = _
      rw [upd_ne (ne_of eb e (fun z => nomatch z))]
      exact eb
def mDictT1 (a b : ME) : ME := fun ρ w => (a ρ w).bind fun kt w1 => (b ρ w1).bind fun t w2 => match kt with
  | .tup us => match keysT us with
    | some key => .ok (.cell w2.length) (w2 ++ [.dit [(key, t)]])
    | none => .no
  | _ => .no
theorem de_dictT1 {k v : Expr} (hu : X.A.units + 1 < cLine) (hk : PE X k (rdE (X.K, Z) W ma)) (hv : PE X v (rdE (X.K, Z) W mb)) : PE X (.Dict [some k] [v] pos) (rdE (X.K, Z) W (mDictT1 ma mb)) := PE_imp (pe_dispT1 hu hk hv) fun σ H Q => by
  rintro ⟨hd, φ, ρ, w, sr, wr, p⟩
  intro l hln
  have eh : Ext hd φ H (l :: hd) φ (upd H l (.dT [])) := Ext.hold hln
  refine ⟨l :: hd, φ, ρ, w, sr.mono eh, wr.hold hln, ?_⟩
  unfold mDictT1 at p
  cases q : ma ρ w with
  | no => rw [q] at p; exact p.elim
  | ex _ _ _ => rw [q] at p; exact PstX.hold hln p
  | ok kt w1 =>
    rw [q, bind_ok] at p
    intro H1 φ1 e1 wr1 x rx
    refine ⟨l :: hd, φ1, ρ, w1, (sr.mono eh).mono e1, wr1, ?_⟩
    cases q2 : mb ρ w1 with
    | no => rw [q2] at p; exact p.elim
    | ex _ _ _ => rw [q2] at p; exact (PstX.hold hln p).mono e1
    | ok t w2 =>
      rw [q2, bind_ok] at p
      intro H2 φ2 e2 wr2 y ry
      have e12 := e1.trans e2
      have hx : H2 l = some (.dT []) := e12.keep l _ upd_same (wr.hold (o := .dT []) hln |>.apart l · List.mem_cons_self) (fun _ z => nomatch z)
      cases kt with
      | tup us =>
        simp only at p
        cases q3 : keysT us with
        | none => rw [q3] at p; exact p.elim
        | some key =>
          rw [q3] at p
          have rx2 := rx.mono e2
          unfold Rep at rx2
          obtain ⟨b, zs, rfl, n, rz⟩ := rx2
          have e' := keys_at rz q3
          subst e'
          refine ⟨hx, b, key, rfl, n.1, ?_⟩
          have eg : ExtD (some l) (l :: hd) φ2 H2 (l :: hd) φ2 (upd H2 l (.dT [(key, y)])) := ExtD.grow List.mem_cons_self
          have off : Off (some l) (l :: hd) H2 := fun d h => by cases h; exact .inl List.mem_cons_self
          have e3 : Ext hd φ H (l :: hd) φ2 (upd H2 l (.dT [(key, y)])) := ((eh.toD.trans e12.toD).trans eg).plain (fr0_none hln)
          refine p _ (φ2 ++ [l]) (e3.cell (fr0_none hln)) ((wr2.grow List.mem_cons_self hx).cell (wr.nin hln).2 ⟨[(key, y)], upd_same, rfl, (Reps.cons ry Reps.nil).monoD eg off⟩) _ ?_
          unfold Rep
          refine ⟨l, rfl, ?_⟩
          rw [← wr2.len, List.getElem?_append_right (Nat.le_refl _)]
          simp
      | _ => exact p.elim
end
end VS

set_option Elab.async false
set_option linter.all false
set_option maxRecDepth 100000
set_option maxHeartbeats 2000000
/-! VS14: x in a sequence, len(set(xs)), range as a value, a starred item, sorted(tuples of ints). -/
namespace VS
open PySem PySem.Spec PyProof.Rows L2
section
variable {X : Cx} {K : KT} {hd φ : List Addr} {H : Hp} {w : World} {e a b c : Expr} {es : List Expr} {pos p p2 q : Pos} {ma mb m0 : ME} {m : MF} {tg : Expr} {Z : ZT} {W : Option WX}
/-! ### x in a sequence -/
def rInQ (K : PySem.W.Frag) (f : Bool → Bool) : R2 := fun x y H Q => ∃ d ds, Dp K H x d ∧ (Dp K H y (.list ds) ∨ Dp K H y (.tuple ds)) ∧ SeqAt.shaped d = true ∧ SeqAt.shaped (.list ds) = true ∧ Q (.bl (f (ds.any fun z => PyData.eqv z d))) H
theorem op_inQ (hu : X.A.units + 65 < cLine) : OpR X (compareOp .In) (rInQ X.K id) := by
  intro pins s σ H x y v u Q I rx ry h
  obtain ⟨d, ds, hd, he, sd, se, q⟩ := h
  obtain ⟨as, r1⟩ := Dp.reads I d x v hd rx
  rcases he with he | he
  · obtain ⟨bs, r2⟩ := Dp.reads I (.list ds) y u he ry
    exact SeqAt.in_list_reads r2 r1 (SeqAt.canLay_of_shaped se) (SeqAt.canLay_of_shaped sd) (room_in_shaped sd hu) ⟨.bl _, H, I, rfl, q⟩
  · obtain ⟨bs, r2⟩ := Dp.reads I (.tuple ds) y u he ry
    exact SeqAt.in_tuple_reads r2 r1 (SeqAt.canLay_of_shaped se) (SeqAt.canLay_of_shaped sd) (room_in_shaped sd hu) ⟨.bl _, H, I, rfl, q⟩
theorem op_notInQ (hu : X.A.units + 65 < cLine) : OpR X (compareOp .NotIn) (rInQ X.K not) := by
  intro pins s σ H x y v u Q I rx ry h
  obtain ⟨d, ds, hd, he, sd, se, q⟩ := h
  obtain ⟨as, r1⟩ := Dp.reads I d x v hd rx
  rcases he with he | he
  · obtain ⟨bs, r2⟩ := Dp.reads I (.list ds) y u he ry
    exact SeqAt.notIn_list_reads r2 r1 (SeqAt.canLay_of_shaped se) (SeqAt.canLay_of_shaped sd) (room_in_shaped sd hu) ⟨.bl _, H, I, rfl, q⟩
  · obtain ⟨bs, r2⟩ := Dp.reads I (.tuple ds) y u he ry
    exact SeqAt.notIn_tuple_reads r2 r1 (SeqAt.canLay_of_shaped se) (SeqAt.canLay_of_shaped sd) (room_in_shaped sd hu) ⟨.bl _, H, I, rfl, q⟩
def inT (w : World) (x y : T) : Option Bool := match pd w x, pd w y with
  | some d, some (.list ds) => if SeqAt.shaped d = true ∧ SeqAt.shaped (.list ds) = true then some (ds.any fun z => PyData.eqv z d) else none
  | some d, some (.tuple ds) => if SeqAt.shaped d = true ∧ SeqAt.shaped (.list ds) = true then some (ds.any fun z => PyData.eqv z d) else none
  | _, _ => none
def sInQ : S2 := fun x y w => match inT w x y with
  | some b => .ok (.bl b) w
  | none => .no
def sNotInQ : S2 := fun x y w => match inT w x y with
  | some b => .ok (.bl (!b)) w
  | none => .no
theorem inT_at (wr : WR K hd φ H w) {dx dy : T} {x y : V} {b : Bool} (rx : Rep K hd φ H dx x) (ry : Rep K hd φ H dy y) (h : inT w dx dy = some b) :
    ∃ d ds, Dp K.1 H x d ∧ (Dp K.1 H y (.list ds) ∨ Dp K.1 H y (.tuple ds)) ∧ SeqAt.shaped d = true ∧ SeqAt.shaped (.list ds) = true ∧ b = ds.any fun z => PyData.eqv z d := by
  unfold inT at h
  split at h
  · rename_i d ds h1 h2
    split at h
    · rename_i hs; cases h; exact ⟨d, ds, dp wr rx h1, .inl (dp wr ry h2), hs.1, hs.2, rfl⟩
    · cases h
  · rename_i d ds h1 h2
    split at h
    · rename_i hs; cases h; exact ⟨d, ds, dp wr rx h1, .inr (dp wr ry h2), hs.1, hs.2, rfl⟩
    · cases h
  · cases h
theorem opInQ : Op2 K sInQ (rInQ K.1 id) := fun W hd φ H w dx dy x y Q wr rx ry p => by
  unfold sInQ at p
  cases q : inT w dx dy with
  | none => rw [q] at p; exact p.elim
  | some k =>
    rw [q] at p
    obtain ⟨d, ds, h1, h2, h3, h4, rfl⟩ := inT_at wr rx ry q
    exact ⟨d, ds, h1, h2, h3, h4, p.bl wr⟩
theorem opNotInQ : Op2 K sNotInQ (rInQ K.1 not) := fun W hd φ H w dx dy x y Q wr rx ry p => by
  unfold sNotInQ at p
  cases q : inT w dx dy with
  | none => rw [q] at p; exact p.elim
  | some k =>
    rw [q] at p
    obtain ⟨d, ds, h1, h2, h3, h4, rfl⟩ := inT_at wr rx ry q
    exact ⟨d, ds, h1, h2, h3, h4, p.bl wr⟩
section
variable (hu : X.A.units + 65 < cLine) (ha : PE X a (rdE (X.K, Z) W ma)) (hb : PE X b (rdE (X.K, Z) W mb))
include hu ha hb
theorem de_inq (hm : behindInMarks .In b = false := by rfl) : PE X (.Compare a [.In] [b] pos) (rdE (X.K, Z) W (mOp2 sInQ ma mb)) := de_cmp (op_inQ hu) opInQ ha hb hm
theorem de_notinq (hm : behindInMarks .NotIn b = false := by rfl) : PE X (.Compare a [.NotIn] [b] pos) (rdE (X.K, Z) W (mOp2 sNotInQ ma mb)) := de_cmp (op_notInQ hu) opNotInQ ha hb hm
theorem dt_inq (hm : behindInMarks .In b = false := by rfl) : PT X (.Compare a [.In] [b] pos) (rdT (X.K, Z) W (mTest (mOp2 sInQ ma mb))) := dt_cmp (op_inQ hu) opInQ ha hb hm
theorem dt_notinq (hm : behindInMarks .NotIn b = false := by rfl) : PT X (.Compare a [.NotIn] [b] pos) (rdT (X.K, Z) W (mTest (mOp2 sNotInQ ma mb))) := dt_cmp (op_notInQ hu) opNotInQ ha hb hm
end
/-! ### len(set(xs)), ints -/
def unlike (ns : List Int) : Nat := (firstMet (fun i => ns.getD i 0) ns.length).length
def tLenSet (K : PySem.W.Frag) (ta : TE) : TE := fun σ H Q => ta σ H fun x H1 => ∃ (l : Addr) (ns : List Int), x = .ref l ∧ SqL K H1 l (ns.map V.int) ∧ ns.length ≤ 4000 ∧ Q (.int (unlike ns : Nat)) H1
theorem pe_lenSet' {ta : TE} (hg : Gl X "len") (hm : X.mg "len" = none) (hg2 : Gl X "set") (hm2 : X.mg "set" = none) (ha : PE X a ta) (hc : X.calm = true := by rfl)
    (na : starEach [a] X.env = (false, eval a X.env) :: starEach [] X.env := by rfl) : PE X (.Call (.Name "len" p) [.Call (.Name "set" p2) [a] [] q] [] pos) (tLenSet X.K ta) := by
  refine ⟨fun pins s σ H Q I h => ?_⟩
  refine Call_ (ld_blt I hg hm boot_len ?_)
  refine PyProof.Rows.callWith_builtin1 (PyProof.Rows.args_cons ?_ rfl) rfl rfl
  refine Call_ (ld_blt I hg2 hm2 boot_set ?_)
  refine PyProof.Rows.callWith_type1 (PyProof.Rows.args_cons (thn (ha.run pins s σ H _ I h) fun v s1 ⟨x, H1, I1, r1, q1⟩ => PyProof.Rows.args_nil ?_) na) na rfl
  obtain ⟨l, ns, rfl, hq, hl, q1⟩ := q1
  cases r1
  obtain ⟨its, r, pl, hz⟩ := I1.list hq
  have hlen : its.toArray.size = ns.length := by rw [List.size_toArray, ← r.length, List.length_map]
  refine call_set_list (I1.ok.hd hc) pl.isList (by simpa using RZ.intsAre_vals r) (by rw [hlen]; unfold scanBound; omega) fun h' tk hS hk => ?_
  refine PyProof.Rows.args_nil ?_
  rw [hlen] at hS
  have hle := firstMet_length_le (fun i => ns.getD i 0) ns.length
  obtain ⟨o, es, ep, t, ho, hex, hd, _, _, _, hf, hn⟩ := hS
  have I2 : Inv X pins σ H1 { s1 with heap := h', toks := tk } := I1.kept fun b o e => hk b o (Heap.lt_size e) e
  exact call_len_set ho hex hd hf (by rw [hn] <;> omega) ⟨.int _, H1, I2.tok _, ⟨_, by rw [hn] <;> rfl⟩, q1⟩
def intsT : List T → Option (List Int)
  | [] => some []
  | .int i :: ts => (intsT ts).map (i :: ·)
  | _ => none
theorem intV_at : ∀ {ts : List T} {vs : List V} {ns : List Int}, Reps K hd φ H ts vs → intsT ts = some ns → vs = ns.map V.int
  | [], vs, ns, r, h => by cases h; unfold Reps at r; exact r
  | .int i :: ts, vs, ns, r, h => by
    unfold Reps at r
    obtain ⟨x, xs, rfl, r1, r2⟩ := r
    cases rep_int r1
    obtain ⟨cs, h1, rfl⟩ := map_some h
    rw [intV_at r2 h1]
    rfl
  | .non :: ts, vs, bs, r, h => by cases h
  | .bl _ :: ts, vs, bs, r, h => by cases h
  | .str _ :: ts, vs, bs, r, h => by cases h
  | .ty _ :: ts, vs, bs, r, h => by cases h
  | .tup _ :: ts, vs, bs, r, h => by cases h
  | .lst _ :: ts, vs, bs, r, h => by cases h
  | .frz _ :: ts, vs, bs, r, h => by cases h
  | .rng _ :: ts, vs, bs, r, h => by cases h
  | .glb _ :: ts, vs, bs, r, h => by cases h
  | .exc _ _ _ :: ts, vs, bs, r, h => by cases h
  | .dct _ _ :: ts, vs, bs, r, h => by cases h
  | .cell _ :: ts, vs, bs, r, h => by cases h
def mLenSet (a : ME) : ME := fun ρ w => (a ρ w).bind fun t w1 => match lst? w1 t with
  | some ts => match intsT ts with
    | some ns => if ns.length ≤ 4000 then .ok (.int (unlike ns : Nat)) w1 else .no
    | none => .no
  | none => .no
theorem de_lenset (hm : X.mg "len" = none) (hm2 : X.mg "set" = none) (ha : PE X a (rdE (X.K, Z) W ma)) (hg : Gl X "len" := by rfl) (hg2 : Gl X "set" := by rfl) (hc : X.calm = true := by rfl)
    (na : starEach [a] X.env = (false, eval a X.env) :: starEach [] X.env := by rfl) : PE X (.Call (.Name "len" p) [.Call (.Name "set" p2) [a] [] q] [] pos) (rdE (X.K, Z) W (mLenSet ma)) := PE_imp (pe_lenSet' hg hm hg2 hm2 ha hc na) fun σ H Q => by
  rintro ⟨hd, φ, ρ, w, sr, wr, p⟩
  refine ⟨hd, φ, ρ, w, sr, wr, Pst.then isPst p fun t w1 φ1 H1 e1 wr1 p1 x rx => ?_⟩
  cases q1 : lst? w1 t with
  | none => rw [q1] at p1; exact p1.elim
  | some ts =>
    rw [q1] at p1
    simp only at p1
    cases q2 : intsT ts with
    | none => rw [q2] at p1; exact p1.elim
    | some ns =>
      rw [q2] at p1
      simp only at p1
      split at p1
      · rename_i hl
        obtain ⟨l, xs, rfl, h1, h2⟩ := lst_at wr1 rx q1
        cases intV_at h2 q2
        exact ⟨l, ns, rfl, SqL.of h1, hl, p1.int wr1⟩
      · exact p1.elim
/-! ### range(n) as a value -/
theorem cr_range1 : CallR X (.type "range") (fun vs H Q => ∃ j, vs = [V.int j] ∧ ∀ p, H p = none → Q (.ref p) (upd H p (.rng 0 j))) := by
  intro pins s σ H vs us Q I r h
  obtain ⟨j, rfl, q⟩ := h
  cases r with
  | cons r1 rt =>
    cases rt
    obtain ⟨t, rfl⟩ := r1
    refine call_range_1 ⟨.ref s.heap.objs.size, upd H s.heap.objs.size (.rng 0 j), I.laid (t' := s.toks + 1 + 1) (fun b o e => Heap.get?_push_of_some _ e) (Nat.le_refl _) ?_, rfl, q _ (I.hok.fresh (Nat.le_refl _))⟩
    exact ⟨s.toks, t, s.toks + 1, Heap.get?_push_size _ rfl⟩
def sRng : SC := fun ds w => match ds with
  | [.int j] => if 0 ≤ j then .ok (.rng j.toNat) w else .no
  | _ => .no
theorem opRng : OpC K sRng (fun vs H Q => ∃ j, vs = [V.int j] ∧ ∀ p, H p = none → Q (.ref p) (upd H p (.rng 0 j))) := fun W hd φ H w ds xs Q wr rx p => by
  unfold sRng at p
  match ds, p with
  | [.int j], p =>
    obtain ⟨v, rfl, r⟩ := reps1 rx
    cases rep_int r
    simp only at p
    split at p
    · rename_i hj
      refine ⟨j, rfl, fun q hq => ?_⟩
      refine p (upd H q (.rng 0 j)) φ (Ext.new hq) (wr.new hq) _ ?_
      unfold Rep
      exact ⟨q, rfl, by rw [upd_same, Int.toNat_of_nonneg hj], (wr.nin hq).1, (wr.nin hq).2⟩
    · exact p.elim
theorem de_range1 (hm : X.mg "range" = none) (ha : PA X [e] (rdA (X.K, Z) W m)) (hg : Gl X "range" := by rfl) (he : starEach [e] X.env = (false, eval e X.env) :: starEach [] X.env := by rfl) (hpl : (backTo pos (starEach [] X.env)).any (·.1) = false := by rfl) : PE X (.Call (.Name "range" p) [e] [] pos) (rdE (X.K, Z) W (mCall sRng m)) :=
  de_callTy cr_range1 opRng hm boot_range ha hg (by decide) (by decide) he hpl
def iRngV (te : TE) : TI := fun σ H R => te σ H fun x H1 => ∃ a hi, x = .ref a ∧ H1 a = some (.rng 0 hi) ∧ 0 ≤ hi ∧ hi < 2 ^ 62 ∧ R (Itr 0 hi.toNat) H1
theorem pi_rngV {te : TE} (he : PE X e te) : PI X tg e (iRngV te) := by
  refine ⟨fun pins s σ H R I h => ?_⟩
  refine thn (he.run pins s σ H _ I h) fun v s1 ⟨x, H1, I1, r1, q1⟩ => ?_
  obtain ⟨a, hi, rfl, ha, h0, h1, q⟩ := q1
  cases r1
  obtain ⟨t, u, k, ho⟩ := I1.hok a _ ha
  have hr : IsRange s1.heap a 0 hi 1 t u k := ho
  refine wpAny_pyIter_range hr (small_one (by decide) (by decide) (by omega) h1) ?_
  refine ⟨s1.heap.objs.size, [s1.heap.objs.size], _, _, H1, rfl, I1.kept (t' := s1.toks) fun b o e => Heap.get?_push_of_some _ e, turn_range _ 0 hi.toNat, ?_, fun b hb => ?_, q⟩
  · have e1 : (0 : Int) + ((0 : Nat) : Int) * 1 = 0 := by simp
    have e2 : ((hi.toNat : Nat) : Int) - ((0 : Nat) : Int) = Builtin.Range.rangeSize 0 hi 1 := by rw [rangeSize_one]; split <;> omega
    show IsRangeIter _ _ ((0 : Int) + ((0 : Nat) : Int) * 1) (((hi.toNat : Nat) : Int) - ((0 : Nat) : Int)) 1
    rw [e1, e2]
    exact Heap.get?_push_size _ rfl
  · have e : b = s1.heap.objs.size := by simpa using hb
    subst e
    exact I1.fpOk (Nat.le_refl _) (I1.hok.fresh (Nat.le_refl _))
def mItemsR (m : ME) : MI := fun ρ w => (m ρ w).bind fun t w1 => match t with
  | .rng n => if (n : Int) < 2 ^ 62 then .ok (rgT 0 n, none) w1 else .no
  | _ => .no
theorem di_rng (h : PE X e (rdE (X.K, Z) W m0)) : PI X tg e (rdI (X.K, Z) W (mItemsR m0)) := PI_imp (pi_rngV h) fun σ H Q => by
  rintro ⟨hd, φ, ρ, w, sr, wr, p⟩
  refine ⟨hd, φ, ρ, w, sr, wr, ?_⟩
  unfold mItemsR at p
  cases q : m0 ρ w with
  | no => rw [q] at p; exact p.elim
  | ex _ _ _ => (rw [q] at p; first | exact p | (rw [q]; exact p))
  | ok t w1 =>
    rw [q, bind_ok] at p
    intro H' φ' e1 wr1 v rv
    cases t with
    | rng n =>
      simp only at p
      split at p
      · rename_i hn
        unfold Rep at rv
        obtain ⟨a, rfl, h1, _⟩ := rv
        refine ⟨a, n, rfl, h1, by omega, hn, ?_⟩
        have e2 : ((n : Int)).toNat = n := by simp
        rw [e2]
        exact p H' φ' e1 wr1 _ src_range
      · exact p.elim
    | _ => exact p.elim
/-! ### a starred item -/
def mStar (a : ME) (m : MF) : MF := fun ρ w => (a ρ w).bind fun t w1 => match seq? w1 t with
  | some ts => (m ρ w1).bind fun us w2 => .ok (ts ++ us) w2
  | none => .no
theorem da_star (ha : PE X a (rdE (X.K, Z) W ma)) (hr : PA X es (rdA (X.K, Z) W m)) (hs : starEach (.Starred a p :: es) X.env = (true, eval a X.env) :: starEach es X.env := by rfl) : PA X (.Starred a p :: es) (rdA (X.K, Z) W (mStar ma m)) := PA_imp (StX.pa_star ha hr hs) fun σ H Q => by
  rintro ⟨hd, φ, ρ, w, sr, wr, p⟩
  refine ⟨hd, φ, ρ, w, sr, wr, Pst.then isPst p fun x w1 φ1 H1 e1 wr1 p1 v rv => ?_⟩
  cases q : seq? w1 x with
  | none => rw [q] at p1; exact p1.elim
  | some ts =>
    rw [q] at p1
    simp only at p1
    obtain ⟨l, xs, rfl, h1, h2⟩ := seq_at wr1 rv q
    refine ⟨l, xs, rfl, h1.symm, hd, φ1, ρ, w1, sr.mono e1, wr1, Pst.then isPst p1 fun us w2 φ2 H2 e2 wr2 p2 vs rvs => ?_⟩
    exact p2.ok wr2 _ ((h2.mono e2).append rvs)
/-! ### sorted(xs), tuples of ints -/
def rowsT : List T → Option (List (List Int))
  | [] => some []
  | .tup us :: ts => match intsT us, rowsT ts with
    | some r, some rs => some (r :: rs)
    | _, _ => none
  | _ => none
def rowT (r : List Int) : T := .tup (r.map T.int)
theorem intsT_map : ∀ {ts : List T} {ns : List Int}, intsT ts = some ns → ts = ns.map T.int
  | [], ns, h => by cases h; rfl
  | .int i :: ts, ns, h => by
    obtain ⟨cs, h1, rfl⟩ := map_some h
    rw [intsT_map h1]
    rfl
  | .non :: ts, _, h => by cases h
  | .bl _ :: ts, _, h => by cases h
  | .str _ :: ts, _, h => by cases h
  | .ty _ :: ts, _, h => by cases h
  | .tup _ :: ts, _, h => by cases h
  | .lst _ :: ts, _, h => by cases h
  | .frz _ :: ts, _, h => by cases h
  | .rng _ :: ts, _, h => by cases h
  | .glb _ :: ts, _, h => by cases h
  | .exc _ _ _ :: ts, _, h => by cases h
  | .dct _ _ :: ts, _, h => by cases h
  | .cell _ :: ts, _, h => by cases h
theorem rowsT_map : ∀ {ts : List T} {rs : List (List Int)}, rowsT ts = some rs → ts = rs.map rowT
  | [], ns, h => by cases h; rfl
  | .tup us :: ts, rs, h => by
    unfold rowsT at h
    split at h
    · rename_i r rs' h1 h2
      cases h
      rw [rowsT_map h2, intsT_map h1]
      rfl
    · cases h
  | .non :: ts, _, h => by cases h
  | .bl _ :: ts, _, h => by cases h
  | .str _ :: ts, _, h => by cases h
  | .ty _ :: ts, _, h => by cases h
  | .int _ :: ts, _, h => by cases h
  | .lst _ :: ts, _, h => by cases h
  | .frz _ :: ts, _, h => by cases h
  | .rng _ :: ts, _, h => by cases h
  | .glb _ :: ts, _, h => by cases h
  | .exc _ _ _ :: ts, _, h => by cases h
  | .dct _ _ :: ts, _, h => by cases h
  | .cell _ :: ts, _, h => by cases h
theorem intsT_of : ∀ ns : List Int, intsT (ns.map T.int) = some ns
  | [] => rfl
  | n :: ns => by show (intsT (ns.map T.int)).map _ = _; rw [intsT_of ns]; rfl
theorem rowsT_of : ∀ rs : List (List Int), rowsT (rs.map rowT) = some rs
  | [] => rfl
  | r :: rs => by
    show (match intsT (r.map T.int), rowsT (rs.map rowT) with
      | some r, some rs => some (r :: rs)
      | _, _ => none) = _
    rw [intsT_of, rowsT_of rs]
def bdT : Int := 2 ^ 64
def bdRow (d : Nat) (r : List Int) : Prop := r.length = d ∧ TS.Bd bdT r
theorem code_inj {B : Int} : ∀ {r q : List Int}, r.length = q.length → TS.Bd B r → TS.Bd B q → TS.code B r = TS.code B q → r = q
  | [], [], _, _, _, _ => rfl
  | d :: r, e :: q, hl, h1, h2, h => by
    have hl' : r.length = q.length := by simpa using hl
    rcases Int.lt_trichotomy d e with c | c | c
    · exact absurd h (Int.ne_of_lt (TS.code_lt hl' h1.tail h2.tail c))
    · subst c
      have i1 := (TS.code_same (B := B) (d := d) hl').mpr
      have i2 := (TS.code_same (B := B) (d := d) hl'.symm).mpr
      rw [code_inj hl' h1.tail h2.tail]
      omega
    · exact absurd h.symm (Int.ne_of_lt (TS.code_lt hl'.symm h2.tail h1.tail c))
  | [], _ :: _, hl, _, _, _ => by simp at hl
  | _ :: _, [], hl, _, _, _ => by simp at hl
theorem reps_perm {f : List Int → T} : ∀ {ys xs : List V}, ys.Perm xs → ∀ {rs : List (List Int)}, Reps K hd φ H (rs.map f) xs → ∃ qs : List (List Int), qs.Perm rs ∧ Reps K hd φ H (qs.map f) ys := fun {ys xs} h => by
  induction h with
  | nil => intro rs r; exact ⟨rs, .refl _, r⟩
  | @cons x l1 l2 _ ih =>
    intro rs r
    cases rs with
    | nil => unfold Reps at r; cases r
    | cons q rs =>
      rw [List.map_cons] at r
      unfold Reps at r
      obtain ⟨z, zs, ez, r1, r2⟩ := r
      cases ez
      obtain ⟨qs, p1, p2⟩ := ih r2
      exact ⟨q :: qs, .cons _ p1, Reps.cons r1 p2⟩
  | @swap x y l =>
    intro rs r
    match rs, r with
    | [], r => unfold Reps at r; cases r
    | [q], r =>
      rw [List.map_cons] at r
      unfold Reps at r
      obtain ⟨z, zs, ez, r1, r2⟩ := r
      cases ez
      unfold List.map Reps at r2
      cases r2
    | q1 :: q2 :: rs, r =>
      rw [List.map_cons, List.map_cons] at r
      unfold Reps at r
      obtain ⟨z, zs, ez, r1, r2⟩ := r
      cases ez
      unfold Reps at r2
      obtain ⟨z, zs, ez, r3, r4⟩ := r2
      cases ez
      exact ⟨q2 :: q1 :: rs, .swap _ _ _, Reps.cons r3 (Reps.cons r1 r4)⟩
  | trans _ _ ih1 ih2 =>
    intro rs r
    obtain ⟨qs, p1, p2⟩ := ih2 r
    obtain ⟨qs', p3, p4⟩ := ih1 p2
    exact ⟨qs', p3.trans p1, p4⟩
def sortR (rs : List (List Int)) : List (List Int) := rs.mergeSort fun a b => decide (TS.code bdT a ≤ TS.code bdT b)
theorem sortR_perm (rs : List (List Int)) : (sortR rs).Perm rs := List.mergeSort_perm _ _
theorem sortR_pw (rs : List (List Int)) : (sortR rs).Pairwise fun a b => TS.code bdT a ≤ TS.code bdT b := by
  have h := List.pairwise_mergeSort (le := fun a b : List Int => decide (TS.code bdT a ≤ TS.code bdT b)) (fun a b c h1 h2 => by simp at h1 h2 ⊢; omega) (fun a b => by simp; omega) rs
  exact h.imp fun h => by simpa using h
open Classical in
noncomputable def sSortT (d : Nat) : SCF := fun ds w => match ds with
  | [t] => match lst? w t with
    | some ts => match rowsT ts with
      | some rs => if rs.length < 64 ∧ ∀ r ∈ rs, bdRow d r then .ok ((sortR rs).map rowT) w else .no
      | none => .no
    | none => .no
  | _ => .no
theorem opSortT {d : Nat} : OpCF K (sSortT d) (rSortU K.1 d bdT) := fun W hd φ H w ds xs Q wr rx p => by
  unfold sSortT at p
  match ds, p with
  | [t], p =>
    simp only at p
    cases q : lst? w t with
    | none => rw [q] at p; exact p.elim
    | some ts =>
      rw [q] at p
      simp only at p
      cases q2 : rowsT ts with
      | none => rw [q2] at p; exact p.elim
      | some rs =>
        rw [q2] at p
        simp only at p
        split at p
        · rename_i hc
          obtain ⟨h64, hb⟩ := hc
          obtain ⟨v, rfl, r⟩ := reps1 rx
          obtain ⟨l, ys, rfl, h1, h2⟩ := lst_at wr r q
          rw [rowsT_map q2] at h2
          have tu : ∀ (r : List Int) (x : V), Rep K hd φ H (rowT r) x → TupI K.1 H x r := fun r x h => by
            unfold rowT Rep at h
            obtain ⟨a, xs, rfl, n, rs⟩ := h
            have := intV_at rs (intsT_of r)
            subst this
            exact ⟨a, rfl, SqT.of n.1⟩
          refine ⟨l, ys, rfl, SqL.of h1, ?_, fun x hx => ?_, fun zs p0 hp hw hn => ?_⟩
          · rw [← h2.len, List.length_map]; exact h64
          · obtain ⟨i, hi⟩ := List.mem_iff_getElem?.mp hx
            obtain ⟨t, ht, rt⟩ := h2.at' hi
            rw [List.getElem?_map] at ht
            cases e : rs[i]? with
            | none => rw [e] at ht; cases ht
            | some r =>
              rw [e] at ht
              cases ht
              exact ⟨r, tu r x rt, hb r (List.mem_of_getElem? e)⟩
          · obtain ⟨qs, pq, rq⟩ := reps_perm hp h2
            have bq : ∀ r ∈ qs, bdRow d r := fun r hr => hb r (pq.mem_iff.mp hr)
            have pw : qs.Pairwise fun a b => TS.code bdT a ≤ TS.code bdT b := by
              rw [List.pairwise_iff_getElem]
              intro i j hi hj hij
              have e1 : (qs.map rowT)[i]? = some (rowT qs[i]) := by simp [hi]
              have e2 : (qs.map rowT)[j]? = some (rowT qs[j]) := by simp [hj]
              obtain ⟨x, hx, rx⟩ := rq.at e1
              obtain ⟨y, hy, ry⟩ := rq.at e2
              obtain ⟨li, ex⟩ := List.getElem?_eq_some_iff.mp hx
              obtain ⟨lj, ey⟩ := List.getElem?_eq_some_iff.mp hy
              refine List.pairwise_iff_getElem.mp hw i j li lj hij _ _ ?_ ?_
              · rw [ex]; exact tu _ _ rx
              · rw [ey]; exact tu _ _ ry
            have e : qs = sortR rs := List.Perm.eq_of_pairwise (le := fun a b => TS.code bdT a ≤ TS.code bdT b) (fun a b ha hb' h1 h2 => code_inj (by rw [(bq a ha).1, (hb b ((sortR_perm rs).mem_iff.mp hb')).1]) (bq a ha).2 (hb b ((sortR_perm rs).mem_iff.mp hb')).2 (Int.le_antisymm h1 h2)) pw (sortR_pw rs) (pq.trans (sortR_perm rs).symm)
            rw [e] at rq
            exact p.new wr rq p0 hn
        · exact p.elim
theorem df_sortT {d : Nat} (hm : X.mg "sorted" = none) (ha : PA X [e] (rdA (X.K, Z) W m)) (hd : 1 ≤ d := by decide) (hg : Gl X "sorted" := by rfl) (he : starEach [e] X.env = (false, eval e X.env) :: starEach [] X.env := by rfl) (hpl : (backTo pos (starEach [] X.env)).any (·.1) = false := by rfl) : PE X (.Call (.Name "sorted" p) [e] [] pos) (rdF (X.K, Z) W (mCallF (sSortT d) m)) :=
  df_callB (cr_sortT hd) opSortT hm (by decide +kernel) ha hg (by decide) (by decide) he hpl
theorem hu65 {k : Nat} (hr : Room k X.A) : X.A.units + 65 < cLine := by have := hr.un; omega
/-! ### f() -/
def mDef0 (f : Sem) : ME := fun ρ w => (f [] w).at ρ
theorem de_def0 {k : Nat} {x : Str} {f : Sem} (F : Df X.prog X.w X.K Z X.mg X.base k x [] f) (tk : TakesO X W) (hr : Room k X.A) (hg : Gl X x := by rfl) (hdb : (x == ("__debug__" : Str)) = false := by decide) : PE X (.Call (.Name x p) [] [] pos) (rdE (X.K, Z) W (mDef0 f)) := by
  obtain ⟨ad, fd, ok, hm, hk, hb⟩ := F.ex
  refine ⟨fun pins s σ H Q I h => ?_⟩
  obtain ⟨hd, φ, ρ, w, sr, wr, q⟩ := h
  refine wpAny_Call_Name_kw (ld_glob I hg hm ?_ hdb)
  exact PySem.W.callWith_K0 I.kIn hk (run_fnS (E := wE W) ok hr hb (passO tk σ) I .nil ⟨hd, φ, w, [], rfl, wr, Reps.nil, q.callee sr⟩)
theorem dfP_gc {P : Program} {w : PySem.World} {K : PySem.W.Frag} {mg : Str → Option Value} {base : Heap} {x : Str} {n np k : Nat} {ks : List Str} {ix : List Nat} {g : Sem} (D : DfP P w K Z mg base k x n np ks ix g) : DfP P w K Z mg base k x n np ks ix (gc g) := by
  obtain ⟨f, fd, ps, e1, ok, hm, hk, hb⟩ := D.ex
  refine ⟨f, fd, ps, e1, ok.imp fun vs H Q E h => ?_, hm, hk, hb⟩
  obtain ⟨hd, φ, w, ds, l, wr, rs, p⟩ := h
  exact ⟨hd, φ, w, ds, l, wr, rs, gc_read wr p⟩
end
end VS

set_option Elab.async false
set_option linter.all false
set_option maxRecDepth 100000
set_option maxHeartbeats 2000000
/-! VS15: defs that call themselves: worked out so deep (fuel); below that nothing is promised. -/
namespace VS
open PySem PySem.Spec PyProof.Rows L2
noncomputable def fuelS (c : Bool) (N : Nat) (F : Sem → MS) : Nat → Sem
  | 0 => runB N fun _ _ => .no
  | n + 1 => if c = true then gc (runB N (F (fuelS c N F n))) else runB N (F (fuelS c N F n))
theorem fuel_gc {N : Nat} {F : Sem → MS} {n : Nat} : fuelS true N F (n + 1) = gc (runB N (F (fuelS true N F n))) := rfl
theorem fuel_run {N : Nat} {F : Sem → MS} {n : Nat} : fuelS false N F (n + 1) = runB N (F (fuelS false N F n)) := rfl
section
variable {P : Program} {w : PySem.World} {K : PySem.W.Frag} {Z : ZT} {W : Option WX} {cd : Value} {mg : Str → Option Value} {base : Heap}
theorem ss_no {X : Cx} : ∀ {b : List Stmt}, PSs X b (rdS (X.K, Z) W fun _ _ => .no)
  | [] => PSs_imp (ds_nil (Z := Z) (W := W)) fun D σ H => by
    rintro ⟨hd, φ, ρ, w, sr, wr, p⟩
    exact p.elim
  | s :: b => PSs_imp (ds_cons (Z := Z) (W := W) (ds_never (st := s)) (ss_no (b := b))) fun D σ H => by
    rintro ⟨hd, φ, ρ, w, sr, wr, p⟩
    exact p.elim
theorem bd_no {N : List Str} {x : Str} {st : Stmt} {k : Nat} : Bd P w K Z mg base N x st cd k fun _ _ => .no := fun f A outer s H E W hr tk => ss_no
/-- the def's worth, so deep: one level more for each turn -/
theorem df_fuel {x : Str} {st : Stmt} {N ps : List Str} {k : Nat} {c : Bool} {F : Sem → MS} {h : Heap} (a : At K x st cd) (X : K.In h) (G : h.Ns mainGlobals mg) (S : FnScope N ps (defScope st))
    (hb : ∀ (kV doc pm : Value) (an : Option Addr) (cdv ct : Value) (us : List Value), us.length = ps.length → bindArgs (PySem.W.fnOf x x (defArgs st) (defBody st) (defScope st) .none kV doc pm an cdv ct) ⟨us, []⟩ = pure (ps.zip us))
    (body : ∀ (L : Nat) (g : Sem), k ≤ L → Df P w K Z mg base L x ps g → Bd P w K Z mg base N x st cd L (F g)) : ∀ n : Nat, Df P w K Z mg base (k + 1 + n) x ps (fuelS c N.length F n)
  | 0 => At.df a X G S hb bd_no
  | n + 1 => by
    have D := At.df a X G S hb (body (k + 1 + n) _ (by omega) (df_fuel (c := c) a X G S hb body n))
    cases c with
    | true => exact df_gc D
    | false => exact D
/-- two levels for each turn: a helper between -/
theorem df_fuel2 {x : Str} {st : Stmt} {N ps : List Str} {k : Nat} {c : Bool} {F : Sem → MS} {h : Heap} (a : At K x st cd) (X : K.In h) (G : h.Ns mainGlobals mg) (S : FnScope N ps (defScope st))
    (hb : ∀ (kV doc pm : Value) (an : Option Addr) (cdv ct : Value) (us : List Value), us.length = ps.length → bindArgs (PySem.W.fnOf x x (defArgs st) (defBody st) (defScope st) .none kV doc pm an cdv ct) ⟨us, []⟩ = pure (ps.zip us))
    (body : ∀ (L : Nat) (g : Sem), k ≤ L → Df P w K Z mg base L x ps g → Bd P w K Z mg base N x st cd (L + 1) (F g)) : ∀ n : Nat, Df P w K Z mg base (k + 1 + 2 * n) x ps (fuelS c N.length F n)
  | 0 => At.df a X G S hb bd_no
  | n + 1 => by
    have D := At.df a X G S hb (body (k + 1 + 2 * n) _ (by omega) (df_fuel2 (c := c) a X G S hb body n))
    cases c with
    | true => exact df_gc D
    | false => exact D
end
end VS

set_option Elab.async false
set_option linter.all false
set_option maxRecDepth 100000
set_option maxHeartbeats 2000000
/-! VS16: max, min, sum of one list of ints; d.get(y, z). -/
namespace VS
open PySem PySem.Spec PyProof.Rows L2
def maxI (n : Int) : List Int → Int
  | [] => n
  | m :: ms => maxI (if m > n then m else n) ms
def minI (n : Int) : List Int → Int
  | [] => n
  | m :: ms => minI (if m < n then m else n) ms
theorem maxI_spec : ∀ (ms : List Int) (n : Int), (maxI n ms = n ∨ maxI n ms ∈ ms) ∧ n ≤ maxI n ms ∧ ∀ y ∈ ms, y ≤ maxI n ms
  | [], n => ⟨.inl rfl, Int.le_refl _, fun _ h => nomatch h⟩
  | m :: ms, n => by
    obtain ⟨h1, h2, h3⟩ := maxI_spec ms (if m > n then m else n)
    show (maxI (if m > n then m else n) ms = n ∨ _) ∧ n ≤ maxI (if m > n then m else n) ms ∧ ∀ y ∈ m :: ms, y ≤ maxI (if m > n then m else n) ms
    refine ⟨?_, ?_, fun y hy => ?_⟩
    · rcases h1 with h1 | h1
      · by_cases c : m > n
        · rw [if_pos c] at h1; exact .inr (by show maxI (if m > n then m else n) ms ∈ m :: ms; rw [if_pos c, h1]; exact .head _)
        · rw [if_neg c] at h1; exact .inl (by rw [if_neg c]; exact h1)
      · exact .inr (.tail _ h1)
    · refine Int.le_trans ?_ h2; split <;> omega
    · rcases List.mem_cons.mp hy with rfl | hy
      · refine Int.le_trans ?_ h2; split <;> omega
      · exact h3 y hy
theorem minI_spec : ∀ (ms : List Int) (n : Int), (minI n ms = n ∨ minI n ms ∈ ms) ∧ minI n ms ≤ n ∧ ∀ y ∈ ms, minI n ms ≤ y
  | [], n => ⟨.inl rfl, Int.le_refl _, fun _ h => nomatch h⟩
  | m :: ms, n => by
    obtain ⟨h1, h2, h3⟩ := minI_spec ms (if m < n then m else n)
    show (minI (if m < n then m else n) ms = n ∨ _) ∧ minI (if m < n then m else n) ms ≤ n ∧ ∀ y ∈ m :: ms, minI (if m < n then m else n) ms ≤ y
    refine ⟨?_, ?_, fun y hy => ?_⟩
    · rcases h1 with h1 | h1
      · by_cases c : m < n
        · rw [if_pos c] at h1; exact .inr (by show minI (if m < n then m else n) ms ∈ m :: ms; rw [if_pos c, h1]; exact .head _)
        · rw [if_neg c] at h1; exact .inl (by rw [if_neg c]; exact h1)
      · exact .inr (.tail _ h1)
    · refine Int.le_trans h2 ?_; split <;> omega
    · rcases List.mem_cons.mp hy with rfl | hy
      · refine Int.le_trans h2 ?_; split <;> omega
      · exact h3 y hy
/-- a call on one list of ints -/
def sInts (f : List Int → Option Int) : SC := fun ds w => match ds with
  | [t] => match lst? w t with
    | some ts => match intsT ts with
      | some ns => match f ns with
        | some i => .ok (.int i) w
        | none => .no
      | none => .no
    | none => .no
  | _ => .no
def fMax : List Int → Option Int
  | [] => none
  | n :: ns => some (maxI n ns)
def fMin : List Int → Option Int
  | [] => none
  | n :: ns => some (minI n ns)
def fSum : List Int → Option Int := fun ns => some ns.sum
section
variable {X : Cx} {K : KT} {e a b c o i j : Expr} {pos apos cpos p : Pos} {m : MF} {ma mb mc mo mi mj : ME} {Z : ZT} {W : Option WX}
theorem opInts {f : List Int → Option Int} {r : List V → Hp → VK → Prop} (h : ∀ (l : Addr) (ns : List Int) (i : Int) (H : Hp) (Q : VK), SqL K.1 H l (ns.map V.int) → f ns = some i → Q (.int i) H → r [V.ref l] H Q) : OpC K (sInts f) r := fun W hd φ H w ds xs Q wr rx p => by
  unfold sInts at p
  match ds, p with
  | [t], p =>
    simp only at p
    cases q1 : lst? w t with
    | none => rw [q1] at p; exact p.elim
    | some ts =>
      rw [q1] at p
      simp only at p
      cases q2 : intsT ts with
      | none => rw [q2] at p; exact p.elim
      | some ns =>
        rw [q2] at p
        simp only at p
        cases q3 : f ns with
        | none => rw [q3] at p; exact p.elim
        | some i =>
          rw [q3] at p
          obtain ⟨v, rfl, r1⟩ := reps1 rx
          obtain ⟨l, ys, rfl, h1, h2⟩ := lst_at wr r1 q1
          cases intV_at h2 q2
          exact h l ns i H Q (SqL.of h1) q3 (p.int wr)
theorem opMaxL : OpC K (sInts fMax) (rMax K.1) := opInts fun l ns i H Q hs hf q => by
  cases ns with
  | nil => cases hf
  | cons n ns =>
    cases hf
    refine ⟨l, n :: ns, rfl, hs, by simp, fun m hm hb => ?_⟩
    obtain ⟨h1, h2, h3⟩ := maxI_spec ns n
    have e : m = maxI n ns := by
      refine Int.le_antisymm ?_ (hb _ (h1.elim (fun h => by rw [h]; exact .head _) (fun h => .tail _ h)))
      rcases List.mem_cons.mp hm with rfl | hm
      · exact h2
      · exact h3 m hm
    rw [e]
    exact q
theorem opMinL : OpC K (sInts fMin) (rMin K.1) := opInts fun l ns i H Q hs hf q => by
  cases ns with
  | nil => cases hf
  | cons n ns =>
    cases hf
    refine ⟨l, n :: ns, rfl, hs, by simp, fun m hm hb => ?_⟩
    obtain ⟨h1, h2, h3⟩ := minI_spec ns n
    have e : m = minI n ns := by
      refine Int.le_antisymm (hb _ (h1.elim (fun h => by rw [h]; exact .head _) (fun h => .tail _ h))) ?_
      rcases List.mem_cons.mp hm with rfl | hm
      · exact h2
      · exact h3 m hm
    rw [e]
    exact q
theorem opSumL : OpC K (sInts fSum) (rSum K.1) := opInts fun l ns i H Q hs hf q => by
  cases hf
  exact ⟨l, ns, rfl, hs, q⟩
theorem de_maxL (hc : X.calm = true) (hm : X.mg "max" = none) (ha : PA X [e] (rdA (X.K, Z) W m)) (hg : Gl X "max" := by rfl) (he : starEach [e] X.env = (false, eval e X.env) :: starEach [] X.env := by rfl) (hpl : (backTo pos (starEach [] X.env)).any (·.1) = false := by rfl) : PE X (.Call (.Name "max" p) [e] [] pos) (rdE (X.K, Z) W (mCall (sInts fMax) m)) :=
  de_callB (cr_max hc) opMaxL hm (by decide +kernel) ha hg (by decide) (by decide) he hpl
theorem de_minL (hc : X.calm = true) (hm : X.mg "min" = none) (ha : PA X [e] (rdA (X.K, Z) W m)) (hg : Gl X "min" := by rfl) (he : starEach [e] X.env = (false, eval e X.env) :: starEach [] X.env := by rfl) (hpl : (backTo pos (starEach [] X.env)).any (·.1) = false := by rfl) : PE X (.Call (.Name "min" p) [e] [] pos) (rdE (X.K, Z) W (mCall (sInts fMin) m)) :=
  de_callB (cr_min hc) opMinL hm (by decide +kernel) ha hg (by decide) (by decide) he hpl
theorem de_sumL (hc : X.calm = true) (hm : X.mg "sum" = none) (ha : PA X [e] (rdA (X.K, Z) W m)) (hg : Gl X "sum" := by rfl) (he : starEach [e] X.env = (false, eval e X.env) :: starEach [] X.env := by rfl) (hpl : (backTo pos (starEach [] X.env)).any (·.1) = false := by rfl) : PE X (.Call (.Name "sum" p) [e] [] pos) (rdE (X.K, Z) W (mCall (sInts fSum) m)) :=
  de_callB (cr_sum hc) opSumL hm (by decide +kernel) ha hg (by decide) (by decide) he hpl
/-- d.get(y, z) -/
def mDGet2 (a b c : ME) : ME := fun ρ w => (a ρ w).bind fun d w1 => if isDct w1 d = true then (b ρ w1).bind fun y w2 => (c ρ w2).bind fun z w3 => match getD? w3 d y with
  | some (some t) => .ok t w3
  | some none => .ok z w3
  | none => .no
  else .no
theorem de_dget2 (hu : X.A.units + 1 < cLine) (ho : PE X o (rdE (X.K, Z) W mo)) (he : PE X i (rdE (X.K, Z) W mi)) (hf : PE X j (rdE (X.K, Z) W mj)) (m : M2 X o "get" apos i j cpos := by exact ⟨rfl, rfl, rfl, rfl⟩) : PE X (.Call (.Attribute o "get" apos) [i, j] [] cpos) (rdE (X.K, Z) W (mDGet2 mo mi mj)) := PE_imp (pe_dget2 hu ho he hf m) fun σ H Q => by
  rintro ⟨hd, φ, ρ, w, sr, wr, p⟩
  refine ⟨hd, φ, ρ, w, sr, wr, Pst.then isPst p fun d w1 φ1 H1 e1 wr1 p1 x rx => ?_⟩
  split at p1
  · rename_i hD
    obtain ⟨l, rfl, hl⟩ := isD_of wr1 rx hD
    refine ⟨l, rfl, hl, ⟨hd, φ1, ρ, w1, sr.mono e1, wr1, Pst.then isPst p1 fun y w2 φ2 H2 e2 wr2 p2 z rz => ?_⟩⟩
    refine ⟨hd, φ2, ρ, w2, (sr.mono e1).mono e2, wr2, Pst.then isPst p2 fun u w3 φ3 H3 e3 wr3 p3 v rv => ?_⟩
    cases q : getD? w3 d y with
    | none => rw [q] at p3; exact p3.elim
    | some o =>
      rw [q] at p3
      obtain ⟨l', o', hl', g, hs, hv⟩ := dget_at wr3 ((rx.mono e2).mono e3) (rz.mono e3) q
      cases hl'
      refine ⟨o', g, ?_⟩
      cases o with
      | none =>
        cases o' with
        | none => exact p3.ok wr3 _ rv
        | some v => cases hs
      | some t =>
        obtain ⟨v', rfl, rv'⟩ := hv t rfl
        exact p3.ok wr3 v' rv'
  · exact p1.elim
end
end VS

set_option Elab.async false
set_option linter.all false
set_option maxRecDepth 100000
set_option maxHeartbeats 2000000
/-! VW17: raise, a caught error as a value, a lambda that is called under a try. -/
namespace VS
open PySem PySem.Spec PyProof.Rows L2

/-! ### a caught error, known from then on -/
section
variable {X : Cx} {pins : List (Addr × Obj)} {σ : L2.St} {H : Hp} {sI sx : Shared} {B : Heap}
theorem Inv.landedT (I : Inv X pins σ H sI) (nb : ∀ b o, sI.heap.get? b = some o → b ∉ frs X.stack → B.get? b = some o) (st : B.StaysIn sx.heap) (up : sI.heap.UpToSlots sx.heap) (os : sx.os = sI.os) (ag : AllBare sx.gens)
    {a : Addr} {o : HO} (ha : sI.heap.get? a = none) (hn : H a = none) (new : ObjOk X.prog X.w (upd H a o) sx.heap a o) : Inv X pins σ (upd H a o) sx := by
  have fr : ∀ b ∈ frs X.stack, ∀ ob, sI.heap.get? b = some ob → ∃ sl, sx.heap.get? b = some { ob with slots := sl } := fun b hb ob q => by
    obtain ⟨_, ob', q', nf⟩ := I.stack.mem hb
    rw [q] at q'
    cases q'
    exact up b ob q nf
  have ne : ∀ b ob, sI.heap.get? b = some ob → b ≠ a := fun b ob q z => by subst z; rw [ha] at q; cases q
  have un : Un (frs X.stack) [] H (upd H a o) sI.heap sx.heap := by
    refine ⟨fun b ob q _ hb _ => st b ob (nb b ob q hb), fun b ob q _ hb _ => fr b hb ob q, fun b ob q n _ => ?_, fun b ob q _ => ?_, fun b xs q => ?_, fun b ob u q => ?_, fun b ps q => ⟨#[], ?_⟩⟩
    · rw [upd_ne (ne b ob q)]; exact n
    · by_cases hb : b ∈ frs X.stack
      · obtain ⟨sl, z⟩ := fr b hb ob q
        exact ⟨_, z⟩
      · exact ⟨ob, st b ob (nb b ob q hb)⟩
    · rw [upd_ne (ne_of_none q hn)]; exact q
    · rw [upd_ne (ne_of_none q hn)]; exact q
    · rw [upd_ne (ne_of_none q hn), q]; simp
  exact I.call' os un (HOk.laidN ((I.inGround nb).kept st) (fun _ _ z => z) hn new) ag fun b z => absurd z (by simp)
/-- an except suite's context: the error is among what is known -/
abbrev Cx.suiteT (X : Cx) (a : Addr) : Cx := { X with A := X.A.mark (some (.ref a)), calm := false, xe := fun _ _ => False }
theorem Cx.Ok.suiteT (ok : X.Ok) (a : Addr) : (Cx.suiteT X a).Ok :=
  ⟨ok.mod, ok.kind, ok.glob, ok.blt, ok.above, ok.inj, ok.has, ok.cab, fun z => (nomatch (show false = true from z)), ok.frames, ok.stk, ok.exf, ok.bs, ok.bsz, ok.noex, ok.exfs, ok.funs, ok.frf⟩
theorem Inv.suiteT {s : Shared} (I : Inv X pins σ H s) (a : Addr) : Inv (Cx.suiteT X a) pins σ H s :=
  ⟨Cx.Ok.suiteT I.ok a, I.os, I.bare, I.base, I.loc, I.cell, I.free, I.freeC, I.pin, I.hok, I.len⟩
theorem Inv.unsuiteT {s : Shared} {a : Addr} (ok : X.Ok) (I : Inv (Cx.suiteT X a) pins σ H s) : Inv X pins σ H s :=
  ⟨ok, I.os, I.bare, I.base, I.loc, I.cell, I.free, I.freeC, I.pin, I.hok, I.len⟩
end
/-- what 'except x as n' wishes, n in slot i -/
def wAsT (K : PySem.W.Frag) (c : Value) (i : Nat) (ts : Addr → Value → Option Addr → TS) (Wout : WX) (D : Ends) : WX := fun cls d σ H =>
  ∃ b, PySem.W.exmOne K cls c = some b ∧ (b = false → Wout cls d σ H) ∧
    (b = true → ∀ a, H a = none → ts a cls d ⟨fun σ' H' => D.nx (σ'.set i none) H', D.rt, fun σ' H' => D.bk (σ'.set i none) H', fun σ' H' => D.ct (σ'.set i none) H'⟩ (σ.set i (some (.ref a))) (upd H a (ExC cls d a)))
section
variable {X : Cx} {x n : Str} {c : Value} {i : Nat} {body suite : List Stmt} {b₀ : Stmt} {np pos hpos : Pos} {tb : WX → TS} {ts : Addr → Value → Option Addr → TS} {Wout : WX}
theorem ps_try_asT (e1 : X.stack = X.env :: X.outer) (e2 : X.env.frame = some X.env.locals) (nd : X.N.Nodup) (hi : X.N[i]? = some n) (hl : X.env.kindOf n = some .local) (hc : Names X x c) (tk : Takes X Wout)
    (hb : ∀ (W : WX) (pn : List (Addr × Obj)) (xe : Value → Shared → Prop), Takes (X.tr pn xe) W → PassesOwn (model X.prog X.w) X.A X.env xe → PSs (X.tr pn xe) body (tb W))
    (hsu : ∀ (a : Addr) (cls : Value) (d : Option Addr), PSs (Cx.suiteT X a) (b₀ :: suite) (ts a cls d)) :
    PS X (.Try body [.ExceptHandler (some (.Name x np)) (some n) (b₀ :: suite) hpos] [] [] pos) (fun D σ H => tb (wAsT X.K c i ts Wout D) D σ H) := by
  refine ⟨fun pins s0 σ0 H0 D I0 h0 => ?_⟩
  have xok := I0.ok
  have frA : X.A.frames = some (X.env :: X.outer) := xok.frames.trans (congrArg some e1)
  refine wpAny_Try_except ?_
  have run := (hb (wAsT X.K c i ts Wout D) (X.pn ++ pins) (fun e s₁ => wpAny (model X.prog X.w) X.A (noteFrame e X.env) (fun _ s₂ => wpAny (model X.prog X.w) X.A (setFlight e none) (fun _ s₃ =>
      wpAny (model X.prog X.w) X.A (handleBy e X.env [.ExceptHandler (some (.Name x np)) (some n) (b₀ :: suite) hpos]) (SP X pins D) X.xe s₃) X.xe s₂) X.xe s₁) (fun u sx caught => ?_) PassesOwn.looking).run [] s0 σ0 H0 D (I0.toTry _) h0
  · refine wpAny_mono run (fun fl s1 end_ => ?_) (fun e s1 he => he)
    cases fl with
    | next =>
      obtain ⟨σ1, H1, J, q⟩ := end_
      exact wpAny_execs_nil ⟨σ1, H1, J.ofTry xok, q⟩
    | brk => obtain ⟨σ1, H1, J, q⟩ := end_; exact ⟨σ1, H1, J.ofTry xok, q⟩
    | cont => obtain ⟨σ1, H1, J, q⟩ := end_; exact ⟨σ1, H1, J.ofTry xok, q⟩
    | ret v => obtain ⟨y, σ1, H1, J, r, q⟩ := end_; exact ⟨y, σ1, H1, J.ofTry xok, r, q⟩
  · obtain ⟨a, B, sI, pins1, σ1, H1, cls, d, rfl, J1, nb, up, sky, na, os, ag, b, hb1, no, yes⟩ := caught
    have J : Inv X pins σ1 H1 sI := J1.ofTry xok
    have sky1 : Sky B (X.env :: X.outer) a (Zc cls d) X.env.locals sx.heap := e1 ▸ sky
    show wpAny (model X.prog X.w) X.A (noteFrame (.ref a) X.env) _ _ _
    refine Sky.land Zc.steady frA e2 sky1 fun h3 fly up3 => ?_
    have J3 : Inv X pins σ1 H1 { sx with heap := h3 } := J.landed nb fly.1 (up.trans up3) os ag
    obtain ⟨o3, vs3, get3, z3, dat3⟩ := fly.there
    have off : a ∉ frs (X.env :: X.outer) := fun hm => by
      obtain ⟨_, ob, q, nf⟩ := fly.2.2.1.mem hm
      rw [get3] at q
      cases q
      exact nf _ dat3
    have newA : sI.heap.get? a = none := by
      cases q : sI.heap.get? a with
      | none => rfl
      | some ob =>
        have q2 := nb a ob q (by rw [e1]; exact off)
        rw [fly.2.1] at q2
        cases q2
    refine wpAny_handleBy_cons (codeAny_handlers_test ?_) (fun z => nomatch z)
    have look : PySem.W.Looks (model X.prog X.w) h3 (typeOf (.ref a)) cls := fun A' Q' E' s' k q => wpAny_typeOf_ref (k _ _ get3) (by rw [z3.1]; exact q)
    have meets := PySem.W.exm_one (M := model X.prog X.w) (J3.kIn) look hb1
    have named : ∀ {Q : Value → Shared → Prop} {E : Value → Shared → Prop}, Q c { sx with heap := h3 } → wpAny (model X.prog X.w) (X.A.mark (some (.ref a))) (eval (.Name x np) X.env) Q E { sx with heap := h3 } := fun {Q E} q => by
      obtain ⟨g1, g2, g3 | ⟨g3, g4, g5⟩⟩ := hc
      · exact ld_glob (X := Cx.suiteT X a) (Inv.suiteT J3 a) g1 g3 q g2
      · exact ld_blt (X := Cx.suiteT X a) (Inv.suiteT J3 a) g1 g3 g4 q g5 g2
    refine named (meets.here ?_)
    cases b with
    | false =>
      show wpAny _ X.A (handleBy (.ref a) X.env []) _ _ _
      refine wpAny_handleBy_nil ?_
      obtain ⟨_, _, _, oe, vs, Tb, oT, tvs, g1, g2, g3, g4, _⟩ := id fly
      unfold PySem.passOn
      refine wpAny_bind (wpAny_field g1 g3 g4 ?_)
      rw [if_neg (show ¬ ((Value.ref Tb == Value.none) = true) from by simp)]
      have on : wpAny (model X.prog X.w) X.A (setFlight (.ref a) X.env.frame) (fun _ s4 => wpAny (model X.prog X.w) X.A (throw (.ref a) : PySem.Sem Flow) (SP X pins D) X.xe s4) X.xe { sx with heap := h3 } := by
        rw [e2]
        exact HandSPX.setFlight_upZ fly fun h4 held up4 => wpAny_throw (tk _ _ ⟨a, B, sI, pins, σ1, H1, cls, d, rfl, J, nb, (up.trans up3).trans up4, .inr (.inr (by rw [e1]; exact held)), na, os, ag, no rfl⟩)
      first
        | exact wpAny_bind (wpAny_pure (wpAny_bind on))
        | exact wpAny_bind on
    | true =>
      refine codeAny_handlers_suite_as (HandSPX.lands_againZ fly fun h4 fly4 up4 => ?_)
      obtain ⟨o4, vs4, get4, z4, dat4⟩ := fly4.there
      have J4 : Inv X pins σ1 (upd H1 a (ExC cls d a)) { sx with heap := h4 } :=
        Inv.landedT (sx := { sx with heap := h4 }) J nb fly4.1 ((up.trans up3).trans up4) os ag newA na (exC_ok (h := h4) get4 z4 dat4)
      have loc : Loc X.env.scope n := .inl hl
      refine store_ok (X := Cx.suiteT X a) (v := .ref a) (Inv.suiteT J4 a) nd hi loc rfl (fun s5 S5 => ?_) (.inr hl)
      refine wpAny_mono ((hsu a cls d).run pins s5 _ _ _ S5 (yes rfl a na)) (fun fl s6 en => ?_) (fun _ _ z => False.elim z)
      have fin : ∀ {σ6 : L2.St} {H6 : Hp} {Q : Shared → Prop}, Inv (Cx.suiteT X a) pins σ6 H6 s6 → (∀ s7, Inv X pins (σ6.set i none) H6 s7 → Q s7) →
          wpAny (model X.prog X.w) X.A (do bindName X.env n .none; unbindBehindTheSuite X.env n hpos) (fun _ s7 => Q s7) X.xe s6 := fun {σ6 H6 Q} S6 hq => gone_ok (Inv.unsuiteT xok S6) nd hi hl hq
      cases fl with
      | next => obtain ⟨σ6, H6, S6, q⟩ := en; exact fin S6 fun s7 J7 => ⟨_, _, J7, q⟩
      | brk => obtain ⟨σ6, H6, S6, q⟩ := en; exact fin S6 fun s7 J7 => ⟨_, _, J7, q⟩
      | cont => obtain ⟨σ6, H6, S6, q⟩ := en; exact fin S6 fun s7 J7 => ⟨_, _, J7, q⟩
      | ret u => obtain ⟨y, σ6, H6, S6, r, q⟩ := en; exact fin S6 fun s7 J7 => ⟨_, _, _, J7, r, q⟩
end
end VS

set_option Elab.async false
set_option linter.all false
set_option maxRecDepth 100000
set_option maxHeartbeats 2000000
/-! VW18: raise X('..'); a def that calls what it gets under a try, handed a lambda. -/
namespace VS
open PySem PySem.Spec PyProof.Rows L2
/-! ### raise -/
/-- an own class of errors without an __init__ of its own -/
structure ErrC (K : PySem.W.Frag) (mg : Str → Option Value) (x : Str) : Prop where
  ex : ∃ C : Addr, GlbAt K x C ∧ mg x = some (.ref C) ∧ PySem.W.excIn K C [.type "ValueError", .type "Exception", .type "BaseException", .type "object"] "ValueError.__new__" = true ∧ PySem.W.keepIn K (.ref C) = true ∧
    PySem.W.subIn K (.ref C) (.type "BaseException") = some true ∧ PySem.W.typeIn K (.ref C) = some (.type "type")
def mRaise (x : Str) : MS := fun ρ w => .ex (.exc x [] []) ρ w
theorem ds_raise {X : Cx} {Z : ZT} {W : Option WX} {x m : Str} {j : Nat} {p p2 pos rpos : Pos} (C : ErrC X.K X.mg x) (hc : X.calm = true) (tk : TakesO X W) (hg : Gl X x := by rfl) (hdb : (x == ("__debug__" : Str)) = false := by decide) :
    PS X (.Raise (some (.Call (.Name x p) [.Constant (.str m) j p2] [] pos)) none rpos) (rdS (X.K, Z) W (mRaise x)) := by
  obtain ⟨C, g, hm, xc, kp, sub, ty⟩ := C.ex
  cases W with
  | none => exact PS_imp ps_never fun D σ H => by rintro ⟨hd, φ, ρ, w, sr, wr, p⟩; exact p.elim
  | some W =>
    refine PS_imp (ps_raise hc tk (pmk_own PySem.F.excBase_ValueError xc hm kp (raises_own sub ty) hg hdb)) fun D σ H => ?_
    rintro ⟨hd, φ, ρ, w, sr, wr, p⟩
    exact p H φ σ Ext.refl wr sr _ _ ⟨x, [], [], C, rfl, rfl, g, .inl ⟨rfl, rfl, rfl⟩⟩
/-! ### the def that calls what it gets -/
/-- its words -/
abbrev caughtB (S : Str) (p1 p2 p3 p4 p5 p6 p7 p8 p9 p10 p11 p12 p13 p14 : Pos) (j : Nat) : List Stmt :=
  [.Assign [.Name "caught" p1] (.Constant .none j p2) p3,
   .Try [.Expr (.Call (.Name "work" p4) [] [] p5) p6] [.ExceptHandler (some (.Name S p7)) (some "error") [.Assign [.Name "caught" p8] (.Name "error" p9) p10] p11] [] [] p12,
   .Return (some (.Name "caught" p13)) p14]
structure CaughtT (st : Stmt) (S : Str) : Prop where
  sc : FnScope ["work", "caught", "error"] ["work"] (defScope st)
  lw : (defScope st).names.lookup ("work" : Str) = some .local
  lc : (defScope st).names.lookup ("caught" : Str) = some .local
  le : (defScope st).names.lookup ("error" : Str) = some .local
  ls : (defScope st).names.lookup S = some .globalImplicit
  hd : (S == ("__debug__" : Str)) = false
  body : ∃ p1 p2 p3 p4 p5 p6 p7 p8 p9 p10 p11 p12 p13 p14 j, defBody st = caughtB S p1 p2 p3 p4 p5 p6 p7 p8 p9 p10 p11 p12 p13 p14 j
theorem takes_len {X : Cx} {W : WX} (t : Takes X W) : Takes X (fun cls d σ H => σ.length = X.N.length → W cls d σ H) := fun u s' ⟨a, B, sI, pins, σ, H, cls, d, e, I, nb, up, sky, na, os, ag, w⟩ =>
  t u s' ⟨a, B, sI, pins, σ, H, cls, d, e, I, nb, up, sky, na, os, ag, w I.len⟩
/-- told of what it is handed: nothing raised, or the error -/
def TTc (K : PySem.W.Frag) (CS : Addr) : (XK → Hp → VK → Prop) → Hp → VK → Prop := fun tl H Q =>
  tl (fun cls d H' => PySem.W.exmOne K cls (.ref CS) = some true ∧ ∀ a, H' a = none → Q (.ref a) (upd H' a (ExC cls d a))) H fun _ H' => Q .non H'
/-- a reading with a wish of its own -/
theorem PE_up {X : Cx} {e : Expr} {t : TE} (h : PE X e t) : PE X e (fun σ H Q => ∃ Q' : VK, t σ H Q' ∧ ∀ v H', Q' v H' → Q v H') := ⟨fun pins s σ H Q I ⟨Q', h1, h2⟩ =>
  wpAny_mono (h.run pins s σ H Q' I h1) (fun u s1 ⟨v, H1, I1, r1, q1⟩ => ⟨v, H1, I1, r1, h2 v H1 q1⟩) fun _ _ z => z⟩
theorem caught_gives {X : Cx} {st : Stmt} {S q : Str} {g CS : Addr} {cdg : Value} (T : CaughtT st S) (hm : X.mg S = some (.ref CS)) : LamX.GivesTo X ["work", "caught", "error"] "_law_caught" (defScope st) g cdg (defBody st) "work" q (TTc X.K CS) := by
  obtain ⟨p1, p2, p3, p4, p5, p6, p7, p8, p9, p10, p11, p12, p13, p14, j, hB⟩ := T.body
  intro f c' s H Q tl act hc h
  rw [hB]
  refine ⟨_, pss_cons (ps_set (i := 1) T.sc.nd rfl (.inl T.lc) pe_non (by rfl) (.inr T.lc)) (pss_cons (ps_try_asT (i := 2) (c := .ref CS) (Wout := fun _ _ _ _ => False)
      (tb := fun W D σ H => ∃ Ech : XK, (∀ cls d (σ' : L2.St) H', Ech cls d H' → σ'.length = 3 → W cls d σ' H') ∧ ∃ Q' : VK, (σ[0]? = some (some (.ref f)) ∧ H c' = some (LamX.CodeO c' q) ∧ tl Ech H Q') ∧ ∀ v H1, Q' v H1 → D.nx σ H1)
      (ts := fun a cls d => tAsg (tVar 2) (gName 1)) rfl rfl T.sc.nd rfl T.le ⟨T.ls, T.hd, .inl hm⟩ takes0 (fun W pn xe tk _ => ?_) (fun a cls d => ?_)) (pss_one (ps_ret (pe_var (i := 1) rfl (.inl T.lc))))), ?_⟩
  · refine ⟨fun pins s' σ H' D I h' => ?_⟩
    obtain ⟨Ech, hW, h1⟩ := h'
    have hp := act _ pn xe Ech p4 p5 (takes_len tk) (fun cls d σ' H' e hl => hW cls d σ' H' e hl)
    exact (pss_one (ps_expr (PE_up hp) (by rfl))).run pins s' σ H' D I h1
  · exact pss_one (ps_set (i := 1) T.sc.nd rfl (.inl T.lc) (pe_var (i := 2) rfl (.inl T.le)) (by rfl) (.inr T.lc))
  · refine ⟨fun cls d H' => PySem.W.exmOne X.K cls (.ref CS) = some true ∧ ∀ a, H' a = none → Q (.ref a) (upd H' a (ExC cls d a)), fun cls d σ' H' hE hl => ⟨true, hE.1, (fun z => nomatch z), fun _ a ha => ?_⟩, _, ⟨rfl, hc, h⟩, fun _ H1 hq => ⟨_, rfl, hq⟩⟩
    match σ', hl with
    | [x, y, z], _ => exact ⟨_, rfl, _, rfl, hE.2 a ha⟩
end VS

set_option Elab.async false
set_option linter.all false
set_option maxRecDepth 100000
set_option maxHeartbeats 2000000
/-! VW19: _law_caught(lambda: e); isinstance of an error. -/
namespace VS
open PySem PySem.Spec PyProof.Rows L2
/-- a def's code object and its table, in which the lambdas of the name q are kept -/
structure LamAt (Z : ZT) (base : Heap) (mg : Str → Option Value) (cd : Value) (q : Str) : Prop where
  ex : ∃ c P, cd = .ref c ∧ LamX.TabB base mg c P ∧ (P, q) ∈ Z.1 ∧ ∀ p ∈ Z.1, p.1 = P → p.2 = q
/-- the def that calls what it gets under a try; cs: the errors that it catches -/
structure CaughtD (K : PySem.W.Frag) (mg : Str → Option Value) (cs : List Str) : Prop where
  ex : ∃ (st : Stmt) (S : Str) (g CS : Addr) (oc : Value) (od an : Option Addr) (sl : Array (Option Value)) (kV dc pm cd ct : Value), CaughtT st S ∧ mg "_law_caught" = some (.ref g) ∧ PySem.W.keepIn K (.ref g) = true ∧
    K.lookup g = some ⟨oc, od, .func (PySem.W.fnOf "_law_caught" "_law_caught" (defArgs st) (defBody st) (defScope st) .none kV dc pm an cd ct), sl⟩ ∧ PySem.W.codeIn K cd "_law_caught" = true ∧
    L2.Binds K (PySem.W.fnOf "_law_caught" "_law_caught" (defArgs st) (defBody st) (defScope st) .none kV dc pm an cd ct) ["work"] [] ∧ mg S = some (.ref CS) ∧ ∀ x ∈ cs, ∀ C, GlbAt K x C → PySem.W.exmOne K (.ref C) (.ref CS) = some true
def mCaught (cs : List Str) (m : ME) : ME := fun ρ w => match m ρ w with
  | .ok _ w' => .ok .non w'
  | .ex (.exc x ks ts) _ w' => if x ∈ cs then .ok (.exc x ks ts) w' else .no
  | _ => .no
theorem rep_exc {K : KT} {hd φ : List Addr} {H : Hp} {w : World} {x : Str} {ks : List Str} {ts : List T} {cls : Value} {d : Option Addr} {a : Addr} (wr : WR K hd φ H w) (h : RepX K hd φ H (.exc x ks ts) cls d) (ha : H a = none) :
    Ext hd φ H hd φ (upd H a (ExC cls d a)) ∧ WR K hd φ (upd H a (ExC cls d a)) w ∧ Rep K hd φ (upd H a (ExC cls d a)) (.exc x ks ts) (.ref a) := by
  have e : Ext hd φ H hd φ (upd H a (ExC cls d a)) := Ext.new ha
  refine ⟨e, wr.new ha, ?_⟩
  obtain ⟨x', ks', ts', C, e1, e2, g, q⟩ := h
  cases e1
  subst e2
  unfold Rep
  refine ⟨a, C, d, rfl, g, ⟨upd_same, wr.nin ha⟩, ?_⟩
  rcases q with q | ⟨dd, vs, e3, l, n, r⟩
  · exact .inl q
  · exact .inr ⟨dd, vs, e3, l, n.mono e (fun _ z => nomatch z), r.mono e⟩
theorem de_caught {X : Cx} {Z : ZT} {W : Option WX} {cs : List Str} {m : ME} {k : Nat} {params : Arguments} {body : Expr} {scope : Scope} {p lpos pos : Pos} (D : CaughtD X.K X.mg cs) (L : LamAt Z X.base X.mg X.env.code (X.env.qual ++ "<lambda>")) (hr : Room (k + 2) X.A)
    (hbody : ∀ (A : Around) (outer : List PySem.Env) (s : Shared) (H : Hp) (E : XK) (f c' : Addr), Room k (A.deeper (LamX.lamEnv X scope s.heap.objs.size f c')) → TakesO (LamX.lamCx X A outer s H E scope f c') (some fun cls d _ H => E cls d H) →
      PE (LamX.lamCx X A outer s H E scope f c') body (rdE (X.K, Z) (some fun cls d _ H => E cls d H) m))
    (LS : LamX.lamSB X.env.scope scope = true := by decide +kernel) (hg : Gl X "_law_caught" := by rfl) (hdef : defaultsOf params X.env = ([], []) := by rfl)
    (hbind : ∀ (q : Str) (cl : List (Str × Addr)) (pm cv ctv : Value), bindArgs (PySem.W.kla_fn "<lambda>" q params body scope cl pm cv ctv) ⟨[], []⟩ = pure [] := by intro _ _ _ _ _; rfl) :
    PE X (.Call (.Name "_law_caught" p) [.Lambda params body scope lpos] [] pos) (rdE (X.K, Z) W (mCaught cs m)) := by
  obtain ⟨st, S, g, CS, oc, od, an, sl, kV, dc, pm, cd, ct, T, hm, kp, lk, hcd, hb, hS, hx⟩ := D.ex
  obtain ⟨c, P, hcode, TB, mZ, uZ⟩ := L.ex
  refine PE_imp (LamX.pe_lamcall (T := Z.1) (TT := TTc X.K CS) (t := fun E => rdE (X.K, Z) (some fun cls d _ H => E cls d H) m) hg hm kp lk hcd hb T.sc rfl (.inl T.lw) (caught_gives T hS) TB hcode mZ uZ hr (LamX.lamS_by LS) hdef hbind
    (fun A outer s H E f c' hr' => hbody A outer s H E f c' hr' (show Takes _ _ from takes_of rfl rfl rfl rfl))) fun σ H Q => ?_
  rintro ⟨hd, φ, ρ, w, sr, wr, q⟩
  refine ⟨wr.tabs, fun H1 eN T1 => ?_⟩
  have e1 : Ext hd φ H hd φ H1 := Ext.tables eN
  have wr1 : WR (X.K, Z) hd φ H1 w := wr.tables eN T1
  refine ⟨hd, φ, ρ, w, sr.mono e1, wr1, ?_⟩
  unfold mCaught at q
  cases hq : m ρ w with
  | no => rw [hq] at q; exact q.elim
  | ok t w' =>
    rw [hq] at q
    intro H' φ' e' wr' v rv
    exact q H' φ' (e1.trans e') wr' .non (by unfold Rep; rfl)
  | ex t ρ' w' =>
    rw [hq] at q
    cases t with
    | exc x ks ts =>
      simp only at q
      split at q
      · rename_i hin
        intro H' φ' σ' e' wr' _ cls d rx
        refine ⟨?_, fun a ha => ?_⟩
        · obtain ⟨x', ks', ts', C, z1, z2, gl, _⟩ := rx
          cases z1
          subst z2
          exact hx x hin C gl
        · obtain ⟨e2, wr2, r2⟩ := rep_exc wr' rx ha
          exact q _ _ ((e1.trans e').trans e2) wr2 _ r2
      · exact q.elim
    | _ => exact q.elim
/-! ### isinstance(e, X) -/
/-- what isinstance must know of the error's class -/
structure IsE (K : PySem.W.Frag) (x : Str) : Prop where
  ex : ∀ C, GlbAt K x C → ExcC K C
theorem inst_of {H : Hp} {P : Program} {wd : PySem.World} {h : Heap} {C a : Addr} (x : ObjOk P wd H h a (ExC (.ref C) none a)) : ∃ oe, PySem.W.InstAt h a oe C none := by
  obtain ⟨⟨oe, vs, h1, h2, h3⟩, _⟩ := x
  obtain ⟨oc, od, oda, osl⟩ := oe
  obtain ⟨z1, z2⟩ := h2
  dsimp only at z1 z2 h3
  subst z1 z2 h3
  exact ⟨_, h1, rfl, rfl, trivial⟩
/-- isinstance(e, c): e a known error, c an own class -/
def rIsX (K : PySem.W.Frag) : List V → Hp → VK → Prop := fun xs H Q => ∃ (a D C : Addr) (b : Bool), xs = [.ref a, .ref C] ∧ H a = some (ExC (.ref D) none a) ∧ ExcC K D ∧ PySem.W.kitOne K (.ref D) (.ref C) = some b ∧ Q (.bl b) H
theorem call_isX {X : Cx} : CallR X (.builtin "isinstance") (rIsX X.K) := by
  intro pins s σ H xs us Q I r h
  obtain ⟨a, D, C, b, rfl, ha, EC, e, q⟩ := h
  cases r with
  | cons rx rr =>
    cases rr with
    | cons rt rr =>
      cases rr
      cases rx
      cases rt
      obtain ⟨oe, J⟩ := inst_of (I.hok a _ ha)
      exact PySem.W.kia_one (PySem.W.handS_kitx_exc EC.hg EC.hk EC.hs EC.hd EC.ha EC.hn EC.ht EC.hm) I.kIn J e (fun z => nomatch z) fun tk => ⟨.bl b, H, I.kept (t' := tk) fun _ _ z => z, rfl, q⟩
end VS

set_option Elab.async false
set_option linter.all false
set_option maxRecDepth 100000
set_option maxHeartbeats 2000000
/-! VW20: sorted(set(xs)), xs a list of ints. -/
namespace VS
open PySem PySem.Spec PyProof.Rows L2
section
variable {P : Program} {w : PySem.World} {A : Around} {E : Value → Shared → Prop} {s : Shared}
/-- a set, just made -/
abbrev emptyO (w : PySem.World) : Obj := { cls := .type "set", dict := none, data := .set #[] 0 (.fresh 0 0 (!w.params.followText "set-order")) }
set_option maxHeartbeats 4000000 in
/-- set(xs): its members are those of the list -/
theorem set_of_ints {l : Addr} {items : Array Value} (ns : List Int) {Q : Value → Shared → Prop} (nh : A.handled = none) (isl : s.heap.IsList l items) (its : IntsAre items.toList ns) (few : ns.length + 1 < scanBound)
    (k : ∀ (g : Heap) (tok n : Nat), SetR w g s.heap.objs.size (fun j => decide (j ∈ ns)) n → n ≤ ns.length → (∀ b o, s.heap.get? b = some o → g.get? b = some o) → Q (.ref s.heap.objs.size) { s with heap := g, toks := tok }) :
    wpAny (model P w) A (call (.type "set") [.ref l]) Q E s := by
  have sz : items.size = ns.length := by have q := IntsAre.length its; rwa [Array.length_toList] at q
  obtain ⟨c, tl, hmro⟩ := F.called_set.mro
  have f1 := F.called_set.made
  have f2 := F.called_set.sub
  have f3 := F.called_set.notType
  have f4 := F.called_set.canCreate
  have f5 := F.typeCall_set_1 (.ref l)
  refine wpAny_call (codeAny_of_tree ?_)
  show wpAny _ _ (callAny (.type "set") ⟨[.ref l], []⟩) _ _ _
  refine wpAny_pure ⟨Code.quiet_builtin _ (by decide +kernel), codeAny_builtin F.entry_type_call ?_⟩
  rw [Around.under_plain (weight_type_call_type "set" [.ref l] []) rfl]
  repeat (any_goals (first | assumption | wp_step))
  refine codeAny_mono (code_set_led1 (.ref l) (E := E) (Q₁ := fun obj s₁ => obj = .ref s.heap.objs.size ∧ s₁ = { s with heap := s.heap.push (emptyO w) }) ⟨rfl, rfl⟩) fun r sn hr => ?_
  match r, hr with
  | .error e, hr => exact hr
  | .ok (.ret obj), hr =>
    obtain ⟨rfl, rfl⟩ := hr
    have atS : (s.heap.push (emptyO w)).get? s.heap.objs.size = some (emptyO w) := Heap.get?_push_size _ rfl
    have tyS : Shared.TypeIs { s with heap := s.heap.push (emptyO w) } (.ref s.heap.objs.size) "set" := ⟨_, atS, rfl⟩
    have g1 := F.called_set.init.lookup
    have g2 := F.called_set.init.bind (.ref s.heap.objs.size)
    repeat (any_goals (first | assumption | wp_step))
    refine codeAny_mono (codeAny_call_builtin (R := wants (fun r sm => r = .none ∧ ∃ g tok n, sm = { s with heap := g, toks := tok } ∧ SetR w g s.heap.objs.size (fun j => decide (j ∈ ns)) n ∧ n ≤ ns.length ∧
        (∀ b o, s.heap.get? b = some o → g.get? b = some o)) E) F.called_set.init.plain F.entry_set_init (check_set_init_1 tyS ?_)) fun r2 sm hr2 => ?_
    · obtain ⟨ol, hol, hcl, nl, hdl⟩ := isl
      obtain ⟨ocls, odict, odata, oslots⟩ := ol
      simp only at hcl hdl
      subst hcl hdl
      have ltl : l < s.heap.objs.size := Heap.lt_size hol
      have hol1 : (s.heap.push (emptyO w)).get? l = some { cls := .type "list", dict := odict, data := .seq items nl, slots := oslots } := Heap.get?_push_of_some _ hol
      have isl1 : (s.heap.push (emptyO w)).IsList l items := ⟨_, hol1, rfl, nl, rfl⟩
      have n1 := F.sub_list_set
      have n2 := F.sub_list_frozenset
      have n3 : (Value.type "list" == Value.type "dict") = false := by decide
      unfold Builtin.«set.__init__» noKeywords Builtin.Frozenset.updateFrom
      generalize hPI : pyIter = PI
      wp_walk
      subst hPI
      refine wpAny_pyIter_list isl1 (wpAny_bind (wpAny_runValue ?_))
      have nh3 : A.in1.in1.in1.handled = none := by simp [nh]
      have szP : (s.heap.push (emptyO w)).objs.size = s.heap.objs.size + 1 := Heap.size_push ..
      have neI : l ≠ (s.heap.push (emptyO w)).objs.size := by rw [szP]; exact Nat.ne_of_lt (Nat.lt_succ_of_lt ltl)
      have offS : s.heap.objs.size ∉ [(s.heap.push (emptyO w)).objs.size, l] := by
        rw [szP]
        simp only [List.mem_cons, List.not_mem_nil, or_false, not_or]
        exact ⟨Nat.ne_of_lt (Nat.lt_succ_self _), Nat.ne_of_gt ltl⟩
      have vals : ∀ (i : Nat) (v : Value), items[i]? = some v → ∃ z t, ns[i]? = some z ∧ v = .int z t := fun i v hv => by
        have hi : i < ns.length := by rw [← sz]; exact (Array.getElem?_eq_some_iff.mp hv).1
        obtain ⟨t, e⟩ := PyProof.Rows.IntsAre.int_at its i v (by rw [Array.getElem?_toList]; exact hv)
        refine ⟨ns[i], t, List.getElem?_eq_getElem hi, ?_⟩
        rw [e, List.getD_eq_getElem?_getD, List.getElem?_eq_getElem hi] <;> rfl
      refine set_update_ints ((Walks.list nh3 _ l neI items).toS) s.heap.objs.size offS ns sz few vals (items.size - 0) 0 _ (by omega) (Nat.zero_le _)
        ⟨⟨_, Heap.get?_push_size _ rfl, rfl, rfl⟩, isl1.push _⟩ ⟨0, Nat.le_refl 0, setR_new_at (Heap.get?_push_of_some _ atS)⟩ ?hR
      case hR =>
        intro sx n hm hn hS
        obtain ⟨gx, g2, dx, tx, ox⟩ := sx
        have eg : g2 = s.gens := hm.gens
        have ed : dx = s.drawn := hm.drawn
        have eo : ox = s.os := hm.os
        subst eg ed eo
        show wpAny _ _ _ _ _ _
        refine wpAny_pure ?_
        show wpAny _ _ (ret Value.none) _ _ _
        refine wpAny_pure ⟨rfl, gx, tx, n, rfl, hS, by rw [← sz]; exact hn, fun b o e => ?_⟩
        have hb : b < s.heap.objs.size := Heap.lt_size e
        refine hm.heap b o ?_ (Heap.get?_push_of_some _ (Heap.get?_push_of_some _ e))
        rw [szP]
        simp only [List.mem_cons, List.not_mem_nil, or_false, not_or]
        exact ⟨Nat.ne_of_lt hb, Nat.ne_of_lt (Nat.lt_succ_of_lt hb)⟩
    · match r2, hr2 with
      | .error e, hr2 => exact hr2
      | .ok (.ret r), hr2 =>
        obtain ⟨rfl, g, tok, n, rfl, a1, a2, a3⟩ := hr2
        repeat (any_goals (first | assumption | wp_step))
        exact k _ _ _ a1 a2 a3
end
/-! ### sorted(set(xs)) -/
variable {X : Cx} {a : Expr} {pos p p2 q : Pos} {Z : ZT} {W : Option WX} {m0 : ME}
def tSortSet (K : PySem.W.Frag) (ta : TE) : TE := fun σ H Q => ta σ H fun x H1 => ∃ (l : Addr) (ns : List Int), x = .ref l ∧ SqL K H1 l (ns.map V.int) ∧ ns.length < 64 ∧ ∀ (ms : List Int) (b : Addr), ms.Pairwise (· < ·) → (∀ k, k ∈ ms ↔ k ∈ ns) → H1 b = none → Q (.ref b) (upd H1 b (.lst (ms.map V.int)))
theorem pe_sortSet {ta : TE} (hg : Gl X "sorted") (hm : X.mg "sorted" = none) (hg2 : Gl X "set") (hm2 : X.mg "set" = none) (ha : PE X a ta) (hc : X.calm = true := by rfl)
    (na : starEach [a] X.env = (false, eval a X.env) :: starEach [] X.env := by rfl) : PE X (.Call (.Name "sorted" p) [.Call (.Name "set" p2) [a] [] q] [] pos) (tSortSet X.K ta) := by
  refine ⟨fun pins s σ H Q I h => ?_⟩
  refine Call_ (ld_blt I hg hm (show bootBuiltins ("sorted" : Str) = some (.builtin "sorted") by decide +kernel) ?_)
  refine PyProof.Rows.callWith_builtin1 (PyProof.Rows.args_cons ?_ rfl) rfl rfl
  refine Call_ (ld_blt I hg2 hm2 boot_set ?_)
  refine PyProof.Rows.callWith_type1 (PyProof.Rows.args_cons (thn (ha.run pins s σ H _ I h) fun v s1 ⟨x, H1, I1, r1, q1⟩ => PyProof.Rows.args_nil ?_) na) na rfl
  obtain ⟨l, ns, rfl, hq, hl, q1⟩ := q1
  cases r1
  obtain ⟨its, r, pl, hz⟩ := I1.list hq
  refine set_of_ints ns (I1.ok.hd hc) pl.isList (by simpa using RZ.intsAre_vals r) (by unfold scanBound; omega) fun g tok n R hn hk => ?_
  refine PyProof.Rows.args_nil ?_
  have I2 : Inv X pins σ H1 { s1 with heap := g, toks := tok } := I1.kept hk
  refine sorted_set (s := { s1 with heap := g, toks := tok }) R (I2.ok.hd hc) (by omega) fun s' b out c ms k eg eo hp hget hi hs hm hlen => ?_
  have hn : H1 b = none := I2.hok.fresh hp
  have J : Inv X pins σ (upd H1 b (.lst (ms.map V.int))) { s1 with heap := s'.heap, gens := s'.gens, drawn := s'.drawn, toks := s'.toks } :=
    Inv.call (s := { s1 with heap := g, toks := tok }) (ch := []) I2 (Un.laid (h := g) k hp hn) (I2.hok.laid k hp ⟨by rw [List.length_map, hlen, sizeLine_eq]; omega, out.toList, c, vals_of_ints hi, hget⟩) (by rw [eg]; exact I2.bare) (fun _ z => nomatch z)
  have e : s' = { s1 with heap := s'.heap, gens := s'.gens, drawn := s'.drawn, toks := s'.toks } := by
    obtain ⟨_, _, _, _, _⟩ := s'
    simp only at eo
    subst eo
    rfl
  rw [e]
  exact ⟨.ref b, _, J, rfl, q1 ms b hs (fun j => (hm j).trans (by simp)) hn⟩
/-- the members, rising -/
def riseI (ns : List Int) : List Int := ns.foldr insI []
where insI (i : Int) : List Int → List Int
  | [] => [i]
  | j :: js => if i < j then i :: j :: js else if i = j then j :: js else j :: insI i js
theorem insI_mem {i k : Int} : ∀ {l : List Int}, k ∈ riseI.insI i l ↔ k = i ∨ k ∈ l
  | [] => by unfold riseI.insI; simp
  | j :: js => by
    unfold riseI.insI
    split
    · simp
    · split
      · rename_i h; subst h; simp
      · rw [List.mem_cons, insI_mem, List.mem_cons]
        constructor
        · rintro (h | h | h) <;> simp [h]
        · rintro (h | h | h) <;> simp [h]
theorem insI_rise {i : Int} : ∀ {l : List Int}, l.Pairwise (· < ·) → (riseI.insI i l).Pairwise (· < ·)
  | [], _ => by unfold riseI.insI; simp
  | j :: js, h => by
    unfold riseI.insI
    rw [List.pairwise_cons] at h
    split
    · rename_i hij
      rw [List.pairwise_cons, List.pairwise_cons]
      exact ⟨fun b hb => by rcases List.mem_cons.mp hb with rfl | hb; exact hij; exact Int.lt_trans hij (h.1 b hb), h⟩
    · split
      · rw [List.pairwise_cons]; exact h
      · rename_i h1 h2
        rw [List.pairwise_cons]
        refine ⟨fun b hb => ?_, insI_rise h.2⟩
        rcases insI_mem.mp hb with rfl | hb
        · omega
        · exact h.1 b hb
theorem rise_mem {k : Int} : ∀ {ns : List Int}, k ∈ riseI ns ↔ k ∈ ns
  | [] => by unfold riseI; simp
  | n :: ns => by
    show k ∈ riseI.insI n (riseI ns) ↔ _
    rw [insI_mem, rise_mem, List.mem_cons]
theorem rise_rise : ∀ ns : List Int, (riseI ns).Pairwise (· < ·)
  | [] => List.Pairwise.nil
  | n :: ns => insI_rise (rise_rise ns)
theorem rise_unique {as bs : List Int} (ha : as.Pairwise (· < ·)) (hb : bs.Pairwise (· < ·)) (h : ∀ k, k ∈ as ↔ k ∈ bs) : as = bs := by
  induction as generalizing bs with
  | nil =>
    cases bs with
    | nil => rfl
    | cons b bs => exact absurd ((h b).mpr List.mem_cons_self) (by simp)
  | cons a as ih =>
    cases bs with
    | nil => exact absurd ((h a).mp List.mem_cons_self) (by simp)
    | cons b bs =>
      rw [List.pairwise_cons] at ha hb
      have e : a = b := by
        rcases List.mem_cons.mp ((h a).mp List.mem_cons_self) with z | z
        · exact z
        · rcases List.mem_cons.mp ((h b).mpr List.mem_cons_self) with y | y
          · exact y.symm
          · have := hb.1 a z; have := ha.1 b y; omega
      subst e
      rw [ih ha.2 hb.2 fun k => ?_]
      have hk := h k
      rw [List.mem_cons, List.mem_cons] at hk
      constructor
      · intro z
        rcases hk.mp (.inr z) with y | y
        · have := ha.1 k z; omega
        · exact y
      · intro z
        rcases hk.mpr (.inr z) with y | y
        · have := hb.1 k z; omega
        · exact y
def mSortSet (m : ME) : MF := fun ρ w => (m ρ w).bind fun t w1 => match lst? w1 t with
  | some ts => match intsT ts with
    | some ns => if ns.length < 64 then .ok ((riseI ns).map T.int) w1 else .no
    | none => .no
  | none => .no
theorem df_sortSet (hm : X.mg "sorted" = none) (hm2 : X.mg "set" = none) (ha : PE X a (rdE (X.K, Z) W m0)) (hg : Gl X "sorted" := by rfl) (hg2 : Gl X "set" := by rfl) (hc : X.calm = true := by rfl)
    (na : starEach [a] X.env = (false, eval a X.env) :: starEach [] X.env := by rfl) : PE X (.Call (.Name "sorted" p) [.Call (.Name "set" p2) [a] [] q] [] pos) (rdF (X.K, Z) W (mSortSet m0)) := PE_imp (pe_sortSet hg hm hg2 hm2 ha hc na) fun σ H Q => by
  rintro ⟨hd, φ, ρ, w, sr, wr, p⟩
  refine ⟨hd, φ, ρ, w, sr, wr, Pst.then isPstF p fun t w1 φ1 H1 e1 wr1 p1 v rv => ?_⟩
  cases h1 : lst? w1 t with
  | none => rw [h1] at p1; exact p1.elim
  | some ts =>
    cases h2 : intsT ts with
    | none => simp only [h1, h2] at p1; exact p1.elim
    | some ns =>
      simp only [h1, h2] at p1
      split at p1
      · rename_i hl
        obtain ⟨l, xs, rfl, g1, g2⟩ := lst_at wr1 rv h1
        have e := intV_at g2 h2
        subst e
        refine ⟨l, ns, rfl, SqL.of g1, hl, fun ms b hs hm hb => ?_⟩
        have e := rise_unique hs (rise_rise ns) fun k => (hm k).trans rise_mem.symm
        subst e
        exact p1.new wr1 (reps_ints _) b hb
      · exact p1.elim
end VS

set_option Elab.async false
set_option linter.all false
set_option maxRecDepth 100000
set_option maxHeartbeats 2000000
/-! VW21: sorted(xs) of data that can be compared, xs a list or a tuple. -/
namespace VS
open PySem PySem.Spec PyProof.Rows L2
mutual
theorem reads_in {h : Heap} : ∀ {v : Value} {d : PyData} {as : List Addr}, Reads h v d as → ∀ x ∈ as, x < h.objs.size
  | _, _, _, .none, _, hx => absurd hx (by simp)
  | _, _, _, .bool _, _, hx => absurd hx (by simp)
  | _, _, _, .int _ _, _, hx => absurd hx (by simp)
  | _, _, _, .str _ _, _, hx => absurd hx (by simp)
  | _, _, _, .list h1 _ _ h4, x, hx => by
    rcases List.mem_cons.mp hx with rfl | hx
    · exact Heap.lt_size h1
    · exact readsAll_in h4 x hx
  | _, _, _, .tuple h1 _ _ h4, x, hx => readsAll_in h4 x hx
  | _, _, _, .dict h1 _ _ h4 h5, x, hx => by
    rcases List.mem_append.mp hx with hx | hx
    · rcases List.mem_cons.mp hx with rfl | hx
      · exact Heap.lt_size h1
      · exact readsAll_in h4 x hx
    · exact readsAll_in h5 x hx
theorem readsAll_in {h : Heap} : ∀ {vs : List Value} {ds : List PyData} {as : List Addr}, ReadsAll h vs ds as → ∀ x ∈ as, x < h.objs.size
  | _, _, _, .nil, _, hx => absurd hx (by simp)
  | _, _, _, .cons h1 h2, x, hx => by
    rcases List.mem_append.mp hx with hx | hx
    · exact reads_in h1 x hx
    · exact readsAll_in h2 x hx
end
section
variable {prog : Program} {w : PySem.World} {A : Around} {E : Value → Shared → Prop} {s : Shared} {β : Type} {R : Value → β → Prop} {enc : β → PyData} {vs : List Value} {bs : List β}
/-- sorted(xs), xs a list or a tuple -/
theorem sorted_seq {it : Addr} {ty : String} {o : Obj} {items : Array Value} {n : Nat} {Q : Value → Shared → Prop} (hT : ty = "list" ∨ ty = "tuple") (ho : s.heap.get? it = some o) (hc : o.cls = .type ty) (hd : o.data = .seq items n) (hi : items.toList = vs)
    (e : PySem.W.EachIs R vs bs) (er : PySem.W.EachIs (fun v b => ∃ as, Reads s.heap v (enc b) as) vs bs) (hal : PySem.W.AllAlike (bs.map enc)) (hk : PySem.W.Sortable (bs.map enc)) (hL : bs.length ≤ sizeLine)
    (hu : ∀ b, b ∈ bs → A.units + 2 + (enc b).depth < cLine)
    (k : ∀ (g : Heap) (p : Addr) (out : List Value) (ep : Nat), s.heap.get? p = none → (∀ b u, s.heap.get? b = some u → g.get? b = some u) → PySem.W.EachIs R out (bs.mergeSort (PySem.W.dataLe false enc)) → out.length = bs.length → g.get? p = some (seqObj "list" out.toArray ep) → Q (.ref p) { s with heap := g }) :
    wpAny (model prog w) A (call (.builtin "sorted") [.ref it]) Q E s := by
  have hlv : vs.length = bs.length := e.length
  refine Calls.call_function_entry kind_sorted plain_sorted entry_sorted (args_sorted1 _) ?_
  unfold Builtin.«sorted»
  refine wpAny_bind (m := checkCount "sorted" 1 1 _) (wpAny_pure ?_)
  refine wpAny_bind (wpAny_collect_seq it hT ho hc hd (fun g kg => ?_) (by rw [← Array.length_toList, hi, hlv]; exact hL))
  rw [hi]
  refine wpAny_bind (wpAny_newList ?_ (by rw [hlv]; exact hL))
  refine wpAny_bind (wpAny_holding ?_)
  have new : (g.push (seqObj "list" vs.toArray 0)).get? g.objs.size = some (seqObj "list" vs.toArray 0) := Heap.get?_push_size _ rfl
  have kept : ∀ b u, s.heap.get? b = some u → (g.push (seqObj "list" vs.toArray 0)).get? b = some u := fun b u q => Heap.get?_push_of_some _ (kg b u q)
  have gone : s.heap.get? g.objs.size = none := by
    cases q : s.heap.get? g.objs.size with
    | none => rfl
    | some u => exact absurd (Heap.lt_size (kg _ u q)) (Nat.lt_irrefl _)
  have er2 : PySem.W.EachIs (fun v b => ∃ as, Reads (g.push (seqObj "list" vs.toArray 0)) v (enc b) as ∧ g.objs.size ∉ as) vs bs := er.mono fun v b ⟨as, r⟩ =>
    ⟨as, PyProof.Rows.Reads.keeps kept r, fun hm => absurd (reads_in (PyProof.Rows.Reads.keeps kg r) _ hm) (Nat.lt_irrefl _)⟩
  refine PySem.W.list_sort_data (s := { s with heap := g.push (seqObj "list" vs.toArray 0) }) (n := 0) new e er2 hal hk hL hu fun out hl ho' => ?_
  show wpAny _ _ (ret (Value.ref g.objs.size)) _ _ _
  obtain ⟨ep, at_⟩ := sortedHeap_at (vs := vs) (out := out.toArray) new
  refine wpAny_pure ⟨_, rfl, k _ _ out ep gone (fun b u q => ?_) ho' hl at_⟩
  have hb : b < g.objs.size := Heap.lt_size (kg b u q)
  rw [sortedHeap_old (Nat.ne_of_lt hb) (by show b < (g.push _).objs.size; rw [Heap.size_push]; exact Nat.lt_succ_of_lt hb)]
  exact kept b u q
end
end VS

set_option Elab.async false
set_option linter.all false
set_option maxRecDepth 100000
set_option maxHeartbeats 2000000
/-! VW22: the module's classes; isinstance of an error by a table; the walk. -/
namespace VS
open PySem PySem.Spec PyProof.Rows L2
/-! ### a name of the module as a value -/
structure GlbD (K : PySem.W.Frag) (mg : Str → Option Value) (x : Str) : Prop where
  ex : ∃ a, mg x = some (.ref a) ∧ GlbAt K x a
theorem de_glb {X : Cx} {Z : ZT} {W : Option WX} {x : Str} {pos : Pos} (g : GlbD X.K X.mg x) (hg : Gl X x := by rfl) (hd : (x == ("__debug__" : Str)) = false := by decide) : PE X (.Name x pos) (rdE (X.K, Z) W (mC (.glb x))) := by
  obtain ⟨a, h1, h2⟩ := g.ex
  refine PE_imp (pe_glob hg h1 (v := .ref a) rfl hd) fun σ H Q => ?_
  rintro ⟨hd, φ, ρ, w, sr, wr, p⟩
  exact p.ok wr _ (by unfold Rep; exact ⟨a, rfl, h2⟩)
/-! ### own classes of errors -/
/-- what the written part says of the class x -/
structure ClsAt (K : PySem.W.Frag) (x : Str) (C : Addr) : Prop where
  c1 : PySem.W.nsIn K mainGlobals x = some (some (.ref C))
  c2 : PySem.W.keepIn K (.ref C) = true
  c3 : PySem.W.subIn K (.ref C) (.type "BaseException") = some true
  c4 : PySem.W.typeIn K (.ref C) = some (.type "type")
  c5 : PySem.W.hasDictIn K C = true
  c6 : PySem.W.isClsIn K C = true
  c7 : PySem.W.findIn K (.ref C) "__getattribute__" = some (some (.builtin "BaseException.__getattribute__"))
  c8 : PySem.W.findIn K (.ref C) "__getattr__" = some none
  c9 : PySem.W.findIn K (.ref C) "__class__" = some (some (.builtin "object.__class__"))
  c10 : PySem.W.mroIn K C (.type "object") = some true
  c11 : PySem.W.subIn K (.ref C) (.ref C) = some true
/-- what it says of an object's class -/
structure ObjG (K : PySem.W.Frag) : Prop where
  o1 : PySem.W.specialIn K (.builtin "object.__class__") "__get__" = some (some (.builtin "getset_descriptor.__get__"))
  o2 : PySem.W.takesIn K (.builtin "object.__class__") = some true
section
variable {K : PySem.W.Frag} {mg : Str → Option Value} {h : Heap} {x y : Str} {C D : Addr} {b : Bool}
theorem ClsAt.glb (q : ClsAt K x C) (X : K.In h) (G : h.Ns mainGlobals mg) : GlbD K mg x := ⟨C, PySem.W.mg_of X G q.c1, q.c1⟩
theorem At.glb {st : Stmt} {cd : Value} (a : At K x st cd) (X : K.In h) (G : h.Ns mainGlobals mg) : GlbD K mg x := by
  obtain ⟨f, _, _, _, _, _, _, _, _, h1, _⟩ := a.ex
  exact ⟨f, PySem.W.mg_of X G h1, h1⟩
theorem ClsAt.err (q : ClsAt K x C) (X : K.In h) (G : h.Ns mainGlobals mg) (e : PySem.W.excIn K C [.type "ValueError", .type "Exception", .type "BaseException", .type "object"] "ValueError.__new__" = true) : ErrC K mg x :=
  ⟨C, q.c1, PySem.W.mg_of X G q.c1, e, q.c2, q.c3, q.c4⟩
theorem ClsAt.exc (q : ClsAt K x C) (o : ObjG K) : ExcC K C := ⟨q.c7, q.c8, q.c3, q.c5, q.c9, o.o1, o.o2, q.c10⟩
theorem ClsAt.kit {t : Value} (q : ClsAt K x C) (s : PySem.W.subIn K t (.ref C) = some b) : PySem.W.kitOne K t (.ref C) = some b := by
  unfold PySem.W.kitOne
  split
  · rename_i e
    have e2 : t = .ref C := by
      cases t with
      | ref a => exact congrArg Value.ref (by simpa using e)
      | _ => exact absurd e (by first | decide | (intro z; cases z) | simp)
    subst e2
    exact q.c11.symm.trans s
  · unfold PySem.W.kitCls
    have e : ((PySem.W.clsIn K C).isSome && PySem.W.typeIn K (.ref C) == some (.type "type")) = true := by
      have := q.c6
      unfold PySem.W.isClsIn at this
      rw [this, q.c4]
      rfl
    simp only [e, if_true]
    exact s
theorem ClsAt.caught (q : ClsAt K x C) (S : ClsAt K y D) (s : PySem.W.subIn K (.ref C) (.ref D) = some true) : ∀ C', GlbAt K x C' → PySem.W.exmOne K (.ref C') (.ref D) = some true := fun C' g => by
  have e : C' = C := GlbAt.inj g q.c1
  subst e
  exact PySem.W.exm_ref S.c3 S.c5 S.c4 s
theorem caughtD_mk {st : Stmt} {cd : Value} {S : Str} {CS : Addr} {cs : List Str} (a : At K "_law_caught" st cd) (X : K.In h) (G : h.Ns mainGlobals mg) (T : CaughtT st S) (q : ClsAt K S CS) (hx : ∀ x ∈ cs, ∀ C, GlbAt K x C → PySem.W.exmOne K (.ref C) (.ref CS) = some true)
    (hb : ∀ (kV doc pm : Value) (an : Option Addr) (cdv ct : Value) (us : List Value), us.length = 1 → bindArgs (PySem.W.fnOf "_law_caught" "_law_caught" (defArgs st) (defBody st) (defScope st) .none kV doc pm an cdv ct) ⟨us, []⟩ = pure ([("work" : Str)].zip us)) : CaughtD K mg cs := by
  obtain ⟨f, oc, od, an, sl, kV, dc, pm, ct, h1, h2, h3, h4⟩ := a.ex
  exact ⟨st, S, f, CS, oc, od, an, sl, kV, dc, pm, cd, ct, T, PySem.W.mg_of X G h1, h4, h2, h3, (fun_mk (st := st) h2 h3 h4).binds hb, PySem.W.mg_of X G q.c1, hx⟩
end
/-! ### isinstance of an error, by a table -/
def lookB : List (Str × Str × Bool) → Str → Str → Option Bool
  | [], _, _ => none
  | (a, b, v) :: r, x, c => if a = x ∧ b = c then some v else lookB r x c
/-- a row: the class of the error ("" for None), the class asked of, the answer -/
def IsRow (K : PySem.W.Frag) (r : Str × Str × Bool) : Prop := ∃ C, GlbAt K r.2.1 C ∧ if r.1 = "" then PySem.W.kitOne K (.type "NoneType") (.ref C) = some r.2.2 else ∃ D, GlbAt K r.1 D ∧ ExcC K D ∧ PySem.W.kitOne K (.ref D) (.ref C) = some r.2.2
structure IsTab (K : PySem.W.Frag) (tab : List (Str × Str × Bool)) : Prop where
  rows : ∀ r ∈ tab, IsRow K r
theorem lookB_mem : ∀ {tab : List (Str × Str × Bool)} {x c : Str} {b : Bool}, lookB tab x c = some b → (x, c, b) ∈ tab
  | [], x, c, b, h => by cases h
  | (a, d, v) :: r, x, c, b, h => by
    unfold lookB at h
    split at h
    · rename_i e
      obtain ⟨rfl, rfl⟩ := e
      cases h
      exact List.mem_cons_self
    · exact List.mem_cons_of_mem _ (lookB_mem h)
theorem isTab_nil {K : PySem.W.Frag} : IsTab K [] := ⟨fun r h => by cases h⟩
theorem isTab_cons {K : PySem.W.Frag} {x c : Str} {b : Bool} {C D : Addr} {tab : List (Str × Str × Bool)} (o : ObjG K) (q : ClsAt K x D) (p : ClsAt K c C) (s : PySem.W.subIn K (.ref D) (.ref C) = some b) (r : IsTab K tab) (hx : ¬ x = "" := by decide) : IsTab K ((x, c, b) :: tab) := ⟨fun u hu => by
  rcases List.mem_cons.mp hu with rfl | hu
  · refine ⟨C, p.c1, ?_⟩
    rw [if_neg hx]
    exact ⟨D, q.c1, q.exc o, p.kit s⟩
  · exact r.rows u hu⟩
theorem isTab_none {K : PySem.W.Frag} {c : Str} {b : Bool} {C : Addr} {tab : List (Str × Str × Bool)} (p : ClsAt K c C) (s : PySem.W.subIn K (.type "NoneType") (.ref C) = some b) (r : IsTab K tab) : IsTab K (("", c, b) :: tab) := ⟨fun u hu => by
  rcases List.mem_cons.mp hu with rfl | hu
  · refine ⟨C, p.c1, ?_⟩
    rw [if_pos rfl]
    exact p.kit s
  · exact r.rows u hu⟩
def sIsX (tab : List (Str × Str × Bool)) : SC := fun ds w => match ds with
  | [.exc x [] _, .glb c] => if x = "" then .no else match lookB tab x c with
    | some b => .ok (.bl b) w
    | none => .no
  | [.non, .glb c] => match lookB tab "" c with
    | some b => .ok (.bl b) w
    | none => .no
  | _ => .no
/-- isinstance(None, c), c an own class -/
def rIsN (K : PySem.W.Frag) : List V → Hp → VK → Prop := fun xs H Q => ∃ (C : Addr) (b : Bool), xs = [.non, .ref C] ∧ PySem.W.kitOne K (.type "NoneType") (.ref C) = some b ∧ Q (.bl b) H
section
variable {X : Cx} {e e2 : Expr} {m : MF} {p pos : Pos} {Z : ZT} {W : Option WX} {tab : List (Str × Str × Bool)} {K : KT}
theorem call_isN : CallR X (.builtin "isinstance") (rIsN X.K) := by
  intro pins s σ H xs us Q I r h
  obtain ⟨C, b, rfl, e, q⟩ := h
  exact call_isi pins s σ H _ us Q I r ⟨.non, .ref C, .type "NoneType", .ref C, b, rfl, .own _, .base .non, e, q⟩
theorem opIsX (T : IsTab K.1 tab) : OpC K (sIsX tab) (fun xs H Q => rIsX K.1 xs H Q ∨ rIsN K.1 xs H Q) := fun W hd φ H w ds xs Q wr rx p => by
  unfold sIsX at p
  split at p
  · rename_i x ts c
    split at p
    · exact p.elim
    · rename_i hx
      cases h1 : lookB tab x c with
      | none => rw [h1] at p; exact p.elim
      | some b =>
        rw [h1] at p
        obtain ⟨v, u, rfl, r1, r2⟩ := reps2 rx
        obtain ⟨C, g1, g2⟩ := T.rows _ (lookB_mem h1)
        dsimp only at g1 g2
        rw [if_neg hx] at g2
        obtain ⟨D, g3, g4, g5⟩ := g2
        unfold Rep at r1 r2
        obtain ⟨C', rfl, g6⟩ := r2
        cases GlbAt.inj g1 g6
        obtain ⟨a, D', d, rfl, g7, g8, g9⟩ := r1
        cases GlbAt.inj g3 g7
        rcases g9 with ⟨_, _, rfl⟩ | ⟨dd, vs, rfl, l, n, rr⟩
        · exact .inl ⟨a, D, C, b, rfl, g8.1, g4, g5, p.bl wr⟩
        · exact absurd rfl l.1
  · rename_i c
    cases h1 : lookB tab "" c with
    | none => rw [h1] at p; exact p.elim
    | some b =>
      rw [h1] at p
      obtain ⟨v, u, rfl, r1, r2⟩ := reps2 rx
      obtain ⟨C, g1, g2⟩ := T.rows _ (lookB_mem h1)
      dsimp only at g1 g2
      rw [if_pos rfl] at g2
      unfold Rep at r1 r2
      obtain ⟨C', rfl, g6⟩ := r2
      cases GlbAt.inj g1 g6
      subst r1
      exact .inr ⟨C, b, rfl, g2, p.bl wr⟩
  · exact p.elim
theorem de_isX (T : IsTab X.K tab) (hm : X.mg "isinstance" = none) (ha : PA X [e, e2] (rdA (X.K, Z) W m)) (hg : Gl X "isinstance" := by rfl) (he : starEach [e, e2] X.env = (false, eval e X.env) :: starEach [e2] X.env := by rfl) (hpl : (backTo pos (starEach [e2] X.env)).any (·.1) = false := by rfl) : PE X (.Call (.Name "isinstance" p) [e, e2] [] pos) (rdE (X.K, Z) W (mCall (sIsX tab) m)) :=
  de_callB (call_isX.or call_isN) (opIsX T) hm (by decide +kernel) ha hg (by decide) (by decide) he hpl
end
end VS

set_option Elab.async false
set_option linter.all false
set_option maxRecDepth 100000
set_option maxHeartbeats 2000000
/-! VW23: the law's walk, where the law's lambdas lie in tables. -/
namespace VS
open PySem PySem.Spec PyProof.Rows L2
theorem walk_ofZ {l : PySem.W.OpenLaw} {n k : Nat} {q : Program} {loose : List Str} {XP : (Str → Option Value) → Heap → Prop} {YP : PySem.World → Heap → Prop} {d : DefRec} {K : Params → PySem.W.Frag} {CX : PySem.World → CXT} {x : Str}
    (hn : l.most = some n) (hn2 : n ≤ sizeLine) (hdf : d.params.defaults = []) (hr : Room k callerA) (hY : ∀ (w : PySem.World) (h : Heap), YP w h → (K w.params).In h)
    (F : ∀ (w : PySem.World) (mg mb : Str → Option Value) (fa : Addr) (h : Heap) (lo : List Str) (mean : ExcName → Option Value), (K w.params).In h → Top q lo mean mg mb h → mg d.name = some (.ref fa) → LamX.LawAtS l w (K w.params) (CX w) k n x mg fa h)
    (hCX : ∀ (w : PySem.World) (H : Hp) (s : Shared) (e : Value) (s' : Shared), CX w [] H s (fun _ _ _ => False) e s' → False) :
    PySem.W.WalkO q loose XP YP l.row.toRowW d [] (fun f vs => PySem.call f vs) := by
  refine Att.attach_callB hn hdf fun w s₀ s₁ mg mb fa o pm cd doc a vs ns G Y ho hd hcd hmg hobj hints hlen hbits hg => ?_
  have KX := hY w _ Y
  obtain ⟨fd, cs, sp, hT, nT, C, hb, hsp, hF⟩ := F w mg mb fa _ _ _ KX G.T hmg
  exact LamX.law_callTs KX G.T.g G.T.b G.T.builtins G.T.nolimit hg hT nT C G.T.bmain hobj hints (Nat.le_trans hlen hn2) hr hF hb (fun H hH hS => hsp H a ns hlen hbits hH hS) fun H e s' => hCX w H s₁ e s'
/-- a def's code object c and its table P, empty, in which lambdas of the name q will lie -/
structure TabAt (K : PySem.W.Frag) (h : Heap) (t : Addr × Addr × Str) : Prop where
  hd : PySem.W.CodeHd h t.1 t.2.1
  ob : h.get? t.2.1 = some { cls := .none, data := .fields #[] }
  no : K.lookup t.2.1 = none
theorem At.tab {K : PySem.W.Frag} {x : Str} {st : Stmt} {c P : Addr} {q : Str} {p : Program} {lo : List Str} {mean : ExcName → Option Value} {mg mb : Str → Option Value} {h : Heap} {e : Value} {dd : Option Addr} {vs : Array Value} {sl : Array (Option Value)}
    (a : At K x st (.ref c)) (X : K.In h) (T : Top p lo mean mg mb h) (h4 : K.lookup c = some ⟨e, dd, .fields vs, sl⟩) (h5 : vs[11]? = some (.ref P)) (nP : K.lookup P = none) (hrec : ((recsOf p).any fun e => e.name == x) = true) : TabAt K h (c, P, q) := by
  obtain ⟨f, oc, od, an, sl, kV, dc, pm, ct, h1, h2, h3, _⟩ := a.ex
  have hmg := PySem.W.mg_of X T.g h1
  obtain ⟨dL, hm, hn1⟩ := List.any_eq_true.mp hrec
  have hn2 : dL.name = x := beq_iff_eq.mp hn1
  obtain ⟨a', o', fd', c', P', g1, g2, g3, g4, g5, g6⟩ := T.tab dL hm
  rw [hn2, hmg] at g1
  cases g1
  have e1 := X _ _ h2
  rw [e1] at g2
  cases g2
  cases g3
  have e2 : c = c' := Value.ref.inj g4
  subst e2
  have g6' := g6
  obtain ⟨⟨oc, vc, k1, _, k3, k4⟩, hP⟩ := g6'
  have e3 := X _ _ h4
  rw [e3] at k1
  cases k1
  cases k3
  rw [h5] at k4
  cases k4
  exact ⟨PySem.W.CodeHd.of g5 g6, hP, nP⟩
theorem lawAt_of {l : PySem.W.OpenLaw} {w : PySem.World} {K : PySem.W.Frag} {k : Nat} {mg : Str → Option Value} {fa : Addr} {h : Heap} (tabs : List (Addr × Addr × Str)) (ht : ∀ t ∈ tabs, TabAt K h t)
    (top : ∃ fd : FuncData, (∀ (s : Shared) (u : Value), BindsTo s fd ⟨[u], []⟩ [("script", u)]) ∧ ∀ base : Heap, K.In base → base.Ns mainGlobals mg → (∀ p ∈ tabs.map (fun t => (t.1, t.2.1)), LamX.TabB base mg p.1 p.2) →
      FnOk l.prog w K mg base (L2.CX l.prog w) k fa fd ["script"] (spL K (tabs.map fun t => (t.2.1, t.2.2), w))) : LamX.LawAtS l w K (L2.CX l.prog w) k 63 "script" mg fa h := by
  obtain ⟨fd, hb, hF⟩ := top
  have mem : ∀ p ∈ tabs.map (fun t => (t.1, t.2.1)), ∃ t ∈ tabs, p = (t.1, t.2.1) := fun p hp => by
    obtain ⟨t, h1, h2⟩ := List.mem_map.mp hp
    exact ⟨t, h1, h2.symm⟩
  refine ⟨fd, tabs.map (fun t => (t.1, t.2.1)), spL K (tabs.map fun t => (t.2.1, t.2.2), w), fun p hp => ?_, fun p hp => ?_, fun p hp => ?_, hb, fun H a ns hl hbits hH hS => ?_, hF⟩
  · obtain ⟨t, h1, rfl⟩ := mem p hp
    exact (ht t h1).ob
  · obtain ⟨t, h1, rfl⟩ := mem p hp
    exact (ht t h1).no
  · obtain ⟨t, h1, rfl⟩ := mem p hp
    exact (ht t h1).hd
  · refine ⟨a, ns, rfl, hS, hl, fun p hp => ?_, fun _ => rfl⟩
    obtain ⟨t, h1, rfl⟩ := List.mem_map.mp hp
    exact LamX.TabS.nil (hH (t.1, t.2.1) (List.mem_map.mpr ⟨t, h1, rfl⟩))
end VS

set_option Elab.async false
set_option linter.all false
set_option maxRecDepth 100000
set_option maxHeartbeats 2000000
/-! VW24: == where a dict may stand, < of data, {} as a value, sorted data, zip. -/
namespace VEQ
open PySem PySem.SeqAt PySem.Calls PyProof.Rows
open PySem.AutoSeq1 (wpAny_loadPart')
open PySem.MeetsSeq
theorem dict_declines (l : Addr) (es : Array DictEntry) (n : Nat) (dd : Option Addr) (sl : Array (Option Value)) (b : Str) (u : Tok) :
    Meets (Builtin.«dict.__eq__» ⟨[.ref l, .str b u], []⟩) (fun _ R s => s.heap.get? l = some { cls := .type "dict", dict := dd, data := .dict es n, slots := sl } ∧ R (.ok (.ret .notImplemented)) s) :=
  .of_wp fun prog w A R s h => by obtain ⟨hp, g, d, tk, os⟩ := s; obtain ⟨hl, h⟩ := h; have f1 := F.sub_str_dict; wp_walk using wpAny_loadPart' hl; exact ⟨_, rfl, h⟩
theorem str_declines (b : Str) (u : Tok) (l : Addr) (es : Array DictEntry) (n : Nat) (dd : Option Addr) (sl : Array (Option Value)) :
    Meets (Builtin.«str.__eq__» ⟨[.str b u, .ref l], []⟩) (fun _ R s => s.heap.get? l = some { cls := .type "dict", dict := dd, data := .dict es n, slots := sl } ∧ R (.ok (.ret .notImplemented)) s) :=
  .of_wp fun prog w A R s h => by obtain ⟨hp, g, d, tk, os⟩ := s; obtain ⟨hl, h⟩ := h; wp_walk using wpAny_loadPart' hl, wpAny_load hl; exact ⟨_, rfl, h⟩
theorem dict_str {A : Around} {s : Shared} {l : Addr} {o : Obj} {es : Array DictEntry} {n : Nat} (b : Str) (u : Tok) (ho : s.heap.get? l = some o) (hc : o.cls = .type "dict") (hd : o.data = .dict es n) (hu : A.units < cLine) : RcAt A s (.ref l) (.str b u) false := fun prog w E Q h => by
  obtain ⟨cls, dd, data, sl⟩ := o
  simp only at hc hd
  subst hc hd
  exact rc_eq_decline_or (k := false) ⟨_, ho, rfl⟩ (typeIs_str s b u) (by decide) F.sub_str_dict F.slot_dict_eq F.slot_str_eq_refl
    (fun _ hq => call_meets F.slot_dict_eq ⟨_, ho, rfl⟩ F.entry_dict_eq (F.args_dict_eq_2 _ _) (dict_declines l es n dd sl b u) ⟨ho, hq⟩)
    (fun _ hq => call_meets F.slot_str_eq_refl (typeIs_str s b u) F.entry_str_eq (F.args_str_eq_2 _ _) (str_declines b u l es n dd sl) ⟨ho, hq⟩)
    (fun _ hq => wpAny_of_eq (rfl : isSame (.ref l) (.str b u) = pure false) hq) (.inr hu) h
end VEQ
namespace VS
open PySem PySem.Spec PyProof.Rows L2
section
variable {X : Cx} {K : KT} {hd φ : List Addr} {H : Hp} {w : World} {a b e : Expr} {es : List Expr} {p pos : Pos} {ma mb : ME} {m : MF} {Z : ZT} {W : Option WX}
/-! ### == where a dict may stand -/
def eqX (w : World) (x y : T) : Option Bool := match x, y with
  | .dct _ _, .str _ => some false
  | .tup _, .str _ => some false
  | .lst _, .str _ => some false
  | .tup ts, .tup [] => some ts.isEmpty
  | _, _ => eqT w x y
def sEqX : S2 := fun x y w => match eqX w x y with
  | some b => .ok (.bl b) w
  | none => .no
def rEqX (K : PySem.W.Frag) : R2 := fun x y H Q => rEqD K x y H Q ∨ (∃ a kvs s, x = .ref a ∧ H a = some (.dK kvs) ∧ y = .str s ∧ Q (.bl false) H) ∨ (∃ a xs s, x = .ref a ∧ (SqL K H a xs ∨ SqT K H a xs) ∧ y = .str s ∧ Q (.bl false) H) ∨ ∃ a b xs, x = .ref a ∧ y = .ref b ∧ SqT K H a xs ∧ SqT K H b [] ∧ Q (.bl xs.isEmpty) H
theorem op_eqX (hu : X.A.units + 64 < cLine) : OpR X (compareOp .Eq) (rEqX X.K) := by
  intro pins s σ H x y v u Q I rx ry h
  rcases h with h | ⟨a, kvs, t, rfl, hs, rfl, q⟩ | ⟨a, xs, t, rfl, hs, rfl, q⟩ | ⟨a, b, xs, rfl, rfl, ha, hb, q⟩
  · exact op_eqD hu pins s σ H x y v u Q I rx ry h
  · cases (show v = Value.ref a from rx)
    obtain ⟨tk, rfl⟩ := ry
    obtain ⟨_, _, va, ra, o, es, ep, ho, ⟨hc, _⟩, hd, _⟩ := (show ObjOk X.prog X.w H s.heap a (.dK kvs) from I.hok a _ hs)
    exact VEQ.dict_str t tk ho hc hd (by omega) X.prog X.w X.xe (EP X pins σ Q) ⟨.bl _, H, I, rfl, q⟩
  · cases (show v = Value.ref a from rx)
    obtain ⟨tk, rfl⟩ := ry
    rcases hs with hs | hs
    · obtain ⟨us, r1, p1, _⟩ := I.list hs
      exact SeqAt.RcAt.list_str t tk p1.isList (by omega) X.prog X.w X.xe (EP X pins σ Q) ⟨.bl _, H, I, rfl, q⟩
    · obtain ⟨us, r1, p1, _⟩ := I.tuple hs
      exact SeqAt.RcAt.tuple_str t tk p1 (by omega) X.prog X.w X.xe (EP X pins σ Q) ⟨.bl _, H, I, rfl, q⟩
  · cases (show v = Value.ref a from rx)
    cases (show u = Value.ref b from ry)
    obtain ⟨us, r1, p1, _⟩ := I.tuple ha
    obtain ⟨ws, r2, p2, _⟩ := I.tuple hb
    cases r2
    have z := SeqAt.RcAt.tuples (A := X.A) (s := s) (e := fun _ => true) p1 p2 (by omega) (fun j h1 h2 => absurd h2 (by simp)) X.prog X.w X.xe (EP X pins σ Q)
    have e : ((List.range (min us.toArray.size ([] : List Value).toArray.size)).all (fun _ => true) && us.toArray.size == ([] : List Value).toArray.size) = xs.isEmpty := by
      have l := r1.length
      cases us with
      | nil => cases xs with
        | nil => rfl
        | cons _ _ => cases l
      | cons _ _ => cases xs with
        | nil => cases l
        | cons _ _ => simp
    rw [e] at z
    exact z ⟨.bl _, H, I, rfl, q⟩
theorem opEqX : Op2 K sEqX (rEqX K.1) := fun W hd φ H w dx dy x y Q wr rx ry p => by
  unfold sEqX at p
  unfold eqX at p
  split at p
  · rename_i b h
    split at h
    · cases h
      unfold Rep at rx ry
      obtain ⟨l, vs, rfl, _, n, _⟩ := rx
      exact .inr (.inl ⟨l, _, _, rfl, n.1, ry, p.bl wr⟩)
    · cases h
      unfold Rep at rx ry
      obtain ⟨l, vs, rfl, n, _⟩ := rx
      exact .inr (.inr (.inl ⟨l, _, _, rfl, .inr (SqT.of n.1), ry, p.bl wr⟩))
    · cases h
      unfold Rep at rx ry
      obtain ⟨l, vs, rfl, n, _⟩ := rx
      exact .inr (.inr (.inl ⟨l, _, _, rfl, .inl (SqL.of n.1), ry, p.bl wr⟩))
    · cases h
      unfold Rep at rx ry
      obtain ⟨l, xs, rfl, n, rs⟩ := rx
      obtain ⟨l2, ys, rfl, n2, rs2⟩ := ry
      unfold Reps at rs2
      subst rs2
      refine .inr (.inr (.inr ⟨l, l2, xs, rfl, rfl, SqT.of n.1, SqT.of n2.1, ?_⟩))
      have e : ∀ {ts : List T} {xs : List V}, Reps K hd φ H ts xs → xs.isEmpty = ts.isEmpty := fun {ts xs} r => by
        have l := r.len
        cases ts with
        | nil => cases xs with
          | nil => rfl
          | cons _ _ => cases l
        | cons _ _ => cases xs with
          | nil => cases l
          | cons _ _ => rfl
      rw [e rs]
      exact p.bl wr
    · obtain ⟨d, e, h1, h2, h3, h4, rfl⟩ := eqT_some h
      exact .inl ⟨d, e, dp wr rx h1, dp wr ry h2, h3, h4, p.bl wr⟩
  · exact p.elim
section
variable (hu : X.A.units + 64 < cLine) (ha : PE X a (rdE (X.K, Z) W ma)) (hb : PE X b (rdE (X.K, Z) W mb))
include hu ha hb
theorem de_eqX : PE X (.Compare a [.Eq] [b] pos) (rdE (X.K, Z) W (mOp2 sEqX ma mb)) := de_cmp (op_eqX hu) opEqX ha hb (nomark _)
theorem dt_eqX : PT X (.Compare a [.Eq] [b] pos) (rdT (X.K, Z) W (mTest (mOp2 sEqX ma mb))) := dt_cmp (op_eqX hu) opEqX ha hb (nomark _)
end
/-! ### < of data -/
open Classical in
noncomputable def sLtD : S2 := fun x y w => match pd w x, pd w y with
  | some d, some e => if PySem.W.alike d e = true ∧ d ≠ .none ∧ d.depth ≤ 60 then .ok (.bl (PySem.W.dataLt d e)) w else .no
  | _, _ => .no
def rLtD (K : PySem.W.Frag) : R2 := fun x y H Q => ∃ d e, Dp K H x d ∧ Dp K H y e ∧ PySem.W.alike d e = true ∧ d ≠ .none ∧ d.depth ≤ 60 ∧ Q (.bl (PySem.W.dataLt d e)) H
theorem op_ltD (hu : X.A.units + 64 < cLine) : OpR X (compareOp .Lt) (rLtD X.K) := by
  intro pins s σ H x y v u Q I rx ry h
  obtain ⟨d, e, hd, he, al, nn, dp, q⟩ := h
  obtain ⟨as, r1⟩ := Dp.reads I d x v hd rx
  obtain ⟨bs, r2⟩ := Dp.reads I e y u he ry
  exact PySem.W.lt_data r1 r2 al nn (by have := Nat.min_le_left d.depth e.depth; omega) ⟨.bl _, H, I, rfl, q⟩
theorem opLtD : Op2 K sLtD (rLtD K.1) := fun W hd φ H w dx dy x y Q wr rx ry p => by
  unfold sLtD at p
  split at p
  · rename_i d e h1 h2
    split at p
    · rename_i h
      exact ⟨d, e, dp wr rx h1, dp wr ry h2, h.1, h.2.1, h.2.2, p.bl wr⟩
    · exact p.elim
  · exact p.elim
theorem de_ltD (hu : X.A.units + 64 < cLine) (ha : PE X a (rdE (X.K, Z) W ma)) (hb : PE X b (rdE (X.K, Z) W mb)) : PE X (.Compare a [.Lt] [b] pos) (rdE (X.K, Z) W (mOp2 sLtD ma mb)) := de_cmp (op_ltD hu) opLtD ha hb (nomark _)
/-! ### {} as a value -/
def mC0 : ME := mC (.dct [] [])
theorem de_dct0 : PE X (.Dict [] [] pos) (rdE (X.K, Z) W mC0) := PE_imp pe_dnewK fun σ H Q => by
  rintro ⟨hd, φ, ρ, w, sr, wr, p⟩
  intro l hl
  refine p _ φ (Ext.new hl) (wr.new hl) _ ?_
  unfold Rep
  exact ⟨l, [], rfl, rfl, ⟨upd_same, wr.nin hl⟩, Reps.nil⟩
/-! ### zip of two lists or two tuples -/
def zipT : List T → List T → List T
  | x :: xs, y :: ys => .tup [x, y] :: zipT xs ys
  | _, _ => []
theorem zipT_len : ∀ xs ys : List T, (zipT xs ys).length = min xs.length ys.length
  | [], _ => by simp [zipT]
  | _ :: _, [] => by simp [zipT]
  | x :: xs, y :: ys => by simp [zipT, zipT_len xs ys]
theorem zipT_at : ∀ {xs ys : List T} {i : Nat} {u : T}, (zipT xs ys)[i]? = some u → ∃ x y, xs[i]? = some x ∧ ys[i]? = some y ∧ u = .tup [x, y]
  | [], _, i, u, h => by simp [zipT] at h
  | _ :: _, [], i, u, h => by simp [zipT] at h
  | x :: xs, y :: ys, 0, u, h => by simp [zipT] at h; exact ⟨x, y, rfl, rfl, h.symm⟩
  | x :: xs, y :: ys, i + 1, u, h => by
    simp [zipT] at h
    obtain ⟨x', y', h1, h2, h3⟩ := zipT_at h
    exact ⟨x', y', by simpa using h1, by simpa using h2, h3⟩
theorem src_zipT {hd₀ φ₀ : List Addr} {H₀ : Hp} {a b : Addr} {ts us : List T}
    (h : ∀ (D : Option Addr) hd φ H w, Off D hd₀ H₀ → ExtD D hd₀ φ₀ H₀ hd φ H → WR K hd φ H w → ∃ xs ys, SqT K.1 H a xs ∧ Reps K hd φ H ts xs ∧ SqT K.1 H b ys ∧ Reps K hd φ H us ys) : Src K hd₀ φ₀ H₀ (RZ.ItzT K.1 a b) (zipT ts us) none := fun D i hd φ H w off e wr kp => by
  obtain ⟨xs, ys, h1, h2, h3, h4⟩ := h D hd φ H w off e wr
  refine ⟨fun t ht => ?_, fun hl => ⟨xs, ys, h1, h3, ?_⟩⟩
  · obtain ⟨x, y, e1, e2, rfl⟩ := zipT_at ht
    obtain ⟨v, hv, rv⟩ := h2.at e1
    obtain ⟨u, hu, ru⟩ := h4.at e2
    refine ⟨⟨xs, ys, v, u, h1, h3, hv, hu⟩, fun z H' hz => ?_⟩
    obtain ⟨q, v', u', rfl, hq, rfl, f1, f2⟩ := hz
    cases (f1 xs h1).symm.trans hv
    cases (f2 ys h3).symm.trans hu
    refine ⟨Ext.new hq, wr.new hq, ?_⟩
    unfold Rep
    exact ⟨q, _, rfl, ⟨upd_same, wr.nin hq⟩, Reps.cons (rv.mono (Ext.new hq)) (Reps.cons (ru.mono (Ext.new hq)) Reps.nil)⟩
  · rw [zipT_len, h2.len, h4.len] at hl
    omega
theorem src_zipL {hd₀ φ₀ : List Addr} {H₀ : Hp} {a b : Addr} {ts us : List T}
    (h : ∀ (D : Option Addr) hd φ H w, Off D hd₀ H₀ → ExtD D hd₀ φ₀ H₀ hd φ H → WR K hd φ H w → ∃ xs ys, SqL K.1 H a xs ∧ Reps K hd φ H ts xs ∧ SqL K.1 H b ys ∧ Reps K hd φ H us ys) : Src K hd₀ φ₀ H₀ (Itz K.1 a b) (zipT ts us) none := fun D i hd φ H w off e wr kp => by
  obtain ⟨xs, ys, h1, h2, h3, h4⟩ := h D hd φ H w off e wr
  refine ⟨fun t ht => ?_, fun hl => ⟨xs, ys, h1, h3, ?_⟩⟩
  · obtain ⟨x, y, e1, e2, rfl⟩ := zipT_at ht
    obtain ⟨v, hv, rv⟩ := h2.at e1
    obtain ⟨u, hu, ru⟩ := h4.at e2
    refine ⟨⟨xs, ys, v, u, h1, h3, hv, hu⟩, fun z H' hz => ?_⟩
    obtain ⟨q, v', u', rfl, hq, rfl, f1, f2⟩ := hz
    cases (f1 xs h1).symm.trans hv
    cases (f2 ys h3).symm.trans hu
    refine ⟨Ext.new hq, wr.new hq, ?_⟩
    unfold Rep
    exact ⟨q, _, rfl, ⟨upd_same, wr.nin hq⟩, Reps.cons (rv.mono (Ext.new hq)) (Reps.cons (ru.mono (Ext.new hq)) Reps.nil)⟩
  · rw [zipT_len, h2.len, h4.len] at hl
    omega
/-- lists that no cell holds, or tuples -/
def flatL? : T → Option (List T)
  | .lst ts => some ts
  | .frz ts => some ts
  | _ => none
def sZip : List T → World → R (List T × OC) := fun ts w => match ts with
  | [.tup xs, .tup ys] => .ok (zipT xs ys, none) w
  | [x, y] => match flatL? x, flatL? y with
    | some xs, some ys => .ok (zipT xs ys, none) w
    | _, _ => .no
  | _ => .no
def mZip (m : MF) : MI := fun ρ w => (m ρ w).bind sZip
theorem flat_later {hd₀ φ₀ : List Addr} {H₀ : Hp} {t : T} {v : V} {ts : List T} (r : Rep K hd₀ φ₀ H₀ t v) (h : flatL? t = some ts) :
    ∃ a, v = .ref a ∧ ∀ (D : Option Addr) hd φ H w, Off D hd₀ H₀ → ExtD D hd₀ φ₀ H₀ hd φ H → WR K hd φ H w → ∃ xs, SqL K.1 H a xs ∧ Reps K hd φ H ts xs := by
  have nt : ∀ us, t ≠ .tup us := fun us e => by subst e; cases h
  have hi : items [] t = some (ts, none) := by
    cases t with
    | lst us => cases h; rfl
    | frz us => cases h; rfl
    | _ => cases h
  obtain ⟨a, e, _, f⟩ := lst_later r hi nt
  exact ⟨a, e, fun D hd φ H w o x wr => f D hd φ H w o x wr kept_none⟩
theorem di_zip {tpos : Pos} {elts : List Expr} {kk : Nat} {e2 : Expr} (hm : X.mg "zip" = none) (ha : PA X [e, e2] (rdA (X.K, Z) W m)) (hg : Gl X "zip" := by rfl)
    (hs : starEach [e, e2] X.env = (false, eval e X.env) :: starEach [e2] X.env := by rfl) (hpl : (backTo pos (starEach [e2] X.env)).any (·.1) = false := by rfl) : PI X (.Tuple elts kk tpos) (.Call (.Name "zip" p) [e, e2] [] pos) (rdI (X.K, Z) W (mZip m)) := PI_imp (RZ.pi_zipA hg hm ha hs hpl) fun σ H Q => by
  rintro ⟨hd, φ, ρ, w, sr, wr, p⟩
  refine ⟨hd, φ, ρ, w, sr, wr, Pst.then isPst p fun ts w1 φ1 H1 e1 wr1 p1 vs rvs => ?_⟩
  unfold sZip at p1
  split at p1
  · rename_i xs ys
    obtain ⟨v, u, rfl, r1, r2⟩ := reps2 rvs
    unfold Rep at r1 r2
    obtain ⟨l1, x1, rfl, n1, s1⟩ := r1
    obtain ⟨l2, x2, rfl, n2, s2⟩ := r2
    exact ⟨l1, l2, x1, x2, rfl, .inr ⟨SqT.of n1.1, SqT.of n2.1, p1 H1 φ1 Ext.refl wr1 _ (src_zipT fun D hd φ H w off e wr => ⟨x1, x2, SqT.of (n1.monoD e off).1, s1.monoD e off, SqT.of (n2.monoD e off).1, s2.monoD e off⟩)⟩⟩
  · rename_i x y _
    split at p1
    · rename_i xs ys q1 q2
      obtain ⟨v, u, rfl, r1, r2⟩ := reps2 rvs
      obtain ⟨l1, rfl, f1⟩ := flat_later r1 q1
      obtain ⟨l2, rfl, f2⟩ := flat_later r2 q2
      obtain ⟨x1, g1, _⟩ := f1 none _ _ _ _ off_none Ext.refl.toD wr1
      obtain ⟨x2, g2, _⟩ := f2 none _ _ _ _ off_none Ext.refl.toD wr1
      refine ⟨l1, l2, x1, x2, rfl, .inl ⟨g1, g2, p1 H1 φ1 Ext.refl wr1 _ (src_zipL fun D hd φ H w off e wr => ?_)⟩⟩
      obtain ⟨y1, k1, k2⟩ := f1 D hd φ H w off e wr
      obtain ⟨y2, k3, k4⟩ := f2 D hd φ H w off e wr
      exact ⟨y1, y2, k1, k2, k3, k4⟩
    · exact p1.elim
  · exact p1.elim
end
end VS

set_option Elab.async false
set_option linter.all false
set_option maxRecDepth 100000
set_option maxHeartbeats 2000000
/-! VW25: sorted(xs) of data. -/
namespace VEQ
open PySem PySem.SeqAt PySem.Calls PyProof.Rows
open PySem.AutoSeq1 (wpAny_loadPart')
open PySem.MeetsSeq
theorem dict_ne_declines (l : Addr) (es : Array DictEntry) (n : Nat) (dd : Option Addr) (sl : Array (Option Value)) (b : Str) (u : Tok) :
    Meets (Builtin.«dict.__ne__» ⟨[.ref l, .str b u], []⟩) (fun _ R s => s.heap.get? l = some { cls := .type "dict", dict := dd, data := .dict es n, slots := sl } ∧ R (.ok (.ret .notImplemented)) s) :=
  .of_wp fun prog w A R s h => by obtain ⟨hp, g, d, tk, os⟩ := s; obtain ⟨hl, h⟩ := h; have f1 := F.sub_str_dict; wp_walk using wpAny_loadPart' hl; exact ⟨_, rfl, h⟩
theorem str_ne_declines (b : Str) (u : Tok) (l : Addr) (es : Array DictEntry) (n : Nat) (dd : Option Addr) (sl : Array (Option Value)) :
    Meets (Builtin.«str.__ne__» ⟨[.str b u, .ref l], []⟩) (fun _ R s => s.heap.get? l = some { cls := .type "dict", dict := dd, data := .dict es n, slots := sl } ∧ R (.ok (.ret .notImplemented)) s) :=
  .of_wp fun prog w A R s h => by obtain ⟨hp, g, d, tk, os⟩ := s; obtain ⟨hl, h⟩ := h; wp_walk using wpAny_loadPart' hl, wpAny_load hl; exact ⟨_, rfl, h⟩
theorem dict_ne_str {prog : Program} {w : PySem.World} {A : Around} {E Q : Value → Shared → Prop} {s : Shared} {l : Addr} {o : Obj} {es : Array DictEntry} {n : Nat} (b : Str) (u : Tok) (ho : s.heap.get? l = some o) (hc : o.cls = .type "dict") (hd : o.data = .dict es n) (hu : A.units < cLine) (h : Q (.bool true) s) : wpAny (model prog w) A (richCompare .NotEq (.ref l) (.str b u)) Q E s := by
  obtain ⟨cls, dd, data, sl⟩ := o
  simp only at hc hd
  subst hc hd
  exact rc_ne_decline_or (k := false) ⟨_, ho, rfl⟩ (typeIs_str s b u) (by decide) F.sub_str_dict F.slot_dict_ne F.slot_str_ne_refl
    (fun _ hq => call_meets F.slot_dict_ne ⟨_, ho, rfl⟩ F.entry_dict_ne (F.args_dict_ne_2 _ _) (dict_ne_declines l es n dd sl b u) ⟨ho, hq⟩)
    (fun _ hq => call_meets F.slot_str_ne_refl (typeIs_str s b u) F.entry_str_ne (F.args_str_ne_2 _ _) (str_ne_declines b u l es n dd sl) ⟨ho, hq⟩)
    (fun _ hq => wpAny_of_eq (rfl : isSame (.ref l) (.str b u) = pure false) hq) (.inr hu) h
end VEQ
namespace VS
open PySem PySem.Spec PyProof.Rows L2
section
variable {prog : Program} {w : PySem.World} {A : Around} {E : Value → Shared → Prop} {s : Shared}
/-- a list is gathered: one object more -/
theorem collect_sz {Q : List Value → Shared → Prop} (l : Addr) {ty : String} {o : Obj} {xs : Array Value} {n : Nat} (hT : ty = "list" ∨ ty = "tuple") (ho : s.heap.get? l = some o) (hc : o.cls = .type ty) (hd : o.data = .seq xs n)
    (k : ∀ g : Heap, (∀ b u, s.heap.get? b = some u → g.get? b = some u) → s.heap.objs.size ≤ g.objs.size → Q xs.toList { s with heap := g }) (sz : xs.size ≤ sizeLine) : wpAny (model prog w) A (collect (.ref l)) Q E s := by
  have eL : ([] : List Value).toArray = #[] := rfl
  let h1 : Heap := s.heap.push { cls := .type "list", data := .seq ([] : List Value).toArray }
  let h2 : Heap := h1.update s.heap.objs.size (Obj.mapSeq (· ++ xs))
  have g1 : h1.get? s.heap.objs.size = some { cls := .type "list", data := .seq #[] 0 } := Heap.get?_push_size _ rfl
  have g2 := Heap.get?_update_self (Obj.mapSeq (· ++ xs)) g1 rfl
  have ex : ((#[] : Array Value) ++ xs).toList = xs.toList := by simp
  have old : ∀ b u, s.heap.get? b = some u → h2.get? b = some u := fun b u q =>
    (Heap.get?_update_other _ _ (Nat.ne_of_gt (Heap.lt_size q))).trans (Heap.get?_push_of_some _ q)
  have z1 : h1.objs.size = s.heap.objs.size + 1 := Heap.size_push ..
  have z2 : h2.objs.size = h1.objs.size := by
    show (h1.update _ _).objs.size = _
    unfold Heap.update
    simp
  unfold collect
  refine wpAny_bind (wpAny_runValue (codeAny_builtin F.entry_proto_collect ?_))
  rw [Around.under_plainId F.plain_proto_collect _]
  refine wpAny_bind (m := newList []) (wpAny_newObj_type ?_)
  refine wpAny_pure ⟨plainId_quiet F.plain_list_iadd _, codeAny_builtin F.entry_list_iadd ?_⟩
  rw [Around.under_plainId F.plain_list_iadd _]
  refine wpAny_mono (wpAny_extend_seq (hsz := sz) (A := A) (R := fun r s' => r = .ok (.ret (.ref s.heap.objs.size)) ∧ s' = { s with heap := h2 }) (s := { s with heap := h1 }) _ l _ 0 hT g1 (Heap.get?_push_of_some _ ho) hc hd ⟨rfl, rfl⟩) (fun fin s' hf => ?_) fun e s' hf => absurd hf.1 (by simp)
  have last : wpAny (model prog w) A (load s.heap.objs.size >>= fun ob => match ob.data with
      | Data.seq ys _ => pure ys.toList
      | _ => unsupported "internal:collect") Q E { s with heap := h2 } := by
    refine wpAny_bind (wpAny_load g2 (wpAny_pure ?_))
    show Q ((#[] : Array Value) ++ xs).toList _
    rw [ex]
    exact k h2 old (by rw [z2, z1]; omega)
  cases fin with
  | done f =>
    obtain ⟨e, rfl⟩ := hf
    cases e
    exact last
  | again c' =>
    exact ⟨hf.1, codeAny_mono hf.2 fun r s'' hr => by obtain ⟨rfl, rfl⟩ := hr; exact last⟩
end
section
variable {prog : Program} {w : PySem.World} {A : Around} {E : Value → Shared → Prop} {s : Shared} {β : Type} {R : Value → β → Prop} {enc : β → PyData} {vs : List Value} {bs : List β}
/-- sorted(xs), xs a list or a tuple -/
theorem sorted_sz {it : Addr} {ty : String} {o : Obj} {items : Array Value} {n : Nat} {Q : Value → Shared → Prop} (hT : ty = "list" ∨ ty = "tuple") (ho : s.heap.get? it = some o) (hc : o.cls = .type ty) (hd : o.data = .seq items n) (hi : items.toList = vs)
    (e : PySem.W.EachIs R vs bs) (er : PySem.W.EachIs (fun v b => ∃ as, Reads s.heap v (enc b) as) vs bs) (hal : PySem.W.AllAlike (bs.map enc)) (hk : PySem.W.Sortable (bs.map enc)) (hL : bs.length ≤ sizeLine)
    (hu : ∀ b, b ∈ bs → A.units + 2 + (enc b).depth < cLine)
    (k : ∀ (g : Heap) (p : Addr) (out : List Value) (ep : Nat), s.heap.objs.size ≤ p → (∀ b u, s.heap.get? b = some u → g.get? b = some u) → PySem.W.EachIs R out (bs.mergeSort (PySem.W.dataLe false enc)) → out.length = bs.length → g.get? p = some (seqObj "list" out.toArray ep) → Q (.ref p) { s with heap := g }) :
    wpAny (model prog w) A (call (.builtin "sorted") [.ref it]) Q E s := by
  have hlv : vs.length = bs.length := e.length
  refine Calls.call_function_entry kind_sorted plain_sorted entry_sorted (args_sorted1 _) ?_
  unfold Builtin.«sorted»
  refine wpAny_bind (m := checkCount "sorted" 1 1 _) (wpAny_pure ?_)
  refine wpAny_bind (collect_sz it hT ho hc hd (fun g kg zg => ?_) (by rw [← Array.length_toList, hi, hlv]; exact hL))
  rw [hi]
  refine wpAny_bind (wpAny_newList ?_ (by rw [hlv]; exact hL))
  refine wpAny_bind (wpAny_holding ?_)
  have new : (g.push (seqObj "list" vs.toArray 0)).get? g.objs.size = some (seqObj "list" vs.toArray 0) := Heap.get?_push_size _ rfl
  have kept : ∀ b u, s.heap.get? b = some u → (g.push (seqObj "list" vs.toArray 0)).get? b = some u := fun b u q => Heap.get?_push_of_some _ (kg b u q)
  have er2 : PySem.W.EachIs (fun v b => ∃ as, Reads (g.push (seqObj "list" vs.toArray 0)) v (enc b) as ∧ g.objs.size ∉ as) vs bs := er.mono fun v b ⟨as, r⟩ =>
    ⟨as, PyProof.Rows.Reads.keeps kept r, fun hm => absurd (reads_in (PyProof.Rows.Reads.keeps kg r) _ hm) (Nat.lt_irrefl _)⟩
  refine PySem.W.list_sort_data (s := { s with heap := g.push (seqObj "list" vs.toArray 0) }) (n := 0) new e er2 hal hk hL hu fun out hl ho' => ?_
  show wpAny _ _ (ret (Value.ref g.objs.size)) _ _ _
  obtain ⟨ep, at_⟩ := sortedHeap_at (vs := vs) (out := out.toArray) new
  refine wpAny_pure ⟨_, rfl, k _ _ out ep zg (fun b u q => ?_) ho' hl at_⟩
  have hb : b < g.objs.size := Heap.lt_size (kg b u q)
  rw [sortedHeap_old (Nat.ne_of_lt hb) (by show b < (g.push _).objs.size; rw [Heap.size_push]; exact Nat.lt_succ_of_lt hb)]
  exact kept b u q
end

/-- data sorted, what bears them with them -/
noncomputable def sortBy {α : Type} (ts : List α) (ds : List PyData) : List α := ((ts.zip ds).mergeSort (PySem.W.dataLe false Prod.snd)).map Prod.fst
section
variable {X : Cx} {K : KT} {hd φ : List Addr} {H : Hp} {w : World} {e : Expr} {p pos : Pos} {m : MF} {Z : ZT} {W : Option WX}
def rSortD (K : PySem.W.Frag) : List V → Hp → VK → Prop := fun vs H Q => ∃ (a : Addr) (xs : List V) (ds : List PyData), vs = [.ref a] ∧ (SqL K H a xs ∨ SqT K H a xs) ∧ DpAll K H xs ds ∧ PySem.W.AllAlike ds ∧ PySem.W.Sortable ds ∧ ds.length ≤ sizeLine ∧ (∀ d ∈ ds, d.depth ≤ 60) ∧
  ∀ p, H p = none → Q (.ref p) (upd H p (.lst (sortBy xs ds)))
theorem each_zip {s : Shared} {pins : List (Addr × Obj)} {σ : L2.St} (I : Inv X pins σ H s) : ∀ {xs : List V} {ds : List PyData} {us : List Value}, DpAll X.K H xs ds → Vals xs us →
    PySem.W.EachIs (fun v (b : V × PyData) => RelV b.1 v) us (xs.zip ds) ∧ PySem.W.EachIs (fun v (b : V × PyData) => ∃ as, Reads s.heap v b.2 as) us (xs.zip ds)
  | [], _, _, h, r => by cases h; cases r; exact ⟨.nil, .nil⟩
  | x :: xs, _, _, h, r => by
    cases h with
    | cons h1 h2 =>
      cases r with
      | cons r1 r2 =>
        obtain ⟨a, b⟩ := each_zip I h2 r2
        exact ⟨.cons r1 a, .cons (Dp.reads I _ _ _ h1 r1) b⟩
theorem dpAll_len : ∀ {xs : List V} {ds : List PyData}, DpAll K.1 H xs ds → xs.length = ds.length
  | [], _, h => by cases h; rfl
  | x :: xs, _, h => by cases h with | cons _ h2 => simp [dpAll_len h2]
theorem vals_each : ∀ {bs : List (V × PyData)} {us : List Value}, PySem.W.EachIs (fun v (b : V × PyData) => RelV b.1 v) us bs → Vals (bs.map Prod.fst) us
  | _, _, .nil => .nil
  | _, _, .cons h r => .cons h (vals_each r)
theorem cr_sortD (hu : X.A.units + 65 < cLine) : CallR X (.builtin "sorted") (rSortD X.K) := by
  intro pins s σ H vs us Q I r h
  obtain ⟨a, xs, ds, rfl, hs, hD, al, so, ln, dp, q⟩ := h
  rw [Vals.ref1 r]
  have lz : (xs.zip ds).length = ds.length := by
    have := dpAll_len (K := (X.K, ([], X.w))) hD
    simp [this]
  have mz : (xs.zip ds).map Prod.snd = ds := List.map_snd_zip (by have := dpAll_len (K := (X.K, ([], X.w))) hD; omega)
  have fin : ∀ (ty : String) (o : Obj) (items : Array Value) (n : Nat) (its : List Value), (ty = "list" ∨ ty = "tuple") → s.heap.get? a = some o → o.cls = .type ty → o.data = .seq items n → items.toList = its → Vals xs its →
      wpAny (model X.prog X.w) X.A (call (.builtin "sorted") [.ref a]) (EP X pins σ Q) X.xe s := fun ty o items n its hT ho hc hd hi rv => by
    obtain ⟨e1, e2⟩ := each_zip I hD rv
    refine sorted_sz hT ho hc hd hi e1 (enc := Prod.snd) e2 (by rw [mz]; exact al) (by rw [mz]; exact so) (by rw [lz]; exact ln) (fun b hb => ?_) fun g p out ep hp kg ho' hl at_ => ?_
    · have := dp b.2 (by rw [← mz]; exact List.mem_map.mpr ⟨b, hb, rfl⟩)
      omega
    · have hlen : (sortBy xs ds).length ≤ sizeLine := by
        unfold sortBy
        rw [List.length_map, List.length_mergeSort, lz]
        exact ln
      exact ⟨.ref p, upd H p (.lst (sortBy xs ds)), I.laid (t' := s.toks) kg hp ⟨hlen, out, ep, vals_each ho', at_⟩, rfl, q p (I.hok.fresh hp)⟩
  rcases hs with hs | hs
  · obtain ⟨its, rv, ⟨o, n, ho, hc, _, hd⟩, _⟩ := I.list hs
    exact fin "list" o _ n its (.inl rfl) ho hc hd (by simp) rv
  · obtain ⟨its, rv, ⟨o, ho, hc, n, hd⟩, _⟩ := I.tuple hs
    exact fin "tuple" o _ n its (.inr rfl) ho hc hd (by simp) rv
theorem zip3 {α β γ : Type} : ∀ {as : List α} {bs : List β} {cs : List γ}, as.length = bs.length → bs.length = cs.length → ((as.zip bs).zip cs).map (fun m => (m.1.1, m.2)) = as.zip cs ∧ ((as.zip bs).zip cs).map (fun m => (m.1.2, m.2)) = bs.zip cs
  | [], [], [], _, _ => ⟨rfl, rfl⟩
  | a :: as, b :: bs, c :: cs, h1, h2 => by
    obtain ⟨x, y⟩ := zip3 (as := as) (bs := bs) (cs := cs) (by simpa using h1) (by simpa using h2)
    exact ⟨by simp [x], by simp [y]⟩
theorem reps_sort {ts : List T} {xs : List V} {ds : List PyData} (r : Reps K hd φ H ts xs) (hl : xs.length = ds.length) : Reps K hd φ H (sortBy ts ds) (sortBy xs ds) := by
  have l1 := r.len
  obtain ⟨e1, e2⟩ := zip3 (as := ts) (bs := xs) (cs := ds) l1 hl
  unfold sortBy
  rw [← e1, ← e2]
  have k1 : (((ts.zip xs).zip ds).map fun m => (m.1.1, m.2)).mergeSort (PySem.W.dataLe false Prod.snd) = (((ts.zip xs).zip ds).mergeSort (PySem.W.dataLe false Prod.snd)).map fun m => (m.1.1, m.2) := (List.map_mergeSort (f := fun m : (T × V) × PyData => (m.1.1, m.2)) (r := PySem.W.dataLe false Prod.snd) (s := PySem.W.dataLe false Prod.snd) (fun _ _ _ _ => rfl)).symm
  have k2 : (((ts.zip xs).zip ds).map fun m => (m.1.2, m.2)).mergeSort (PySem.W.dataLe false Prod.snd) = (((ts.zip xs).zip ds).mergeSort (PySem.W.dataLe false Prod.snd)).map fun m => (m.1.2, m.2) := (List.map_mergeSort (f := fun m : (T × V) × PyData => (m.1.2, m.2)) (r := PySem.W.dataLe false Prod.snd) (s := PySem.W.dataLe false Prod.snd) (fun _ _ _ _ => rfl)).symm
  rw [k1, k2, List.map_map, List.map_map]
  have hall : ∀ m ∈ ((ts.zip xs).zip ds).mergeSort (PySem.W.dataLe false Prod.snd), Rep K hd φ H m.1.1 m.1.2 := fun m hm => by
    have hm2 := (List.mergeSort_perm _ _).mem_iff.mp hm
    have hm3 : m.1 ∈ ts.zip xs := (List.of_mem_zip (a := m.1) (b := m.2) hm2).1
    obtain ⟨i, hi, e⟩ := List.getElem_of_mem hm3
    rw [List.getElem_zip] at e
    have h1 : ts[i]? = some m.1.1 := by rw [List.getElem?_eq_getElem (by simp at hi; omega), ← e]
    obtain ⟨x, hx, rx⟩ := r.at h1
    rw [List.getElem?_eq_getElem (by simp at hi; omega)] at hx
    rw [← e] at rx ⊢
    cases hx
    exact rx
  generalize ((ts.zip xs).zip ds).mergeSort (PySem.W.dataLe false Prod.snd) = L at hall
  induction L with
  | nil => exact Reps.nil
  | cons m L ih => exact Reps.cons (hall m List.mem_cons_self) (ih fun k hk => hall k (List.mem_cons_of_mem _ hk))
open Classical in
noncomputable def sSortD : SCF := fun ds w => match ds with
  | [t] => match seq? w t with
    | some ts => match pds w ts with
      | some es => if PySem.W.AllAlike es ∧ PySem.W.Sortable es ∧ es.length ≤ sizeLine ∧ ∀ d ∈ es, d.depth ≤ 60 then .ok (sortBy ts es) w else .no
      | none => .no
    | none => .no
  | _ => .no
theorem opSortD : OpCF K sSortD (rSortD K.1) := fun W hd φ H w ds xs Q wr rx p => by
  unfold sSortD at p
  split at p
  · rename_i t
    split at p
    · rename_i ts h1
      split at p
      · rename_i es h2
        split at p
        · rename_i h
          obtain ⟨v, rfl, rv⟩ := reps1 rx
          obtain ⟨a, ys, rfl, hs, rs⟩ := seq_at wr rv h1
          have hD := dps wr rs h2
          exact ⟨a, ys, es, rfl, hs, hD, h.1, h.2.1, h.2.2.1, h.2.2.2, fun q hq => p.new wr (reps_sort rs (dpAll_len hD)) q hq⟩
        · exact p.elim
      · exact p.elim
    · exact p.elim
  · exact p.elim
theorem df_sortD (hu : X.A.units + 65 < cLine) (hm : X.mg "sorted" = none) (ha : PA X [e] (rdA (X.K, Z) W m)) (hg : Gl X "sorted" := by rfl) (he : starEach [e] X.env = (false, eval e X.env) :: starEach [] X.env := by rfl) (hpl : (backTo pos (starEach [] X.env)).any (·.1) = false := by rfl) : PE X (.Call (.Name "sorted" p) [e] [] pos) (rdF (X.K, Z) W (mCallF sSortD m)) :=
  df_callB (cr_sortD hu) opSortD hm (by decide +kernel) ha hg (by decide) (by decide) he hpl
/-! ### is not True -/
def sIsNotB : S2 := fun x y w => match x, y with
  | .bl i, .bl j => .ok (.bl (!decide (i = j))) w
  | _, _ => .no
theorem opIsNotB : Op2 K sIsNotB (fun x y H Q => ∃ a b, x = .bl a ∧ y = .bl b ∧ Q (.bl (!decide (a = b))) H) := fun W hd φ H w dx dy x y Q wr rx ry p => by
  unfold sIsNotB at p
  split at p
  · unfold Rep at rx ry
    exact ⟨_, _, rx, ry, p.bl wr⟩
  · exact p.elim
variable {a b : Expr} {ma mb : ME}
theorem de_isnotB (ha : PE X a (rdE (X.K, Z) W ma)) (hb : PE X b (rdE (X.K, Z) W mb)) : PE X (.Compare a [.IsNot] [b] pos) (rdE (X.K, Z) W (mOp2 sIsNotB ma mb)) := de_cmp op_isnot_bl opIsNotB ha hb (nomark _)
theorem dt_isnotB (ha : PE X a (rdE (X.K, Z) W ma)) (hb : PE X b (rdE (X.K, Z) W mb)) : PT X (.Compare a [.IsNot] [b] pos) (rdT (X.K, Z) W (mTest (mOp2 sIsNotB ma mb))) := dt_cmp op_isnot_bl opIsNotB ha hb (nomark _)
/-! ### != where a dict may stand -/
def neX (w : World) (x y : T) : Option Bool := match x, y with
  | .dct _ _, .str _ => some true
  | .tup _, .str _ => some true
  | .lst _, .str _ => some true
  | _, _ => (eqT w x y).map not
def sNeX : S2 := fun x y w => match neX w x y with
  | some b => .ok (.bl b) w
  | none => .no
def rNeX (K : PySem.W.Frag) : R2 := fun x y H Q => rNeD K x y H Q ∨ (∃ a kvs s, x = .ref a ∧ H a = some (.dK kvs) ∧ y = .str s ∧ Q (.bl true) H) ∨ ∃ a xs s, x = .ref a ∧ (SqL K H a xs ∨ SqT K H a xs) ∧ y = .str s ∧ Q (.bl true) H
theorem op_neX (hu : X.A.units + 64 < cLine) : OpR X (compareOp .NotEq) (rNeX X.K) := by
  intro pins s σ H x y v u Q I rx ry h
  rcases h with h | ⟨a, kvs, t, rfl, hs, rfl, q⟩ | ⟨a, xs, t, rfl, hs, rfl, q⟩
  · exact op_neD hu pins s σ H x y v u Q I rx ry h
  · cases (show v = Value.ref a from rx)
    obtain ⟨tk, rfl⟩ := ry
    obtain ⟨_, _, va, ra, o, es, ep, ho, ⟨hc, _⟩, hd, _⟩ := (show ObjOk X.prog X.w H s.heap a (.dK kvs) from I.hok a _ hs)
    exact VEQ.dict_ne_str t tk ho hc hd (by omega) ⟨.bl _, H, I, rfl, q⟩
  · cases (show v = Value.ref a from rx)
    obtain ⟨tk, rfl⟩ := ry
    rcases hs with hs | hs
    · obtain ⟨us, r1, p1, _⟩ := I.list hs
      exact SeqAt.RcNeAt.list_str t tk p1.isList (by omega) X.prog X.w X.xe (EP X pins σ Q) ⟨.bl _, H, I, rfl, q⟩
    · obtain ⟨us, r1, p1, _⟩ := I.tuple hs
      exact SeqAt.RcNeAt.tuple_str t tk p1 (by omega) X.prog X.w X.xe (EP X pins σ Q) ⟨.bl _, H, I, rfl, q⟩
theorem opNeX : Op2 K sNeX (rNeX K.1) := fun W hd φ H w dx dy x y Q wr rx ry p => by
  unfold sNeX at p
  unfold neX at p
  split at p
  · rename_i b h
    split at h
    · cases h
      unfold Rep at rx ry
      obtain ⟨l, vs, rfl, _, n, _⟩ := rx
      exact .inr (.inl ⟨l, _, _, rfl, n.1, ry, p.bl wr⟩)
    · cases h
      unfold Rep at rx ry
      obtain ⟨l, vs, rfl, n, _⟩ := rx
      exact .inr (.inr ⟨l, _, _, rfl, .inr (SqT.of n.1), ry, p.bl wr⟩)
    · cases h
      unfold Rep at rx ry
      obtain ⟨l, vs, rfl, n, _⟩ := rx
      exact .inr (.inr ⟨l, _, _, rfl, .inl (SqL.of n.1), ry, p.bl wr⟩)
    · obtain ⟨c, hc, rfl⟩ := Option.map_eq_some_iff.mp h
      obtain ⟨d, e, h1, h2, h3, h4, rfl⟩ := eqT_some hc
      exact .inl ⟨d, e, dp wr rx h1, dp wr ry h2, h3, h4, p.bl wr⟩
  · exact p.elim
theorem de_neX (hu : X.A.units + 64 < cLine) (ha : PE X a (rdE (X.K, Z) W ma)) (hb : PE X b (rdE (X.K, Z) W mb)) : PE X (.Compare a [.NotEq] [b] pos) (rdE (X.K, Z) W (mOp2 sNeX ma mb)) := de_cmp (op_neX hu) opNeX ha hb (nomark _)
theorem dt_neX (hu : X.A.units + 64 < cLine) (ha : PE X a (rdE (X.K, Z) W ma)) (hb : PE X b (rdE (X.K, Z) W mb)) : PT X (.Compare a [.NotEq] [b] pos) (rdT (X.K, Z) W (mTest (mOp2 sNeX ma mb))) := dt_cmp (op_neX hu) opNeX ha hb (nomark _)
end
end VS

set_option Elab.async false
set_option linter.all false
set_option maxRecDepth 100000
set_option maxHeartbeats 2000000
/-! VW26: instances: attributes, methods, making one. -/
namespace VS
open PySem PySem.Spec PyProof.Rows L2
/-! ### calls whose errors are told at the slots -/
section
variable {X : Cx} {CX : CXT} {k : Nat} {f C : Addr} {fd : FuncData} {ps : List Str} {sp : Sp} {E : L2.St → XK} {x m : Str} {p pos apos : Pos} {e o : Expr} {es : List Expr} {ta : TE} {t : TA}
def tMethO (C : Addr) (m : Str) (sp : Sp) (E : L2.St → XK) (ta : TE) (t : TA) : TE := fun σ H Q => ta σ H fun x H1 => ∃ a dx fs, x = .ref a ∧ H1 a = some (.ins C dx fs) ∧ fs.lookup m = none ∧ t σ H1 fun vs H2 => sp (x :: vs) H2 Q (E σ)
/-- o.m(e, ..) -/
theorem pe_methO {pl : PySem.Sem Bool} (he : PE X o ta) (c : Cls X.K C) (hm : Meth X.K C m f) (F : FnOk X.prog X.w X.K X.mg X.base CX k f fd ps sp) (hr : Room k X.A) (hb : Binds X.K fd ps []) (hx : ∀ σ, PassesAt CX X σ (E σ)) (ha : PA X (e :: es) t)
    (hst : starEach (e :: es) X.env = (false, eval e X.env) :: starEach es X.env := by rfl) (hpl : (backTo pos (starEach es X.env)).any (·.1) = false := by rfl)
    (ht : eval (.Call (.Attribute o m apos) (e :: es) [] pos) X.env = (do
      let ov ← eval o X.env
      standAt apos.atName
      let (g, first) ← holding [ov] (getMethod ov m pl)
      callWith pos g first (backTo pos (starEach (e :: es) X.env)) (backToKw pos (keywordEach [] X.env))) := by rfl) : PE X (.Call (.Attribute o m apos) (e :: es) [] pos) (tMethO C m sp E ta t) :=
  ⟨fun pins s σ H Q I h => PySem.W.methodCall_KW (pl := pl) (thn (he.run pins s σ H _ I h) fun u s1 ⟨x, H1, I1, rx, a, dx, fs, ex, ea, l, q⟩ => by
    subst ex
    obtain rfl : u = Value.ref a := rx
    exact getmeth_ok I1 ea c hm l (PySem.W.callWith_K (first := [.ref a]) (h₀ := X.base) I.ok.mod.kin hm.kp (thn (ha.run pos pins s1 σ H1 _ I1 q) fun us s2 ⟨vs, H2, I2, r, q2⟩ => ⟨I2.kIn, run_fnS (us := .ref a :: us) (vs := .ref a :: vs) F hr hb (hx σ) I2 (.cons rfl r) q2⟩) hst hpl)) ht⟩
/-- o.m() -/
theorem pe_methO0 {pl : PySem.Sem Bool} (he : PE X o ta) (c : Cls X.K C) (hm : Meth X.K C m f) (F : FnOk X.prog X.w X.K X.mg X.base CX k f fd ps sp) (hr : Room k X.A) (hb : Binds X.K fd ps []) (hx : ∀ σ, PassesAt CX X σ (E σ))
    (ht : eval (.Call (.Attribute o m apos) [] [] pos) X.env = (do
      let ov ← eval o X.env
      standAt apos.atName
      let (g, first) ← holding [ov] (getMethod ov m pl)
      callWith pos g first (backTo pos (starEach [] X.env)) (backToKw pos (keywordEach [] X.env))) := by rfl) : PE X (.Call (.Attribute o m apos) [] [] pos) (tMethO C m sp E ta tNil) :=
  ⟨fun pins s σ H Q I h => PySem.W.methodCall_KW (pl := pl) (thn (he.run pins s σ H _ I h) fun u s1 ⟨x, H1, I1, rx, a, dx, fs, ex, ea, l, q⟩ => by
    subst ex
    obtain rfl : u = Value.ref a := rx
    exact getmeth_ok I1 ea c hm l (PySem.W.callWith_K0 (first := [.ref a]) I1.kIn hm.kp (run_fnS (us := [.ref a]) (vs := [.ref a]) F hr hb (hx σ) I1 (.cons rfl .nil) q))) ht⟩
def tMakeO (C : Addr) (sp : Sp) (E : L2.St → XK) (t : TA) : TE := fun σ H Q => t σ H fun vs H1 => ∀ x dx, H1 x = none → H1 dx = none → dx ≠ x → sp (.ref x :: vs) (upd (upd H1 dx (.own x)) x (.ins C dx [])) (fun v H2 => v = .non ∧ Q (.ref x) H2) (E σ)
theorem run_makeO {pins : List (Addr × Obj)} {σ : L2.St} {H : Hp} {s : Shared} {Q : VK} {us : List Value} {vs : List V} (M : Mk X.K C f) (F : FnOk X.prog X.w X.K X.mg X.base CX k f fd ps sp) (hr : Room (k + 1) X.A) (hb : Binds X.K fd ps []) (hx : PassesAt CX X σ (E σ)) (I : Inv X pins σ H s) (r : Vals vs us)
    (h : ∀ x dx, H x = none → H dx = none → dx ≠ x → sp (.ref x :: vs) (upd (upd H dx (.own x)) x (.ins C dx [])) (fun v H2 => v = .non ∧ Q (.ref x) H2) (E σ)) : wpAny (model X.prog X.w) X.A (call (.ref C) us) (EP X pins σ Q) X.xe s := by
  have hq := h (s.heap.objs.size + 1) s.heap.objs.size (I.hok.fresh (Nat.le_succ _)) (I.hok.fresh (Nat.le_refl _)) (Nat.ne_of_lt (Nat.lt_succ_self _))
  have J := Inv.made (C := C) I
  have r2 : Vals (V.ref (s.heap.objs.size + 1) :: vs) (Value.ref (s.heap.objs.size + 1) :: us) := .cons rfl r
  have hl : (Value.ref (s.heap.objs.size + 1) :: us).length = ps.length := by
    rw [← r2.length]
    exact F.len _ _ _ _ hq
  have bb := hb _ (Value.ref (s.heap.objs.size + 1) :: us) J.kIn (by rw [List.append_nil]; exact hl)
  rw [List.append_nil] at bb
  refine wpAny_call (make_map (f := f) I.kIn M.makes M.init (beq_iff_eq.mp M.fn) (codeAny_mono (F.run _ X.stack _ _ ⟨Value.ref (s.heap.objs.size + 1) :: us, []⟩ _ _ _ (E σ) (hr.make C us []) (J.env0.make C us []) bb r2 hq) fun r s' hq' => ?_))
  cases r with
  | error e => exact hx pins _ _ e s' J hq'
  | ok fl =>
    cases fl with
    | ret u =>
      obtain ⟨v, H', I3, rv, ev, q3⟩ := J.after hq'
      subst ev
      exact ⟨rv, ⟨V.ref (s.heap.objs.size + 1), H', I3, rfl, q3⟩⟩
    | next => exact False.elim hq'
    | brk => exact False.elim hq'
    | cont => exact False.elim hq'
/-- C(e, ..) -/
theorem pe_makeO (M : Mk X.K C f) (F : FnOk X.prog X.w X.K X.mg X.base CX k f fd ps sp) (hr : Room (k + 1) X.A) (hg : Gl X x) (hm : X.mg x = some (.ref C)) (hb : Binds X.K fd ps []) (hx : ∀ σ, PassesAt CX X σ (E σ)) (ha : PA X (e :: es) t) (hdb : (x == ("__debug__" : Str)) = false := by decide)
    (he : starEach (e :: es) X.env = (false, eval e X.env) :: starEach es X.env := by rfl) (hpl : (backTo pos (starEach es X.env)).any (·.1) = false := by rfl) : PE X (.Call (.Name x p) (e :: es) [] pos) (tMakeO C sp E t) :=
  ⟨fun pins s σ H Q I h => wpAny_Call_Name_kw (ld_glob I hg hm (PySem.W.callWith_K (h₀ := X.base) I.ok.mod.kin M.kp (thn (ha.run pos pins s σ H _ I h) fun us s1 ⟨vs, H1, I1, r, q⟩ => ⟨I1.kIn, run_makeO M F hr hb (hx σ) I1 r q⟩) he hpl) hdb)⟩
/-- C() -/
theorem pe_makeO0 (M : Mk X.K C f) (F : FnOk X.prog X.w X.K X.mg X.base CX k f fd ps sp) (hr : Room (k + 1) X.A) (hg : Gl X x) (hm : X.mg x = some (.ref C)) (hb : Binds X.K fd ps []) (hx : ∀ σ, PassesAt CX X σ (E σ)) (hdb : (x == ("__debug__" : Str)) = false := by decide) :
    PE X (.Call (.Name x p) [] [] pos) (tMakeO C sp E tNil) :=
  ⟨fun pins s σ H Q I h => wpAny_Call_Name_kw (ld_glob I hg hm (PySem.W.callWith_K0 I.kIn M.kp (run_makeO (us := []) M F hr hb (hx σ) I .nil h)) hdb)⟩
end
end VS

set_option Elab.async false
set_option linter.all false
set_option maxRecDepth 100000
set_option maxHeartbeats 2000000
/-! VW27: instances as cells. -/
namespace VS
open PySem PySem.Spec PyProof.Rows L2
/-- the classes and the attributes of their instances -/
structure ObTab (K : PySem.W.Frag) (tab : List (Str × List Str)) : Prop where
  ex : ∀ p ∈ tab, ∀ C, GlbAt K p.1 C → Cls K C ∧ ∀ f ∈ p.2, NoAttr K C f
def inTab (tab : List (Str × List Str)) (x f : Str) : Bool := tab.any fun p => p.1 == x && p.2.contains f
theorem ObTab.at {K : PySem.W.Frag} {tab : List (Str × List Str)} {x f : Str} {C : Addr} (T : ObTab K tab) (h : inTab tab x f = true) (g : GlbAt K x C) : Cls K C ∧ NoAttr K C f := by
  obtain ⟨p, hp, h2⟩ := List.any_eq_true.mp h
  rw [Bool.and_eq_true] at h2
  obtain ⟨h3, h4⟩ := h2
  have e : p.1 = x := beq_iff_eq.mp h3
  obtain ⟨c, n⟩ := T.ex p hp C (by rw [e]; exact g)
  exact ⟨c, n f (by simpa using h4)⟩
def getF : List Str → List T → Str → Option T
  | k :: ks, t :: ts, f => if f = k then some t else getF ks ts f
  | _, _, _ => none
def putO {α : Type} : List Str → List α → Str → α → List Str × List α
  | k :: ks, t :: ts, f, y => if k = f then (k :: ks, y :: ts) else (k :: (putO ks ts f y).1, t :: (putO ks ts f y).2)
  | _, _, f, y => ([f], [y])
section
variable {K : KT} {hd φ : List Addr} {H : Hp}
theorem getF_at : ∀ {ks : List Str} {ts : List T} {vs : List V} {f : Str} {t : T}, Reps K hd φ H ts vs → getF ks ts f = some t → ∃ v, (ks.zip vs).lookup f = some v ∧ Rep K hd φ H t v
  | [], ts, vs, f, t, r, h => by cases h
  | k :: ks, [], vs, f, t, r, h => by cases h
  | k :: ks, u :: ts, vs, f, t, r, h => by
    unfold Reps at r
    obtain ⟨x, xs, rfl, r1, r2⟩ := r
    unfold getF at h
    rw [List.zip_cons_cons, List.lookup_cons]
    split at h
    · rename_i e
      cases h
      exact ⟨x, by simp [e], r1⟩
    · rename_i e
      obtain ⟨v, h1, h2⟩ := getF_at r2 h
      have : (f == k) = false := by simpa using e
      exact ⟨v, by rw [this]; exact h1, h2⟩
theorem no_lookup {α : Type} {m : Str} : ∀ {ks : List Str} {vs : List α}, m ∉ ks → (ks.zip vs).lookup m = none
  | [], vs, _ => rfl
  | k :: ks, [], _ => rfl
  | k :: ks, v :: vs, h => by
    have e : (m == k) = false := by
      have : ¬ m = k := fun e => h (by rw [e]; exact List.mem_cons_self)
      simpa using this
    rw [List.zip_cons_cons, List.lookup_cons, e]
    exact no_lookup fun z => h (List.mem_cons_of_mem _ z)
theorem putO_zip {f : Str} {v : V} : ∀ {ks : List Str} {vs : List V}, ks.length = vs.length → putF f v (ks.zip vs) = (putO ks vs f v).1.zip (putO ks vs f v).2
  | [], [], _ => rfl
  | k :: ks, x :: vs, h => by
    have ih := putO_zip (f := f) (v := v) (ks := ks) (vs := vs) (by simpa using h)
    rw [List.zip_cons_cons]
    unfold putF putO
    split
    · rfl
    · rw [List.zip_cons_cons, ih]
theorem putO_len {α : Type} {f : Str} {y : α} : ∀ {ks : List Str} {ts : List α}, ks.length = ts.length → (putO ks ts f y).1.length = (putO ks ts f y).2.length
  | [], [], _ => rfl
  | k :: ks, x :: vs, h => by
    have ih := putO_len (f := f) (y := y) (ks := ks) (ts := vs) (by simpa using h)
    unfold putO
    split
    · simpa using h
    · simp [ih]
theorem putO_reps {f : Str} {y : T} {v : V} (ry : Rep K hd φ H y v) : ∀ {ks : List Str} {ts : List T} {vs : List V}, ks.length = ts.length → Reps K hd φ H ts vs → (putO ks ts f y).1 = (putO ks vs f v).1 ∧ Reps K hd φ H (putO ks ts f y).2 (putO ks vs f v).2
  | [], [], vs, _, r => by unfold Reps at r; subst r; exact ⟨rfl, Reps.cons ry Reps.nil⟩
  | k :: ks, t :: ts, vs, h, r => by
    unfold Reps at r
    obtain ⟨x, xs, rfl, r1, r2⟩ := r
    obtain ⟨h1, h2⟩ := putO_reps (f := f) ry (ks := ks) (by simpa using h) r2
    unfold putO
    split
    · exact ⟨rfl, Reps.cons ry r2⟩
    · exact ⟨by rw [h1], Reps.cons r1 h2⟩
end
section
variable {X : Cx} {Z : ZT} {W : Option WX} {K : KT} {hd φ : List Addr} {H : Hp} {w : World} {e o : Expr} {es : List Expr} {x f m : Str} {p pos apos : Pos} {mo mv : ME} {ma : MF} {tab : List (Str × List Str)}
/-! ### o.f -/
def sFldT (tab : List (Str × List Str)) (f : Str) : T → World → R T := fun d w => match d with
  | .cell k => match w[k]? with
    | some (.obj x ks ts) => if inTab tab x f = true then match getF ks ts f with
      | some t => .ok t w
      | none => .no
      else .no
    | _ => .no
  | _ => .no
def mFld (tab : List (Str × List Str)) (f : Str) (a : ME) : ME := fun ρ w => (a ρ w).bind (sFldT tab f)
theorem de_fld (T : ObTab X.K tab) (he : PE X e (rdE (X.K, Z) W mo)) (hb : attributeBase e f X.env (eval e X.env) = eval e X.env := by rfl) : PE X (.Attribute e f pos) (rdE (X.K, Z) W (mFld tab f mo)) := PE_imp (pe_fld he hb) fun σ H Q => by
  rintro ⟨hd, φ, ρ, w, sr, wr, p⟩
  refine ⟨hd, φ, ρ, w, sr, wr, Pst.then isPst p fun d w1 φ1 H1 e1 wr1 p1 v rv => ?_⟩
  unfold sFldT at p1
  split at p1
  · rename_i k
    split at p1
    · rename_i x ks ts hk
      split at p1
      · rename_i hin
        split at p1
        · rename_i t hg
          obtain ⟨a, rfl, hφ, _, C, dx, vs, h1, h2, h3, h4, h5⟩ := cell_at wr1 rv hk
          obtain ⟨c, n⟩ := T.at hin h2
          obtain ⟨u, l, ru⟩ := getF_at h5 hg
          exact ⟨a, C, dx, _, u, rfl, h1, c, n, l, p1.ok wr1 _ ru⟩
        · exact p1.elim
      · exact p1.elim
    · exact p1.elim
  · exact p1.elim
/-! ### o.f = v -/
def mSetF (tab : List (Str × List Str)) (f : Str) (a b : ME) : MS := fun ρ w => (b ρ w).bind fun y w1 => (a ρ w1).bind fun d w2 => match d with
  | .cell k => match w2[k]? with
    | some (.obj x ks ts) => if inTab tab x f = true ∧ ks.length < 1000 then .ok (ρ, .nx) (w2.set k (.obj x (putO ks ts f y).1 (putO ks ts f y).2)) else .no
    | _ => .no
  | _ => .no
theorem ds_setF {pos' : Pos} {v : Expr} (T : ObTab X.K tab) (ho : PE X o (rdE (X.K, Z) W mo)) (hv : PE X v (rdE (X.K, Z) W mv)) (hs : swapsWith v (some (.Attribute o f pos')) pos.line X.env = pure false := by rfl) : PS X (.Assign [.Attribute o f pos'] v pos) (rdS (X.K, Z) W (mSetF tab f mo mv)) := PS_imp (ps_fld ho hv hs) fun D σ H => by
  rintro ⟨hd, φ, ρ, w, sr, wr, p⟩
  refine ⟨hd, φ, ρ, w, sr, wr, Pst.then isPst p fun y w1 φ1 H1 e1 wr1 p1 v rv => ?_⟩
  refine ⟨hd, φ1, ρ, w1, sr.mono e1, wr1, Pst.then isPst p1 fun d w2 φ2 H2 e2 wr2 p2 u ru => ?_⟩
  split at p2
  · rename_i k
    split at p2
    · rename_i x ks ts hk
      split at p2
      · rename_i hin
        obtain ⟨a, rfl, hφ, ha, C, dx, vs, h1, h2, h3, h4, h5⟩ := cell_at wr2 ru hk
        obtain ⟨c, n⟩ := T.at hin.1 h2
        have lv : ks.length = vs.length := h3.trans h5.len
        refine ⟨a, C, dx, _, rfl, h1, c, n, by rw [List.length_zip]; omega, ?_⟩
        rw [putO_zip lv]
        have eW : Ext hd φ2 H2 hd φ2 (upd H2 a (.ins C dx ((putO ks vs f v).1.zip (putO ks vs f v).2))) := Ext.write ha
        obtain ⟨q1, q2⟩ := putO_reps (f := f) (rv.mono e2) h3 h5
        have dn : dx ≠ a := fun z => by
          have := h4.1
          rw [z, h1] at this
          cases this
        have wr3 : WR (X.K, Z) hd φ2 (upd H2 a (.ins C dx ((putO ks vs f v).1.zip (putO ks vs f v).2))) (w2.set k (.obj x (putO ks ts f y).1 (putO ks ts f y).2)) := wr2.write hφ
          ⟨C, dx, (putO ks vs f v).2, by rw [q1]; exact upd_same, h2, putO_len h3, ⟨by rw [upd_ne dn]; exact h4.1, h4.2⟩, q2.mono eW⟩
        exact p2 _ φ2 eW wr3 _ (((sr.mono e1).mono e2).mono eW)
      · exact p2.elim
    · exact p2.elim
  · exact p2.elim
end
end VS

set_option Elab.async false
set_option linter.all false
set_option maxRecDepth 100000
set_option maxHeartbeats 2000000
/-! VW28: methods of instances, making an instance. -/
namespace VS
open PySem PySem.Spec PyProof.Rows L2
/-- a method as it stands behind the top, and what it is worth -/
structure MtD (P : Program) (w : PySem.World) (K : PySem.W.Frag) (Z : ZT) (mg : Str → Option Value) (base : Heap) (k : Nat) (x m : Str) (ps : List Str) (f : Sem) : Prop where
  ex : ∃ (C fa : Addr) (fd : FuncData), GlbAt K x C ∧ Cls K C ∧ Meth K C m fa ∧ FnOk P w K mg base (L2.CX P w) k fa fd ps (spOf (K, Z) ps.length f) ∧ Binds K fd ps []
/-- making an instance: its __init__ -/
structure MkD (P : Program) (w : PySem.World) (K : PySem.W.Frag) (Z : ZT) (mg : Str → Option Value) (base : Heap) (k : Nat) (x : Str) (ps : List Str) (f : Sem) : Prop where
  ex : ∃ (C fa : Addr) (fd : FuncData), GlbAt K x C ∧ mg x = some (.ref C) ∧ Mk K C fa ∧ FnOk P w K mg base (L2.CX P w) k fa fd ps (spOf (K, Z) ps.length f) ∧ Binds K fd ps []
/-- an instance of x without an attribute m -/
def isInst (x m : Str) (w : World) : T → Bool
  | .cell k => match w[k]? with
    | some (.obj y ks _) => y == x && !ks.contains m
    | _ => false
  | _ => false
def mMth (x m : Str) (n : Nat) (f : Sem) (a : ME) (r : MF) : ME := fun ρ w => (a ρ w).bind fun d w1 => if isInst x m w1 d = true then (r ρ w1).bind fun ds w2 => if ds.length + 1 = n then (f (d :: ds) w2).at ρ else .no else .no
def mMake (x : Str) (n : Nat) (f : Sem) (r : MF) : ME := fun ρ w => (r ρ w).bind fun ds w1 => if ds.length + 1 = n then ((f (.cell w1.length :: ds) (w1 ++ [.obj x [] []])).at ρ).bind fun t w2 => match t with
  | .non => .ok (.cell w1.length) w2
  | _ => .no else .no
section
variable {X : Cx} {Z : ZT} {W : Option WX} {K : KT} {hd φ : List Addr} {H : Hp} {w : World} {e o : Expr} {es : List Expr} {x m : Str} {p pos apos : Pos} {mo : ME} {ma : MF} {k n : Nat} {ps : List Str} {f : Sem}
theorem inst_at (wr : WR K hd φ H w) {d : T} {v : V} (r : Rep K hd φ H d v) (h : isInst x m w d = true) {C : Addr} (g : GlbAt K.1 x C) : ∃ a dx fs, v = .ref a ∧ H a = some (.ins C dx fs) ∧ fs.lookup m = none := by
  unfold isInst at h
  split at h
  · rename_i k
    split at h
    · rename_i y ks ts hk
      rw [Bool.and_eq_true] at h
      have e : y = x := beq_iff_eq.mp h.1
      subst e
      obtain ⟨a, rfl, _, _, C', dx, vs, h1, h2, _⟩ := cell_at wr r hk
      cases GlbAt.inj g h2
      exact ⟨a, dx, _, rfl, h1, no_lookup (by simpa using h.2)⟩
    · cases h
  · cases h
theorem mth_read {C : Addr} (g : GlbAt K.1 x C) : ∀ σ H Q, rdE K W (mMth x m n f mo ma) σ H Q → tMethO C m (spOf K n f) (wE W) (rdE K W mo) (rdA K W ma) σ H Q := fun σ H Q => by
  rintro ⟨hd, φ, ρ, w, sr, wr, q⟩
  refine ⟨hd, φ, ρ, w, sr, wr, Pst.then isPst q fun d w1 φ1 H1 e1 wr1 p1 v rv => ?_⟩
  split at p1
  · rename_i hi
    obtain ⟨a, dx, fs, rfl, h1, h2⟩ := inst_at wr1 rv hi g
    refine ⟨a, dx, fs, rfl, h1, h2, hd, φ1, ρ, w1, sr.mono e1, wr1, Pst.then isPst p1 fun ds w2 φ2 H2 e2 wr2 p2 vs rvs => ?_⟩
    split at p2
    · rename_i hl
      exact ⟨hd, φ2, w2, d :: ds, by simpa using hl, wr2, Reps.cons (rv.mono e2) rvs, p2.callee ((sr.mono e1).mono e2)⟩
    · exact p2.elim
  · exact p1.elim
theorem rdA_nil : ∀ σ H Q, rdA K W mNil σ H Q → tNil σ H Q := fun σ H Q => by
  rintro ⟨hd, φ, ρ, w, sr, wr, p⟩
  exact p.ok wr _ Reps.nil
theorem de_mth {pl : PySem.Sem Bool} (D : MtD X.prog X.w X.K Z X.mg X.base k x m ps f) (tk : TakesO X W) (hr : Room k X.A) (ho : PE X o (rdE (X.K, Z) W mo)) (ha : PA X (e :: es) (rdA (X.K, Z) W ma)) (hn : ps.length = n := by rfl)
    (hst : starEach (e :: es) X.env = (false, eval e X.env) :: starEach es X.env := by rfl) (hpl : (backTo pos (starEach es X.env)).any (·.1) = false := by rfl)
    (ht : eval (.Call (.Attribute o m apos) (e :: es) [] pos) X.env = (do
      let ov ← eval o X.env
      standAt apos.atName
      let (g, first) ← holding [ov] (getMethod ov m pl)
      callWith pos g first (backTo pos (starEach (e :: es) X.env)) (backToKw pos (keywordEach [] X.env))) := by rfl) : PE X (.Call (.Attribute o m apos) (e :: es) [] pos) (rdE (X.K, Z) W (mMth x m n f mo ma)) := by
  subst hn
  obtain ⟨C, fa, fd, g, c, me, ok, hb⟩ := D.ex
  exact PE_imp (pe_methO (E := wE W) ho c me ok hr hb (passO tk) ha hst hpl ht) (mth_read g)
theorem de_mth0 {pl : PySem.Sem Bool} (D : MtD X.prog X.w X.K Z X.mg X.base k x m ps f) (tk : TakesO X W) (hr : Room k X.A) (ho : PE X o (rdE (X.K, Z) W mo)) (hn : ps.length = n := by rfl)
    (ht : eval (.Call (.Attribute o m apos) [] [] pos) X.env = (do
      let ov ← eval o X.env
      standAt apos.atName
      let (g, first) ← holding [ov] (getMethod ov m pl)
      callWith pos g first (backTo pos (starEach [] X.env)) (backToKw pos (keywordEach [] X.env))) := by rfl) : PE X (.Call (.Attribute o m apos) [] [] pos) (rdE (X.K, Z) W (mMth x m n f mo mNil)) := by
  subst hn
  obtain ⟨C, fa, fd, g, c, me, ok, hb⟩ := D.ex
  refine PE_imp (pe_methO0 (E := wE W) ho c me ok hr hb (passO tk) ht) fun σ H Q q => ?_
  obtain ⟨hd, φ, ρ, w, sr, wr, q2⟩ := mth_read (K := (X.K, Z)) g σ H Q q
  refine ⟨hd, φ, ρ, w, sr, wr, q2.imp fun d φ1 H1 e1 h v rv => ?_⟩
  obtain ⟨a, dx, fs, h1, h2, h3, h4⟩ := h v rv
  exact ⟨a, dx, fs, h1, h2, h3, rdA_nil _ _ _ h4⟩
/-! ### C(e, ..) -/
theorem make_read {C : Addr} (g : GlbAt K.1 x C) : ∀ σ H Q, rdE K W (mMake x n f ma) σ H Q → tMakeO C (spOf K n f) (wE W) (rdA K W ma) σ H Q := fun σ H Q => by
  rintro ⟨hd, φ, ρ, w, sr, wr, q⟩
  refine ⟨hd, φ, ρ, w, sr, wr, Pst.then isPst q fun ds w1 φ1 H1 e1 wr1 p1 vs rvs => ?_⟩
  intro y dx hy hdx hne
  split at p1
  · rename_i hl
    have w2 : WR K hd φ1 (upd H1 dx (.own y)) w1 := wr1.new hdx
    have ey : Ext hd φ1 H1 hd φ1 (upd H1 dx (.own y)) := Ext.new hdx
    have hy2 : (upd H1 dx (.own y)) y = none := by rw [upd_ne (Ne.symm hne)]; exact hy
    have nin := wr1.nin hdx
    have nny := wr1.nin hy
    have hc : CellR K (y :: hd) φ1 (upd (upd H1 dx (.own y)) y (.ins C dx [])) (.obj x [] []) y := by
      refine ⟨C, dx, [], upd_same, g, rfl, ⟨by rw [upd_ne hne]; exact upd_same, nin.1, fun z => ?_⟩, Reps.nil⟩
      rcases List.mem_cons.mp z with z | z
      · exact hne z
      · exact nin.2 z
    have w3 := (w2.hold (o := .ins C dx []) hy2).cell nny.2 hc
    have e3 : Ext hd φ1 H1 hd (φ1 ++ [y]) (upd (upd H1 dx (.own y)) y (.ins C dx [])) := ey.trans ((Ext.hold hy2).cell (fr0_none hy2))
    have ry : Rep K hd (φ1 ++ [y]) (upd (upd H1 dx (.own y)) y (.ins C dx [])) (.cell w1.length) (.ref y) := by
      unfold Rep
      refine ⟨y, rfl, ?_⟩
      rw [← wr1.len, List.getElem?_append_right (Nat.le_refl _)]
      simp
    refine ⟨hd, φ1 ++ [y], w1 ++ [.obj x [] []], .cell w1.length :: ds, by simpa using hl, w3, Reps.cons ry (rvs.mono e3), ?_⟩
    have sr3 := (sr.mono e1).mono e3
    cases hf : f (.cell w1.length :: ds) (w1 ++ [.obj x [] []]) with
    | no => rw [hf] at p1; exact p1.elim
    | ex t ρ' w' =>
      rw [hf] at p1
      cases W with
      | none => exact p1.elim
      | some W => intro H' φ' σ' e wr' _ cls d rx; exact p1 H' φ' σ (e3.trans e) wr' (sr3.mono e) cls d rx
    | ok t w' =>
      rw [hf, at_ok, bind_ok] at p1
      intro H' φ' e wr' v rv
      split at p1
      · unfold Rep at rv
        subst rv
        exact ⟨rfl, p1 H' φ' (e3.trans e) wr' _ (ry.mono e)⟩
      · exact p1.elim
  · exact p1.elim
theorem de_make (D : MkD X.prog X.w X.K Z X.mg X.base k x ps f) (tk : TakesO X W) (hr : Room (k + 1) X.A) (ha : PA X (e :: es) (rdA (X.K, Z) W ma)) (hn : ps.length = n := by rfl) (hg : Gl X x := by rfl) (hdb : (x == ("__debug__" : Str)) = false := by decide)
    (he : starEach (e :: es) X.env = (false, eval e X.env) :: starEach es X.env := by rfl) (hpl : (backTo pos (starEach es X.env)).any (·.1) = false := by rfl) : PE X (.Call (.Name x p) (e :: es) [] pos) (rdE (X.K, Z) W (mMake x n f ma)) := by
  subst hn
  obtain ⟨C, fa, fd, g, hm, mk, ok, hb⟩ := D.ex
  exact PE_imp (pe_makeO (E := wE W) mk ok hr hg hm hb (passO tk) ha hdb he hpl) (make_read g)
theorem de_make0 (D : MkD X.prog X.w X.K Z X.mg X.base k x ps f) (tk : TakesO X W) (hr : Room (k + 1) X.A) (hn : ps.length = n := by rfl) (hg : Gl X x := by rfl) (hdb : (x == ("__debug__" : Str)) = false := by decide) : PE X (.Call (.Name x p) [] [] pos) (rdE (X.K, Z) W (mMake x n f mNil)) := by
  subst hn
  obtain ⟨C, fa, fd, g, hm, mk, ok, hb⟩ := D.ex
  exact PE_imp (pe_makeO0 (E := wE W) mk ok hr hg hm hb (passO tk) hdb) fun σ H Q q => rdA_nil _ _ _ (make_read (K := (X.K, Z)) g σ H Q q)
end
end VS

set_option Elab.async false
set_option linter.all false
set_option maxRecDepth 100000
set_option maxHeartbeats 2000000
/-! VW29: methods called with keywords; methods and makers by the written part. -/
namespace VS
open PySem PySem.Spec PyProof.Rows L2
structure MtP (P : Program) (w : PySem.World) (K : PySem.W.Frag) (Z : ZT) (mg : Str → Option Value) (base : Heap) (k : Nat) (x m : Str) (n np : Nat) (ks : List Str) (ix : List Nat) (f : Sem) : Prop where
  ex : ∃ (C fa : Addr) (fd : FuncData) (ps : List Str), ps.length = n ∧ GlbAt K x C ∧ Cls K C ∧ Meth K C m fa ∧ FnOk P w K mg base (L2.CX P w) k fa fd ps (spOf (K, Z) n f) ∧ KBinds K fd ps ks (gP np ks.length ix) (gP np ks.length ix)
def mMthP (x m : Str) (n np nk : Nat) (ix : List Nat) (f : Sem) (a : ME) (r rk : MF) : ME := fun ρ w => (a ρ w).bind fun d w1 => if isInst x m w1 d = true then (r ρ w1).bind fun ds w2 => (rk ρ w2).bind fun es w3 =>
  if ds.length + 1 = np ∧ es.length = nk ∧ (prm ix (d :: ds ++ es)).length = n then (f (prm ix (d :: ds ++ es)) w3).at ρ else .no else .no
section
variable {X : Cx} {Z : ZT} {W : Option WX} {K : KT} {e o : Expr} {es : List Expr} {kws : List Keyword} {x m : Str} {p pos apos : Pos} {mo : ME} {ma mk : MF} {k n np nk : Nat} {ps ks : List Str} {ix : List Nat} {f : Sem}
def tMethKO (C : Addr) (m : Str) (sp : Sp) (gV : List V → List V → List V) (E : L2.St → XK) (ta : TE) (t tk : TA) : TE := fun σ H Q => ta σ H fun x H1 => ∃ a dx fs, x = .ref a ∧ H1 a = some (.ins C dx fs) ∧ fs.lookup m = none ∧ t σ H1 fun vs H2 => tk σ H2 fun zs H3 => sp (gV (x :: vs) zs) H3 Q (E σ)
theorem mthP_read {C : Addr} (g : GlbAt K.1 x C) : ∀ σ H Q, rdE K W (mMthP x m n np nk ix f mo ma mk) σ H Q → tMethKO C m (spOf K n f) (gP np nk ix) (wE W) (rdE K W mo) (rdA K W ma) (rdA K W mk) σ H Q := fun σ H Q => by
  rintro ⟨hd, φ, ρ, w, sr, wr, q⟩
  refine ⟨hd, φ, ρ, w, sr, wr, Pst.then isPst q fun d w1 φ1 H1 e1 wr1 p1 v rv => ?_⟩
  split at p1
  · rename_i hi
    obtain ⟨a, dx, fs, rfl, h1, h2⟩ := inst_at wr1 rv hi g
    refine ⟨a, dx, fs, rfl, h1, h2, hd, φ1, ρ, w1, sr.mono e1, wr1, Pst.then isPst p1 fun ds w2 φ2 H2 e2 wr2 p2 vs rvs => ?_⟩
    refine ⟨hd, φ2, ρ, w2, (sr.mono e1).mono e2, wr2, Pst.then isPst p2 fun zs w3 φ3 H3 e3 wr3 p3 vz rz => ?_⟩
    split at p3
    · rename_i hc
      have e : gP np nk ix (.ref a :: vs) vz = prm ix (.ref a :: vs ++ vz) := by unfold gP; rw [if_pos ⟨by rw [List.length_cons, ← rvs.len]; exact hc.1, by rw [← rz.len]; exact hc.2.1⟩]
      rw [e]
      exact ⟨hd, φ3, w3, prm ix (d :: ds ++ zs), hc.2.2, wr3, prm_reps ((Reps.cons ((rv.mono e2).mono e3) (rvs.mono e3)).append rz) ix, p3.callee (((sr.mono e1).mono e2).mono e3)⟩
    · exact p3.elim
  · exact p1.elim
theorem de_mthP0 {pl : PySem.Sem Bool} (D : MtP X.prog X.w X.K Z X.mg X.base k x m n 1 ks ix f) (tk : TakesO X W) (hr : Room k X.A) (ho : PE X o (rdE (X.K, Z) W mo)) (hkw : PK X kws (rdA (X.K, Z) W mk))
    (hall : (backToKw pos (keywordEach kws X.env)).all (·.1.isSome) = true := by rfl) (hks : (backToKw pos (keywordEach kws X.env)).filterMap (·.1) = ks := by rfl)
    (hpl : ((backTo pos (starEach [] X.env)).any (·.1) || (backToKw pos (keywordEach kws X.env)).any (·.1.isNone)) = false := by rfl) (hnk : ks.length = nk := by rfl)
    (ht : eval (.Call (.Attribute o m apos) [] kws pos) X.env = (do
      let ov ← eval o X.env
      standAt apos.atName
      let (g, first) ← holding [ov] (getMethod ov m pl)
      callWith pos g first (backTo pos (starEach [] X.env)) (backToKw pos (keywordEach kws X.env))) := by rfl) : PE X (.Call (.Attribute o m apos) [] kws pos) (rdE (X.K, Z) W (mMthP x m n 1 nk ix f mo mNil mk)) := by
  subst hnk
  obtain ⟨C, fa, fd, ps, hn, g, c, me, ok, hb⟩ := D.ex
  refine PE_imp (t := tMethKO C m (spOf (X.K, Z) n f) (gP 1 ks.length ix) (wE W) (rdE (X.K, Z) W mo) (rdA (X.K, Z) W mNil) (rdA (X.K, Z) W mk)) ⟨fun pins s σ H Q I h => ?_⟩ (mthP_read g)
  refine PySem.W.methodCall_KW (pl := pl) (thn (ho.run pins s σ H _ I h) fun u s1 ⟨y, H1, I1, rx, a, dx, fs, ex, ea, l, q⟩ => ?_) ht
  subst ex
  obtain rfl : u = Value.ref a := rx
  have q := rdA_nil _ _ _ q
  refine getmeth_ok I1 ea c me l (PySem.W.callWith_KW0 (first := [.ref a]) (h₀ := X.base) I.ok.mod.kin me.kp hall (thn (hkw.run pos pins s1 σ H1 _ I1 q) fun ws s2 ⟨zs, H2, I2, rz, q2⟩ => ⟨I2.kIn, ?_⟩) hpl)
  rw [hks]
  exact run_fnkO (us := [.ref a]) (vs := [.ref a]) ok hr hb (passO tk σ) I2 (.cons rfl .nil) rz q2
theorem de_mthP {pl : PySem.Sem Bool} (D : MtP X.prog X.w X.K Z X.mg X.base k x m n np ks ix f) (tk : TakesO X W) (hr : Room k X.A) (ho : PE X o (rdE (X.K, Z) W mo)) (ha : PA X (e :: es) (rdA (X.K, Z) W ma)) (hkw : PK X kws (rdA (X.K, Z) W mk))
    (hall : (backToKw pos (keywordEach kws X.env)).all (·.1.isSome) = true := by rfl) (hks : (backToKw pos (keywordEach kws X.env)).filterMap (·.1) = ks := by rfl)
    (he : starEach (e :: es) X.env = (false, eval e X.env) :: starEach es X.env := by rfl)
    (hpl : ((backTo pos (starEach (e :: es) X.env)).any (·.1) || (backToKw pos (keywordEach kws X.env)).any (·.1.isNone)) = false := by rfl) (hnk : ks.length = nk := by rfl)
    (ht : eval (.Call (.Attribute o m apos) (e :: es) kws pos) X.env = (do
      let ov ← eval o X.env
      standAt apos.atName
      let (g, first) ← holding [ov] (getMethod ov m pl)
      callWith pos g first (backTo pos (starEach (e :: es) X.env)) (backToKw pos (keywordEach kws X.env))) := by rfl) : PE X (.Call (.Attribute o m apos) (e :: es) kws pos) (rdE (X.K, Z) W (mMthP x m n np nk ix f mo ma mk)) := by
  subst hnk
  obtain ⟨C, fa, fd, ps, hn, g, c, me, ok, hb⟩ := D.ex
  refine PE_imp (t := tMethKO C m (spOf (X.K, Z) n f) (gP np ks.length ix) (wE W) (rdE (X.K, Z) W mo) (rdA (X.K, Z) W ma) (rdA (X.K, Z) W mk)) ⟨fun pins s σ H Q I h => ?_⟩ (mthP_read g)
  refine PySem.W.methodCall_KW (pl := pl) (thn (ho.run pins s σ H _ I h) fun u s1 ⟨y, H1, I1, rx, a, dx, fs, ex, ea, l, q⟩ => ?_) ht
  subst ex
  obtain rfl : u = Value.ref a := rx
  refine getmeth_ok I1 ea c me l (PySem.W.callWith_KW (first := [.ref a]) (h₀ := X.base) I.ok.mod.kin me.kp hall (thn (ha.run pos pins s1 σ H1 _ I1 q) fun us s2 ⟨vs, H2, I2, r, q2⟩ => thn (hkw.run pos pins s2 σ H2 _ I2 q2) fun ws s3 ⟨zs, H3, I3, rz, q3⟩ => ⟨I3.kIn, ?_⟩) hpl he)
  rw [hks]
  exact run_fnkO (us := .ref a :: us) (vs := .ref a :: vs) ok hr hb (passO tk σ) I3 (.cons rfl r) rz q3
end
/-! ### by the written part -/
/-- a method's def: what the written part says -/
structure AtM (K : PySem.W.Frag) (x m qual : Str) (st : Stmt) (cd : Value) : Prop where
  ex : ∃ (C f : Addr) (oc : Value) (od an : Option Addr) (sl : Array (Option Value)) (kV dc pm ct : Value), GlbAt K x C ∧ PySem.W.findIn K (.ref C) m = some (some (.ref f)) ∧ PySem.W.isFn K (.ref f) = true ∧ PySem.W.keepIn K (.ref f) = true ∧
    K.lookup f = some ⟨oc, od, .func (PySem.W.fnOf m qual (defArgs st) (defBody st) (defScope st) .none kV dc pm an cd ct), sl⟩ ∧ PySem.W.codeIn K cd qual = true
/-- an own class -/
structure ClsO (K : PySem.W.Frag) (x : Str) (C : Addr) : Prop where
  c1 : PySem.W.nsIn K mainGlobals x = some (some (.ref C))
  c2 : PySem.W.plainGet K C Str.empty = true
  c3 : PySem.W.hasDictIn K C = true
  c4 : PySem.W.plainOver K C = true
  c5 : PySem.W.findIn K (.ref C) "__setattr__" = some (some (.builtin "object.__setattr__"))
  c6 : PySem.W.makesIn K C = true
  c7 : PySem.W.keepIn K (.ref C) = true
theorem ClsO.cls {K : PySem.W.Frag} {x : Str} {C : Addr} (q : ClsO K x C) : Cls K C := ⟨q.c2, q.c3, q.c4, q.c5⟩
theorem atM_mk {K : PySem.W.Frag} {x m qual : Str} {st : Stmt} {C f : Addr} {oc : Value} {od an : Option Addr} {sl : Array (Option Value)} {kV dc pm cd ct : Value} (q : ClsO K x C) (h1 : PySem.W.findIn K (.ref C) m = some (some (.ref f)))
    (h2 : K.lookup f = some ⟨oc, od, .func (PySem.W.fnOf m qual (defArgs st) (defBody st) (defScope st) .none kV dc pm an cd ct), sl⟩) (h3 : PySem.W.codeIn K cd qual = true) (h4 : PySem.W.keepIn K (.ref f) = true) (h5 : PySem.W.isFn K (.ref f) = true) : AtM K x m qual st cd :=
  ⟨C, f, oc, od, an, sl, kV, dc, pm, ct, q.c1, h1, h5, h4, h2, h3⟩
section
variable {P : Program} {w : PySem.World} {K : PySem.W.Frag} {Z : ZT} {mg : Str → Option Value} {base : Heap} {x m qual : Str} {st : Stmt} {cd : Value} {N ps ks : List Str} {k np : Nat} {ix : List Nat} {mm : MS} {h : Heap} {C : Addr}
theorem ok_ofM {f : Addr} {fd : FuncData} {cdv : Value} (F : FunC K m qual st f fd cdv) (S : FnScope N ps (defScope st)) (body : Bd P w K Z mg base N qual st cdv k mm) : FnOk P w K mg base (L2.CX P w) (k + 1) f fd ps (spOf (K, Z) ps.length (runB N.length mm)) := by
  obtain ⟨oc, od, kV, doc, pm, an, ct, osl, rfl, lk, hcd⟩ := F.ex
  refine fn_of lk hcd S spOf_len fun A outer s H vs Q E hr hsp => ⟨rdS (K, Z) (some fun cls d _ H' => E cls d H') mm, body f A outer s H E _ hr (show Takes _ _ from takes_of rfl rfl rfl rfl), ?_⟩
  obtain ⟨hd, φ, w, ds, l, wr, rs, p⟩ := hsp
  refine ⟨hd, φ, ds.map some ++ List.replicate (N.length - ds.length) none, w, ?_, wr, ?_⟩
  · unfold L2.start
    rw [← rs.len]
    exact SR.start rs _
  · unfold runB at p
    cases q : mm (ds.map some ++ List.replicate (N.length - ds.length) none) w with
    | no => rw [q] at p; exact p
    | ex t ρ w' =>
      rw [q] at p
      intro H' φ' σ' e wr' _ cls d rx
      exact p H' φ' [] e wr' sr_nil cls d rx
    | ok r w' =>
      rw [q] at p
      obtain ⟨ρ', fl⟩ := r
      cases fl with
      | nx => intro H' φ' e wr' σ' _; exact p H' φ' e wr' .non (by unfold Rep; rfl)
      | ret t => exact p
      | bk => exact p.elim
      | ct => exact p.elim
theorem AtM.mt (a : AtM K x m qual st cd) (q : ClsO K x C) (S : FnScope N ps (defScope st))
    (hb : ∀ (kV doc pm : Value) (an : Option Addr) (cdv ct : Value) (us : List Value), us.length = ps.length → bindArgs (PySem.W.fnOf m qual (defArgs st) (defBody st) (defScope st) .none kV doc pm an cdv ct) ⟨us, []⟩ = pure (ps.zip us))
    (body : Bd P w K Z mg base N qual st cd k mm) : MtD P w K Z mg base (k + 1) x m ps (runB N.length mm) := by
  obtain ⟨C', f, oc, od, an, sl, kV, dc, pm, ct, g, h1, h5, h4, h2, h3⟩ := a.ex
  cases GlbAt.inj g q.c1
  exact ⟨C, f, _, g, q.cls, ⟨h1, h5, h4⟩, ok_ofM ⟨_, _, _, _, _, _, _, _, rfl, h2, h3⟩ S body, Binds.all (hb _ _ _ _ _ _)⟩
theorem AtM.maker (a : AtM K x "__init__" qual st cd) (q : ClsO K x C) (X : K.In h) (G : h.Ns mainGlobals mg) (S : FnScope N ps (defScope st))
    (hb : ∀ (kV doc pm : Value) (an : Option Addr) (cdv ct : Value) (us : List Value), us.length = ps.length → bindArgs (PySem.W.fnOf "__init__" qual (defArgs st) (defBody st) (defScope st) .none kV doc pm an cdv ct) ⟨us, []⟩ = pure (ps.zip us))
    (body : Bd P w K Z mg base N qual st cd k mm) : MkD P w K Z mg base (k + 1) x ps (runB N.length mm) := by
  obtain ⟨C', f, oc, od, an, sl, kV, dc, pm, ct, g, h1, h5, h4, h2, h3⟩ := a.ex
  cases GlbAt.inj g q.c1
  exact ⟨C, f, _, g, PySem.W.mg_of X G q.c1, ⟨q.c6, h1, h5, q.c7⟩, ok_ofM ⟨_, _, _, _, _, _, _, _, rfl, h2, h3⟩ S body, Binds.all (hb _ _ _ _ _ _)⟩
theorem AtM.mtP (a : AtM K x m qual st cd) (q : ClsO K x C) (S : FnScope N ps (defScope st)) (hne : ps ≠ [])
    (hb : ∀ (kV doc pm : Value) (an : Option Addr) (cdv ct : Value) (us ws : List Value), us.length = np → ws.length = ks.length → bindArgs (PySem.W.fnOf m qual (defArgs st) (defBody st) (defScope st) .none kV doc pm an cdv ct) ⟨us, ks.zip ws⟩ = pure (ps.zip (prm ix (us ++ ws))))
    (body : Bd P w K Z mg base N qual st cd k mm) : MtP P w K Z mg base (k + 1) x m ps.length np ks ix (runB N.length mm) := by
  obtain ⟨C', f, oc, od, an, sl, kV, dc, pm, ct, g, h1, h5, h4, h2, h3⟩ := a.ex
  cases GlbAt.inj g q.c1
  refine ⟨C, f, _, ps, rfl, g, q.cls, ⟨h1, h5, h4⟩, ok_ofM ⟨_, _, _, _, _, _, _, _, rfl, h2, h3⟩ S body, ⟨fun s us ws _ hl => ?_, fun a b => gP_rel a b⟩⟩
  unfold gP at hl ⊢
  split at hl
  · rename_i hc
    rw [if_pos hc]
    exact .of_eq (hb _ _ _ _ _ _ us ws hc.1 hc.2)
  · exfalso
    exact hne (List.eq_nil_of_length_eq_zero (by simpa using hl.symm))
theorem obTab_cons {tab : List (Str × List Str)} {fs : List Str} (q : ClsO K x C) (n : ∀ f ∈ fs, NoAttr K C f) (r : ObTab K tab) : ObTab K ((x, fs) :: tab) := ⟨fun p hp C' g => by
  rcases List.mem_cons.mp hp with rfl | hp
  · cases GlbAt.inj q.c1 g
    exact ⟨q.cls, n⟩
  · exact r.ex p hp C' g⟩
theorem obTab_nil : ObTab K [] := ⟨fun p hp => by cases hp⟩
end
end VS

set_option Elab.async false
set_option linter.all false
set_option maxRecDepth 100000
set_option maxHeartbeats 4000000
/-! VW30: a tuple times 0 or 1. -/
namespace VS
open PySem PySem.Spec PyProof.Rows L2
theorem tuple_mul1 (l : Addr) (items : Array Value) (n : Nat) (dd : Option Addr) (sl : Array (Option Value)) (u : Tok) :
    Meets (Builtin.«tuple.__mul__» ⟨[.ref l, .int 1 u], []⟩) (fun _ R s => s.heap.get? l = some { cls := .type "tuple", dict := dd, data := .seq items n, slots := sl } ∧ R (.ok (.ret (.ref l))) s) :=
  .of_wp fun prog w A R s h => by
    obtain ⟨hp, g, d, tk, os⟩ := s
    obtain ⟨hl, h⟩ := h
    have f1 := AutoSeq1.idx_int
    have c1 : (items.isEmpty || (1 : Int) == 1) = true := by simp
    wp_walk using wpAny_loadPart' hl
    repeat (first
      | (refine wpAny_ite_true (decide_eq_true c1) ?_; wp_walk using wpAny_loadPart' hl)
      | (refine wpAny_ite_false (by decide) ?_; wp_walk using wpAny_loadPart' hl))
    exact ⟨_, rfl, h⟩
theorem tuple_mul0 (l : Addr) (items : Array Value) (n : Nat) (dd : Option Addr) (sl : Array (Option Value)) (u : Tok) (ne : items.isEmpty = false) :
    Meets (Builtin.«tuple.__mul__» ⟨[.ref l, .int 0 u], []⟩) (fun _ R s => s.heap.get? l = some { cls := .type "tuple", dict := dd, data := .seq items n, slots := sl } ∧
      R (.ok (.ret (Value.ref s.heap.objs.size))) { s with heap := s.heap.push { cls := Value.type "tuple", data := Data.seq #[] }, toks := s.toks }) :=
  .of_wp fun prog w A R s h => by
    obtain ⟨hp, g, d, tk, os⟩ := s
    obtain ⟨hl, h⟩ := h
    have f1 := AutoSeq1.idx_int
    have c1 : (items.isEmpty || (0 : Int) == 1) = false := by rw [ne]; rfl
    wp_walk using wpAny_loadPart' hl
    repeat (first
      | (refine wpAny_ite_false (decide_eq_false (by rw [c1]; exact Bool.false_ne_true)) ?_; wp_walk using wpAny_loadPart' hl)
      | (refine wpAny_ite_true (by simp) ?_; wp_walk using wpAny_loadPart' hl)
      | (refine wpAny_ite_false (by decide) ?_; wp_walk using wpAny_loadPart' hl))
    exact ⟨_, rfl, h⟩
def rRep01 (K : PySem.W.Frag) : R2 := fun x y H Q => ∃ l k xs, x = .ref l ∧ y = .int k ∧ SqT K H l xs ∧ xs ≠ [] ∧ ((k = 1 ∧ Q (.ref l) H) ∨ (k = 0 ∧ ∀ p, H p = none → Q (.ref p) (upd H p (.tup []))))
theorem op_rep01 {X : Cx} : OpR X (binaryOp .Mult) (rRep01 X.K) := by
  intro pins s σ H x y v u Q I rx ry h
  obtain ⟨l, k, xs, rfl, rfl, hT, hne, q⟩ := h
  cases (show v = Value.ref l from rx)
  obtain ⟨t, rfl⟩ := ry
  obtain ⟨its, r, ⟨⟨cls, dd, data, sl⟩, ho, hc, n, hd⟩, hs⟩ := I.tuple hT
  simp only at hc hd
  subst hc hd
  have hi : its.toArray.isEmpty = false := by
    have hl := r.length
    cases its with
    | nil => exact absurd (List.eq_nil_of_length_eq_zero hl) hne
    | cons a b => rfl
  rcases q with ⟨rfl, q⟩ | ⟨rfl, q⟩
  · refine wpAny_binaryOp_repeat_ref (T := "tuple") (U := "int") (by decide) ⟨_, ho, rfl⟩ (fun s' => typeIs_int s' 1 t) noFill_tuple_mul F.fills_int_mul F.slot_int_rmul repeat_tuple F.slot_int_index.lookup
      (call_meets F.slot_int_rmul (typeIs_int s 1 t) F.entry_int_rmul (F.args_int_rmul_2 _ _) (int_rmul_tuple 1 t l its.toArray n dd sl)
        ⟨ho, rfl, ⟨_, ho, rfl⟩, call_meets F.slot_tuple_mul ⟨_, ho, rfl⟩ F.entry_tuple_mul (F.args_tuple_mul_2 _ _) (tuple_mul1 l its.toArray n dd sl t) ⟨ho, ?_⟩⟩)
    exact ⟨.ref l, H, I, rfl, q⟩
  · refine wpAny_binaryOp_repeat_ref (T := "tuple") (U := "int") (by decide) ⟨_, ho, rfl⟩ (fun s' => typeIs_int s' 0 t) noFill_tuple_mul F.fills_int_mul F.slot_int_rmul repeat_tuple F.slot_int_index.lookup
      (call_meets F.slot_int_rmul (typeIs_int s 0 t) F.entry_int_rmul (F.args_int_rmul_2 _ _) (int_rmul_tuple 0 t l its.toArray n dd sl)
        ⟨ho, rfl, ⟨_, ho, rfl⟩, call_meets F.slot_tuple_mul ⟨_, ho, rfl⟩ F.entry_tuple_mul (F.args_tuple_mul_2 _ _) (tuple_mul0 l its.toArray n dd sl t hi) ⟨ho, ?_⟩⟩)
    refine ⟨.ref s.heap.objs.size, _, I.laid (t' := s.toks) (o := .tup []) (fun b ob q => Heap.get?_push_of_some _ q) (Nat.le_refl _) ?_, rfl, q _ (I.hok.fresh (Nat.le_refl _))⟩
    exact ⟨by rw [sizeLine_eq]; decide, [], .nil, IsTup.new _ _⟩
def sMulT : S2 := fun x y w => match x, y with
  | .tup ts, .int k => if ts ≠ [] ∧ 0 ≤ k ∧ k ≤ 1000 ∧ ts.length ≤ 1000 then .ok (.tup (List.replicate k.toNat ts).flatten) w else .no
  | _, _ => .no
section
variable {X : Cx} {a b : Expr} {pos : Pos} {ma mb : ME} {Z : ZT} {W : Option WX} {K : KT}
theorem opMulT : Op2 K sMulT (fun x y H Q => rRepT K.1 x y H Q ∨ rRep01 K.1 x y H Q) := fun W hd φ H w dx dy x y Q wr rx ry p => by
  unfold sMulT at p
  split at p
  · rename_i ts k
    split at p
    · rename_i hc
      obtain ⟨h1, h2, h3, h4⟩ := hc
      unfold Rep at rx ry
      obtain ⟨l, xs, rfl, n, rs⟩ := rx
      have hx : xs ≠ [] := fun e => by
        subst e
        have := rs.len
        exact h1 (List.eq_nil_of_length_eq_zero this)
      by_cases k2 : 2 ≤ k
      · exact .inl ⟨l, k, xs, rfl, ry, SqT.of n.1, hx, k2, h3, by rw [← rs.len]; exact h4, p.tup wr (rs.flat k.toNat)⟩
      · by_cases k1 : k = 1
        · subst k1
          refine .inr ⟨l, 1, xs, rfl, ry, SqT.of n.1, hx, .inl ⟨rfl, ?_⟩⟩
          refine p.ok wr _ ?_
          unfold Rep
          exact ⟨l, xs, rfl, n, by simpa using rs⟩
        · have k0 : k = 0 := by omega
          subst k0
          exact .inr ⟨l, 0, xs, rfl, ry, SqT.of n.1, hx, .inr ⟨rfl, p.tup wr Reps.nil⟩⟩
    · exact p.elim
  · exact p.elim
theorem de_mulT (ha : PE X a (rdE (X.K, Z) W ma)) (hb : PE X b (rdE (X.K, Z) W mb)) : PE X (.BinOp a .Mult b pos) (rdE (X.K, Z) W (mOp2 sMulT ma mb)) := de_op (op_repT.or op_rep01) opMulT ha hb
end
end VS

set_option Elab.async false
set_option linter.all false
set_option maxRecDepth 100000
set_option maxHeartbeats 4000000
/-! VW31: xs.index(i) of ints. -/
namespace VS
open PySem PySem.Spec PyProof.Rows L2
/-! ### xs.index(i), of ints -/
def sIndexL : SM := fun d ds w => match ds with
  | [.int i] => match lst? w d with
    | some ts => match intsT ts with
      | some ns => match ns.findIdx? (· == i) with
        | some j => .ok (.int (j : Nat)) w
        | none => .no
      | none => .no
    | none => .no
  | _ => .no
theorem flat_ints (ns : List Int) : (ns.map V.int).all flatV = true := by
  rw [List.all_eq_true]
  intro v hv
  obtain ⟨n, _, rfl⟩ := List.mem_map.mp hv
  rfl
section
variable {X : Cx} {o e : Expr} {pos : Pos} {mo : ME} {m : MF} {Z : ZT} {W : Option WX} {K : KT}
theorem opIndexL : OpM K sIndexL (rIndex K.1) := fun W hd φ H w d ds x xs Q wr rx rxs p => by
  unfold sIndexL at p
  split at p
  · rename_i i
    cases q : lst? w d with
    | none => rw [q] at p; exact p.elim
    | some ts =>
      rw [q] at p
      simp only at p
      cases q2 : intsT ts with
      | none => rw [q2] at p; exact p.elim
      | some ns =>
        rw [q2] at p
        simp only at p
        cases q3 : ns.findIdx? (· == i) with
        | none => rw [q3] at p; exact p.elim
        | some j =>
          rw [q3] at p
          simp only at p
          obtain ⟨l, ys, rfl, h1, h2⟩ := lst_at wr rx q
          obtain ⟨v, rfl, rt⟩ := reps1 rxs
          cases rep_int rt
          have hys := intV_at h2 q2
          subst hys
          obtain ⟨hj, hjt, hno⟩ := List.findIdx?_eq_some_iff_getElem.mp q3
          refine ⟨l, ns.map V.int, .int i, j, .int ns[j], rfl, rfl, SqL.of h1, rfl, flat_ints ns, by simp [hj], hjt, ?_, p.ok wr _ (by unfold Rep; rfl)⟩
          intro m z' hm hz
          rw [List.getElem?_map] at hz
          cases q4 : ns[m]? with
          | none => rw [q4] at hz; cases hz
          | some n =>
            rw [q4] at hz
            cases hz
            obtain ⟨hml, rfl⟩ := List.getElem?_eq_some_iff.mp q4
            have := hno m hm
            show (ns[m] == i) = false
            simpa using this
  · exact p.elim
theorem de_indexL {apos : Pos} (ho : PE X o (rdE (X.K, Z) W mo)) (ha : PA X [e] (rdA (X.K, Z) W m))
    (hbase : attributeBase o "index" X.env (eval o X.env) = eval o X.env := by rfl) (hline : (apos.endLine == pos.line) = true := by rfl)
    (hfew : ((backTo pos (starEach [e] X.env)).all (fun x => !x.1) && (backToKw pos (keywordEach [] X.env)).all (fun x => x.1.isSome)
      && decide (([e] : List Expr).length + ([] : List Keyword).length + (if ([] : List Keyword).isEmpty then 0 else 1) < 30)) = true := by rfl)
    (hs : starEach [e] X.env = (false, eval e X.env) :: starEach [] X.env := by rfl) (hplain : (backTo pos (starEach [] X.env)).any (·.1) = false := by rfl) :
    PE X (.Call (.Attribute o "index" apos) [e] [] pos) (rdE (X.K, Z) W (mMeth sIndexL mo m)) :=
  PE_imp (pe_bm PySem.F.plainAttrs_list PySem.F.slot_list_index PySem.F.type_list_index mt_index ho ha hbase hfew hline hs hplain) (meth_read opIndexL)
end
/-! ### name = [.. for .. for ..], both on one line -/
section
variable {X : Cx} {Z : ZT} {W : Option WX} {elt tg iter : Expr} {ifs : List Expr} {scope : Scope} {own : List (Str × Nat)} {pos : Pos}
theorem ds_setLc2 (i : Nat) (cell : Bool) {y : Str} {py spos : Pos} {tg1 iter1 : Expr} {ifs1 : List Expr} {vs1 : List Nat} {it it1 : MI} {g g1 : MG} {S S1 : List Nat} {mc mc1 : MT} {me : ME} (hc : X.calm = true) (hN : X.N.Nodup) (hi : PI X tg iter (rdI (X.K, Z) W it)) (ok : blkC X.N X.env.scope scope own = true)
    (hg : InBlk X scope fun Y => PG Y tg (rdG (X.K, Z) none g S)) (ht : InBlk X scope fun Y => PTs Y ifs (rdT (X.K, Z) none mc)) (hi1 : InBlk X scope fun Y => PI Y tg1 iter1 (rdI (X.K, Z) none it1)) (hg1 : InBlk X scope fun Y => PG Y tg1 (rdG (X.K, Z) none g1 S1)) (ht1 : InBlk X scope fun Y => PTs Y ifs1 (rdT (X.K, Z) none mc1)) (he : InBlk X scope fun Y => PE Y elt (rdE (X.K, Z) none me))
    (hsw : swapsWith (.ListComp elt [⟨tg, iter, ifs, 0⟩, ⟨tg1, iter1, ifs1, 0⟩] scope pos) (some (.Name y py)) spos.line X.env = pure true) (hy : X.N[i]? = some y := by rfl) (hyl : X.env.scope.names.lookup y = some .local := by rfl)
    (hv : ∀ i ∈ vs1, i ∈ own.map (·.2) := by decide) (hS : ∀ i ∈ S, i ∈ own.map (·.2) := by decide) (hS1 : ∀ i ∈ S1, i ∈ vs1 := by decide) (hs : ∀ x, foldedSetIterable iter X.env x = pure x := by intro _; rfl) (hs1 : ∀ env x, foldedSetIterable iter1 env x = pure x := by intro _ _; rfl) :
    PS X (.Assign [.Name y py] (.ListComp elt [⟨tg, iter, ifs, 0⟩, ⟨tg1, iter1, ifs1, 0⟩] scope pos) spos) (rdS (X.K, Z) W (mAsg (if cell = true then mCell (mComp2 (own.map (·.2)) it g mc it1 vs1 g1 mc1 me) else mVal (mComp2 (own.map (·.2)) it g mc it1 vs1 g1 mc1 me)) (mgName i))) :=
  PS_imp (ps_setLc2 hc hN hy hyl hsw hi (blkOk_by ok) hv hg ht hi1 hg1 ht1 he hs hs1) (setF_read (comp2_read hS hS1) cell)
end
/-! ### x[a:b], x a tuple or a list -/
def mSlQ (a : ME) (lo hi : MO) : ME := fun ρ w => (a ρ w).bind fun t w1 => (lo ρ w1).bind fun l w2 => (hi ρ w2).bind fun u w3 => match t with
  | .tup ts => .ok (.tup (cutT ts l u)) w3
  | t => match lst? w3 t with
    | some ts => .ok (.lst (cutT ts l u)) w3
    | none => .no
section
variable {X : Cx} {a : Expr} {pos : Pos} {ma : ME} {Z : ZT} {W : Option WX} {K : KT} {hd φ : List Addr} {H : Hp} {w' : World}
theorem Pst.lstN {Q : VK} {ts : List T} {xs : List V} (p : Pst K W hd (CE K hd Q) φ H (.ok (.lst ts) w')) (wr : WR K hd φ H w') (r : Reps K hd φ H ts xs) : ∀ q, H q = none → Q (.ref q) (upd H q (.lst xs)) := by
  have pF : PstF K W hd Q φ H (.ok ts w') := by
    intro a xs H' φ' e1 wr1 hn ha hx rs
    refine p H' φ' e1.free wr1.free _ ?_
    unfold Rep
    exact ⟨a, xs, rfl, ⟨hx, fun z => wr1.apart a z List.mem_cons_self, ha⟩, rs.free⟩
  exact pF.new wr r
theorem de_sliceQ {lo hi : Option Expr} {ml mh : MO} {p2 : Pos} (ha : PE X a (rdE (X.K, Z) W ma)) (hl : PO X lo (rdO (X.K, Z) W ml)) (hh : PO X hi (rdO (X.K, Z) W mh)) : PE X (.Subscript a (.Slice lo hi none p2) pos) (rdE (X.K, Z) W (mSlQ ma ml mh)) := PE_imp (pe_slice (sl_tupA.or sl_list) ha hl hh) fun σ H Q => by
  rintro ⟨hd, φ, ρ, w, sr, wr, p⟩
  refine ⟨hd, φ, ρ, w, sr, wr, Pst.then isPst p fun t w1 φ1 H1 e1 wr1 p1 v rv => ?_⟩
  refine ⟨hd, φ1, ρ, w1, sr.mono e1, wr1, Pst.then isPst p1 fun l w2 φ2 H2 e2 wr2 p2 => ?_⟩
  refine ⟨hd, φ2, ρ, w2, sr.mono (e1.trans e2), wr2, Pst.then isPst p2 fun u w3 φ3 H3 e3 wr3 p3 => ?_⟩
  have rv3 := (rv.mono e2).mono e3
  by_cases ht : ∃ ts, t = .tup ts
  · obtain ⟨ts, rfl⟩ := ht
    unfold Rep at rv3
    obtain ⟨q, xs, rfl, n, rs⟩ := rv3
    refine .inl ⟨q, xs, rfl, SqT.of n.1, fun e => ?_, fun _ => p3.tup wr3 (rs.cut l u)⟩
    have e4 : cutT ts l u = ts := by
      unfold cutT
      rw [rs.len, e.1, e.2, List.drop_zero, Nat.sub_zero, ← rs.len]
      exact List.take_length
    simp only at p3
    rw [e4] at p3
    exact p3.ok wr3 _ (by unfold Rep; exact ⟨q, xs, rfl, n, rs⟩)
  · have p4 : Pst (X.K, Z) W hd (CE (X.K, Z) hd Q) φ3 H3 (match lst? w3 t with
      | some ts => .ok (.lst (cutT ts l u)) w3
      | none => .no) := by
      cases t with
      | tup ts => exact (ht ⟨_, rfl⟩).elim
      | _ => exact p3
    cases q : lst? w3 t with
    | none => rw [q] at p4; exact p4.elim
    | some ts =>
      rw [q] at p4
      obtain ⟨l', xs, rfl, h1, h2⟩ := lst_at wr3 rv3 q
      exact .inr ⟨l', xs, rfl, SqL.of h1, p4.lstN wr3 (h2.cut l u)⟩
end
end VS

set_option Elab.async false
set_option linter.all false
set_option maxRecDepth 100000
set_option maxHeartbeats 2000000
/-! VX1: defs that may want to know that no repr is under way (guards are told); repr of data. -/
namespace VS
open PySem PySem.Spec PyProof.Rows L2
/-- room, and no guard stands -/
structure RoomG (k : Nat) (A : Around) : Prop where
  room : Room k A
  gd : A.guards = some []
theorem RoomG.mono {j k : Nat} {A : Around} (r : RoomG k A) (h : j ≤ k) : RoomG j A := ⟨r.room.mono h, r.gd⟩
theorem RoomG.units {k : Nat} {A : Around} (r : RoomG k A) : A.units + 64 < cLine := r.room.units
/-- a def's promise where no guard stands -/
structure FnG (P : Program) (w : PySem.World) (K : PySem.W.Frag) (mg : Str → Option Value) (base : Heap) (k : Nat) (f : Addr) (fd : FuncData) (ps : List Str) (sp : Sp) : Prop where
  many : ∀ {vs : List V} {H : Hp} {Q : VK} {E : XK}, sp vs H Q E → vs.length = ps.length
  runs : ∀ {A : Around} {fr : List PySem.Env} {s : Shared} {H : Hp} {as : Args} {us : List Value} {vs : List V} {Q : VK} {E : XK}, RoomG k A → Env0 P w K mg base A fr s H →
    BindsTo s fd as (ps.zip us) → Vals vs us → sp vs H Q E → codeAny (model P w) A (.call (.ref f) as) (CR (L2.CX P w) fr P w H s Q E) s
/-- a body, read wherever no guard stands -/
def BdG (P : Program) (w : PySem.World) (K : PySem.W.Frag) (Z : ZT) (mg : Str → Option Value) (base : Heap) (N : List Str) (qual : Str) (st : Stmt) (cdv : Value) (k : Nat) (m : MS) : Prop :=
  ∀ (f : Addr) (A : Around) (outer : List PySem.Env) (s : Shared) (H : Hp) (E : XK) (W : Option WX), RoomG k (A.deeper (envOfC qual (defScope st) s.heap.objs.size f cdv)) → TakesO (cxOf (L2.CX P w) P w K mg base N qual (defScope st) f cdv A outer s H E) W →
    PSs (cxOf (L2.CX P w) P w K mg base N qual (defScope st) f cdv A outer s H E) (defBody st) (rdS (K, Z) W m)
section
variable {P : Program} {w : PySem.World} {K : PySem.W.Frag} {Z : ZT} {mg : Str → Option Value} {base : Heap}
theorem Bd.g {N : List Str} {qual : Str} {st : Stmt} {cdv : Value} {k : Nat} {m : MS} (b : Bd P w K Z mg base N qual st cdv k m) : BdG P w K Z mg base N qual st cdv k m := fun f A outer s H E W hr tk => b f A outer s H E W hr.room tk
/-- what a def is worth, read off its body's reading -/
theorem start_reads {N : List Str} {n : Nat} {m : MS} {vs : List V} {H : Hp} {Q : VK} {E : XK} (h : spOf (K, Z) n (runB N.length m) vs H Q E) : rdS (K, Z) (some fun cls d _ H' => E cls d H') m { nx := fun _ H' => Q .non H', rt := Q } (L2.start N vs) H := by
  obtain ⟨hd, φ, w, ds, l, wr, rs, p⟩ := h
  refine ⟨hd, φ, ds.map some ++ List.replicate (N.length - ds.length) none, w, ?_, wr, ?_⟩
  · unfold L2.start
    rw [← rs.len]
    exact SR.start rs _
  · unfold runB at p
    cases q : m (ds.map some ++ List.replicate (N.length - ds.length) none) w with
    | no => rw [q] at p; exact p
    | ex t ρ w' =>
      rw [q] at p
      intro H' φ' σ' e wr' _ cls d rx
      exact p H' φ' [] e wr' sr_nil cls d rx
    | ok r w' =>
      rw [q] at p
      obtain ⟨ρ, fl⟩ := r
      cases fl with
      | nx => intro H' φ' e wr' σ' sr'; exact p H' φ' e wr' _ (by unfold Rep; rfl)
      | ret t => intro H' φ' e wr'; exact p H' φ' e wr'
      | bk => exact p.elim
      | ct => exact p.elim
theorem okG {x : Str} {st : Stmt} {f : Addr} {fd : FuncData} {cdv : Value} {N ps : List Str} {k : Nat} {m : MS} (F : FunC K x x st f fd cdv) (S : FnScope N ps (defScope st)) (body : BdG P w K Z mg base N x st cdv k m) : FnG P w K mg base (k + 1) f fd ps (spOf (K, Z) ps.length (runB N.length m)) := by
  obtain ⟨oc, od, kV, doc, pm, an, ct, osl, rfl, lk, hcd⟩ := F.ex
  refine ⟨fun h => spOf_len _ _ _ _ h, fun {A fr s H as us vs Q E} hr e0 hb r h => LamX.run_ofS lk hcd S hr.room e0 hb r (spOf_len _ _ _ _ h) fun hr' => ⟨_, body f A fr s H E (some fun cls d _ H' => E cls d H') ⟨hr', hr.gd⟩ (show Takes _ _ from takes_of rfl rfl rfl rfl), start_reads h⟩⟩
theorem FnG.imp {f : Addr} {fd : FuncData} {ps : List Str} {k : Nat} {sp sp' : Sp} (F : FnG P w K mg base k f fd ps sp) (h : ∀ {vs : List V} {H : Hp} {Q : VK} {E : XK}, sp' vs H Q E → sp vs H Q E) : FnG P w K mg base k f fd ps sp' :=
  ⟨fun q => F.many (h q), fun r e b v q => F.runs r e b v (h q)⟩
/-- a def that calls where no guard stands -/
structure DfG (P : Program) (w : PySem.World) (K : PySem.W.Frag) (Z : ZT) (mg : Str → Option Value) (base : Heap) (k : Nat) (x : Str) (ps : List Str) (f : Sem) : Prop where
  ex : ∃ (ad : Addr) (fd : FuncData), FnG P w K mg base k ad fd ps (spOf (K, Z) ps.length f) ∧ mg x = some (.ref ad) ∧ PySem.W.keepIn K (.ref ad) = true ∧ Binds K fd ps []
theorem dfG_gc {x : Str} {ps : List Str} {k : Nat} {g : Sem} (D : DfG P w K Z mg base k x ps g) : DfG P w K Z mg base k x ps (gc g) := by
  obtain ⟨f, fd, ok, hm, hk, hb⟩ := D.ex
  exact ⟨f, fd, ok.imp fun ⟨hd, φ, w, ds, l, wr, rs, p⟩ => ⟨hd, φ, w, ds, l, wr, rs, gc_read wr p⟩, hm, hk, hb⟩
theorem At.dfG {x : Str} {st : Stmt} {cd : Value} {N ps : List Str} {k : Nat} {m : MS} {h : Heap} (a : At K x st cd) (X : K.In h) (G : h.Ns mainGlobals mg) (S : FnScope N ps (defScope st))
    (hb : ∀ (kV doc pm : Value) (an : Option Addr) (cdv ct : Value) (us : List Value), us.length = ps.length → bindArgs (PySem.W.fnOf x x (defArgs st) (defBody st) (defScope st) .none kV doc pm an cdv ct) ⟨us, []⟩ = pure (ps.zip us))
    (body : BdG P w K Z mg base N x st cd k m) : DfG P w K Z mg base (k + 1) x ps (runB N.length m) := by
  obtain ⟨f, oc, od, an, sl, kV, dc, pm, ct, h1, h2, h3, h4⟩ := a.ex
  exact ⟨f, _, okG ⟨_, _, _, _, _, _, _, _, rfl, h2, h3⟩ S body, PySem.W.mg_of X G h1, h4, (fun_mk (st := st) h2 h3 h4).binds hb⟩
end
section
variable {X : Cx} {Z : ZT} {W : Option WX} {k n : Nat} {f : Addr} {fd : FuncData} {ps : List Str} {sp : Sp} {E : L2.St → XK} {x : Str} {p pos : Pos} {e : Expr} {es : List Expr} {t : TA} {m : MF} {g : Sem}
theorem run_g {pins : List (Addr × Obj)} {σ : L2.St} {H : Hp} {s : Shared} {Q : VK} {us : List Value} {vs : List V} (F : FnG X.prog X.w X.K X.mg X.base k f fd ps sp) (hr : RoomG k X.A) (hb : Binds X.K fd ps []) (hx : PassesAt (L2.CX X.prog X.w) X σ (E σ)) (I : Inv X pins σ H s) (r : Vals vs us) (q : sp vs H Q (E σ)) :
    wpAny (model X.prog X.w) X.A (call (.ref f) us) (EP X pins σ Q) X.xe s := by
  have b : BindsTo s fd ⟨us, []⟩ (ps.zip us) := by
    simpa using hb s us I.kIn (by rw [List.append_nil, ← r.length, F.many q])
  refine wpAny_call (codeAny_mono (F.runs hr I.env0 b r q) fun o s' z => ?_)
  match o, z with
  | .error c, z => exact hx pins H s c s' I z
  | .ok (.ret u), z => exact I.after z
theorem de_defG (F : DfG X.prog X.w X.K Z X.mg X.base k x ps g) (tk : TakesO X W) (hr : RoomG k X.A) (ha : PA X (e :: es) (rdA (X.K, Z) W m)) (hn : ps.length = n := by rfl) (hg : Gl X x := by rfl) (hdb : (x == ("__debug__" : Str)) = false := by decide)
    (he : starEach (e :: es) X.env = (false, eval e X.env) :: starEach es X.env := by rfl) (hpl : (backTo pos (starEach es X.env)).any (·.1) = false := by rfl) : PE X (.Call (.Name x p) (e :: es) [] pos) (rdE (X.K, Z) W (mDef n g m)) := by
  subst hn
  obtain ⟨ad, fd, ok, hm, hk, hb⟩ := F.ex
  have call : PE X (.Call (.Name x p) (e :: es) [] pos) (tCallS (spOf (X.K, Z) ps.length g) (wE W) (rdA (X.K, Z) W m)) :=
    ⟨fun pins s σ H Q I h => wpAny_Call_Name_kw (ld_glob I hg hm (PySem.W.callWith_K (h₀ := X.base) I.ok.mod.kin hk (thn (ha.run pos pins s σ H _ I h) fun us s1 ⟨vs, H1, I1, r, q⟩ => ⟨I1.kIn, run_g ok hr hb (passO tk σ) I1 r q⟩) he hpl) hdb)⟩
  exact PE_imp call def_read
/-! ### repr -/
def sRepr : SC := fun ds w => match ds with
  | [t] => match pd w t with
    | some (.list ts) => if (PyData.list ts).showable = true ∧ (PyData.list ts).hasDict = false ∧ (PyData.list ts).depth ≤ 50 ∧ (PyData.list ts).shown.length ≤ sizeLine then .ok (.str (PyData.list ts).shown) w else .no
    | some (.tuple ts) => if (PyData.tuple ts).showable = true ∧ (PyData.tuple ts).hasDict = false ∧ (PyData.tuple ts).depth ≤ 50 ∧ (PyData.tuple ts).shown.length ≤ sizeLine then .ok (.str (PyData.tuple ts).shown) w else .no
    | _ => .no
  | _ => .no
def isBox : PyData → Bool
  | .list _ => true
  | .tuple _ => true
  | _ => false
def rRepr (K : PySem.W.Frag) : List V → Hp → VK → Prop := fun xs H Q => ∃ (x : V) (d : PyData), xs = [x] ∧ Dp K H x d ∧ isBox d = true ∧ d.showable = true ∧ d.hasDict = false ∧ d.depth ≤ 50 ∧ d.shown.length ≤ sizeLine ∧ Q (.str d.shown) H
theorem cr_repr (hg : X.A.guards = some []) (hu : X.A.units + 64 < cLine) : CallR X (.builtin "repr") (rRepr X.K) := fun pins s σ H xs us Q I rv q => by
  obtain ⟨x, d, rfl, hd, hb, h1, h2, h3, h4, q⟩ := q
  cases rv with
  | cons r0 rest =>
    cases rest
    obtain ⟨as, rd⟩ := Dp.reads I d _ _ hd r0
    have ref : ∃ a, ‹Value› = Value.ref a := by
      cases rd <;> first | (cases hb; done) | exact ⟨_, rfl⟩
    obtain ⟨a, ha⟩ := ref
    subst ha
    exact repr_of_reads' rd h1 (fun z => by rw [h2] at z; cases z) hg (by omega) (fun _ _ z => z) (fun h' u tk hk => ⟨.str d.shown, H, I.kept (t' := tk) hk, ⟨u, rfl⟩, q⟩) h4
theorem opRepr {K : KT} : OpC K sRepr (rRepr K.1) := fun W hd φ H w ds xs Q wr rx p => by
  unfold sRepr at p
  split at p
  · rename_i t
    unfold Reps at rx
    obtain ⟨x, rest, rfl, r1, r2⟩ := rx
    unfold Reps at r2
    subst r2
    split at p
    · rename_i ts hp
      split at p
      · rename_i hc
        exact ⟨x, .list ts, rfl, dp wr r1 hp, rfl, hc.1, hc.2.1, hc.2.2.1, hc.2.2.2, p.ok wr _ (by unfold Rep; rfl)⟩
      · exact p.elim
    · rename_i ts hp
      split at p
      · rename_i hc
        exact ⟨x, .tuple ts, rfl, dp wr r1 hp, rfl, hc.1, hc.2.1, hc.2.2.1, hc.2.2.2, p.ok wr _ (by unfold Rep; rfl)⟩
      · exact p.elim
    · exact p.elim
  · exact p.elim
end
end VS

set_option Elab.async false
set_option linter.all false
set_option maxRecDepth 100000
set_option maxHeartbeats 2000000
/-! VX2: the law called by its caller: no guard stands there. -/
namespace VS
open PySem PySem.Spec PyProof.Rows L2
section
variable {P : Program} {w : PySem.World} {K : PySem.W.Frag} {mg mb : Str → Option Value} {a : Addr} {cs : List (Addr × Addr)} {s : Shared} {us : List Value} {ns : List Int} {H : Hp}
/-- the heap at the call -/
structure LawHeap (K : PySem.W.Frag) (mg mb : Str → Option Value) (cs : List (Addr × Addr)) (a : Addr) (us : List Value) (ns : List Int) (s : Shared) : Prop where
  kin : K.In s.heap
  glb : s.heap.Ns mainGlobals mg
  blt : s.heap.Ns builtinsNs mb
  boot : ∀ x : Str, x ≠ "__name__" → mb x = bootBuiltins x
  lim : s.heap.NoLimit
  gens : s.gens = #[]
  tab : ∀ p ∈ cs, s.heap.get? p.2 = some { cls := .none, data := .fields #[] }
  out : ∀ p ∈ cs, K.lookup p.2 = none
  code : ∀ p ∈ cs, PySem.W.CodeHd s.heap p.1 p.2
  bmod : ∃ (m : Addr) (ob : Obj), mg "__builtins__" = some (.ref m) ∧ m ≠ builtinsNs ∧ s.heap.get? m = some ob ∧ ob.cls = .type "module" ∧ ob.dict = some builtinsNs ∧ ob.data = .plain
  arg : s.heap.get? a = some { cls := .type "list", data := .seq us.toArray }
  nums : IntsAre us ns
  short : ns.length ≤ sizeLine
/-- what is tracked: the tables, and the script unless it is known -/
structure Tracked (P : Program) (w : PySem.World) (K : PySem.W.Frag) (cs : List (Addr × Addr)) (a : Addr) (ns : List Int) (s : Shared) (H : Hp) : Prop where
  tabs : ∀ p ∈ cs, H p.2 = some (.tbl #[])
  kind : ∀ b, H b = none ∨ b ∈ cs.map (·.2) ∨ ∃ o xs, H b = some (.frz o (.lst xs))
  only : ∀ b, H b ≠ none → b = a ∨ b ∈ cs.map (·.2)
  new : H a ≠ none → K.lookup a = none
  ok : HOk P w H s.heap
  seq : SqL K H a (ns.map V.int)
theorem LawHeap.at (L : LawHeap K mg mb cs a us ns s) {b : Addr} (h : b ∈ cs.map (·.2)) : s.heap.get? b = some { cls := .none, data := .fields #[] } := by
  obtain ⟨p, hp, rfl⟩ := List.mem_map.mp h
  exact L.tab p hp
theorem LawHeap.notab (L : LawHeap K mg mb cs a us ns s) : a ∉ cs.map (·.2) := fun h => by
  have e := L.at h
  rw [L.arg] at e
  have e2 := congrArg (fun o : Option Obj => o.map Obj.data) e
  simp at e2
variable (L : LawHeap K mg mb cs a us ns s) (T : Tracked P w K cs a ns s H)
include L T
/-- what is neither a sequence nor an empty table is not tracked -/
theorem untold {b : Addr} {o : Obj} (e : s.heap.get? b = some o) (h1 : ∀ xs n, o.data ≠ .seq xs n) (h2 : o.data ≠ .fields #[]) : H b = none := by
  by_cases n : H b = none
  · exact n
  · exfalso
    rcases T.only b n with rfl | q
    · rw [L.arg] at e; cases e; exact h1 _ _ rfl
    · rw [L.at q] at e; cases e; exact h2 rfl
theorem seen {b : Addr} {o : Obj} (e : s.heap.get? b = some o) (h1 : ∀ xs n, o.data ≠ .seq xs n) (h2 : o.data ≠ .fields #[]) : (hidT s.heap H).get? b = some o := hidT_get e (untold L T e h1 h2)
theorem seenNs {b : Addr} {m : Str → Option Value} (q : s.heap.Ns b m) : (hidT s.heap H).Ns b m := by
  obtain ⟨o, es, ep, e, d, r⟩ := q
  exact ⟨o, es, ep, seen L T e (fun _ _ z => by rw [d] at z; cases z) (fun z => by rw [d] at z; cases z), d, r⟩
theorem seenK : K.In (hidT s.heap H) := fun b o e => hidT_get (L.kin b o e) (by
  by_cases n : H b = none
  · exact n
  · exfalso
    rcases T.only b n with rfl | q
    · rw [T.new n] at e; cases e
    · obtain ⟨p, hp, rfl⟩ := List.mem_map.mp q
      rw [L.out p hp] at e; cases e)
theorem seenMod : L2.Mod K mg (hidT s.heap H) := by
  obtain ⟨mc, h1, h2⟩ := L.lim
  exact ⟨seenK L T, seenNs L T L.glb, ⟨mb, seenNs L T L.blt, L.boot⟩, mc, seenNs L T h1, h2⟩
theorem seenTab (p : Addr × Addr) (hp : p ∈ cs) : LamX.TabB (hidT s.heap H) mg p.1 p.2 := by
  have hTp := L.tab p hp
  obtain ⟨m, ob, b1, b2, b3, b4, b5, b6⟩ := L.bmod
  refine ⟨?_, ⟨m, ob, b1, b2, fun q => ?_, fun q => ?_, seen L T b3 (fun _ _ z => by rw [b6] at z; cases z) (fun z => by rw [b6] at z; cases z), b4, b5, b6⟩, fun z => ?_⟩
  · obtain ⟨o, fs, file, tf, flags, tg, inF, text, tt, e1, r1, r2, r3, rr⟩ := L.code p hp
    refine ⟨o, fs, file, tf, flags, tg, inF, text, tt, seen L T e1 (fun _ _ z => by rw [r2] at z; cases z) (fun z => ?_), r1, r2, r3, rr⟩
    rw [r2] at z
    cases z
    simp at r3
  · obtain ⟨o, es, ep, e, hd, _⟩ := L.glb
    rw [q, e] at b3
    cases b3
    rw [hd] at b6; cases b6
  · rw [q, hTp] at b3
    cases b3; cases b6
  · obtain ⟨o, es, ep, e, hd, _⟩ := L.glb
    rw [z, hTp] at e
    cases e; cases hd
theorem callEnv : Env0 P w K mg (hidT s.heap H) callerA [] s H :=
  ⟨rfl, seenMod L T, fun _ _ e => of_hidT e, Nat.le_of_eq (hidT_size _ _), trivial, fun _ hb => (List.not_mem_nil hb).elim, T.ok, .of_eq L.gens⟩
/-- behind the call -/
theorem behind_call {u : Value} {s' : Shared} (h : L2.CE [] P w H s (fun v _ => v = .bl true) u s') : u = .bool true ∧ OldK s.heap s'.heap ∧ s'.os = s.os ∧ AllBare s'.gens := by
  obtain ⟨v, H', os, bare, un, ok', r, rfl⟩ := h
  have key : ∀ b o, b ∉ cs.map (·.2) → s.heap.get? b = some o → s'.heap.get? b = some o := fun b o nb e => by
    rcases T.kind b with z | z | ⟨ob, xs, z⟩
    · exact un.keep b o e z (fun q => (List.not_mem_nil q).elim) (by simp)
    · exact absurd z nb
    · have e1 := (T.ok b _ z).1
      have e2 := (ok' b _ (un.frzs b ob _ z)).1
      rw [e] at e1
      cases e1
      exact e2
  have more : ∀ b ∈ cs.map (·.2), ∃ xs : Array Value, s'.heap.get? b = some { cls := .none, data := .fields xs } := fun b hb => by
    obtain ⟨p, hp, rfl⟩ := List.mem_map.mp hb
    obtain ⟨xs, z⟩ := un.tbls p.2 #[] (T.tabs p hp)
    exact ⟨_, ok' p.2 _ z⟩
  refine ⟨r, ⟨fun b o e => ?_, fun b o e => ?_⟩, os, bare⟩
  · by_cases hb : b ∈ cs.map (·.2)
    · obtain ⟨xs, hx⟩ := more b hb
      obtain ⟨p, hp, rfl⟩ := List.mem_map.mp hb
      rw [L.tab p hp] at e
      cases e
      exact .inr (.inl ⟨((L.code p hp).tab (L.tab p hp)).isCodeTable, rfl, #[], xs, rfl, by rw [Array.empty_append]; exact hx⟩)
    · exact .inl (key b o hb e)
  · by_cases hb : b ∈ cs.map (·.2)
    · obtain ⟨xs, hx⟩ := more b hb
      exact ⟨_, hx⟩
    · exact ⟨o, key b o hb e⟩
omit T
theorem track : ∃ H, Tracked P w K cs a ns s H := by
  have rv := vals_ints L.nums
  have na := L.notab
  cases hk : K.lookup a with
  | some o =>
    have e := L.kin a o hk
    rw [L.arg] at e
    cases e
    refine ⟨fun b => if b ∈ cs.map (·.2) then some (.tbl #[]) else none, fun p hp => if_pos (List.mem_map.mpr ⟨p, hp, rfl⟩), fun b => ?_, fun b z => ?_, fun z => absurd (if_neg na) z, fun b u z => ?_, .inr ⟨_, us.toArray, _, hk, rfl, rfl, rfl, by rw [List.size_toArray, L.nums.length]; exact L.short, by simpa using rv⟩⟩
    all_goals by_cases hb : b ∈ cs.map (·.2)
    · exact .inr (.inl hb)
    · exact .inl (if_neg hb)
    · exact .inr hb
    · exact absurd (if_neg hb) z
    · cases (if_pos hb).symm.trans z
      exact L.at hb
    · cases (if_neg hb).symm.trans z
  | none =>
    refine ⟨fun b => if b = a then some (.frz { cls := .type "list", data := .seq us.toArray } (.lst (ns.map V.int))) else if b ∈ cs.map (·.2) then some (.tbl #[]) else none, fun p hp => ?_, fun b => ?_, fun b z => ?_, fun _ => hk, fun b u z => ?_, .inl (.inr ⟨_, if_pos rfl⟩)⟩
    · have hm : p.2 ∈ cs.map (·.2) := List.mem_map.mpr ⟨p, hp, rfl⟩
      exact (if_neg fun q : p.2 = a => na (q ▸ hm)).trans (if_pos hm)
    all_goals by_cases ha : b = a
    · exact .inr (.inr ⟨_, _, if_pos ha⟩)
    · by_cases hb : b ∈ cs.map (·.2)
      · exact .inr (.inl hb)
      · exact .inl ((if_neg ha).trans (if_neg hb))
    · exact .inl ha
    · by_cases hb : b ∈ cs.map (·.2)
      · exact .inr hb
      · exact absurd ((if_neg ha).trans (if_neg hb)) z
    · cases (if_pos ha).symm.trans z
      subst ha
      exact ⟨L.arg, by rw [List.length_map]; exact L.short, us, _, rv, L.arg⟩
    · have z1 := (if_neg ha).symm.trans z
      by_cases hb : b ∈ cs.map (·.2)
      · cases (if_pos hb).symm.trans z1
        exact L.at hb
      · cases (if_neg hb).symm.trans z1
theorem law_callG {k : Nat} {fa : Addr} {fd : FuncData} {x : Str} {sp : Sp} (hr : Room k callerA)
    (F : ∀ base : Heap, K.In base → base.Ns mainGlobals mg → (∀ p ∈ cs, LamX.TabB base mg p.1 p.2) → FnG P w K mg base k fa fd [x] sp) (hb : ∀ (t : Shared) (u : Value), BindsTo t fd ⟨[u], []⟩ [(x, u)])
    (hsp : ∀ H : Hp, (∀ p ∈ cs, H p.2 = some (.tbl #[])) → SqL K H a (ns.map V.int) → sp [.ref a] H (fun v _ => v = .bl true) fun _ _ _ => False) :
    codeAny (model P w) callerA (.call (.ref fa) ⟨[.ref a], []⟩) (fun r s' => r = .ok (.ret (.bool true)) ∧ OldK s.heap s'.heap ∧ s'.os = s.os ∧ AllBare s'.gens) s := by
  obtain ⟨H, T⟩ := track (P := P) (w := w) L
  have G := F _ (seenK L T) (seenNs L T L.glb) (seenTab L T)
  refine codeAny_mono (G.runs (us := [.ref a]) (vs := [.ref a]) ⟨hr, rfl⟩ (callEnv L T) (hb s (.ref a)) (.cons rfl .nil) (hsp H T.tabs T.seq)) fun r s' z => ?_
  match r, z with
  | .error e, z => exact (law_cx z).elim
  | .ok (.ret u), z =>
    obtain ⟨rfl, y⟩ := behind_call L T z
    exact ⟨rfl, y⟩
end
/-- what is known of the law where no guard stands -/
def LawAtG (l : PySem.W.OpenLaw) (w : PySem.World) (K : PySem.W.Frag) (k n : Nat) (x : Str) (mg : Str → Option Value) (fa : Addr) (h : Heap) : Prop :=
  ∃ (fd : FuncData) (cs : List (Addr × Addr)) (sp : Sp), ((∀ p ∈ cs, h.get? p.2 = some { cls := .none, data := .fields #[] }) ∧ (∀ p ∈ cs, K.lookup p.2 = none) ∧ (∀ p ∈ cs, PySem.W.CodeHd h p.1 p.2)) ∧ (∀ (s : Shared) (u : Value), BindsTo s fd ⟨[u], []⟩ [(x, u)]) ∧
    (∀ (H : Hp) (a : Addr) (ns : List Int), ns.length ≤ n → (∀ p ∈ cs, H p.2 = some (.tbl #[])) → SqL K H a (ns.map V.int) → sp [.ref a] H (fun v _ => v = .bl true) fun _ _ _ => False) ∧
    ∀ base : Heap, K.In base → base.Ns mainGlobals mg → (∀ p ∈ cs, LamX.TabB base mg p.1 p.2) → FnG l.prog w K mg base k fa fd [x] sp
theorem walk_ofG {l : PySem.W.OpenLaw} {n k : Nat} {q : Program} {loose : List Str} {XP : (Str → Option Value) → Heap → Prop} {YP : PySem.World → Heap → Prop} {d : DefRec} {K : Params → PySem.W.Frag} {x : Str}
    (hn : l.most = some n) (hn2 : n ≤ sizeLine) (hdf : d.params.defaults = []) (hr : Room k callerA) (hY : ∀ (w : PySem.World) (h : Heap), YP w h → (K w.params).In h)
    (F : ∀ (w : PySem.World) (mg mb : Str → Option Value) (fa : Addr) (h : Heap) (lo : List Str) (mean : ExcName → Option Value), (K w.params).In h → Top q lo mean mg mb h → mg d.name = some (.ref fa) → LawAtG l w (K w.params) k n x mg fa h) :
    PySem.W.WalkO q loose XP YP l.row.toRowW d [] (fun f vs => PySem.call f vs) := by
  refine Att.attach_callB hn hdf fun w s₀ s₁ mg mb fa o pm cd doc a vs ns G Y ho hd hcd hmg hobj hints hlen hbits hg => ?_
  have KX := hY w _ Y
  obtain ⟨fd, cs, sp, ⟨hT, nT, C⟩, hb, hsp, hF⟩ := F w mg mb fa _ _ _ KX G.T hmg
  exact law_callG ⟨KX, G.T.g, G.T.b, G.T.builtins, G.T.nolimit, hg, hT, nT, C, G.T.bmain, hobj, hints, Nat.le_trans hlen hn2⟩ hr hF hb (fun H hH hS => hsp H a ns hlen hH hS)
end VS

set_option Elab.async false
set_option linter.all false
set_option maxRecDepth 100000
set_option maxHeartbeats 2000000
/-! VX3: the law, where no guard stands; repr(e). -/
namespace VS
open PySem PySem.Spec PyProof.Rows L2
section
variable {P : Program} {w : PySem.World} {K : PySem.W.Frag} {Z : ZT} {mg : Str → Option Value} {base : Heap}
theorem spL_of {sem : Sem} {vs : List V} {H : Hp} {Q : VK} {E : XK} (h : ∀ ns : List Int, ns.length ≤ 63 → ∃ w', sem [.frz (ns.map T.int)] [] = .ok (.bl true) w') (q : spL K Z vs H Q E) : spOf (K, Z) 1 sem vs H Q E := by
  obtain ⟨a, ns, rfl, hS, hl, hT, q⟩ := q
  obtain ⟨w', e⟩ := h ns hl
  refine ⟨[], [], [], [.frz (ns.map T.int)], rfl, ⟨rfl, List.nodup_nil, fun _ h => by simp at h, fun _ h => by simp at h, fun k c a h1 h2 => by simp at h1, hT⟩, Reps.cons ?_ Reps.nil, ?_⟩
  · unfold Rep
    refine ⟨a, ns.map V.int, rfl, ?_, reps_ints ns⟩
    rcases hS with (hS | ⟨o, hS⟩) | hS
    · exact .inl ⟨_, hS, .inl rfl, by simp, by simp⟩
    · exact .inl ⟨_, hS, .inr ⟨o, rfl⟩, by simp, by simp⟩
    · exact .inr (.inr hS)
  · rw [e]
    intro H' φ' _ _ v rv
    unfold Rep at rv
    subst rv
    exact q H'
theorem At.lawG {k : Nat} {m : MS} {N : List Str} {st : Stmt} {cd : Value} {h : Heap} {fa : Addr} (a : At K "law" st cd) (X : K.In h) (G : h.Ns mainGlobals mg) (hfa : mg "law" = some (.ref fa)) (S : FnScope N ["script"] (defScope st))
    (hb : ∀ (kV doc pm : Value) (an : Option Addr) (cdv ct : Value) (u : Value), bindArgs (PySem.W.fnOf "law" "law" (defArgs st) (defBody st) (defScope st) .none kV doc pm an cdv ct) ⟨[u], []⟩ = pure [(("script" : Str), u)])
    (C : Heap → Prop) (body : ∀ base : Heap, K.In base → base.Ns mainGlobals mg → C base → BdG P w K Z mg base N "law" st cd k m)
    (hl : ∀ ns : List Int, ns.length ≤ 63 → ∃ w', runB N.length m [.frz (ns.map T.int)] [] = .ok (.bl true) w') :
    ∃ fd : FuncData, (∀ (s : Shared) (u : Value), BindsTo s fd ⟨[u], []⟩ [("script", u)]) ∧ ∀ base : Heap, K.In base → base.Ns mainGlobals mg → C base → FnG P w K mg base (k + 1) fa fd ["script"] (spL K Z) := by
  obtain ⟨f, oc, od, an, sl, kV, dc, pm, ct, h1, h2, h3, h4⟩ := a.ex
  have e := hfa.symm.trans (PySem.W.mg_of X G h1)
  cases e
  exact ⟨_, fun s u => .of_eq (hb _ _ _ _ _ _ u), fun base b1 b2 b3 => (okG ⟨_, _, _, _, _, _, _, _, rfl, h2, h3⟩ S (body base b1 b2 b3)).imp (spL_of hl)⟩
end
theorem lawAt_ofG {l : PySem.W.OpenLaw} {w : PySem.World} {K : PySem.W.Frag} {k : Nat} {mg : Str → Option Value} {fa : Addr} {h : Heap} (tabs : List (Addr × Addr × Str)) (ht : ∀ t ∈ tabs, TabAt K h t)
    (top : ∃ fd : FuncData, (∀ (s : Shared) (u : Value), BindsTo s fd ⟨[u], []⟩ [("script", u)]) ∧ ∀ base : Heap, K.In base → base.Ns mainGlobals mg → (∀ p ∈ tabs.map (fun t => (t.1, t.2.1)), LamX.TabB base mg p.1 p.2) →
      FnG l.prog w K mg base k fa fd ["script"] (spL K (tabs.map fun t => (t.2.1, t.2.2), w))) : LawAtG l w K k 63 "script" mg fa h := by
  obtain ⟨fd, hb, hF⟩ := top
  have mem : ∀ p ∈ tabs.map (fun t => (t.1, t.2.1)), ∃ t ∈ tabs, p = (t.1, t.2.1) := fun p hp => by
    obtain ⟨t, h1, h2⟩ := List.mem_map.mp hp
    exact ⟨t, h1, h2.symm⟩
  refine ⟨fd, tabs.map (fun t => (t.1, t.2.1)), spL K (tabs.map fun t => (t.2.1, t.2.2), w), ⟨fun p hp => ?_, fun p hp => ?_, fun p hp => ?_⟩, hb, fun H a ns hl hH hS => ?_, hF⟩
  · obtain ⟨t, h1, rfl⟩ := mem p hp
    exact (ht t h1).ob
  · obtain ⟨t, h1, rfl⟩ := mem p hp
    exact (ht t h1).no
  · obtain ⟨t, h1, rfl⟩ := mem p hp
    exact (ht t h1).hd
  · refine ⟨a, ns, rfl, hS, hl, fun p hp => ?_, fun _ => rfl⟩
    obtain ⟨t, h1, rfl⟩ := List.mem_map.mp hp
    exact LamX.TabS.nil (hH (t.1, t.2.1) (List.mem_map.mpr ⟨t, h1, rfl⟩))
section
variable {X : Cx} {Z : ZT} {W : Option WX} {k : Nat} {p pos : Pos} {e : Expr} {es : List Expr} {m : MF}
theorem de_repr (hm : X.mg "repr" = none) (hr : RoomG k X.A) (ha : PA X (e :: es) (rdA (X.K, Z) W m)) (hg : Gl X "repr" := by rfl)
    (he : starEach (e :: es) X.env = (false, eval e X.env) :: starEach es X.env := by rfl) (hpl : (backTo pos (starEach es X.env)).any (·.1) = false := by rfl) : PE X (.Call (.Name "repr" p) (e :: es) [] pos) (rdE (X.K, Z) W (mCall sRepr m)) :=
  de_callB (cr_repr hr.gd hr.units) opRepr hm (by decide +kernel) ha hg (by decide) (by decide) he hpl
end
end VS

set_option Elab.async false
set_option linter.all false
set_option maxRecDepth 100000
set_option maxHeartbeats 2000000
/-! VX4: len(set(xs)) of a list or a tuple of ints. -/
namespace VS
open PySem PySem.Spec PyProof.Rows L2
theorem rise_nodup (ns : List Int) : (riseI ns).Nodup := (rise_rise ns).imp fun h e => by omega
theorem many_rise {l ns : List Int} (n1 : l.Nodup) (h : ∀ k, k ∈ l ↔ k ∈ ns) : l.length = (riseI ns).length := by
  have p : l.Perm (riseI ns) := List.perm_iff_count.mpr fun k => by
    rw [n1.count, (rise_nodup ns).count]
    have : (k ∈ l) = (k ∈ riseI ns) := propext ((h k).trans rise_mem.symm)
    simp only [this]
  exact p.length_eq
section
variable {X : Cx} {Z : ZT} {W : Option WX} {a : Expr} {p p2 pos q : Pos} {ma : ME}
def tLenSetQ (K : PySem.W.Frag) (ta : TE) : TE := fun σ H Q => ta σ H fun x H1 => ∃ (l : Addr) (ns : List Int), x = .ref l ∧ (SqL K H1 l (ns.map V.int) ∨ SqT K H1 l (ns.map V.int)) ∧ ns.length ≤ 4000 ∧ Q (.int ((riseI ns).length : Nat)) H1
theorem pe_lenSetQ {ta : TE} (hg : Gl X "len") (hm : X.mg "len" = none) (hg2 : Gl X "set") (hm2 : X.mg "set" = none) (ha : PE X a ta) (hc : X.calm = true := by rfl)
    (na : starEach [a] X.env = (false, eval a X.env) :: starEach [] X.env := by rfl) : PE X (.Call (.Name "len" p) [.Call (.Name "set" p2) [a] [] q] [] pos) (tLenSetQ X.K ta) := by
  refine ⟨fun pins s σ H Q I h => ?_⟩
  refine Call_ (ld_blt I hg hm boot_len ?_)
  refine PyProof.Rows.callWith_builtin1 (PyProof.Rows.args_cons ?_ rfl) rfl rfl
  refine Call_ (ld_blt I hg2 hm2 boot_set ?_)
  refine PyProof.Rows.callWith_type1 (PyProof.Rows.args_cons (thn (ha.run pins s σ H _ I h) fun v s1 ⟨x, H1, I1, r1, q1⟩ => PyProof.Rows.args_nil ?_) na) na rfl
  obtain ⟨l, ns, rfl, hq, hl, q1⟩ := q1
  cases r1
  have fin : ∀ (g : Heap) (tk c : Nat), SetR X.w g s1.heap.objs.size (fun j => decide (j ∈ ns)) c → (∀ b o, s1.heap.get? b = some o → g.get? b = some o) → wpAny (model X.prog X.w) X.A (call (.builtin "len") [.ref s1.heap.objs.size]) (EP X pins σ Q) X.xe { s1 with heap := g, toks := tk } := fun g tk c R hk => by
    have R' := R
    obtain ⟨o, es, ep, t, ho, hx, hd, _, nd, hm, hb, hf, hn, _⟩ := R'
    have e : es.size = (riseI ns).length := by
      have := many_rise (ns := ns) nd fun k => ((hm k).symm.trans (by simp))
      simpa using this
    have I2 : Inv X pins σ H1 { s1 with heap := g, toks := tk } := I1.kept hk
    exact call_len_set ho hx hd hf (by unfold scanBound at hb; omega) ⟨.int _, H1, I2.tok _, ⟨_, by rw [e] <;> rfl⟩, q1⟩
  rcases hq with hq | hq
  · obtain ⟨its, r, pl, hz⟩ := I1.list hq
    exact set_of_ints ns (I1.ok.hd hc) pl.isList (by simpa using RZ.intsAre_vals r) (by unfold scanBound; omega) fun g tk n R hn hk => PyProof.Rows.args_nil (fin g tk n R hk)
  · obtain ⟨its, r, pl, hz⟩ := I1.tuple hq
    exact call_set_tupI ns (I1.ok.hd hc) pl (by simpa using RZ.intsAre_vals r) (by unfold scanBound; omega) fun g tk n R hn hk => PyProof.Rows.args_nil (fin g tk n R hk)
def seqQ? (w : World) : T → Option (List T)
  | .tup ts => some ts
  | t => lst? w t
def mLenSetQ (a : ME) : ME := fun ρ w => (a ρ w).bind fun t w1 => match seqQ? w1 t with
  | some ts => match intsT ts with
    | some ns => if ns.length ≤ 4000 then .ok (.int ((riseI ns).length : Nat)) w1 else .no
    | none => .no
  | none => .no
theorem de_lensetQ (hm : X.mg "len" = none) (hm2 : X.mg "set" = none) (ha : PE X a (rdE (X.K, Z) W ma)) (hg : Gl X "len" := by rfl) (hg2 : Gl X "set" := by rfl) (hc : X.calm = true := by rfl)
    (na : starEach [a] X.env = (false, eval a X.env) :: starEach [] X.env := by rfl) : PE X (.Call (.Name "len" p) [.Call (.Name "set" p2) [a] [] q] [] pos) (rdE (X.K, Z) W (mLenSetQ ma)) := PE_imp (pe_lenSetQ hg hm hg2 hm2 ha hc na) fun σ H Q => by
  rintro ⟨hd, φ, ρ, w, sr, wr, p⟩
  refine ⟨hd, φ, ρ, w, sr, wr, Pst.then isPst p fun t w1 φ1 H1 e1 wr1 p1 x rx => ?_⟩
  have go : ∀ ts, (∀ ns, intsT ts = some ns → ∃ l, x = .ref l ∧ (SqL X.K H1 l (ns.map V.int) ∨ SqT X.K H1 l (ns.map V.int))) → seqQ? w1 t = some ts → ∃ (l : Addr) (ns : List Int), x = .ref l ∧ (SqL X.K H1 l (ns.map V.int) ∨ SqT X.K H1 l (ns.map V.int)) ∧ ns.length ≤ 4000 ∧ Q (.int ((riseI ns).length : Nat)) H1 := fun ts hts q1 => by
    rw [q1] at p1
    simp only at p1
    cases q2 : intsT ts with
    | none => rw [q2] at p1; exact p1.elim
    | some ns =>
      rw [q2] at p1
      simp only at p1
      split at p1
      · rename_i hl
        obtain ⟨l, rfl, hs⟩ := hts ns q2
        exact ⟨l, ns, rfl, hs, hl, p1.int wr1⟩
      · exact p1.elim
  cases t with
  | tup ts =>
    refine go ts (fun ns q2 => ?_) rfl
    unfold Rep at rx
    obtain ⟨l, xs, rfl, n, rs⟩ := rx
    cases intV_at rs q2
    exact ⟨l, rfl, .inr (SqT.of n.1)⟩
  | _ =>
    cases q1 : seqQ? w1 _ with
    | none => rw [q1] at p1; exact p1.elim
    | some ts =>
      refine go ts (fun ns q2 => ?_) q1
      obtain ⟨l, xs, rfl, h1, h2⟩ := lst_at wr1 rx q1
      cases intV_at h2 q2
      exact ⟨l, rfl, .inl (SqL.of h1)⟩
end
end VS

set_option Elab.async false
set_option linter.all false
set_option maxRecDepth 100000
set_option maxHeartbeats 4000000
namespace VS
open PySem PySem.Spec PyProof.Rows L2
/-! ### running by simp -/
section
variable {w w' : World} {ρ : Env} {i j : Nat} {t u : T} {a b c : ME} {s : S2}
@[simp] theorem bind_ok' {α β : Type} {x : α} {f : α → World → R β} : (R.ok x w).bind f = f x w := rfl
@[simp] theorem bind_ex' {α β : Type} {t : T} {f : α → World → R β} : (R.ex t ρ w : R α).bind f = .ex t ρ w := rfl
@[simp] theorem at_ok' {α : Type} {x : α} {ρ' : Env} : (R.ok x w).at ρ' = .ok x w := rfl
@[simp] theorem at_ex' {α : Type} {t : T} {ρ' : Env} : (R.ex t ρ w : R α).at ρ' = .ex t ρ' w := rfl
@[simp] theorem at_no' {α : Type} {ρ' : Env} : (R.no : R α).at ρ' = .no := rfl
@[simp] theorem noX_ok' {α : Type} {x : α} : noX (.ok x w) = .ok x w := rfl
@[simp] theorem bind_no' {α β : Type} {f : α → World → R β} : (R.no : R α).bind f = .no := rfl
@[simp] theorem mVar0 {o : Option T} {r : Env} : mVar 0 (some t :: r) w = .ok t w := rfl
@[simp] theorem mVarS {o : Option T} {r : Env} : mVar (i + 1) (o :: r) w = mVar i r w := by simp [mVar]
@[simp] theorem mC_ : mC t ρ w = .ok t w := rfl
@[simp] theorem mOp2_ : mOp2 s a b ρ w = (a ρ w).bind fun x w1 => (b ρ w1).bind fun y w2 => s x y w2 := rfl
@[simp] theorem mOp1_ {s : S1} : mOp1 s a ρ w = (a ρ w).bind s := rfl
@[simp] theorem asB_bl {k : Bool} : asB (.ok (.bl k) w) = .ok k w := rfl
@[simp] theorem mTest_ : mTest a ρ w = asB (a ρ w) := rfl
@[simp] theorem mTru_ : mTru a ρ w = (a ρ w).bind sTru := rfl
@[simp] theorem sTru_bl {k : Bool} : sTru (.bl k) w = .ok k w := rfl
@[simp] theorem sTru_int {k : Int} : sTru (.int k) w = .ok (k != 0) w := rfl
@[simp] theorem sTru_non : sTru .non w = .ok false w := rfl
@[simp] theorem mChain_ {s' : S2} : mChain s s' a b c ρ w = (a ρ w).bind fun x w1 => (b ρ w1).bind fun y w2 => (asB (s x y w2)).bind fun k w3 => if k = true then (c ρ w3).bind fun z w4 => s' y z w4 else .ok (.bl false) w3 := rfl
@[simp] theorem mAnd_ {a b : MT} : mAnd a b ρ w = (a ρ w).bind fun x w1 => if x = true then b ρ w1 else .ok false w1 := rfl
@[simp] theorem mOr_ {a b : MT} : mOr a b ρ w = (a ρ w).bind fun x w1 => if x = true then .ok true w1 else b ρ w1 := rfl
@[simp] theorem mNot_ {a : MT} : mNot a ρ w = (a ρ w).bind fun x w1 => .ok (!x) w1 := rfl
@[simp] theorem mAndV_ : mAndV a b ρ w = (a ρ w).bind fun x w1 => (sTru x w1).bind fun k w2 => if k = true then b ρ w2 else .ok x w2 := rfl
@[simp] theorem mOrV_ : mOrV a b ρ w = (a ρ w).bind fun x w1 => (sTru x w1).bind fun k w2 => if k = true then .ok x w2 else b ρ w2 := rfl
@[simp] theorem mNotV_ : mNotV a ρ w = (a ρ w).bind fun x w1 => (sTru x w1).bind fun k w2 => .ok (.bl (!k)) w2 := rfl
@[simp] theorem mIf_ {c : MT} : mIf c a b ρ w = (c ρ w).bind fun k w1 => if k = true then a ρ w1 else b ρ w1 := rfl
@[simp] theorem mNil_ : mNil ρ w = .ok [] w := rfl
@[simp] theorem mCons_ {r : MF} : mCons a r ρ w = (a ρ w).bind fun x w1 => (r ρ w1).bind fun xs w2 => .ok (x :: xs) w2 := rfl
@[simp] theorem mTup_ {m : MF} : mTup m ρ w = (m ρ w).bind fun ts w1 => if ts.length ≤ sizeLine then .ok (.tup ts) w1 else .no := rfl
@[simp] theorem mLst_ {m : MF} : mLst m ρ w = (m ρ w).bind fun ts w1 => if ts.length ≤ sizeLine then .ok ts w1 else .no := rfl
@[simp] theorem mVal_ {m : MF} : mVal m ρ w = (m ρ w).bind fun ts w1 => .ok (.lst ts) w1 := rfl
@[simp] theorem mCell_ {m : MF} : mCell m ρ w = (m ρ w).bind fun ts w1 => .ok (.cell w1.length) (w1 ++ [.lst ts]) := rfl
@[simp] theorem mCall_ {s : SC} {m : MF} : mCall s m ρ w = (m ρ w).bind s := rfl
@[simp] theorem mCallF_ {s : SCF} {m : MF} : mCallF s m ρ w = (m ρ w).bind s := rfl
@[simp] theorem mOp2F_ {s : S2F} : mOp2F s a b ρ w = (a ρ w).bind fun x w1 => (b ρ w1).bind fun y w2 => s x y w2 := rfl
@[simp] theorem mDef_ {n : Nat} {f : Sem} {m : MF} : mDef n f m ρ w = (m ρ w).bind fun ds w1 => if ds.length = n then (f ds w1).at ρ else .no := rfl
@[simp] theorem mSkip_ : mSkip ρ w = .ok (ρ, .nx) w := rfl
/-- what follows a statement -/
def andThen (r : R (Env × Fl)) (f : Env → World → R (Env × Fl)) : R (Env × Fl) := r.bind fun r w1 => match r.2 with
  | .nx => f r.1 w1
  | _ => .ok r w1
@[simp] theorem mSeq_ {m1 m2 : MS} : mSeq m1 m2 ρ w = andThen (m1 ρ w) m2 := rfl
@[simp] theorem then_nx {f : Env → World → R (Env × Fl)} : andThen (.ok (ρ, .nx) w) f = f ρ w := rfl
@[simp] theorem then_ret {f : Env → World → R (Env × Fl)} : andThen (.ok (ρ, .ret t) w) f = .ok (ρ, .ret t) w := rfl
@[simp] theorem then_bk {f : Env → World → R (Env × Fl)} : andThen (.ok (ρ, .bk) w) f = .ok (ρ, .bk) w := rfl
@[simp] theorem then_ct {f : Env → World → R (Env × Fl)} : andThen (.ok (ρ, .ct) w) f = .ok (ρ, .ct) w := rfl
@[simp] theorem then_ex {f : Env → World → R (Env × Fl)} : andThen (.ex t ρ w) f = .ex t ρ w := rfl
@[simp] theorem then_no {f : Env → World → R (Env × Fl)} : andThen .no f = .no := rfl
@[simp] theorem mRet_ : mRet a ρ w = (a ρ w).bind fun t w1 => .ok (ρ, .ret t) w1 := rfl
@[simp] theorem mDrop_ : mDrop a ρ w = (a ρ w).bind fun _ w1 => .ok (ρ, .nx) w1 := rfl
@[simp] theorem mIfS_ {c : MT} {x y : MS} : mIfS c x y ρ w = (c ρ w).bind fun k w1 => if k = true then x ρ w1 else y ρ w1 := rfl
@[simp] theorem mgName_ : mgName i t ρ w = .ok (ρ.set i (some t)) w := rfl
@[simp] theorem mAsg_ {g : MG} : mAsg a g ρ w = (a ρ w).bind fun t w1 => (g t ρ w1).bind fun ρ1 w2 => .ok (ρ1, .nx) w2 := rfl
@[simp] theorem mgSub_ {s : S3} : mgSub s a b t ρ w = (a ρ w).bind fun d1 w1 => (b ρ w1).bind fun d2 w2 => (s d1 d2 t w2).bind fun _ w3 => .ok ρ w3 := rfl
@[simp] theorem mgTup_ {n : Nat} {g : MGs} {ts : List T} : mgTup n g (.tup ts) ρ w = if ts.length = n then g ts ρ w else .no := rfl
@[simp] theorem mgNil_ : mgNil [] ρ w = .ok ρ w := rfl
@[simp] theorem mgCons_ {g : MG} {r : MGs} {ts : List T} : mgCons g r (t :: ts) ρ w = (g t ρ w).bind fun ρ1 w1 => r ts ρ1 w1 := rfl
@[simp] theorem mPar_ {m : MF} : mPar i j m ρ w = (m ρ w).bind fun ts w1 => match ts with
  | [t, u] => .ok ((ρ.set i (some t)).set j (some u), .nx) w1
  | _ => .no := rfl
@[simp] theorem mPar3_ {l : Nat} {m : MF} : mPar3 i j l m ρ w = (m ρ w).bind fun ts w1 => match ts with
  | [t, u, v] => .ok (((ρ.set i (some t)).set j (some u)).set l (some v), .nx) w1
  | _ => .no := rfl
@[simp] theorem mFor_ {it : MI} {g : MG} {m : MS} : mFor it g m ρ w = (it ρ w).bind fun r w1 => forL g m r.2 r.1 r.1 ρ w1 := rfl
@[simp] theorem mItems_ : mItems a ρ w = (a ρ w).bind sItems := rfl
@[simp] theorem sItems_lst {ts : List T} : sItems (.lst ts) w = .ok (ts, none) w := rfl
@[simp] theorem sItems_tup {ts : List T} : sItems (.tup ts) w = .ok (ts, none) w := rfl
@[simp] theorem sItems_frz {ts : List T} : sItems (.frz ts) w = .ok (ts, none) w := rfl
theorem sItems_cell {k : Nat} {ts : List T} (h : w[k]? = some (.lst ts)) : sItems (.cell k) w = .ok (ts, some (k, ts)) w := by simp [sItems, items, h]
@[simp] theorem mRange1_ {m : MF} : mRange1 m ρ w = (m ρ w).bind sRange1 := rfl
@[simp] theorem mRange2_ {m : MF} : mRange2 m ρ w = (m ρ w).bind sRange2 := rfl
theorem sRange1_ {n : Int} (h0 : 0 ≤ n) (h : n < 1000000000) : sRange1 [.int n] w = .ok (rgT 0 n.toNat, none) w := by
  have : RgOk 0 n := ⟨by decide, by decide, by omega, by omega⟩
  simp [sRange1, this]
@[simp] theorem mComp_ {vs : List Nat} {it : MI} {g : MG} {c : MT} {e : ME} : mComp vs it g c e ρ w = (it ρ w).bind fun r w1 => noX (compL g c e r.2 r.1 (wipeE ρ vs) r.1 [] w1) := rfl
@[simp] theorem mYes_ : mYes ρ w = .ok true w := rfl
@[simp] theorem mSlL_ {lo hi : MO} : mSlL a lo hi ρ w = (a ρ w).bind fun t w1 => (lo ρ w1).bind fun l w2 => (hi ρ w2).bind fun u w3 => match lst? w3 t with
  | some ts => .ok (cutT ts l u) w3
  | _ => .no := rfl
@[simp] theorem mSlT_ {lo hi : MO} : mSlT a lo hi ρ w = (a ρ w).bind fun t w1 => (lo ρ w1).bind fun l w2 => (hi ρ w2).bind fun u w3 => match t with
  | .tup ts => .ok (.tup (cutT ts l u)) w3
  | _ => .no := rfl
@[simp] theorem mNoPart_ : mNoPart ρ w = .ok none w := rfl
@[simp] theorem mPart_ : mPart a ρ w = (a ρ w).bind fun t w1 => match t with
  | .int i => .ok (some i) w1
  | _ => .no := rfl
@[simp] theorem mMeth_ {s : SM} {m : MF} : mMeth s a m ρ w = (a ρ w).bind fun d w1 => match lst? w1 d with
  | some _ => (m ρ w1).bind fun ds w2 => s d ds w2
  | none => .no := rfl
@[simp] theorem mDict_ {m : MPs} : mDict m ρ w = (m ρ w).bind fun kvs w1 => if kvs.length ≤ 15 ∧ (kvs.map (·.1)).Nodup then .ok (.cell w1.length) (w1 ++ [.dic kvs]) else .no := rfl
@[simp] theorem mpNil_ : mpNil ρ w = .ok [] w := rfl
@[simp] theorem mpCons_ {m : MPs} : mpCons a b m ρ w = (a ρ w).bind fun kt w1 => (b ρ w1).bind fun t w2 => (m ρ w2).bind fun ps w3 => match keyT kt with
  | some key => .ok ((key, t) :: ps) w3
  | none => .no := rfl
@[simp] theorem mLRg1_ : mLRg1 a ρ w = (a ρ w).bind fun t w1 => match t with
  | .int n => if L2.RgOk 0 n then .ok (rgT 0 n.toNat) w1 else .no
  | _ => .no := rfl
end
/-! ### operators -/
section
variable {w : World} {i j : Int}
@[simp] theorem sSub_ : sSub (.int i) (.int j) w = .ok (.int (i - j)) w := by simp [sSub, s2I]
@[simp] theorem sBor_ : sBor (.int i) (.int j) w = .ok (.int (Builtin.bitOr i j)) w := by simp [sBor, s2I]
@[simp] theorem sLt_ : sLt (.int i) (.int j) w = .ok (.bl (decide (i < j))) w := by simp [sLt, s2I]
@[simp] theorem sLe_ : sLe (.int i) (.int j) w = .ok (.bl (decide (i ≤ j))) w := by simp [sLe, s2I]
@[simp] theorem sGt_ : sGt (.int i) (.int j) w = .ok (.bl (decide (j < i))) w := by simp [sGt, s2I]
@[simp] theorem sGe_ : sGe (.int i) (.int j) w = .ok (.bl (decide (j ≤ i))) w := by simp [sGe, s2I]
@[simp] theorem sAdd_ : sAdd (.int i) (.int j) w = .ok (.int (i + j)) w := rfl
@[simp] theorem sNeg_ : sNeg (.int i) w = .ok (.int (-i)) w := rfl
theorem sMod_ (h : 0 < j) : sMod (.int i) (.int j) w = .ok (.int (i % j)) w := by simp [sMod, s2I, h]
theorem sFdiv_ (h : 0 < j) (h2 : j < 1073741824) : sFdiv (.int i) (.int j) w = .ok (.int (i / j)) w := by simp [sFdiv, s2I, CDiv, h, h2]
theorem sMul_l (h : -(2 ^ 64) < i ∧ i < 2 ^ 64) : sMul (.int i) (.int j) w = .ok (.int (i * j)) w := by simp only [sMul]; rw [if_pos (.inl h)]
theorem sMul_r (h : -(2 ^ 64) < j ∧ j < 2 ^ 64) : sMul (.int i) (.int j) w = .ok (.int (i * j)) w := by simp only [sMul]; rw [if_pos (.inr h)]
@[simp] theorem sInt_ : sInt [.int i] w = .ok (.int i) w := rfl
@[simp] theorem sAbs_ : sAbs [.int i] w = .ok (.int (if i < 0 then -i else i)) w := rfl
@[simp] theorem sMax2_ : sMax2 [.int i, .int j] w = .ok (.int (if j > i then j else i)) w := rfl
@[simp] theorem sMin2_ : sMin2 [.int i, .int j] w = .ok (.int (if j < i then j else i)) w := rfl
@[simp] theorem sLen_tup {ts : List T} : sLen [.tup ts] w = .ok (.int ts.length) w := rfl
@[simp] theorem sLen_lst {ts : List T} : sLen [.lst ts] w = .ok (.int ts.length) w := rfl
@[simp] theorem sLen_frz {ts : List T} : sLen [.frz ts] w = .ok (.int ts.length) w := rfl
theorem sLen_cell {k : Nat} {ts : List T} (h : w[k]? = some (.lst ts)) : sLen [.cell k] w = .ok (.int ts.length) w := by simp [sLen, h]
@[simp] theorem sTup_lst {ts : List T} : sTup [.lst ts] w = .ok (.tup ts) w := rfl
@[simp] theorem sTup_tup {ts : List T} : sTup [.tup ts] w = .ok (.tup ts) w := rfl
theorem sTup_cell {k : Nat} {ts : List T} (h : w[k]? = some (.lst ts)) : sTup [.cell k] w = .ok (.tup ts) w := by simp [sTup, seq?, h]
@[simp] theorem sList_lst {ts : List T} : sList [.lst ts] w = .ok ts w := rfl
@[simp] theorem sList_tup {ts : List T} : sList [.tup ts] w = .ok ts w := rfl
theorem sList_cell {k : Nat} {ts : List T} (h : w[k]? = some (.lst ts)) : sList [.cell k] w = .ok ts w := by simp [sList, seq?, h]
@[simp] theorem lst_lst {ts : List T} : lst? w (.lst ts) = some ts := rfl
theorem lst_cell {k : Nat} {ts : List T} (h : w[k]? = some (.lst ts)) : lst? w (.cell k) = some ts := by simp [lst?, h]
theorem sIx_tup {ts : List T} {t : T} (h : ts[i.toNat]? = some t) (h0 : 0 ≤ i) : sIx (.tup ts) (.int i) w = .ok t w := by
  have e : atI ts i = some t := by rw [show i = ((i.toNat : Nat) : Int) by omega]; exact atI_nat h
  simp [sIx, seq?, e]
theorem sIx_lst {ts : List T} {t : T} (h : ts[i.toNat]? = some t) (h0 : 0 ≤ i) : sIx (.lst ts) (.int i) w = .ok t w := by
  have e : atI ts i = some t := by rw [show i = ((i.toNat : Nat) : Int) by omega]; exact atI_nat h
  simp [sIx, seq?, e]
theorem sIx_cell {k : Nat} {ts : List T} {t : T} (hk : w[k]? = some (.lst ts)) (h : ts[i.toNat]? = some t) (h0 : 0 ≤ i) : sIx (.cell k) (.int i) w = .ok t w := by
  have e : atI ts i = some t := by rw [show i = ((i.toNat : Nat) : Int) by omega]; exact atI_nat h
  simp [sIx, hk, e]
@[simp] theorem sIx_0 {t : T} {ts : List T} : sIx (.tup (t :: ts)) (.int 0) w = .ok t w := sIx_tup rfl (by decide)
@[simp] theorem sIx_1 {t u : T} {ts : List T} : sIx (.tup (u :: t :: ts)) (.int 1) w = .ok t w := sIx_tup rfl (by decide)
theorem append_cell {k : Nat} {ts : List T} {t : T} (h : w[k]? = some (.lst ts)) (hl : ts.length < 16777216) : sAppend (.cell k) [t] w = .ok .non (w.set k (.lst (ts ++ [t]))) := by
  have : ts.length < sizeLine := by rw [sizeLine_eq]; exact hl
  simp [sAppend, h, this]
/-! equality -/
theorem eqT_of {x y : T} {d e : PyData} (hx : pd w x = some d) (hy : pd w y = some e) (sd : SeqAt.shaped d = true) (se : SeqAt.shaped e = true) : eqT w x y = some (PyData.eqv d e) := by simp [eqT, hx, hy, sd, se]
@[simp] theorem eqT_int : eqT w (.int i) (.int j) = some (decide (i = j)) := by
  rw [eqT_of (d := .int i) (e := .int j) (by simp [pd]) (by simp [pd]) rfl rfl]
  simp [PyData.eqv]
  rfl
@[simp] theorem sEq_int : sEq (.int i) (.int j) w = .ok (.bl (decide (i = j))) w := by simp [sEq]
@[simp] theorem sNe_int : sNe (.int i) (.int j) w = .ok (.bl (!decide (i = j))) w := by simp [sNe]
theorem pds0_ints : ∀ ns : List Int, pds0 (ns.map .int) = some (ns.map .int)
  | [] => rfl
  | n :: ns => by simp [pds0, pd0, pds0_ints ns]
theorem lay_ints : ∀ ns : List Int, PyData.canLayAll0 (ns.map .int) = true
  | [] => rfl
  | n :: ns => by simp [PyData.canLayAll0, PyData.canLay0, lay_ints ns]
theorem depth_ints : ∀ ns : List Int, PyData.depthAll (ns.map .int) ≤ 1
  | [] => by simp [PyData.depthAll]
  | n :: ns => by
    have := depth_ints ns
    simp [PyData.depthAll, PyData.depth]
    omega
theorem shaped_ints (ns : List Int) : SeqAt.shaped (.list (ns.map .int)) = true := by
  have h := depth_ints ns
  simp [SeqAt.shaped, PyData.canLay0, lay_ints, PyData.depth]
  omega
theorem eqv_ints : ∀ ns ms : List Int, PyData.eqvAll (ns.map .int) (ms.map .int) = decide (ns = ms)
  | [], [] => by simp [PyData.eqvAll]
  | [], m :: ms => by simp [PyData.eqvAll]
  | n :: ns, [] => by simp [PyData.eqvAll]
  | n :: ns, m :: ms => by
    simp [PyData.eqvAll, PyData.eqv, eqv_ints ns ms]
    by_cases h : n = m <;> simp [h]
theorem pd_cell {k : Nat} {ns : List Int} (h : w[k]? = some (.lst (ns.map .int))) : pd w (.cell k) = some (.list (ns.map .int)) := by simp [pd, h, pds0_ints]
end
/-! ### loops by an invariant -/
section
variable {g : MG} {b : MS} {oc : OC} {all : List T} {w : World} {ρ : Env}
theorem bind_eq {α β : Type} {r : R α} {a : α} {f : α → World → R β} (h : r = .ok a w) : r.bind f = f a w := by rw [h]; rfl
theorem forL_go (P : Nat → Env → World → Prop) (hk : ∀ i ρ w, P i ρ w → Kept oc all w)
    (h : ∀ i t ρ w, all[i]? = some t → P i ρ w → ∃ ρ1 w1, ((g t ρ w).bind fun ρ1 w1 => b ρ1 w1) = .ok (ρ1, .nx) w1 ∧ P (i + 1) ρ1 w1) :
    ∀ (n i : Nat) (ρ : Env) (w : World), n + i = all.length → P i ρ w → ∃ ρ' w', forL g b oc all (all.drop i) ρ w = .ok (ρ', .nx) w' ∧ P all.length ρ' w'
  | 0, i, ρ, w, hn, p => by
    have e : i = all.length := by omega
    subst e
    refine ⟨ρ, w, ?_, p⟩
    rw [List.drop_length]
    unfold forL
    rw [if_pos (hk _ _ _ p)]
  | n + 1, i, ρ, w, hn, p => by
    have hi : i < all.length := by omega
    obtain ⟨ρ1, w1, e1, p1⟩ := h i all[i] ρ w (by simp [hi]) p
    obtain ⟨ρ2, w2, e2, p2⟩ := forL_go P hk h n (i + 1) ρ1 w1 (by omega) p1
    refine ⟨ρ2, w2, ?_, p2⟩
    rw [List.drop_eq_getElem_cons hi]
    unfold forL
    rw [if_pos (hk _ _ _ p)]
    cases q : g all[i] ρ w with
    | no => rw [q] at e1; cases e1
    | ex _ _ _ => rw [q] at e1; cases e1
    | ok ρ0 w0 =>
      rw [q, bind_ok'] at e1
      rw [bind_ok', e1, bind_ok']
      exact e2
/-- a for over a value that stays, with an invariant over (turn, slots, world) -/
theorem forL_run (P : Nat → Env → World → Prop) (h0 : P 0 ρ w)
    (h : ∀ i t ρ w, all[i]? = some t → P i ρ w → ∃ ρ1 w1, ((g t ρ w).bind fun ρ1 w1 => b ρ1 w1) = .ok (ρ1, .nx) w1 ∧ P (i + 1) ρ1 w1) :
    ∃ ρ' w', forL g b none all all ρ w = .ok (ρ', .nx) w' ∧ P all.length ρ' w' := by
  have := forL_go P (fun _ _ _ _ => kept_none) h all.length 0 ρ w (by omega) h0
  rwa [List.drop_zero] at this
theorem forL_cell {k : Nat} (P : Nat → Env → World → Prop) (h0 : P 0 ρ w) (hk : ∀ i ρ w, P i ρ w → w[k]? = some (.lst all))
    (h : ∀ i t ρ w, all[i]? = some t → P i ρ w → ∃ ρ1 w1, ((g t ρ w).bind fun ρ1 w1 => b ρ1 w1) = .ok (ρ1, .nx) w1 ∧ P (i + 1) ρ1 w1) :
    ∃ ρ' w', forL g b (some (k, all)) all all ρ w = .ok (ρ', .nx) w' ∧ P all.length ρ' w' := by
  have := forL_go P (fun i ρ w p => kept_some (hk i ρ w p)) h all.length 0 ρ w (by omega) h0
  rwa [List.drop_zero] at this
/-- a comprehension over a value that stays: the items one by one, an invariant over what is made so far -/
theorem compL_go {c : MT} {e : ME} {ρ0 : Env} (P : Nat → List T → World → Prop)
    (h : ∀ i t out w, all[i]? = some t → P i out w → ∃ ρ1 w1, g t ρ0 w = .ok ρ1 w1 ∧ ((∃ w2 y w3, c ρ1 w1 = .ok true w2 ∧ e ρ1 w2 = .ok y w3 ∧ out.length < 16777216 ∧ P (i + 1) (out ++ [y]) w3) ∨ ∃ w2, c ρ1 w1 = .ok false w2 ∧ P (i + 1) out w2)) :
    ∀ (n i : Nat) (out : List T) (w : World), n + i = all.length → P i out w → ∃ out' w', compL g c e none all ρ0 (all.drop i) out w = .ok out' w' ∧ P all.length out' w'
  | 0, i, out, w, hn, p => by
    have e : i = all.length := by omega
    subst e
    refine ⟨out, w, ?_, p⟩
    rw [List.drop_length]
    unfold compL
    rw [if_pos kept_none]
  | n + 1, i, out, w, hn, p => by
    have hi : i < all.length := by omega
    obtain ⟨ρ1, w1, e1, q⟩ := h i all[i] out w (by simp [hi]) p
    rw [List.drop_eq_getElem_cons hi]
    unfold compL
    rw [if_pos kept_none, e1, bind_ok']
    rcases q with ⟨w2, y, w3, e2, e3, hl, p1⟩ | ⟨w2, e2, p1⟩
    · obtain ⟨out2, w4, e4, p2⟩ := compL_go P h n (i + 1) _ _ (by omega) p1
      refine ⟨out2, w4, ?_, p2⟩
      rw [e2, bind_ok', if_pos rfl, e3, bind_ok', if_pos (by rw [sizeLine_eq]; exact hl)]
      exact e4
    · obtain ⟨out2, w4, e4, p2⟩ := compL_go P h n (i + 1) _ _ (by omega) p1
      refine ⟨out2, w4, ?_, p2⟩
      rw [e2, bind_ok', if_neg Bool.false_ne_true]
      exact e4
theorem compL_run {c : MT} {e : ME} {ρ0 : Env} (P : Nat → List T → World → Prop) (h0 : P 0 [] w)
    (h : ∀ i t out w, all[i]? = some t → P i out w → ∃ ρ1 w1, g t ρ0 w = .ok ρ1 w1 ∧ ((∃ w2 y w3, c ρ1 w1 = .ok true w2 ∧ e ρ1 w2 = .ok y w3 ∧ out.length < 16777216 ∧ P (i + 1) (out ++ [y]) w3) ∨ ∃ w2, c ρ1 w1 = .ok false w2 ∧ P (i + 1) out w2)) :
    ∃ out' w', compL g c e none all ρ0 all [] w = .ok out' w' ∧ P all.length out' w' := by
  have := compL_go P h all.length 0 [] w (by omega) h0
  rwa [List.drop_zero] at this
/-- a comprehension whose items are worked out by a function, the world untouched, nothing left out -/
theorem compL_map {c : MT} {e : ME} {ρ0 : Env} (f : T → T) (hl : all.length < 16777216) (h : ∀ t ∈ all, ∃ ρ1, g t ρ0 w = .ok ρ1 w ∧ c ρ1 w = .ok true w ∧ e ρ1 w = .ok (f t) w) : compL g c e none all ρ0 all [] w = .ok (all.map f) w := by
  obtain ⟨out, w', e1, e2, e3⟩ := compL_run (w := w) (P := fun i out w' => w' = w ∧ out = (all.take i).map f) (g := g) (c := c) (e := e) (ρ0 := ρ0) (all := all) ⟨rfl, by simp⟩ (fun i t out w' ht p => by
    obtain ⟨rfl, rfl⟩ := p
    obtain ⟨hi, hx⟩ := List.getElem?_eq_some_iff.mp ht
    obtain ⟨ρ1, a, b, d⟩ := h t (List.mem_of_getElem? ht)
    refine ⟨ρ1, _, a, .inl ⟨_, _, _, b, d, by simp; omega, rfl, ?_⟩⟩
    rw [List.take_add_one, ht, List.map_append]
    rfl)
  rw [e1, e2, e3, List.take_length]
/-- .. some left out -/
theorem compL_filter {c : MT} {e : ME} {ρ0 : Env} (p : T → Bool) (f : T → T) (hl : all.length < 16777216) (h : ∀ t ∈ all, ∃ ρ1, g t ρ0 w = .ok ρ1 w ∧ c ρ1 w = .ok (p t) w ∧ (p t = true → e ρ1 w = .ok (f t) w)) : compL g c e none all ρ0 all [] w = .ok ((all.filter p).map f) w := by
  obtain ⟨out, w', e1, e2, e3⟩ := compL_run (w := w) (P := fun i out w' => w' = w ∧ out = ((all.take i).filter p).map f) (g := g) (c := c) (e := e) (ρ0 := ρ0) (all := all) ⟨rfl, by simp⟩ (fun i t out w' ht q => by
    obtain ⟨rfl, rfl⟩ := q
    obtain ⟨hi, hx⟩ := List.getElem?_eq_some_iff.mp ht
    obtain ⟨ρ1, a, b, d⟩ := h t (List.mem_of_getElem? ht)
    refine ⟨ρ1, _, a, ?_⟩
    cases hp : p t with
    | true =>
      refine .inl ⟨_, _, _, by rw [b, hp], d hp, ?_, rfl, ?_⟩
      · have h1 := List.length_filter_le p (all.take i)
        have h2 := List.length_take_le i all
        simp only [List.length_map]
        omega
      · rw [List.take_add_one, ht, List.filter_append, List.map_append]
        simp [hp]
    | false =>
      refine .inr ⟨_, by rw [b, hp], rfl, ?_⟩
      rw [List.take_add_one, ht, List.filter_append, List.map_append]
      simp [hp])
  rw [e1, e2, e3, List.take_length]
end
end VS

set_option Elab.async false
set_option linter.all false
set_option maxRecDepth 100000
set_option maxHeartbeats 2000000
/-! VX5: what repr of ints, texts, tuples is: its length, and that it can be shown. -/
namespace VS
open PySem PySem.Spec PyProof.Rows L2
theorem ofStr_len (s : String) : (Str.ofString s).length = s.length := by
  rw [Str.ofString_eq_toList]
  simp [Str.length, String.length_toList]
theorem int_shown {i : Int} (h : i.natAbs < 10 ^ 19) : (PyData.int i).shown.length ≤ 20 := by
  have e : (PyData.int i).shown = Str.ofString i.repr := by simp [PyData.shown]
  rw [e, ofStr_len]
  cases i with
  | ofNat n =>
    have := (Nat.length_repr_le_iff (n := n) (k := 19) (by decide)).mpr (by simpa using h)
    show n.repr.length ≤ 20
    omega
  | negSucc n =>
    have := (Nat.length_repr_le_iff (n := n + 1) (k := 19) (by decide)).mpr (by simpa using h)
    show ("-" ++ (n + 1).repr).length ≤ 20
    rw [String.length_append]
    show 1 + _ ≤ 20
    omega
theorem tuple_shown (ds : List PyData) : (PyData.tuple ds).shown.length ≤ piled (PyData.shownAll ds) + 3 := by
  have e : (PyData.tuple ds).shown = tupleText (PyData.shownAll ds) := by simp [PyData.shown]
  rw [e]
  unfold tupleText
  rw [strLen_append, strLen_append]
  have e1 : ((("(" : String) : Str)).length = 1 := rfl
  have e3 : (((if (PyData.shownAll ds).length == 1 then ",)" else ")" : String) : Str)).length ≤ 2 := by split <;> decide
  by_cases hn : PyData.shownAll ds = []
  · rw [hn] at e3 ⊢
    have : (Str.join ", " []).length = 0 := rfl
    omega
  · have := join_length_add _ hn
    omega
theorem piled_ints : ∀ ns : List Int, (∀ n ∈ ns, n.natAbs < 10 ^ 19) → piled (PyData.shownAll (ns.map .int)) ≤ 22 * ns.length
  | [], _ => by simp [PyData.shownAll, piled]
  | n :: ns, h => by
    have ih := piled_ints ns fun m hm => h m (.tail _ hm)
    have h1 := int_shown (h n (.head _))
    have e : PyData.shownAll ((n :: ns).map .int) = (PyData.int n).shown :: PyData.shownAll (ns.map .int) := by simp [PyData.shownAll]
    rw [e, piled_cons, List.length_cons]
    omega
theorem int_showable {i : Int} (h : i.natAbs < 10 ^ 19) : (PyData.int i).showable = true := by
  have : i.natAbs.log2 < 1920 := by
    by_cases z : i.natAbs = 0
    · rw [z]; decide
    · have h64 : i.natAbs.log2 < 64 := (Nat.log2_lt z).mpr (Nat.lt_trans h (by decide))
      omega
  simpa [PyData.showable] using this
theorem ints_showable : ∀ ns : List Int, (∀ n ∈ ns, n.natAbs < 10 ^ 19) → PyData.showableAll (ns.map .int) = true
  | [], _ => by simp [PyData.showableAll]
  | n :: ns, h => by
    have ih := ints_showable ns fun m hm => h m (.tail _ hm)
    have h1 := int_showable (h n (.head _))
    simp [PyData.showableAll, h1, ih]
theorem ints_nodict : ∀ ns : List Int, PyData.hasDictAll (ns.map .int) = false
  | [] => by simp [PyData.hasDictAll]
  | n :: ns => by simp [PyData.hasDictAll, PyData.hasDict, ints_nodict ns]
/-! its code points -/
theorem ok_of_string (s : String) : PyData.strOk (Str.ofString s) = true := by
  rw [Str.ofString_eq_toList]
  unfold PyData.strOk
  rw [Array.all_eq_true_iff_forall_mem]
  intro c hc
  simp only [List.mem_toArray, List.mem_map] at hc
  obtain ⟨ch, _, rfl⟩ := hc
  have := ch.valid
  show decide (ch.toNat < 0x110000) = true
  refine decide_eq_true ?_
  show ch.val.toNat < _
  rcases this with h | h
  · omega
  · exact h.2
theorem ok_app {a b : Str} (ha : PyData.strOk a = true) (hb : PyData.strOk b = true) : PyData.strOk (a ++ b) = true := by
  unfold PyData.strOk at *
  show (a.cps ++ b.cps).all _ = true
  rw [Array.all_append, ha, hb]
  rfl
theorem ok_join : ∀ ts : List Str, (∀ t ∈ ts, PyData.strOk t = true) → PyData.strOk (Str.join ", " ts) = true
  | [], _ => by decide +kernel
  | [x], h => h x (.head _)
  | x :: y :: r, h => by
    show PyData.strOk (x ++ ", " ++ Str.join ", " (y :: r)) = true
    exact ok_app (ok_app (h x (.head _)) (by decide +kernel)) (ok_join (y :: r) fun t ht => h t (.tail _ ht))
theorem ok_tuple {ds : List PyData} (h : ∀ t ∈ PyData.shownAll ds, PyData.strOk t = true) : PyData.strOk (PyData.tuple ds).shown = true := by
  have e : (PyData.tuple ds).shown = tupleText (PyData.shownAll ds) := by simp [PyData.shown]
  rw [e]
  unfold tupleText
  refine ok_app (ok_app (by decide +kernel) (ok_join _ h)) ?_
  split <;> decide +kernel
theorem ok_int {i : Int} : PyData.strOk (PyData.int i).shown = true := by
  have e : (PyData.int i).shown = Str.ofString i.repr := by simp [PyData.shown]
  rw [e]
  exact ok_of_string _
theorem ok_ints : ∀ ns : List Int, ∀ t ∈ PyData.shownAll (ns.map .int), PyData.strOk t = true
  | [], t, ht => by simp [PyData.shownAll] at ht
  | n :: ns, t, ht => by
    have e : PyData.shownAll ((n :: ns).map .int) = (PyData.int n).shown :: PyData.shownAll (ns.map .int) := by simp [PyData.shownAll]
    rw [e] at ht
    rcases List.mem_cons.mp ht with rfl | ht
    · exact ok_int
    · exact ok_ints ns t ht
/-- equal texts -/
theorem sNe_str {w : World} {x : Str} (h : PyData.strOk x = true) : sNe (.str x) (.str x) w = .ok (.bl false) w := by
  have hp : pd w (.str x) = some (.str x) := by simp [pd]
  have hs : SeqAt.shaped (.str x) = true := by
    unfold SeqAt.shaped
    have : PyData.canLay0 (.str x) = true := h
    rw [this]
    simp [PyData.depth]
  have e : eqT w (.str x) (.str x) = some true := by
    rw [eqT_of hp hp hs hs, SeqAt.eqv_refl (.str x) h]
  simp [sNe, e]
end VS

set_option Elab.async false
set_option linter.all false
set_option maxRecDepth 100000
set_option maxHeartbeats 2000000
/-! VX6: methods, and calls with keywords, where no guard stands. -/
namespace VS
open PySem PySem.Spec PyProof.Rows L2
structure DfPG (P : Program) (w : PySem.World) (K : PySem.W.Frag) (Z : ZT) (mg : Str → Option Value) (base : Heap) (k : Nat) (x : Str) (n np : Nat) (ks : List Str) (ix : List Nat) (f : Sem) : Prop where
  ex : ∃ (ad : Addr) (fd : FuncData) (ps : List Str), ps.length = n ∧ FnG P w K mg base k ad fd ps (spOf (K, Z) n f) ∧ mg x = some (.ref ad) ∧ PySem.W.keepIn K (.ref ad) = true ∧ KBinds K fd ps ks (gP np ks.length ix) (gP np ks.length ix)
section
variable {X : Cx} {Z : ZT} {W : Option WX} {e : Expr} {es : List Expr} {kws : List Keyword} {x : Str} {p pos : Pos}
theorem run_gk {f : Addr} {fd : FuncData} {ps ks : List Str} {k : Nat} {sp : Sp} {g : List Value → List Value → List Value} {gV : List V → List V → List V} {pins : List (Addr × Obj)} {σ : L2.St} {H : Hp} {s : Shared} {Q : VK} {E : L2.St → XK} {us ws : List Value} {vs zs : List V}
    (F : FnG X.prog X.w X.K X.mg X.base k f fd ps sp) (hr : RoomG k X.A) (hb : KBinds X.K fd ps ks g gV) (hx : PassesAt (L2.CX X.prog X.w) X σ (E σ)) (I : Inv X pins σ H s) (r : Vals vs us) (rz : Vals zs ws) (q : sp (gV vs zs) H Q (E σ)) :
    wpAny (model X.prog X.w) X.A (call (.ref f) us (ks.zip ws)) (EP X pins σ Q) X.xe s := by
  have rr := hb.rel r rz
  have b := hb.to s us ws I.kIn (by rw [← rr.length, F.many q])
  refine wpAny_call (codeAny_mono (F.runs hr I.env0 b rr q) fun o s' z => ?_)
  match o, z with
  | .error c, z => exact hx pins H s c s' I z
  | .ok (.ret u), z => exact I.after z
theorem de_defPG {k n np nk : Nat} {ks : List Str} {ix : List Nat} {f : Sem} {m mk : MF} (F : DfPG X.prog X.w X.K Z X.mg X.base k x n np ks ix f) (tk : TakesO X W) (hr : RoomG k X.A) (ha : PA X (e :: es) (rdA (X.K, Z) W m)) (hkw : PK X kws (rdA (X.K, Z) W mk)) (hg : Gl X x := by rfl)
    (hall : (backToKw pos (keywordEach kws X.env)).all (·.1.isSome) = true := by rfl) (hks : (backToKw pos (keywordEach kws X.env)).filterMap (·.1) = ks := by rfl)
    (hdb : (x == ("__debug__" : Str)) = false := by decide) (he : starEach (e :: es) X.env = (false, eval e X.env) :: starEach es X.env := by rfl)
    (hpl : ((backTo pos (starEach (e :: es) X.env)).any (·.1) || (backToKw pos (keywordEach kws X.env)).any (·.1.isNone)) = false := by rfl) (hnk : ks.length = nk := by rfl) : PE X (.Call (.Name x p) (e :: es) kws pos) (rdE (X.K, Z) W (mDefP n np nk ix f m mk)) := by
  subst hnk
  obtain ⟨ad, fd, ps, hn, ok, hm, hk, hb⟩ := F.ex
  refine PE_imp (t := tCallKO (spOf (X.K, Z) n f) (gP np ks.length ix) (wE W) (rdA (X.K, Z) W m) (rdA (X.K, Z) W mk)) ⟨fun pins s σ H Q I h => ?_⟩ (defP_read (k := k))
  refine wpAny_Call_Name_kw (ld_glob I hg hm ?_ hdb)
  refine PySem.W.callWith_KW (h₀ := X.base) I.ok.mod.kin hk hall (thn (ha.run pos pins s σ H _ I h) fun us s1 ⟨vs, H1, I1, r, q⟩ => ?_) hpl he
  refine thn (hkw.run pos pins s1 σ H1 _ I1 q) fun ws s2 ⟨zs, H2, I2, rz, q2⟩ => ⟨I2.kIn, ?_⟩
  rw [hks]
  exact run_gk ok hr hb (passO tk σ) I2 r rz q2
theorem de_defPG0 {k n nk : Nat} {ks : List Str} {ix : List Nat} {f : Sem} {mk : MF} (F : DfPG X.prog X.w X.K Z X.mg X.base k x n 0 ks ix f) (tk : TakesO X W) (hr : RoomG k X.A) (hkw : PK X kws (rdA (X.K, Z) W mk)) (hg : Gl X x := by rfl)
    (hall : (backToKw pos (keywordEach kws X.env)).all (·.1.isSome) = true := by rfl) (hks : (backToKw pos (keywordEach kws X.env)).filterMap (·.1) = ks := by rfl)
    (hdb : (x == ("__debug__" : Str)) = false := by decide)
    (hpl : ((backTo pos (starEach [] X.env)).any (·.1) || (backToKw pos (keywordEach kws X.env)).any (·.1.isNone)) = false := by rfl) (hnk : ks.length = nk := by rfl) : PE X (.Call (.Name x p) [] kws pos) (rdE (X.K, Z) W (mDefP n 0 nk ix f mNil mk)) := by
  subst hnk
  obtain ⟨ad, fd, ps, hn, ok, hm, hk, hb⟩ := F.ex
  refine ⟨fun pins s σ H Q I h => ?_⟩
  obtain ⟨hd, φ, ρ, w, sr, wr, q⟩ := defP_read (k := k) (m := mNil) σ H Q h
  have q := q H φ Ext.refl wr [] Reps.nil
  refine wpAny_Call_Name_kw (ld_glob I hg hm ?_ hdb)
  refine PySem.W.callWith_KW0 (h₀ := X.base) I.ok.mod.kin hk hall (thn (hkw.run pos pins s σ H _ I q) fun ws s2 ⟨zs, H2, I2, rz, q2⟩ => ⟨I2.kIn, ?_⟩) hpl
  rw [hks]
  exact run_gk (us := []) ok hr hb (passO tk σ) I2 .nil rz q2
end
theorem At.dfPG {P : Program} {w : PySem.World} {K : PySem.W.Frag} {Z : ZT} {cd : Value} {mg : Str → Option Value} {base : Heap} {x : Str} {st : Stmt} {N ps ks : List Str} {k np : Nat} {ix : List Nat} {m : MS} {h : Heap} (a : At K x st cd) (X : K.In h) (G : h.Ns mainGlobals mg) (S : FnScope N ps (defScope st)) (hne : ps ≠ [])
    (hb : ∀ (kV doc pm : Value) (an : Option Addr) (cdv ct : Value) (us ws : List Value), us.length = np → ws.length = ks.length → bindArgs (PySem.W.fnOf x x (defArgs st) (defBody st) (defScope st) .none kV doc pm an cdv ct) ⟨us, ks.zip ws⟩ = pure (ps.zip (prm ix (us ++ ws))))
    (body : BdG P w K Z mg base N x st cd k m) : DfPG P w K Z mg base (k + 1) x ps.length np ks ix (runB N.length m) := by
  obtain ⟨f, oc, od, an, sl, kV, dc, pm, ct, h1, h2, h3, h4⟩ := a.ex
  refine ⟨f, _, ps, rfl, okG ⟨_, _, _, _, _, _, _, _, rfl, h2, h3⟩ S body, PySem.W.mg_of X G h1, h4, ⟨fun s us ws _ hl => ?_, fun a b => gP_rel a b⟩⟩
  unfold gP at hl ⊢
  split at hl
  · rename_i hc
    rw [if_pos hc]
    exact .of_eq (hb _ _ _ _ _ _ us ws hc.1 hc.2)
  · exfalso
    exact hne (List.eq_nil_of_length_eq_zero (by simpa using hl.symm))
section
variable {X : Cx} {k : Nat} {f C : Addr} {fd : FuncData} {ps : List Str} {sp : Sp} {E : L2.St → XK} {x m : Str} {p pos apos : Pos} {e o : Expr} {es : List Expr} {ta : TE} {t : TA}
theorem pe_methG {pl : PySem.Sem Bool} (he : PE X o ta) (c : Cls X.K C) (hm : Meth X.K C m f) (F : FnG X.prog X.w X.K X.mg X.base k f fd ps sp) (hr : RoomG k X.A) (hb : Binds X.K fd ps []) (hx : ∀ σ, PassesAt (L2.CX X.prog X.w) X σ (E σ)) (ha : PA X (e :: es) t)
    (hst : starEach (e :: es) X.env = (false, eval e X.env) :: starEach es X.env := by rfl) (hpl : (backTo pos (starEach es X.env)).any (·.1) = false := by rfl)
    (ht : eval (.Call (.Attribute o m apos) (e :: es) [] pos) X.env = (do
      let ov ← eval o X.env
      standAt apos.atName
      let (g, first) ← holding [ov] (getMethod ov m pl)
      callWith pos g first (backTo pos (starEach (e :: es) X.env)) (backToKw pos (keywordEach [] X.env))) := by rfl) : PE X (.Call (.Attribute o m apos) (e :: es) [] pos) (tMethO C m sp E ta t) :=
  ⟨fun pins s σ H Q I h => PySem.W.methodCall_KW (pl := pl) (thn (he.run pins s σ H _ I h) fun u s1 ⟨x, H1, I1, rx, a, dx, fs, ex, ea, l, q⟩ => by
    subst ex
    obtain rfl : u = Value.ref a := rx
    exact getmeth_ok I1 ea c hm l (PySem.W.callWith_K (first := [.ref a]) (h₀ := X.base) I.ok.mod.kin hm.kp (thn (ha.run pos pins s1 σ H1 _ I1 q) fun us s2 ⟨vs, H2, I2, r, q2⟩ => ⟨I2.kIn, run_g (us := .ref a :: us) (vs := .ref a :: vs) F hr hb (hx σ) I2 (.cons rfl r) q2⟩) hst hpl)) ht⟩
theorem pe_methG0 {pl : PySem.Sem Bool} (he : PE X o ta) (c : Cls X.K C) (hm : Meth X.K C m f) (F : FnG X.prog X.w X.K X.mg X.base k f fd ps sp) (hr : RoomG k X.A) (hb : Binds X.K fd ps []) (hx : ∀ σ, PassesAt (L2.CX X.prog X.w) X σ (E σ))
    (ht : eval (.Call (.Attribute o m apos) [] [] pos) X.env = (do
      let ov ← eval o X.env
      standAt apos.atName
      let (g, first) ← holding [ov] (getMethod ov m pl)
      callWith pos g first (backTo pos (starEach [] X.env)) (backToKw pos (keywordEach [] X.env))) := by rfl) : PE X (.Call (.Attribute o m apos) [] [] pos) (tMethO C m sp E ta tNil) :=
  ⟨fun pins s σ H Q I h => PySem.W.methodCall_KW (pl := pl) (thn (he.run pins s σ H _ I h) fun u s1 ⟨x, H1, I1, rx, a, dx, fs, ex, ea, l, q⟩ => by
    subst ex
    obtain rfl : u = Value.ref a := rx
    exact getmeth_ok I1 ea c hm l (PySem.W.callWith_K0 (first := [.ref a]) I1.kIn hm.kp (run_g (us := [.ref a]) (vs := [.ref a]) F hr hb (hx σ) I1 (.cons rfl .nil) q))) ht⟩
end
structure MtG (P : Program) (w : PySem.World) (K : PySem.W.Frag) (Z : ZT) (mg : Str → Option Value) (base : Heap) (k : Nat) (x m : Str) (ps : List Str) (f : Sem) : Prop where
  ex : ∃ (C fa : Addr) (fd : FuncData), GlbAt K x C ∧ Cls K C ∧ Meth K C m fa ∧ FnG P w K mg base k fa fd ps (spOf (K, Z) ps.length f) ∧ Binds K fd ps []
section
variable {X : Cx} {Z : ZT} {W : Option WX} {e o : Expr} {es : List Expr} {kws : List Keyword} {x m : Str} {p pos apos : Pos} {mo : ME} {ma mk : MF} {k n np nk : Nat} {ps ks : List Str} {ix : List Nat} {f : Sem}
theorem de_mthG {pl : PySem.Sem Bool} (D : MtG X.prog X.w X.K Z X.mg X.base k x m ps f) (tk : TakesO X W) (hr : RoomG k X.A) (ho : PE X o (rdE (X.K, Z) W mo)) (ha : PA X (e :: es) (rdA (X.K, Z) W ma)) (hn : ps.length = n := by rfl)
    (hst : starEach (e :: es) X.env = (false, eval e X.env) :: starEach es X.env := by rfl) (hpl : (backTo pos (starEach es X.env)).any (·.1) = false := by rfl)
    (ht : eval (.Call (.Attribute o m apos) (e :: es) [] pos) X.env = (do
      let ov ← eval o X.env
      standAt apos.atName
      let (g, first) ← holding [ov] (getMethod ov m pl)
      callWith pos g first (backTo pos (starEach (e :: es) X.env)) (backToKw pos (keywordEach [] X.env))) := by rfl) : PE X (.Call (.Attribute o m apos) (e :: es) [] pos) (rdE (X.K, Z) W (mMth x m n f mo ma)) := by
  subst hn
  obtain ⟨C, fa, fd, g, c, me, ok, hb⟩ := D.ex
  exact PE_imp (pe_methG (E := wE W) ho c me ok hr hb (passO tk) ha hst hpl ht) (mth_read g)
theorem de_mthG0 {pl : PySem.Sem Bool} (D : MtG X.prog X.w X.K Z X.mg X.base k x m ps f) (tk : TakesO X W) (hr : RoomG k X.A) (ho : PE X o (rdE (X.K, Z) W mo)) (hn : ps.length = n := by rfl)
    (ht : eval (.Call (.Attribute o m apos) [] [] pos) X.env = (do
      let ov ← eval o X.env
      standAt apos.atName
      let (g, first) ← holding [ov] (getMethod ov m pl)
      callWith pos g first (backTo pos (starEach [] X.env)) (backToKw pos (keywordEach [] X.env))) := by rfl) : PE X (.Call (.Attribute o m apos) [] [] pos) (rdE (X.K, Z) W (mMth x m n f mo mNil)) := by
  subst hn
  obtain ⟨C, fa, fd, g, c, me, ok, hb⟩ := D.ex
  refine PE_imp (pe_methG0 (E := wE W) ho c me ok hr hb (passO tk) ht) fun σ H Q q => ?_
  obtain ⟨hd, φ, ρ, w, sr, wr, q2⟩ := mth_read (K := (X.K, Z)) g σ H Q q
  refine ⟨hd, φ, ρ, w, sr, wr, q2.imp fun d φ1 H1 e1 h v rv => ?_⟩
  obtain ⟨a, dx, fs, h1, h2, h3, h4⟩ := h v rv
  exact ⟨a, dx, fs, h1, h2, h3, rdA_nil _ _ _ h4⟩
structure MtPG (P : Program) (w : PySem.World) (K : PySem.W.Frag) (Z : ZT) (mg : Str → Option Value) (base : Heap) (k : Nat) (x m : Str) (n np : Nat) (ks : List Str) (ix : List Nat) (f : Sem) : Prop where
  ex : ∃ (C fa : Addr) (fd : FuncData) (ps : List Str), ps.length = n ∧ GlbAt K x C ∧ Cls K C ∧ Meth K C m fa ∧ FnG P w K mg base k fa fd ps (spOf (K, Z) n f) ∧ KBinds K fd ps ks (gP np ks.length ix) (gP np ks.length ix)
theorem de_mthPG0 {pl : PySem.Sem Bool} (D : MtPG X.prog X.w X.K Z X.mg X.base k x m n 1 ks ix f) (tk : TakesO X W) (hr : RoomG k X.A) (ho : PE X o (rdE (X.K, Z) W mo)) (hkw : PK X kws (rdA (X.K, Z) W mk))
    (hall : (backToKw pos (keywordEach kws X.env)).all (·.1.isSome) = true := by rfl) (hks : (backToKw pos (keywordEach kws X.env)).filterMap (·.1) = ks := by rfl)
    (hpl : ((backTo pos (starEach [] X.env)).any (·.1) || (backToKw pos (keywordEach kws X.env)).any (·.1.isNone)) = false := by rfl) (hnk : ks.length = nk := by rfl)
    (ht : eval (.Call (.Attribute o m apos) [] kws pos) X.env = (do
      let ov ← eval o X.env
      standAt apos.atName
      let (g, first) ← holding [ov] (getMethod ov m pl)
      callWith pos g first (backTo pos (starEach [] X.env)) (backToKw pos (keywordEach kws X.env))) := by rfl) : PE X (.Call (.Attribute o m apos) [] kws pos) (rdE (X.K, Z) W (mMthP x m n 1 nk ix f mo mNil mk)) := by
  subst hnk
  obtain ⟨C, fa, fd, ps, hn, g, c, me, ok, hb⟩ := D.ex
  refine PE_imp (t := tMethKO C m (spOf (X.K, Z) n f) (gP 1 ks.length ix) (wE W) (rdE (X.K, Z) W mo) (rdA (X.K, Z) W mNil) (rdA (X.K, Z) W mk)) ⟨fun pins s σ H Q I h => ?_⟩ (mthP_read g)
  refine PySem.W.methodCall_KW (pl := pl) (thn (ho.run pins s σ H _ I h) fun u s1 ⟨y, H1, I1, rx, a, dx, fs, ex, ea, l, q⟩ => ?_) ht
  subst ex
  obtain rfl : u = Value.ref a := rx
  have q := rdA_nil _ _ _ q
  refine getmeth_ok I1 ea c me l (PySem.W.callWith_KW0 (first := [.ref a]) (h₀ := X.base) I.ok.mod.kin me.kp hall (thn (hkw.run pos pins s1 σ H1 _ I1 q) fun ws s2 ⟨zs, H2, I2, rz, q2⟩ => ⟨I2.kIn, ?_⟩) hpl)
  rw [hks]
  exact run_gk (us := [.ref a]) (vs := [.ref a]) ok hr hb (passO tk σ) I2 (.cons rfl .nil) rz q2
theorem de_mthPG {pl : PySem.Sem Bool} (D : MtPG X.prog X.w X.K Z X.mg X.base k x m n np ks ix f) (tk : TakesO X W) (hr : RoomG k X.A) (ho : PE X o (rdE (X.K, Z) W mo)) (ha : PA X (e :: es) (rdA (X.K, Z) W ma)) (hkw : PK X kws (rdA (X.K, Z) W mk))
    (hall : (backToKw pos (keywordEach kws X.env)).all (·.1.isSome) = true := by rfl) (hks : (backToKw pos (keywordEach kws X.env)).filterMap (·.1) = ks := by rfl)
    (he : starEach (e :: es) X.env = (false, eval e X.env) :: starEach es X.env := by rfl)
    (hpl : ((backTo pos (starEach (e :: es) X.env)).any (·.1) || (backToKw pos (keywordEach kws X.env)).any (·.1.isNone)) = false := by rfl) (hnk : ks.length = nk := by rfl)
    (ht : eval (.Call (.Attribute o m apos) (e :: es) kws pos) X.env = (do
      let ov ← eval o X.env
      standAt apos.atName
      let (g, first) ← holding [ov] (getMethod ov m pl)
      callWith pos g first (backTo pos (starEach (e :: es) X.env)) (backToKw pos (keywordEach kws X.env))) := by rfl) : PE X (.Call (.Attribute o m apos) (e :: es) kws pos) (rdE (X.K, Z) W (mMthP x m n np nk ix f mo ma mk)) := by
  subst hnk
  obtain ⟨C, fa, fd, ps, hn, g, c, me, ok, hb⟩ := D.ex
  refine PE_imp (t := tMethKO C m (spOf (X.K, Z) n f) (gP np ks.length ix) (wE W) (rdE (X.K, Z) W mo) (rdA (X.K, Z) W ma) (rdA (X.K, Z) W mk)) ⟨fun pins s σ H Q I h => ?_⟩ (mthP_read g)
  refine PySem.W.methodCall_KW (pl := pl) (thn (ho.run pins s σ H _ I h) fun u s1 ⟨y, H1, I1, rx, a, dx, fs, ex, ea, l, q⟩ => ?_) ht
  subst ex
  obtain rfl : u = Value.ref a := rx
  refine getmeth_ok I1 ea c me l (PySem.W.callWith_KW (first := [.ref a]) (h₀ := X.base) I.ok.mod.kin me.kp hall (thn (ha.run pos pins s1 σ H1 _ I1 q) fun us s2 ⟨vs, H2, I2, r, q2⟩ => thn (hkw.run pos pins s2 σ H2 _ I2 q2) fun ws s3 ⟨zs, H3, I3, rz, q3⟩ => ⟨I3.kIn, ?_⟩) hpl he)
  rw [hks]
  exact run_gk (us := .ref a :: us) (vs := .ref a :: vs) ok hr hb (passO tk σ) I3 (.cons rfl r) rz q3
end
section
variable {P : Program} {w : PySem.World} {K : PySem.W.Frag} {Z : ZT} {mg : Str → Option Value} {base : Heap} {x m qual : Str} {st : Stmt} {cd : Value} {N ps ks : List Str} {k np : Nat} {ix : List Nat} {mm : MS} {h : Heap} {C : Addr}
theorem okGM {f : Addr} {fd : FuncData} {cdv : Value} (F : FunC K m qual st f fd cdv) (S : FnScope N ps (defScope st)) (body : BdG P w K Z mg base N qual st cdv k mm) : FnG P w K mg base (k + 1) f fd ps (spOf (K, Z) ps.length (runB N.length mm)) := by
  obtain ⟨oc, od, kV, doc, pm, an, ct, osl, rfl, lk, hcd⟩ := F.ex
  refine ⟨fun h => spOf_len _ _ _ _ h, fun {A fr s H as us vs Q E} hr e0 hb r h => LamX.run_ofS lk hcd S hr.room e0 hb r (spOf_len _ _ _ _ h) fun hr' => ⟨_, body f A fr s H E (some fun cls d _ H' => E cls d H') ⟨hr', hr.gd⟩ (show Takes _ _ from takes_of rfl rfl rfl rfl), start_reads h⟩⟩
theorem AtM.mtG (a : AtM K x m qual st cd) (q : ClsO K x C) (S : FnScope N ps (defScope st))
    (hb : ∀ (kV doc pm : Value) (an : Option Addr) (cdv ct : Value) (us : List Value), us.length = ps.length → bindArgs (PySem.W.fnOf m qual (defArgs st) (defBody st) (defScope st) .none kV doc pm an cdv ct) ⟨us, []⟩ = pure (ps.zip us))
    (body : BdG P w K Z mg base N qual st cd k mm) : MtG P w K Z mg base (k + 1) x m ps (runB N.length mm) := by
  obtain ⟨C', f, oc, od, an, sl, kV, dc, pm, ct, g, h1, h5, h4, h2, h3⟩ := a.ex
  cases GlbAt.inj g q.c1
  exact ⟨C, f, _, g, q.cls, ⟨h1, h5, h4⟩, okGM ⟨_, _, _, _, _, _, _, _, rfl, h2, h3⟩ S body, Binds.all (hb _ _ _ _ _ _)⟩
theorem AtM.mtPG (a : AtM K x m qual st cd) (q : ClsO K x C) (S : FnScope N ps (defScope st)) (hne : ps ≠ [])
    (hb : ∀ (kV doc pm : Value) (an : Option Addr) (cdv ct : Value) (us ws : List Value), us.length = np → ws.length = ks.length → bindArgs (PySem.W.fnOf m qual (defArgs st) (defBody st) (defScope st) .none kV doc pm an cdv ct) ⟨us, ks.zip ws⟩ = pure (ps.zip (prm ix (us ++ ws))))
    (body : BdG P w K Z mg base N qual st cd k mm) : MtPG P w K Z mg base (k + 1) x m ps.length np ks ix (runB N.length mm) := by
  obtain ⟨C', f, oc, od, an, sl, kV, dc, pm, ct, g, h1, h5, h4, h2, h3⟩ := a.ex
  cases GlbAt.inj g q.c1
  refine ⟨C, f, _, ps, rfl, g, q.cls, ⟨h1, h5, h4⟩, okGM ⟨_, _, _, _, _, _, _, _, rfl, h2, h3⟩ S body, ⟨fun s us ws _ hl => ?_, fun a b => gP_rel a b⟩⟩
  unfold gP at hl ⊢
  split at hl
  · rename_i hc
    rw [if_pos hc]
    exact .of_eq (hb _ _ _ _ _ _ us ws hc.1 hc.2)
  · exfalso
    exact hne (List.eq_nil_of_length_eq_zero (by simpa using hl.symm))
end
end VS

set_option Elab.async false
set_option linter.all false
set_option maxRecDepth 100000
set_option maxHeartbeats 2000000
/-! VX7: _law_caught(lambda: e), where no guard stands. -/
namespace VS
open PySem PySem.Spec PyProof.Rows L2 LamX
theorem RoomG.down {k : Nat} {A : Around} (r : RoomG (k + 1) A) (e : PySem.Env) : RoomG k (A.deeper e) := ⟨r.room.deeper e, r.gd⟩
section
variable {X : Cx} {pins : List (Addr × Obj)} {σ : L2.St} {H : Hp} {s : Shared}
abbrev lamF (X : Cx) (ar : Arguments) (bd : Expr) (sc : Scope) (pm ct : Value) (co : Addr) := PySem.W.kla_obj "<lambda>" (X.env.qual ++ "<lambda>") ar bd sc (cloFrom X.env.cells sc.names []) pm co ct
/-- the def that got the lambda f calls it by its name a -/
theorem pe_actG {CX0 : CXT} {E0 E : XK} {Ns : List Str} {q : Str} {sg sc : Scope} {g f co : Addr} {cd pm ct : Value} {ar : Arguments} {bd : Expr} {k i : Nat} {a : Str} {pn : List (Addr × Obj)} {xe : Value → Shared → Prop} {W : WX} {tb : TE} {p1 p2 : Pos}
    (I : L2.Inv X pins σ H s) (L : LamS X.env.scope sc) (at0 : s.heap.get? f = some (lamF X ar bd sc pm ct co)) (un0 : H f = none) (fr0 : f ∉ frs X.stack)
    (bind0 : bindArgs (PySem.W.kla_fn "<lambda>" (X.env.qual ++ "<lambda>") ar bd sc (cloFrom X.env.cells sc.names []) pm (.ref co) ct) ⟨[], []⟩ = pure [])
    (tk : Takes ((cxOf CX0 X.prog X.w X.K X.mg X.base Ns q sg g cd X.A X.stack s H E0).tr pn xe) W) (up : ∀ cls d σ' H', E cls d H' → W cls d σ' H') (hr : RoomG (k + 1) (X.A.deeper (envOfC q sg s.heap.objs.size g cd)))
    (bdy : ∀ (A : Around) (fr : List PySem.Env) (t : Shared) (J : Hp), RoomG k (A.deeper (lamEnv X sc t.heap.objs.size f co)) → PE (lamCx X A fr t J E sc f co) bd tb)
    (hN : Ns[i]? = some a) (hv : Vis sg a) (n1 : (a == ("__debug__" : Str)) = false := by decide) (n2 : (a == ("__classdict__" : Str)) = false := by decide) :
    PE ((cxOf CX0 X.prog X.w X.K X.mg X.base Ns q sg g cd X.A X.stack s H E0).tr pn xe) (.Call (.Name a p1) [] [] p2)
      (fun τ J Q => τ[i]? = some (some (.ref f)) ∧ J co = some (CodeO co (X.env.qual ++ "<lambda>")) ∧ tb σ J Q) := by
  refine ⟨fun pins' s' τ J Q I' ⟨h1, h2, h3⟩ => wpAny_Call_Name_kw (thn ((pe_var (pos := p1) (i := i) hN hv n1 n2).run pins' s' τ J (fun v J1 => v = .ref f ∧ J1 = J) I' ⟨.ref f, h1, rfl, rfl⟩) fun u s1 ⟨v, J1, I1, r1, ev, eJ⟩ => ?_)⟩
  subst ev eJ
  obtain rfl : u = Value.ref f := r1
  have f1 : s1.heap.get? f = some (lamF X ar bd sc pm ct co) := I1.base.keep f _ at0 un0 fr0 (fun z => (List.not_mem_nil z).elim)
  obtain ⟨⟨oc, vs, tt, c1, c2, c3⟩, _⟩ := I1.hok co _ h2
  have go : codeAny (model X.prog X.w) (X.A.deeper (envOfC q sg s.heap.objs.size g cd)) (.call (.ref f) ⟨[], []⟩) (CR (L2.CX X.prog X.w) (envOfC q sg s.heap.objs.size g cd :: X.stack) X.prog X.w J1 s1 Q E) s1 := by
    refine PySem.W.kla_callFunE hr.room.depth f1 rfl L.co L.gen rfl ⟨co, oc, vs, tt, rfl, c1, c2, c3⟩ ?_
    rw [bind0]
    refine wpAny_pure (wpAny_newFunctionEnv (fun y hy => (L.own y hy).2) (fun y hy => (List.not_mem_nil hy).elim) (fun h1 ns sb => ⟨I1.nolimit.fresh _ sb, ?_⟩) L.kind)
    have kp : ∀ b o, s1.heap.get? b = some o → h1.get? b = some o := fun b o e => sb.extBut b o (Nat.ne_of_lt (Heap.lt_size e)) (Heap.get?_push_of_some _ e)
    refine PySem.W.kla_codeExpr (wpAny_mono ((bdy _ _ s1 J1 (hr.down _)).run [] _ _ J1 Q (lam_start2 I L I1.env0 hr.room.hd I1.base ns kp) h3) (fun v t ⟨w', J', I2, rv, q2⟩ => ?_) fun _ _ z => z)
    exact ⟨w', J', I2.os, I2.bare, I2.base, I2.hok, rv, q2⟩
  refine PySem.W.callWith_F0 ⟨_, _, _, _, f1⟩ (wpAny_call (codeAny_mono go fun r t z => ?_))
  match r, z with
  | .error e, z => exact passes_call tk up pins' τ J1 s1 e t I1 z
  | .ok (.ret u), z => exact I1.after z
/-- g(lambda: bd), g a def of its own that calls what it gets -/
theorem pe_lamG {Tt : List (Addr × Str)} {TT : (XK → Hp → VK → Prop) → Hp → VK → Prop} {x a : Str} {g c P : Addr} {k : Nat} {ag : Arguments} {bg : List Stmt} {sg sc : Scope} {dV kV doc pm cd ct oc : Value} {an od : Option Addr} {sl : Array (Option Value)} {Ns : List Str}
    {ar : Arguments} {bd : Expr} {t : XK → TE} {p lp pos : Pos} (hg : Gl X x) (hm : X.mg x = some (.ref g)) (hk : PySem.W.keepIn X.K (.ref g) = true) (lk : X.K.lookup g = some ⟨oc, od, .func (PySem.W.fnOf x x ag bg sg dV kV doc pm an cd ct), sl⟩)
    (hc : PySem.W.codeIn X.K cd x = true) (hb : L2.Binds X.K (PySem.W.fnOf x x ag bg sg dV kV doc pm an cd ct) [a] []) (Sg : FnScope Ns [a] sg) (h0 : Ns[0]? = some a) (hv : Vis sg a) (hG : GivesTo X Ns x sg g cd bg a (X.env.qual ++ "<lambda>") TT)
    (TB : TabB X.base X.mg c P) (hq : X.env.code = .ref c) (mT : (P, X.env.qual ++ "<lambda>") ∈ Tt) (uT : ∀ y ∈ Tt, y.1 = P → y.2 = X.env.qual ++ "<lambda>") (hr : RoomG (k + 2) X.A) (L : LamS X.env.scope sc) (hd : defaultsOf ar X.env = ([], []))
    (bnd : ∀ (q : Str) (cl : List (Str × Addr)) (m1 m2 m3 : Value), bindArgs (PySem.W.kla_fn "<lambda>" q ar bd sc cl m1 m2 m3) ⟨[], []⟩ = pure [])
    (bdy : ∀ (A : Around) (fr : List PySem.Env) (s : Shared) (J : Hp) (E : XK) (f co : Addr), RoomG k (A.deeper (lamEnv X sc s.heap.objs.size f co)) → PE (lamCx X A fr s J E sc f co) bd (t E))
    (n0 : (x == ("__debug__" : Str)) = false := by decide) (n1 : (a == ("__debug__" : Str)) = false := by decide) (n2 : (a == ("__classdict__" : Str)) = false := by decide) : PE X (.Call (.Name x p) [.Lambda ar bd sc lp] [] pos) (tLam Tt TT t) := by
  refine ⟨fun pins s σ H Q I ⟨hT, h⟩ => wpAny_Call_Name_kw (ld_glob I hg hm ?_ n0)⟩
  refine PySem.W.callWith_K (h₀ := X.base) I.ok.mod.kin hk ?_ (by rfl) (by rfl)
  show wpAny _ _ (spliced ((false, eval (.Lambda ar bd sc lp) X.env) :: backTo pos (starEach [] X.env))) _ _ s
  refine Calls.spliced_cons (lam_make2 I TB hq mT uT hT hd (L.has I.ok) fun f co m1 m2 J s1 I1 eN T1 f1 f2 f3 c1 => Calls.spliced_nil ⟨I1.kIn, ?_⟩)
  refine wpAny_call (codeAny_mono (run_ofS (CX := C8.CX0) (E := C8.E0) (N := Ns) (ps := [a]) (us := [.ref f]) (vs := [.ref f]) lk hc Sg hr.room I1.env0 (hb s1 [.ref f] I1.kIn rfl) (.cons rfl .nil) rfl (Q := Q) fun hr1 => ?_) fun r s2 z => ?_)
  · obtain ⟨t1, p1, q1⟩ := hG f co s1 J Q (fun E J' Q' => t E σ J' Q') (fun W pn xe E p1 p2 tk up => pe_actG (i := 0) I1 L f1 f2 f3 (bnd _ _ _ _ _) tk up ⟨hr1, hr.gd⟩ (fun A fr s J hr2 => bdy A fr s J E f co hr2) h0 hv n1 n2) c1 (h J eN T1)
    exact ⟨t1, p1.nox, q1⟩
  · match r, z with
    | .error e, z => exact (show False from z).elim
    | .ok (.ret u), z => exact I1.after z
end
theorem de_caughtG {X : Cx} {Z : ZT} {W : Option WX} {cs : List Str} {m : ME} {k : Nat} {params : Arguments} {body : Expr} {scope : Scope} {p lpos pos : Pos} (D : CaughtD X.K X.mg cs) (L : LamAt Z X.base X.mg X.env.code (X.env.qual ++ "<lambda>")) (hr : RoomG (k + 2) X.A)
    (hbody : ∀ (A : Around) (outer : List PySem.Env) (s : Shared) (H : Hp) (E : XK) (f c' : Addr), RoomG k (A.deeper (LamX.lamEnv X scope s.heap.objs.size f c')) → TakesO (LamX.lamCx X A outer s H E scope f c') (some fun cls d _ H => E cls d H) →
      PE (LamX.lamCx X A outer s H E scope f c') body (rdE (X.K, Z) (some fun cls d _ H => E cls d H) m))
    (LS : LamX.lamSB X.env.scope scope = true := by decide +kernel) (hg : Gl X "_law_caught" := by rfl) (hdef : defaultsOf params X.env = ([], []) := by rfl)
    (hbind : ∀ (q : Str) (cl : List (Str × Addr)) (pm cv ctv : Value), bindArgs (PySem.W.kla_fn "<lambda>" q params body scope cl pm cv ctv) ⟨[], []⟩ = pure [] := by intro _ _ _ _ _; rfl) :
    PE X (.Call (.Name "_law_caught" p) [.Lambda params body scope lpos] [] pos) (rdE (X.K, Z) W (mCaught cs m)) := by
  obtain ⟨st, S, g, CS, oc, od, an, sl, kV, dc, pm, cd, ct, T, hm, kp, lk, hcd, hb, hS, hx⟩ := D.ex
  obtain ⟨c, P, hcode, TB, mZ, uZ⟩ := L.ex
  refine PE_imp (pe_lamG (Tt := Z.1) (TT := TTc X.K CS) (t := fun E => rdE (X.K, Z) (some fun cls d _ H => E cls d H) m) hg hm kp lk hcd hb T.sc rfl (.inl T.lw) (caught_gives T hS) TB hcode mZ uZ hr (LamX.lamS_by LS) hdef hbind
    (fun A outer s H E f c' hr' => hbody A outer s H E f c' hr' (show Takes _ _ from takes_of rfl rfl rfl rfl))) fun σ H Q => ?_
  rintro ⟨hd, φ, ρ, w, sr, wr, q⟩
  refine ⟨wr.tabs, fun H1 eN T1 => ?_⟩
  have e1 : Ext hd φ H hd φ H1 := Ext.tables eN
  have wr1 : WR (X.K, Z) hd φ H1 w := wr.tables eN T1
  refine ⟨hd, φ, ρ, w, sr.mono e1, wr1, ?_⟩
  unfold mCaught at q
  cases hq : m ρ w with
  | no => rw [hq] at q; exact q.elim
  | ok t w' =>
    rw [hq] at q
    intro H' φ' e' wr' v rv
    exact q H' φ' (e1.trans e') wr' .non (by unfold Rep; rfl)
  | ex t ρ' w' =>
    rw [hq] at q
    cases t with
    | exc x ks ts =>
      simp only at q
      split at q
      · rename_i hin
        intro H' φ' σ' e' wr' _ cls d rx
        refine ⟨?_, fun a ha => ?_⟩
        · obtain ⟨x', ks', ts', C, z1, z2, gl, _⟩ := rx
          cases z1
          subst z2
          exact hx x hin C gl
        · obtain ⟨e2, wr2, r2⟩ := rep_exc wr' rx ha
          exact q _ _ ((e1.trans e').trans e2) wr2 _ r2
      · exact q.elim
    | _ => exact q.elim
end VS

set_option Elab.async false
set_option linter.all false
set_option maxRecDepth 100000
set_option maxHeartbeats 2000000
/-! VX8: methods that call themselves. -/
namespace VS
open PySem PySem.Spec PyProof.Rows L2
section
variable {P : Program} {w : PySem.World} {K : PySem.W.Frag} {Z : ZT} {mg : Str → Option Value} {base : Heap} {x m qual : Str} {st : Stmt} {cd : Value} {N ps : List Str} {k : Nat} {C : Addr}
theorem MtD.mono {j k : Nat} {f : Sem} (D : MtD P w K Z mg base j x m ps f) (h : j ≤ k) : MtD P w K Z mg base k x m ps f := by
  obtain ⟨C, fa, fd, g, c, me, ok, hb⟩ := D.ex
  exact ⟨C, fa, fd, g, c, me, ok.mono h, hb⟩
theorem mt_fuel {F : Sem → MS} (a : AtM K x m qual st cd) (q : ClsO K x C) (S : FnScope N ps (defScope st))
    (hb : ∀ (kV doc pm : Value) (an : Option Addr) (cdv ct : Value) (us : List Value), us.length = ps.length → bindArgs (PySem.W.fnOf m qual (defArgs st) (defBody st) (defScope st) .none kV doc pm an cdv ct) ⟨us, []⟩ = pure (ps.zip us))
    (body : ∀ (L : Nat) (g : Sem), k ≤ L → MtD P w K Z mg base L x m ps g → Bd P w K Z mg base N qual st cd L (F g)) : ∀ n : Nat, MtD P w K Z mg base (k + 1 + 2 * n) x m ps (fuelS false N.length F n)
  | 0 => AtM.mt a q S hb bd_no
  | n + 1 => (AtM.mt a q S hb (body (k + 1 + 2 * n) _ (by omega) (mt_fuel a q S hb body n))).mono (by omega)
end
end VS

set_option Elab.async false
set_option linter.all false
set_option maxRecDepth 100000
set_option maxHeartbeats 2000000
/-! VX9: d[(k1, k2)] = v and (k1, k2) in d, keys of any depth. -/
namespace VS
open PySem PySem.Spec PyProof.Rows L2
mutual
def keyN : T → Option NestedKey
  | .non => some .none
  | .int i => some (.num i)
  | .str x => some (.text x)
  | .tup ts => match keyNs ts with
    | some ks => some (.tup ks)
    | none => none
  | _ => none
def keyNs : List T → Option (List NestedKey)
  | [] => some []
  | t :: ts => match keyN t, keyNs ts with
    | some k, some ks => some (k :: ks)
    | _, _ => none
end
mutual
theorem keyN_eq : ∀ {t : T} {k : NestedKey}, keyN t = some k → t = nkT k
  | .non, k, h => by cases h; rfl
  | .int i, k, h => by cases h; rfl
  | .str x, k, h => by cases h; rfl
  | .tup ts, k, h => by
    unfold keyN at h
    split at h
    · rename_i ks e
      cases h
      rw [keyNs_eq e]; rfl
    · cases h
  | .bl _, k, h => by cases h
  | .ty _, k, h => by cases h
  | .lst _, k, h => by cases h
  | .frz _, k, h => by cases h
  | .rng _, k, h => by cases h
  | .cell _, k, h => by cases h
  | .glb _, k, h => by cases h
  | .exc _ _ _, k, h => by cases h
  | .dct _ _, k, h => by cases h
theorem keyNs_eq : ∀ {ts : List T} {ks : List NestedKey}, keyNs ts = some ks → ts = nkTs ks
  | [], ks, h => by cases h; rfl
  | t :: ts, ks, h => by
    unfold keyNs at h
    split at h
    · rename_i k ks' e1 e2
      cases h
      rw [keyN_eq e1, keyNs_eq e2]; rfl
    · cases h
end
theorem nkTs_append : ∀ a b : List NestedKey, nkTs (a ++ b) = nkTs a ++ nkTs b
  | [], _ => rfl
  | x :: a, b => by show nkT x :: nkTs (a ++ b) = _; rw [nkTs_append a b]; rfl
section
variable {P : Program} {w : PySem.World} {K : KT} {hd φ : List Addr} {H : Hp} {h : Heap}
mutual
theorem nis (ok : HOk P w H h) : ∀ (k : NestedKey) {v : V} {u : Value}, Rep K hd φ H (nkT k) v → RelV v u → NestedIs h k u
  | .none, v, u, r, q => by
    unfold nkT at r; unfold Rep at r; subst r
    obtain rfl : u = .none := q
    exact .none
  | .num i, v, u, r, q => by
    unfold nkT at r; unfold Rep at r; subst r
    obtain ⟨t, rfl⟩ := q
    exact .int i t
  | .text x, v, u, r, q => by
    unfold nkT at r; unfold Rep at r; subst r
    obtain ⟨t, rfl⟩ := q
    exact .text x t
  | .tup ks, v, u, r, q => by
    unfold nkT at r; unfold Rep at r
    obtain ⟨a, xs, rfl, n, rs⟩ := r
    obtain rfl : u = .ref a := q
    obtain ⟨_, its, rv, o, h1, h2, m, h3⟩ := (show ObjOk P w H h a (.tup xs) from ok a _ n.1)
    exact .tup h1 h2 h3 (by simpa using nisAll ok ks rs rv)
theorem nisAll (ok : HOk P w H h) : ∀ (ks : List NestedKey) {vs : List V} {us : List Value}, Reps K hd φ H (nkTs ks) vs → Vals vs us → NestedAll h ks us
  | [], vs, us, r, q => by
    unfold nkTs at r; unfold Reps at r; subst r
    cases q
    exact .nil
  | k :: ks, vs, us, r, q => by
    unfold nkTs at r; unfold Reps at r
    obtain ⟨x, xs, rfl, r1, r2⟩ := r
    cases q with
    | cons q1 q2 => exact .cons (nis ok k r1 q1) (nisAll ok ks r2 q2)
end
/-- at b stands the key k -/
def KeyAt (H : Hp) (k : NestedKey) (b : Addr) : Prop := ∃ (K : KT) (hd φ : List Addr), Rep K hd φ H (nkT k) (.ref b)
def KeysAt (H : Hp) (ys : List (NestedKey × Addr × V)) : Prop := ∃ (K : KT) (hd φ : List Addr), Reps K hd φ H (nkTs (ys.map (·.1))) (ys.map fun y => .ref y.2.1)
theorem KeyAt.is {k : NestedKey} {b : Addr} (q : KeyAt H k b) (ok : HOk P w H h) (d : k.depth ≤ 8) : (nestedKind P w).is h k b := by
  obtain ⟨K, hd, φ, r⟩ := q
  exact ⟨nis ok k r rfl, d⟩
theorem keys_is {ys : List (NestedKey × Addr × V)} {xs : List (NestedKey × Addr × Value)} (ok : HOk P w H h) (p : Paired NEnt ys xs) : ∀ (q : Reps K hd φ H (nkTs (ys.map (·.1))) (ys.map fun y => .ref y.2.1)) (d : ∀ y ∈ ys, y.1.depth ≤ 8), ∀ x ∈ xs, (nestedKind P w).is h x.1 x.2.1 := by
  induction p with
  | nil => intro _ _ x hx; cases hx
  | cons e r ih =>
    rename_i a b l1 l2
    intro q d x hx
    have q' : Reps K hd φ H (nkT a.1 :: nkTs (l1.map (·.1))) (.ref a.2.1 :: l1.map fun y => .ref y.2.1) := q
    unfold Reps at q'
    obtain ⟨v, vs, e2, r1, r2⟩ := q'
    cases e2
    rcases List.mem_cons.mp hx with rfl | hx
    · rw [← e.1, ← e.2.1]
      exact ⟨nis ok a.1 r1 rfl, d a List.mem_cons_self⟩
    · exact ih r2 (fun y hy => d y (List.mem_cons_of_mem _ hy)) x hx
theorem din_of {a : Addr} {ys : List (NestedKey × Addr × V)} (ok : HOk P w H h) (e : H a = some (DinO w a ys)) (q : KeysAt H ys) :
    (a == sysModules) = false ∧ ys.length ≤ sizeLine ∧ (∀ y ∈ ys, y.1.depth ≤ 8) ∧ ∃ xs, Paired NEnt ys xs ∧ h.DictOfH (nestedKind P w) a xs := by
  obtain ⟨⟨h1, h2, hd, xs, p, o, es, ep, g1, g2, g3, g4, g5⟩, _⟩ := (show ObjOk P w H h a (DinO w a ys) from ok a _ e)
  obtain ⟨K, hd', φ, r⟩ := q
  exact ⟨h1, h2, hd, xs, p, o, es, ep, g1, g2, g3, g4, keys_is ok p r hd, g5⟩
theorem din_zero {a : Addr} (ok : HOk P w H h) (e : H a = some (.dK [])) : (a == sysModules) = false ∧ h.DictOfH (nestedKind P w) a [] := by
  obtain ⟨_, h1, vs, p, o, es, ep, g1, g2, g3, g4, g5⟩ := dk_of ok e
  cases p
  exact ⟨h1, o, es, ep, g1, g2, g3, (by have : es.toList = [] := (by generalize es.toList = l at g5; obtain ⟨g5, _⟩ := g5; first | (cases g5; rfl) | (cases l with | nil => rfl | cons a l => simp [Pairs] at g5)); simpa using this), (fun x hx => nomatch hx), List.nodup_nil⟩
theorem din_new {H' : Hp} {h' : Heap} {a : Addr} {ys : List (NestedKey × Addr × V)} {xs : List (NestedKey × Addr × Value)} (h1 : (a == sysModules) = false) (h2 : ys.length ≤ sizeLine) (hd : ∀ y ∈ ys, y.1.depth ≤ 8) (p : Paired NEnt ys xs) (D : h'.DictOfH (nestedKind P w) a xs) : ObjOk P w H' h' a (DinO w a ys) := by
  obtain ⟨o, es, ep, g1, g2, g3, g4, _, g5⟩ := D
  refine ⟨⟨h1, h2, hd, xs, p, o, es, ep, g1, g2, g3, g4, g5⟩, ⟨o, g1⟩, ?_⟩
  rintro ha hb ⟨h1, h2, hd, xs, p, o, es, ep, g1, g2⟩ k
  exact ⟨h1, h2, hd, xs, p, o, es, ep, k o g1, g2⟩
/-! ### storing -/
def putN (ys : List (NestedKey × Addr × V)) (k : NestedKey) (b : Addr) (v : V) : List (NestedKey × Addr × V) := if (ys.any fun y => decide (y.1 = k)) = true then ys.map fun y => if y.1 = k then (y.1, y.2.1, v) else y else ys ++ [(k, b, v)]
theorem ent_any {ys : List (NestedKey × Addr × V)} {xs : List (NestedKey × Addr × Value)} (p : Paired NEnt ys xs) (k : NestedKey) : (atKey xs k).isSome = ys.any fun y => decide (y.1 = k) := by
  induction p with
  | nil => rfl
  | cons e r ih =>
    rename_i a b l1 l2
    by_cases h : b.1 = k
    · simp [atKey, List.find?_cons, h, e.1]
    · have := ih
      simp only [atKey] at this
      simp [atKey, List.find?_cons, h, e.1, ← this]
theorem ent_put {ys : List (NestedKey × Addr × V)} {xs : List (NestedKey × Addr × Value)} (p : Paired NEnt ys xs) (k : NestedKey) (b : Addr) {v : V} {u : Value} (rv : RelV v u) : Paired NEnt (putN ys k b v) (storedH xs k b u) := by
  unfold putN storedH
  rw [ent_any p k]
  split
  · rename_i hh; clear hh
    induction p with
    | nil => exact .nil
    | cons e r ih =>
      rename_i x y l1 l2
      refine .cons ?_ ih
      unfold putAt
      rw [← e.1]
      by_cases h : x.1 = k
      · simp only [h, if_true]; exact ⟨rfl, e.2.1, rv⟩
      · simp only [h, if_false]; exact e
  · exact p.snoc ⟨rfl, rfl, rv⟩
theorem putN_len (ys : List (NestedKey × Addr × V)) (k : NestedKey) (b : Addr) (v : V) : (putN ys k b v).length ≤ ys.length + 1 := by
  unfold putN
  split <;> simp
theorem putN_depth {ys : List (NestedKey × Addr × V)} {k : NestedKey} {b : Addr} {v : V} (d : ∀ y ∈ ys, y.1.depth ≤ 8) (dk : k.depth ≤ 8) : ∀ y ∈ putN ys k b v, y.1.depth ≤ 8 := by
  unfold putN
  split
  · intro y hy
    obtain ⟨x, hx, rfl⟩ := List.mem_map.mp hy
    split
    · exact d x hx
    · exact d x hx
  · intro y hy
    rcases List.mem_append.mp hy with hy | hy
    · exact d y hy
    · rw [List.mem_singleton.mp hy]; exact dk
theorem putN_drop (ys : List (NestedKey × Addr × V)) (k : NestedKey) (b : Addr) (v : V) : (putN ys k b v).map (fun y => (y.1, y.2.2)) = putK (ys.map fun y => (y.1, y.2.2)) k v := by
  unfold putN putK
  rw [List.any_map]
  show List.map _ (if (ys.any fun y => decide (y.1 = k)) = true then _ else _) = (if (ys.any fun y => decide (y.1 = k)) = true then _ else _)
  split
  · rw [List.map_map, List.map_map]
    refine List.map_congr_left fun x _ => ?_
    by_cases h : x.1 = k <;> simp [h]
  · simp
end
/-! ### the rules -/
def rNIn (w : PySem.World) (neg : Bool) : R2 := fun x y H Q => ∃ (a b : Addr) (k : NestedKey), x = .ref b ∧ y = .ref a ∧ KeyAt H k b ∧ k.depth ≤ 8 ∧
  ((∃ ys, H a = some (DinO w a ys) ∧ KeysAt H ys ∧ Q (.bl (neg != ys.any fun y => decide (y.1 = k))) H) ∨ (H a = some (.dK []) ∧ Q (.bl (neg != false)) H))
def rNSet (w : PySem.World) : TSet := fun o i v H Q => ∃ (a b : Addr) (k : NestedKey) (ys : List (NestedKey × Addr × V)), o = .ref a ∧ i = .ref b ∧ KeyAt H k b ∧ k.depth ≤ 8 ∧ ys.length < sizeLine ∧
  ((H a = some (DinO w a ys) ∧ KeysAt H ys) ∨ (ys = [] ∧ H a = some (.dK []))) ∧ Q (upd H a (DinO w a (putN ys k b v)))
section
variable {X : Cx}
theorem nroom (hu : X.A.units + 65 < cLine) : (nestedKind X.prog X.w).room X.A.in1 := by
  show X.A.units + 1 + 8 < cLine
  omega
theorem or_nin (hu : X.A.units + 65 < cLine) : OpR X (compareOp .In) (rNIn X.w false) := by
  intro pins s σ H x y v u Q I rx ry h
  obtain ⟨a, b, k, rfl, rfl, kb, d, h⟩ := h
  obtain rfl : v = .ref b := rx
  obtain rfl : u = .ref a := ry
  rcases h with ⟨ys, e, ks, q⟩ | ⟨e, q⟩
  · obtain ⟨h1, _, _, xs, p, D⟩ := din_of I.hok e ks
    refine wpAny_in_heap (nroom hu) (kb.is I.hok d) h1 D ⟨.bl (atKey xs k).isSome, H, I.tok _, rfl, ?_⟩
    rw [ent_any p k]
    simpa using q
  · obtain ⟨h1, D⟩ := din_zero (w := X.w) (P := X.prog) I.hok e
    exact wpAny_in_heap (nroom hu) (kb.is I.hok d) h1 D ⟨.bl false, H, I.tok _, rfl, q⟩
theorem set_nest (hu : X.A.units + 65 < cLine) : PSet X (rNSet X.w) := by
  intro pins s σ H o i v ov iv u Q I ro ri rv h
  obtain ⟨a, b, k, ys, rfl, rfl, kb, d, hl, h, q⟩ := h
  obtain rfl : ov = .ref a := ro
  obtain rfl : iv = .ref b := ri
  have : ∃ xs, (a == sysModules) = false ∧ (∀ y ∈ ys, y.1.depth ≤ 8) ∧ Paired NEnt ys xs ∧ s.heap.DictOfH (nestedKind X.prog X.w) a xs ∧ Mut (H a) := by
    rcases h with ⟨e, ks⟩ | ⟨rfl, e⟩
    · obtain ⟨h1, _, h3, xs, p, D⟩ := din_of I.hok e ks
      exact ⟨xs, h1, h3, p, D, by rw [e]; exact True.intro⟩
    · obtain ⟨h1, D⟩ := din_zero (w := X.w) (P := X.prog) I.hok e
      exact ⟨[], h1, (fun y hy => nomatch hy), .nil, D, by rw [e]; exact True.intro⟩
  obtain ⟨xs, h1, h3, p, D, mu⟩ := this
  have hz : xs.length ≤ sizeLine := by rw [← Paired.length p]; omega
  refine wpAny_setItem_heap (hsz := hz) (nroom hu) (kb.is I.hok d) D fun h' D' hs => ⟨_, ?_, q⟩
  have he : ∃ o, h'.get? a = some o := let ⟨o, _, _, ho, _⟩ := D'; ⟨o, ho⟩
  have hl2 : (putN ys k b v).length ≤ sizeLine := by have := putN_len ys k b v; omega
  exact d_write I mu hs he (din_new h1 hl2 (putN_depth h3 d) (ent_put p k b rv) D')
end
/-! ### the readings -/
def ndS (k : NestedKey) : Bool := decide (k.depth ≤ 8)
/-- what stands in the dict: none where it is none -/
def din? (w : World) (d : T) : Option (List (NestedKey × T)) := match d with
  | .cell n => match w[n]? with
    | some (.din kvs) => some kvs
    | some (.dic []) => some []
    | _ => none
  | _ => none
def sNIn : S2 := fun y d w => match y, din? w d with
  | .tup us, some kvs => match keyNs us with
    | some k => if ndS (.tup k) = true then .ok (.bl (kvs.any fun p => decide (p.1 = .tup k))) w else .no
    | none => .no
  | _, _ => .no
def sNSet : S3 := fun o i t w => match o, i, din? w o with
  | .cell n, .tup us, some kvs => match keyNs us with
    | some k => if ndS (.tup k) = true ∧ kvs.length < sizeLine then .ok () (w.set n (.din (putT kvs (.tup k) t))) else .no
    | none => .no
  | _, _, _ => .no
section
variable {X : Cx} {Z : ZT} {W : Option WX} {K : KT} {hd φ : List Addr} {H : Hp} {w : World}
theorem din_at (wr : WR K hd φ H w) {d : T} {x : V} {kvs : List (NestedKey × T)} (rd : Rep K hd φ H d x) (h : din? w d = some kvs) : ∃ a n ys, d = .cell n ∧ x = .ref a ∧ φ[n]? = some a ∧ a ∈ φ ∧
    ys.map (·.1) = kvs.map (·.1) ∧ Reps K hd φ H (kvs.map (·.2)) (ys.map fun y : NestedKey × Addr × V => y.2.2) ∧ Reps K hd φ H (nkTs (kvs.map (·.1))) (ys.map fun y => .ref y.2.1) ∧
    (H a = some (DinO K.2.2 a ys) ∨ (ys = [] ∧ H a = some (.dK []))) := by
  cases d with
  | cell n =>
    unfold din? at h
    simp only at h
    split at h
    · rename_i kvs' q
      cases h
      obtain ⟨a, rfl, hk, hm, ys, h1, h2, h3, h4⟩ := cell_at wr rd q
      exact ⟨a, n, ys, rfl, rfl, hk, hm, h2, h3, h4, .inl h1⟩
    · rename_i q
      cases h
      obtain ⟨a, rfl, hk, hm, ys, h1, h2, h3⟩ := cell_at wr rd q
      have e : ys = [] := by cases ys with
        | nil => rfl
        | cons _ _ => simp at h2
      subst e
      exact ⟨a, n, [], rfl, rfl, hk, hm, rfl, Reps.nil, Reps.nil, .inr ⟨rfl, h1⟩⟩
    · cases h
  | _ => cases h
theorem nkey {us : List T} {k : List NestedKey} {y : V} (r : Rep K hd φ H (.tup us) y) (h : keyNs us = some k) : ∃ b, y = .ref b ∧ Rep K hd φ H (nkT (.tup k)) (.ref b) := by
  rw [keyNs_eq h] at r
  have r' := r
  unfold Rep at r'
  obtain ⟨b, xs, rfl, _⟩ := r'
  exact ⟨b, rfl, r⟩
theorem opNIn (hz : K.2.2 = X.w) : Op2 K sNIn (rNIn X.w false) := fun W hd φ H w dx dy x y Q wr rx ry p => by
  unfold sNIn at p
  split at p
  · rename_i us kvs e
    split at p
    · rename_i k e2
      split at p
      · rename_i e3
        obtain ⟨a, n, ys, rfl, rfl, hk, hm, h2, h3, h4, h5⟩ := din_at wr ry e
        obtain ⟨b, rfl, rb⟩ := nkey rx e2
        refine ⟨a, b, _, rfl, rfl, ⟨_, _, _, rb⟩, by simpa [ndS] using e3, ?_⟩
        have an : (kvs.any fun p => decide (p.1 = NestedKey.tup k)) = ys.any fun y => decide (y.1 = .tup k) := by
          have g : ∀ {α : Type} (l : List (NestedKey × α)), (l.any fun p => decide (p.1 = NestedKey.tup k)) = (l.map (·.1)).any fun x => decide (x = .tup k) := fun l => by rw [List.any_map]; rfl
          rw [g, g, h2]
        rcases h5 with h5 | ⟨rfl, h5⟩
        · refine .inl ⟨ys, by rw [← hz]; exact h5, ⟨_, _, _, by rw [h2]; exact h4⟩, ?_⟩
          rw [an] at p
          simpa using p.bl wr
        · refine .inr ⟨h5, ?_⟩
          rw [an] at p
          simpa using p.bl wr
      · exact p.elim
    · exact p.elim
  · exact p.elim
theorem opNSet (hz : K.2.2 = X.w) : OpSet K sNSet (rNSet X.w) := fun W hd φ H w d1 d2 d3 x y z Q wr r1 r2 r3 p => by
  unfold sNSet at p
  split at p
  · rename_i n us kvs e
    split at p
    · rename_i k e2
      split at p
      · rename_i e3
        obtain ⟨a, n', ys, en, rfl, hk, hm, h2, h3, h4, h5⟩ := din_at wr r1 e
        cases en
        obtain ⟨b, rfl, rb⟩ := nkey r2 e2
        have hlen : ys.length = kvs.length := by simpa using congrArg List.length h2
        refine ⟨a, b, _, ys, rfl, rfl, ⟨_, _, _, rb⟩, by simpa [ndS] using e3.1, by rw [hlen]; exact e3.2, ?_, ?_⟩
        · rcases h5 with h5 | h5
          · exact .inl ⟨by rw [← hz]; exact h5, ⟨_, _, _, by rw [h2]; exact h4⟩⟩
          · exact .inr h5
        · have ex : Ext hd φ H hd φ (upd H a (DinO X.w a (putN ys (.tup k) b z))) := Ext.write hm (by intro ps q; unfold DinO at q; cases q)
          obtain ⟨g1, g2⟩ := putT_at (ys := ys.map fun y => (y.1, y.2.2)) (by rw [List.map_map]; exact h2) (by rw [List.map_map]; exact h3) (.tup k) r3
          rw [← putN_drop] at g1 g2
          rw [List.map_map] at g1 g2
          have g1' : (putN ys (.tup k) b z).map (·.1) = (putT kvs (.tup k) d3).map (·.1) := g1
          have g2' : Reps K hd φ H ((putT kvs (.tup k) d3).map (·.2)) ((putN ys (.tup k) b z).map fun y => y.2.2) := g2
          refine p _ _ ex (wr.write hk ⟨_, by rw [hz]; exact upd_same, g1', g2'.mono ex, Reps.mono ex ?_⟩ (by intro ps q; unfold DinO at q; cases q))
          rw [← g1']
          have h4' : Reps K hd φ H (nkTs (ys.map (·.1))) (ys.map fun y => .ref y.2.1) := by rw [h2]; exact h4
          unfold putN
          split
          · have m1 : (ys.map fun y => if y.1 = NestedKey.tup k then (y.1, y.2.1, z) else y).map (·.1) = ys.map (·.1) := by
              rw [List.map_map]
              exact List.map_congr_left fun x _ => by show (if x.1 = NestedKey.tup k then (x.1, x.2.1, z) else x).1 = x.1; split <;> rfl
            have m2 : (ys.map fun y => if y.1 = NestedKey.tup k then (y.1, y.2.1, z) else y).map (fun y => V.ref y.2.1) = ys.map fun y => V.ref y.2.1 := by
              rw [List.map_map]
              exact List.map_congr_left fun x _ => by show V.ref (if x.1 = NestedKey.tup k then (x.1, x.2.1, z) else x).2.1 = V.ref x.2.1; split <;> rfl
            rw [m1, m2]
            exact h4'
          · rw [List.map_append, List.map_append, nkTs_append]
            exact Reps.append h4' (Reps.cons rb Reps.nil)
      · exact p.elim
    · exact p.elim
  · exact p.elim
variable {a b o i : Expr} {ma mb mo mi : ME} {pos : Pos}
theorem de_nin (zw : Z.2 = X.w) (hu : X.A.units + 65 < cLine) (ha : PE X a (rdE (X.K, Z) W ma)) (hb : PE X b (rdE (X.K, Z) W mb)) (hm : behindInMarks .In b = false := by rfl) : PE X (.Compare a [.In] [b] pos) (rdE (X.K, Z) W (mOp2 sNIn ma mb)) := de_cmp (or_nin hu) (opNIn zw) ha hb hm
theorem dt_nin (zw : Z.2 = X.w) (hu : X.A.units + 65 < cLine) (ha : PE X a (rdE (X.K, Z) W ma)) (hb : PE X b (rdE (X.K, Z) W mb)) (hm : behindInMarks .In b = false := by rfl) : PT X (.Compare a [.In] [b] pos) (rdT (X.K, Z) W (mTest (mOp2 sNIn ma mb))) := dt_cmp (or_nin hu) (opNIn zw) ha hb hm
theorem dg_nest (zw : Z.2 = X.w) (hu : X.A.units + 65 < cLine) (ho : PE X o (rdE (X.K, Z) W mo)) (hi : PE X i (rdE (X.K, Z) W mi))
    (ha : ∀ v, assign (.Subscript o i pos) X.env v = (do
      let ov ← holding [v] (eval o X.env)
      let iv ← holding [v, ov] (eval i X.env)
      standAt pos
      holding [v, ov, iv] (setItem ov iv v)
      release [v, ov, iv] []) := by exact fun _ => rfl) : PG X (.Subscript o i pos) (rdG (X.K, Z) W (mgSub sNSet mo mi) []) := dg_sub ho hi (set_nest hu) (opNSet zw) ha
end
end VS

set_option Elab.async false
set_option linter.all false
set_option maxRecDepth 100000
set_option maxHeartbeats 2000000
/-! VX10: repr of any data without dicts: ints, texts, None, truth values, lists, tuples. -/
namespace VS
open PySem PySem.Spec PyProof.Rows L2
def canShow (d : PyData) : Prop := d.showable = true ∧ d.hasDict = false ∧ d.depth ≤ 50 ∧ d.shown.length ≤ sizeLine
instance (d : PyData) : Decidable (canShow d) := by unfold canShow; infer_instance
def sShow : SC := fun ds w => match ds with
  | [t] => match pd w t with
    | some d => if canShow d then .ok (.str d.shown) w else .no
    | none => .no
  | _ => .no
theorem sShow_ {w : World} {t : T} {d : PyData} (h : pd w t = some d) (c : canShow d) : sShow [t] w = .ok (.str d.shown) w := by simp [sShow, h, c]
section
variable {X : Cx} {e : Expr} {es : List Expr} {p pos : Pos} {k : Nat} {Z : ZT} {W : Option WX} {m : MF}
def rShow (K : PySem.W.Frag) : List V → Hp → VK → Prop := fun xs H Q => ∃ (x : V) (d : PyData), xs = [x] ∧ Dp K H x d ∧ canShow d ∧ Q (.str d.shown) H
theorem cr_show (hg : X.A.guards = some []) (hu : X.A.units + 64 < cLine) : CallR X (.builtin "repr") (rShow X.K) := fun pins s σ H xs us Q I rv q => by
  obtain ⟨x, d, rfl, hd, ⟨h1, h2, h3, h4⟩, q⟩ := q
  cases rv with
  | cons r0 rest =>
    cases rest
    obtain ⟨as, rd⟩ := Dp.reads I d _ _ hd r0
    cases rd with
    | none => exact PySem.P.repr_of_none ⟨.str _, H, I.tok _, ⟨_, rfl⟩, q⟩
    | bool b => cases b <;> exact PySem.P.repr_of_bool ⟨.str _, H, I.tok _, ⟨_, rfl⟩, q⟩
    | int i t =>
      refine PySem.P.repr_of_int (by simpa [PyData.showable] using h1) ⟨.str _, H, I.tok _, ⟨_, rfl⟩, ?_⟩
      have e : (PyData.int i).shown = toString i := by simp [PyData.shown]
      rw [← e]
      exact q
    | str y t =>
      have e : (PyData.str y).shown = reprText y := by simp [PyData.shown]
      rw [e] at h4 q
      exact PySem.P.repr_of_str ⟨.str _, H, I.tok _, ⟨_, rfl⟩, q⟩ h4
    | list g1 g2 g3 g4 => exact repr_of_reads' (.list g1 g2 g3 g4) h1 (fun z => by rw [h2] at z; cases z) hg (by omega) (fun _ _ z => z) (fun h' u tk hk => ⟨.str _, H, I.kept (t' := tk) hk, ⟨u, rfl⟩, q⟩) h4
    | tuple g1 g2 g3 g4 => exact repr_of_reads' (.tuple g1 g2 g3 g4) h1 (fun z => by rw [h2] at z; cases z) hg (by omega) (fun _ _ z => z) (fun h' u tk hk => ⟨.str _, H, I.kept (t' := tk) hk, ⟨u, rfl⟩, q⟩) h4
    | dict _ _ _ _ _ => simp [PyData.hasDict] at h2
theorem opShow {K : KT} : OpC K sShow (rShow K.1) := fun W hd φ H w ds xs Q wr rx p => by
  unfold sShow at p
  split at p
  · rename_i t
    unfold Reps at rx
    obtain ⟨x, rest, rfl, r1, r2⟩ := rx
    unfold Reps at r2
    subst r2
    split at p
    · rename_i d hp
      split at p
      · rename_i hc
        exact ⟨x, d, rfl, dp wr r1 hp, hc, p.ok wr _ (by unfold Rep; rfl)⟩
      · exact p.elim
    · exact p.elim
  · exact p.elim
theorem de_show (hm : X.mg "repr" = none) (hr : RoomG k X.A) (ha : PA X (e :: es) (rdA (X.K, Z) W m)) (hg : Gl X "repr" := by rfl)
    (he : starEach (e :: es) X.env = (false, eval e X.env) :: starEach es X.env := by rfl) (hpl : (backTo pos (starEach es X.env)).any (·.1) = false := by rfl) : PE X (.Call (.Name "repr" p) (e :: es) [] pos) (rdE (X.K, Z) W (mCall sShow m)) :=
  de_callB (cr_show hr.gd hr.units) opShow hm (by decide +kernel) ha hg (by decide) (by decide) he hpl
end
end VS

set_option Elab.async false
set_option linter.all false
set_option maxRecDepth 100000
set_option maxHeartbeats 2000000
/-! VX11: data with one text are one: what repr shows of ints, plain texts, None and tuples of them. -/
namespace VS
open PySem PySem.Spec PyProof.Rows L2
def sg (x : Str) : List Nat := x.cps.toList
theorem sg_app (a b : Str) : sg (a ++ b) = sg a ++ sg b := by
  show (a.cps ++ b.cps).toList = _
  simp [sg]
/-- a text that stands between its quotes as it is -/
def Pq (x : Str) : Prop := sg (reprText x) = 39 :: (sg x ++ [39]) ∧ 39 ∉ sg x
inductive Pd : PyData → Prop
  | none : Pd .none
  | int (i : Int) : Pd (.int i)
  | str (x : Str) (h : Pq x) : Pd (.str x)
  | tup (ds : List PyData) (h : ∀ d ∈ ds, Pd d) : Pd (.tuple ds)
/-- what may stand behind an item -/
def Lo (l : List Nat) : Prop := ∀ c, l.head? = some c → c = 44 ∨ c = 41
def dig (c : Nat) : Bool := decide (c = 45) || (decide (48 ≤ c) && decide (c ≤ 57))
theorem sg_int (i : Int) : sg (PyData.int i).shown = (i.repr).toList.map Char.toNat := by
  have e : (PyData.int i).shown = Str.ofString i.repr := by simp [PyData.shown]
  rw [e, sg, Str.ofString_eq_toList]
theorem nat_dig (n : Nat) : ∀ c ∈ (Nat.repr n).toList, dig c.toNat = true := by
  intro c hc
  rw [Nat.toList_repr] at hc
  have h := Nat.isDigit_of_mem_toDigits (by decide) (by decide) hc
  unfold Char.isDigit at h
  simp only [Bool.and_eq_true, decide_eq_true_eq] at h
  have e : c.val.toNat = c.toNat := rfl
  have h1 : 48 ≤ c.val.toNat := by simpa using UInt32.le_iff_toNat_le.mp h.1
  have h2 : c.val.toNat ≤ 57 := by simpa using UInt32.le_iff_toNat_le.mp h.2
  simp [dig]
  omega
theorem int_dig (i : Int) : ∀ c ∈ sg (PyData.int i).shown, dig c = true := by
  intro c hc
  rw [sg_int] at hc
  obtain ⟨ch, hch, rfl⟩ := List.mem_map.mp hc
  rw [Int.repr_eq_if] at hch
  split at hch
  · exact nat_dig _ ch hch
  · rw [String.toList_append, List.mem_append] at hch
    rcases hch with hch | hch
    · have : ch = '-' := by simpa using hch
      subst this; decide
    · exact nat_dig _ ch hch
theorem int_ne (i : Int) : sg (PyData.int i).shown ≠ [] := by
  rw [sg_int]
  intro h
  have h1 := List.map_eq_nil_iff.mp h
  rw [Int.repr_eq_if] at h1
  split at h1
  · have := congrArg List.length h1
    rw [String.length_toList] at this
    have h2 := Nat.length_repr_pos (n := i.toNat)
    simp at this
    try omega
  · rw [String.toList_append] at h1
    simp at h1
theorem int_inj {i j : Int} (h : sg (PyData.int i).shown = sg (PyData.int j).shown) : i = j := by
  rw [sg_int, sg_int] at h
  have h1 : i.repr.toList = j.repr.toList := by
    have inj : ∀ a b : Char, a.toNat = b.toNat → a = b := fun a b e => Char.ext (UInt32.toNat_inj.mp e)
    exact (List.map_inj_right inj).mp h
  exact Int.repr_inj.mp (String.toList_inj.mp h1)
theorem split_dig : ∀ {a b l m : List Nat}, (∀ c ∈ a, dig c = true) → (∀ c ∈ b, dig c = true) → Lo l → Lo m → a ++ l = b ++ m → a = b ∧ l = m
  | [], [], l, m, _, _, _, _, h => ⟨rfl, h⟩
  | [], c :: b, l, m, _, hb, hl, _, h => by
    have e : l = c :: (b ++ m) := h
    have h1 := hb c (.head _)
    rcases hl c (by rw [e]; rfl) with rfl | rfl <;> exact absurd h1 (by decide)
  | c :: a, [], l, m, ha, _, _, hm, h => by
    have e : m = c :: (a ++ l) := h.symm
    have h1 := ha c (.head _)
    rcases hm c (by rw [e]; rfl) with rfl | rfl <;> exact absurd h1 (by decide)
  | c :: a, d :: b, l, m, ha, hb, hl, hm, h => by
    have h' : c :: (a ++ l) = d :: (b ++ m) := h
    injection h' with h1 h2
    obtain ⟨e1, e2⟩ := split_dig (fun x hx => ha x (.tail _ hx)) (fun x hx => hb x (.tail _ hx)) hl hm h2
    exact ⟨by rw [h1, e1], e2⟩
theorem split_q : ∀ {a b l m : List Nat}, 39 ∉ a → 39 ∉ b → a ++ 39 :: l = b ++ 39 :: m → a = b ∧ l = m
  | [], [], l, m, _, _, h => by
    have h' : 39 :: l = 39 :: m := h
    injection h' with _ h2
    exact ⟨rfl, h2⟩
  | [], c :: b, l, m, _, hb, h => by
    have h' : 39 :: l = c :: (b ++ 39 :: m) := h
    injection h' with h1 _
    exact absurd (by rw [h1]; exact .head _) hb
  | c :: a, [], l, m, ha, _, h => by
    have h' : c :: (a ++ 39 :: l) = 39 :: m := h
    injection h' with h1 _
    exact absurd (by rw [← h1]; exact .head _) ha
  | c :: a, d :: b, l, m, ha, hb, h => by
    have h' : c :: (a ++ 39 :: l) = d :: (b ++ 39 :: m) := h
    injection h' with h1 h2
    obtain ⟨e1, e2⟩ := split_q (fun z => ha (.tail _ z)) (fun z => hb (.tail _ z)) h2
    exact ⟨by rw [h1, e1], e2⟩
/-! tuples -/
def rest0 : List PyData → List Nat
  | [] => [41]
  | d :: ds => 44 :: 32 :: (sg d.shown ++ rest0 ds)
theorem join_sg (x : PyData) : ∀ ds : List PyData, sg (Str.join ", " (PyData.shownAll (x :: ds))) ++ [41] = sg x.shown ++ rest0 ds
  | [] => by
    have e : PyData.shownAll [x] = [x.shown] := by simp [PyData.shownAll]
    rw [e]
    rfl
  | y :: ds => by
    have e : PyData.shownAll (x :: y :: ds) = x.shown :: y.shown :: PyData.shownAll ds := by simp [PyData.shownAll]
    have ih := join_sg y ds
    have e2 : PyData.shownAll (y :: ds) = y.shown :: PyData.shownAll ds := by simp [PyData.shownAll]
    rw [e2] at ih
    rw [e]
    have e3 : Str.join ", " (x.shown :: y.shown :: PyData.shownAll ds) = x.shown ++ ", " ++ Str.join ", " (y.shown :: PyData.shownAll ds) := rfl
    rw [e3, sg_app, sg_app, List.append_assoc, List.append_assoc, ih]
    have e4 : sg ((", " : Str)) = [44, 32] := by decide +kernel
    rw [e4]
    rfl
theorem tup_nil : sg (PyData.tuple []).shown = [40, 41] := by decide +kernel
theorem tup_one (x : PyData) : sg (PyData.tuple [x]).shown = 40 :: (sg x.shown ++ [44, 41]) := by
  have e : (PyData.tuple [x]).shown = ("(" : Str) ++ x.shown ++ (",)" : Str) := by
    simp [PyData.shown, PyData.shownAll, tupleText]
    rfl
  rw [e, sg_app, sg_app]
  have e1 : sg (("(" : Str)) = [40] := by decide +kernel
  have e2 : sg ((",)" : Str)) = [44, 41] := by decide +kernel
  rw [e1, e2]
  rfl
theorem tup_more (x y : PyData) (ds : List PyData) : sg (PyData.tuple (x :: y :: ds)).shown = 40 :: (sg x.shown ++ rest0 (y :: ds)) := by
  have e : (PyData.tuple (x :: y :: ds)).shown = ("(" : Str) ++ Str.join ", " (PyData.shownAll (x :: y :: ds)) ++ (")" : Str) := by
    have h : ((PyData.shownAll (x :: y :: ds)).length == 1) = false := by simp [PyData.shownAll]
    have e1 : (PyData.tuple (x :: y :: ds)).shown = tupleText (PyData.shownAll (x :: y :: ds)) := by simp [PyData.shown]
    rw [e1]
    unfold tupleText
    rw [h]
    rfl
  rw [e, sg_app, sg_app]
  have e1 : sg (("(" : Str)) = [40] := by decide +kernel
  have e2 : sg ((")" : Str)) = [41] := by decide +kernel
  rw [e1, e2, List.append_assoc, join_sg]
  rfl
theorem lo_rest0 (ds : List PyData) (l : List Nat) : Lo (rest0 ds ++ l) := by
  intro c hc
  cases ds with
  | nil => right; simpa [rest0] using hc.symm
  | cons d ds => left; simpa [rest0] using hc.symm
theorem lo_one (l : List Nat) : Lo ([44, 41] ++ l) := fun c hc => .inl (by simpa using hc.symm)
/-- the first sign tells the kind -/
theorem first {d : PyData} (h : Pd d) : ∃ c r, sg d.shown = c :: r ∧ (c = 78 ∧ d = .none ∨ dig c = true ∧ (∃ i, d = .int i) ∨ c = 39 ∧ (∃ x, d = .str x) ∨ c = 40 ∧ ∃ ds, d = .tuple ds) := by
  cases h with
  | none => exact ⟨78, _, rfl, .inl ⟨rfl, rfl⟩⟩
  | int i =>
    cases q : sg (PyData.int i).shown with
    | nil => exact absurd q (int_ne i)
    | cons c r => exact ⟨c, r, rfl, .inr (.inl ⟨int_dig i c (by rw [q]; exact .head _), i, rfl⟩)⟩
  | str x h =>
    have e : (PyData.str x).shown = reprText x := by simp [PyData.shown]
    exact ⟨39, _, by rw [e, h.1], .inr (.inr (.inl ⟨rfl, x, rfl⟩))⟩
  | tup ds h =>
    match ds with
    | [] => exact ⟨40, _, tup_nil, .inr (.inr (.inr ⟨rfl, _, rfl⟩))⟩
    | [x] => exact ⟨40, _, tup_one x, .inr (.inr (.inr ⟨rfl, _, rfl⟩))⟩
    | x :: y :: ds => exact ⟨40, _, tup_more x y ds, .inr (.inr (.inr ⟨rfl, _, rfl⟩))⟩
theorem pd_item {ds : List PyData} (h : Pd (.tuple ds)) : ∀ d ∈ ds, Pd d := by cases h with | tup _ h => exact h
theorem sg_inj {x y : Str} (h : sg x = sg y) : x = y := by
  obtain ⟨a⟩ := x
  obtain ⟨b⟩ := y
  congr 1
  exact Array.toList_inj.mp h
mutual
theorem shown_go : ∀ (d e : PyData) (l m : List Nat), Pd d → Pd e → Lo l → Lo m → sg d.shown ++ l = sg e.shown ++ m → d = e ∧ l = m
  | .tuple [], .tuple [], l, m, _, _, _, _, h => by
    rw [tup_nil] at h
    exact ⟨rfl, by simpa using h⟩
  | .tuple [], .tuple (y :: es), l, m, hd, he, _, _, h => by
    obtain ⟨c, r, e1, e2⟩ := first (pd_item he y (.head _))
    have : c = 41 := by
      rw [tup_nil] at h
      match es with
      | [] => rw [tup_one, e1] at h; simp at h; exact h.1.symm
      | z :: es => rw [tup_more, e1] at h; simp at h; exact h.1.symm
    subst this
    rcases e2 with ⟨q, _⟩ | ⟨q, _⟩ | ⟨q, _⟩ | ⟨q, _⟩ <;> exact absurd q (by decide)
  | .tuple (x :: ds), .tuple [], l, m, hd, he, _, _, h => by
    obtain ⟨c, r, e1, e2⟩ := first (pd_item hd x (.head _))
    have : c = 41 := by
      rw [tup_nil] at h
      match ds with
      | [] => rw [tup_one, e1] at h; simp at h; exact h.1
      | z :: ds => rw [tup_more, e1] at h; simp at h; exact h.1
    subst this
    rcases e2 with ⟨q, _⟩ | ⟨q, _⟩ | ⟨q, _⟩ | ⟨q, _⟩ <;> exact absurd q (by decide)
  | .tuple [x], .tuple [y], l, m, hd, he, hl, hm, h => by
    rw [tup_one, tup_one, List.cons_append, List.cons_append, List.append_assoc, List.append_assoc] at h
    injection h with _ h
    obtain ⟨rfl, h2⟩ := shown_go x y _ _ (pd_item hd x (.head _)) (pd_item he y (.head _)) (lo_one l) (lo_one m) h
    exact ⟨rfl, by simpa using h2⟩
  | .tuple [x], .tuple (y :: z :: es), l, m, hd, he, hl, hm, h => by
    rw [tup_one, tup_more, List.cons_append, List.cons_append, List.append_assoc, List.append_assoc] at h
    injection h with _ h
    obtain ⟨rfl, h2⟩ := shown_go x y _ _ (pd_item hd x (.head _)) (pd_item he y (.head _)) (lo_one l) (lo_rest0 _ m) h
    simp [rest0] at h2
  | .tuple (x :: z :: ds), .tuple [y], l, m, hd, he, hl, hm, h => by
    rw [tup_one, tup_more, List.cons_append, List.cons_append, List.append_assoc, List.append_assoc] at h
    injection h with _ h
    obtain ⟨rfl, h2⟩ := shown_go x y _ _ (pd_item hd x (.head _)) (pd_item he y (.head _)) (lo_rest0 _ l) (lo_one m) h
    simp [rest0] at h2
  | .tuple (x :: z :: ds), .tuple (y :: u :: es), l, m, hd, he, hl, hm, h => by
    rw [tup_more, tup_more, List.cons_append, List.cons_append, List.append_assoc, List.append_assoc] at h
    injection h with _ h
    obtain ⟨rfl, h2⟩ := shown_go x y _ _ (pd_item hd x (.head _)) (pd_item he y (.head _)) (lo_rest0 _ l) (lo_rest0 _ m) h
    obtain ⟨h3, h4⟩ := rest_go (z :: ds) (u :: es) l m (fun d hd' => pd_item hd d (.tail _ hd')) (fun d hd' => pd_item he d (.tail _ hd')) h2
    exact ⟨by rw [h3], h4⟩
  | .none, e, l, m, hd, he, hl, hm, h => by
    obtain ⟨c, r, e1, e2⟩ := first he
    have e0 : sg PyData.none.shown = [78, 111, 110, 101] := by decide +kernel
    have hc : 78 = c := by rw [e0, e1] at h; simp at h; exact h.1
    subst hc
    rcases e2 with ⟨_, rfl⟩ | ⟨q, _⟩ | ⟨q, _⟩ | ⟨q, _⟩
    · exact ⟨rfl, List.append_cancel_left h⟩
    all_goals exact absurd q (by decide)
  | .int i, e, l, m, hd, he, hl, hm, h => by
    obtain ⟨c, r, e1, e2⟩ := first he
    obtain ⟨c', r', e3, e4⟩ := first (.int i)
    have hc : c' = c := by rw [e3, e1] at h; simp at h; exact h.1
    have dc : dig c = true := by rw [← hc]; exact int_dig i c' (by rw [e3]; exact .head _)
    rcases e2 with ⟨rfl, _⟩ | ⟨_, j, rfl⟩ | ⟨rfl, _⟩ | ⟨rfl, _⟩
    · exact absurd dc (by decide)
    · obtain ⟨h1, h2⟩ := split_dig (int_dig i) (int_dig j) hl hm h
      exact ⟨by rw [int_inj h1], h2⟩
    · exact absurd dc (by decide)
    · exact absurd dc (by decide)
  | .str x, e, l, m, hd, he, hl, hm, h => by
    have hx : Pq x := by cases hd with | str _ h => exact h
    have ex : sg (PyData.str x).shown = 39 :: (sg x ++ [39]) := by
      have e : (PyData.str x).shown = reprText x := by simp [PyData.shown]
      rw [e, hx.1]
    obtain ⟨c, r, e1, e2⟩ := first he
    have hc : 39 = c := by rw [ex, e1] at h; simp at h; exact h.1
    subst hc
    rcases e2 with ⟨q, _⟩ | ⟨q, _⟩ | ⟨_, y, rfl⟩ | ⟨q, _⟩
    · exact absurd q (by decide)
    · exact absurd q (by decide)
    · have hy : Pq y := by cases he with | str _ h => exact h
      have ey : sg (PyData.str y).shown = 39 :: (sg y ++ [39]) := by
        have e : (PyData.str y).shown = reprText y := by simp [PyData.shown]
        rw [e, hy.1]
      rw [ex, ey] at h
      simp only [List.cons_append, List.append_assoc, List.nil_append] at h
      injection h with _ h
      obtain ⟨h1, h2⟩ := split_q hx.2 hy.2 h
      exact ⟨by rw [sg_inj h1], h2⟩
    · exact absurd q (by decide)
  | .tuple ds, .none, l, m, hd, he, hl, hm, h => by
    obtain ⟨c, r, e1, e2⟩ := first hd
    have e0 : sg PyData.none.shown = [78, 111, 110, 101] := by decide +kernel
    have hc : c = 78 := by rw [e0, e1] at h; simp at h; exact h.1
    subst hc
    rcases e2 with ⟨_, q⟩ | ⟨q, _⟩ | ⟨q, _⟩ | ⟨q, _⟩
    · cases q
    all_goals exact absurd q (by decide)
  | .tuple ds, .int i, l, m, hd, he, hl, hm, h => by
    obtain ⟨c, r, e1, e2⟩ := first hd
    obtain ⟨c', r', e3, e4⟩ := first (.int i)
    have hc : c = c' := by rw [e3, e1] at h; simp at h; exact h.1
    have dc : dig c = true := by rw [hc]; exact int_dig i c' (by rw [e3]; exact .head _)
    rcases e2 with ⟨rfl, _⟩ | ⟨_, j, q⟩ | ⟨rfl, _⟩ | ⟨rfl, _⟩
    · exact absurd dc (by decide)
    · cases q
    · exact absurd dc (by decide)
    · exact absurd dc (by decide)
  | .tuple ds, .str x, l, m, hd, he, hl, hm, h => by
    obtain ⟨c, r, e1, e2⟩ := first hd
    have hx : Pq x := by cases he with | str _ h => exact h
    have ex : sg (PyData.str x).shown = 39 :: (sg x ++ [39]) := by
      have e : (PyData.str x).shown = reprText x := by simp [PyData.shown]
      rw [e, hx.1]
    have hc : c = 39 := by rw [ex, e1] at h; simp at h; exact h.1
    subst hc
    rcases e2 with ⟨q, _⟩ | ⟨q, _⟩ | ⟨_, y, q⟩ | ⟨q, _⟩
    · exact absurd q (by decide)
    · exact absurd q (by decide)
    · cases q
    · exact absurd q (by decide)
  | .tuple ds, .bool _, l, m, hd, he, _, _, h => nomatch he
  | .tuple ds, .list _, l, m, hd, he, _, _, h => nomatch he
  | .tuple ds, .dict _, l, m, hd, he, _, _, h => nomatch he
  | .bool _, e, l, m, hd, he, _, _, h => nomatch hd
  | .list _, e, l, m, hd, he, _, _, h => nomatch hd
  | .dict _, e, l, m, hd, he, _, _, h => nomatch hd
theorem rest_go : ∀ (ds es : List PyData) (l m : List Nat), (∀ d ∈ ds, Pd d) → (∀ d ∈ es, Pd d) → rest0 ds ++ l = rest0 es ++ m → ds = es ∧ l = m
  | [], [], l, m, _, _, h => by simp [rest0] at h; exact ⟨rfl, h⟩
  | [], e :: es, l, m, _, _, h => by simp [rest0] at h
  | d :: ds, [], l, m, _, _, h => by simp [rest0] at h
  | d :: ds, e :: es, l, m, hd, he, h => by
    simp only [rest0, List.cons_append, List.append_assoc] at h
    injection h with _ h
    injection h with _ h
    obtain ⟨rfl, h2⟩ := shown_go d e _ _ (hd d (.head _)) (he e (.head _)) (lo_rest0 _ l) (lo_rest0 _ m) h
    obtain ⟨rfl, h4⟩ := rest_go ds es l m (fun d h => hd d (.tail _ h)) (fun d h => he d (.tail _ h)) h2
    exact ⟨rfl, h4⟩
end
/-- data with one text are one -/
theorem shown_inj {d e : PyData} (hd : Pd d) (he : Pd e) (h : d.shown = e.shown) : d = e := by
  have lo : Lo [] := fun c hc => by cases hc
  exact (shown_go d e [] [] hd he lo lo (by rw [h])).1
end VS

set_option Elab.async false
set_option linter.all false
set_option maxRecDepth 100000
set_option maxHeartbeats 2000000
/-! VX12: min(a, b), max(a, b) of data. -/
namespace VS
open PySem PySem.Spec PyProof.Rows L2
open PySem.Sem (wp)
--BEGIN
section
variable {prog : Program} {w : PySem.World} {A : Around} {R : Result → Shared → Prop} {I S : Addr} {fp : List Addr} {P : Nat → Value → Prop} {St : Nat → Heap → Prop} {G : Heap → Prop} {a b : Value} {r : Bool}
theorem min_end (W : Walks prog w A.in1 I fp [I] 2 P St) (hG : ∀ h h', (∀ c o, c ≠ I → c ≠ S → h.get? c = some o → h'.get? c = some o) → G h → G h') (hSf : S ∉ fp) {s : Shared} {c : Nat} {v : Value} (hst : St 2 s.heap)
    (hS : s.heap.get? S = some { cls := .type "list", dict := none, data := .seq #[v, v] c, slots := #[] }) (g : G s.heap) (hR : ∀ h' tk, G h' → R (.ok (.ret v)) { s with heap := h', toks := tk }) :
    codeAny (model prog w) A (.builtin "min.loop" ⟨[.ref I, .none, .ref S], []⟩) R s := by
  have hSw : S ∉ [I] := fun h => hSf (W.sub _ h)
  refine codeAny_builtin F.entry_min_loop ?_
  rw [Around.under_plainId F.plain_min_loop _]
  show wpAny _ A.in1 (seqItems? (.ref S) >>= _) _ _ s
  refine wpAny_bind (wpAny_seqItems hS rfl ?_)
  show wpAny _ A.in1 (tryCatch (pyNext (.ref I)) _ >>= _) _ _ s
  refine wpAny_bind (wpAny_tryCatch (W.done s _ _ hst fun h' tk hk' => ?_))
  have hS' := hk' S _ hSw hS
  show wpAny _ A.in1 (updateSeq S (fun _ => #[]) >>= _) _ _ _
  refine wpAny_bind ?_
  refine wpAny_updateSeq hS' rfl (wpAny_bind (wpAny_letGo (wpAny_pure ?_)))
  exact hR _ tk (hG _ _ (fun c o c1 c2 e => (Heap.get?_update_other _ _ (Ne.symm c2)).trans (hk' c o (by simp [c1]) e)) g)
theorem min_mid (W : Walks prog w A.in1 I fp [I] 2 P St) (hG : ∀ h h', (∀ c o, c ≠ I → c ≠ S → h.get? c = some o → h'.get? c = some o) → G h → G h') (hSf : S ∉ fp) (hb : ∀ v, P 1 v → v = b)
    (hcmp : ∀ (s' : Shared) (Q : Value → Shared → Prop) (E : Value → Shared → Prop), G s'.heap → Q (.bool r) s' → wpAny (model prog w) A.in1 (richCompare .Lt b a) Q E s') {s : Shared} {c : Nat} (hst : St 1 s.heap)
    (hS : s.heap.get? S = some { cls := .type "list", dict := none, data := .seq #[a, a] c, slots := #[] }) (g : G s.heap) (hR : ∀ h' tk, G h' → R (.ok (.ret (if r = true then b else a))) { s with heap := h', toks := tk }) :
    codeAny (model prog w) A (.builtin "min.loop" ⟨[.ref I, .none, .ref S], []⟩) R s := by
  have hSw : S ∉ [I] := fun h => hSf (W.sub _ h)
  have hname : (toString "min" ++ toString ".loop" : String) = "min.loop" := by decide
  refine codeAny_builtin F.entry_min_loop ?_
  rw [Around.under_plainId F.plain_min_loop _]
  show wpAny _ A.in1 (seqItems? (.ref S) >>= _) _ _ s
  refine wpAny_bind (wpAny_seqItems hS rfl ?_)
  show wpAny _ A.in1 (tryCatch (pyNext (.ref I)) _ >>= _) _ _ s
  refine wpAny_bind (wpAny_tryCatch (W.item 1 s _ _ (by decide) hst fun v h' tk hP hst' hk' => ?_))
  cases hb v hP
  have hS' := hk' S _ hSw hS
  have g' : G h' := hG _ _ (fun c o c1 c2 e => hk' c o (by simp [c1]) e) g
  show wpAny _ A.in1 (tryCatch (holding [b, b] (richCompare .Lt b a >>= _)) _ >>= _) _ _ _
  refine wpAny_bind (wpAny_tryCatch (wpAny_holding (wpAny_bind (hcmp _ _ _ g' ?_))))
  refine wpAny_bind (wpAny_holding (wpAny_truthy_bool ?_))
  refine wpAny_bind (wpAny_letGo (wpAny_pure ?_))
  cases r with
  | true =>
    simp only [if_true]
    refine wpAny_bind ?_
    refine wpAny_updateSeq hS' rfl (wpAny_bind (wpAny_letGo ?_))
    rw [hname]
    refine wpAny_pure ⟨plainId_quiet F.plain_min_loop _, min_end (v := b) W hG hSf (W.frame _ _ _ hst' fun c hc o e => ?_) (Heap.get?_update_self _ hS' rfl) ?_ fun h'' tk'' g'' => hR h'' tk'' g''⟩
    · exact (Heap.get?_update_other _ _ (fun h : S = c => hSf (by rw [h]; exact hc))).trans e
    · exact hG _ _ (fun c o c1 c2 e => (Heap.get?_update_other _ _ (Ne.symm c2)).trans e) g'
  | false =>
    simp only [Bool.false_eq_true, if_false]
    refine wpAny_bind (wpAny_letGo ?_)
    rw [hname]
    exact wpAny_pure ⟨plainId_quiet F.plain_min_loop _, min_end (v := a) W hG hSf hst' hS' g' fun h'' tk'' g'' => hR h'' tk'' g''⟩
theorem min_start (W : Walks prog w A.in1 I fp [I] 2 P St) (hG : ∀ h h', (∀ c o, c ≠ I → c ≠ S → h.get? c = some o → h'.get? c = some o) → G h → G h') (hSf : S ∉ fp) (ha : ∀ v, P 0 v → v = a) (hb : ∀ v, P 1 v → v = b)
    (hcmp : ∀ (s' : Shared) (Q : Value → Shared → Prop) (E : Value → Shared → Prop), G s'.heap → Q (.bool r) s' → wpAny (model prog w) A.in1 (richCompare .Lt b a) Q E s') {s : Shared} {c : Nat} (hst : St 0 s.heap)
    (hS : s.heap.get? S = some { cls := .type "list", dict := none, data := .seq #[] c, slots := #[] }) (g : G s.heap) (hR : ∀ h' tk, G h' → R (.ok (.ret (if r = true then b else a))) { s with heap := h', toks := tk }) :
    codeAny (model prog w) A (.builtin "min.loop" ⟨[.ref I, .none, .ref S], []⟩) R s := by
  have hSw : S ∉ [I] := fun h => hSf (W.sub _ h)
  have hname : (toString "min" ++ toString ".loop" : String) = "min.loop" := by decide
  refine codeAny_builtin F.entry_min_loop ?_
  rw [Around.under_plainId F.plain_min_loop _]
  show wpAny _ A.in1 (seqItems? (.ref S) >>= _) _ _ s
  refine wpAny_bind (wpAny_seqItems hS rfl ?_)
  show wpAny _ A.in1 (tryCatch (pyNext (.ref I)) _ >>= _) _ _ s
  refine wpAny_bind (wpAny_tryCatch (W.item 0 s _ _ (by decide) hst fun v h' tk hP hst' hk' => ?_))
  cases ha v hP
  have hS' := hk' S _ hSw hS
  have g' : G h' := hG _ _ (fun c o c1 c2 e => hk' c o (by simp [c1]) e) g
  show wpAny _ A.in1 (updateSeq S (fun _ => #[a, a]) >>= _) _ _ _
  refine wpAny_bind ?_
  refine wpAny_updateSeq hS' rfl ?_
  rw [hname]
  refine wpAny_pure ⟨plainId_quiet F.plain_min_loop _, min_mid W hG hSf hb hcmp (W.frame _ _ _ hst' fun c hc o e => ?_) (Heap.get?_update_self _ hS' rfl) ?_ fun h'' tk'' g'' => hR h'' tk'' g''⟩
  · exact (Heap.get?_update_other _ _ (fun h : S = c => hSf (by rw [h]; exact hc))).trans e
  · exact hG _ _ (fun c o c1 c2 e => (Heap.get?_update_other _ _ (Ne.symm c2)).trans e) g'
theorem args_min2 (a b : Value) : argsOk "min" ⟨[a, b], []⟩ := by unfold argsOk; kernel_rfl
theorem min_data {E : Value → Shared → Prop} {s : Shared} {Q : Value → Shared → Prop} (hh : A.handled = none)
    (hcmp : ∀ (s' : Shared) (Q : Value → Shared → Prop) (E : Value → Shared → Prop), (∀ c o, s.heap.get? c = some o → s'.heap.get? c = some o) → Q (.bool r) s' → wpAny (model prog w) A.in1 (richCompare .Lt b a) Q E s')
    (h : ∀ h' tk, (∀ c o, s.heap.get? c = some o → h'.get? c = some o) → Q (if r = true then b else a) { s with heap := h', toks := tk }) :
    wpAny (model prog w) A (call (.builtin "min") [a, b]) Q E s := by
  have hname : (toString "min" ++ toString ".loop" : String) = "min.loop" := by decide
  refine call_function_tree F.kind_min F.plain_min F.entry_min (args_min2 _ _) ?_
  show wpAny _ A.in1 (Builtin.Builtins.bindParams "min" ["key", "default"] 0 ⟨[], []⟩ >>= _) _ _ s
  refine wpAny_bind (wpAny_of_eq (show Builtin.Builtins.bindParams "min" ["key", "default"] 0 ⟨[], []⟩ = pure [none, none] from rfl) ?_)
  show wpAny _ A.in1 (newTuple [a, b] >>= _) _ _ s
  refine wpAny_bind (wpAny_newObj_type ?_)
  have hT : (s.heap.push { cls := .type "tuple", data := .seq #[a, b] }).IsTuple s.heap.objs.size #[a, b] := ⟨_, Heap.get?_push_size _ rfl, rfl, 0, rfl⟩
  have hsz : (s.heap.push { cls := .type "tuple", data := .seq #[a, b] }).objs.size = s.heap.objs.size + 1 := Heap.size_push ..
  refine wpAny_bind (wpAny_pyIter_tuple hT ?_)
  refine wpAny_bind (wpAny_newObj_type ?_)
  have W := Walks.tuple (prog := prog) (w := w) (A := A.in1) hh (s.heap.push { cls := .type "tuple", data := .seq #[a, b] }).objs.size s.heap.objs.size (by rw [hsz]; exact Nat.ne_of_lt (Nat.lt_succ_self _)) #[a, b]
  generalize hp1 : s.heap.push { cls := .type "tuple", data := .seq #[a, b] } = h1 at W hT hsz ⊢
  have k1 : ∀ c o, s.heap.get? c = some o → h1.get? c = some o := fun c o e => by rw [← hp1]; exact Heap.get?_push_of_some _ e
  have lt : ∀ {c o}, s.heap.get? c = some o → c < s.heap.objs.size := fun e => Heap.lt_size e
  rw [hname]
  refine wpAny_pure ⟨plainId_quiet F.plain_min_loop _, min_start (G := fun h => ∀ c o, s.heap.get? c = some o → h.get? c = some o) W (fun h h' k g c o e => k c o (Nat.ne_of_lt (by rw [hsz]; exact Nat.lt_succ_of_lt (lt e))) (Nat.ne_of_lt (by rw [Heap.size_push, hsz]; exact Nat.lt_succ_of_lt (Nat.lt_succ_of_lt (lt e)))) (g c o e)) ?_ (fun v hv => ?_) (fun v hv => ?_) (fun s' Q E g q => hcmp s' Q E g q) ⟨⟨_, Heap.get?_push_of_some _ (Heap.get?_push_size _ rfl), rfl, rfl⟩, (hT.push _).push _⟩ (Heap.get?_push_size _ rfl) ?_ fun h' tk g => h h' tk g⟩
  · rw [List.mem_cons, List.mem_cons]
    rintro (e | e | e)
    · rw [Heap.size_push] at e; exact absurd e (Nat.ne_of_gt (Nat.lt_succ_self _))
    · rw [Heap.size_push, hsz] at e; exact absurd e (Nat.ne_of_gt (Nat.lt_succ_of_lt (Nat.lt_succ_self _)))
    · cases e
  · exact (Option.some.inj hv).symm
  · exact (Option.some.inj hv).symm
  · exact fun c o e => Heap.get?_push_of_some _ (Heap.get?_push_of_some _ (k1 c o e))
end
section
variable {prog : Program} {w : PySem.World} {A : Around} {R : Result → Shared → Prop} {I S : Addr} {fp : List Addr} {P : Nat → Value → Prop} {St : Nat → Heap → Prop} {G : Heap → Prop} {a b : Value} {r : Bool}
theorem max_end (W : Walks prog w A.in1 I fp [I] 2 P St) (hG : ∀ h h', (∀ c o, c ≠ I → c ≠ S → h.get? c = some o → h'.get? c = some o) → G h → G h') (hSf : S ∉ fp) {s : Shared} {c : Nat} {v : Value} (hst : St 2 s.heap)
    (hS : s.heap.get? S = some { cls := .type "list", dict := none, data := .seq #[v, v] c, slots := #[] }) (g : G s.heap) (hR : ∀ h' tk, G h' → R (.ok (.ret v)) { s with heap := h', toks := tk }) :
    codeAny (model prog w) A (.builtin "max.loop" ⟨[.ref I, .none, .ref S], []⟩) R s := by
  have hSw : S ∉ [I] := fun h => hSf (W.sub _ h)
  refine codeAny_builtin F.entry_max_loop ?_
  rw [Around.under_plainId F.plain_max_loop _]
  show wpAny _ A.in1 (seqItems? (.ref S) >>= _) _ _ s
  refine wpAny_bind (wpAny_seqItems hS rfl ?_)
  show wpAny _ A.in1 (tryCatch (pyNext (.ref I)) _ >>= _) _ _ s
  refine wpAny_bind (wpAny_tryCatch (W.done s _ _ hst fun h' tk hk' => ?_))
  have hS' := hk' S _ hSw hS
  show wpAny _ A.in1 (updateSeq S (fun _ => #[]) >>= _) _ _ _
  refine wpAny_bind ?_
  refine wpAny_updateSeq hS' rfl (wpAny_bind (wpAny_letGo (wpAny_pure ?_)))
  exact hR _ tk (hG _ _ (fun c o c1 c2 e => (Heap.get?_update_other _ _ (Ne.symm c2)).trans (hk' c o (by simp [c1]) e)) g)
theorem max_mid (W : Walks prog w A.in1 I fp [I] 2 P St) (hG : ∀ h h', (∀ c o, c ≠ I → c ≠ S → h.get? c = some o → h'.get? c = some o) → G h → G h') (hSf : S ∉ fp) (hb : ∀ v, P 1 v → v = b)
    (hcmp : ∀ (s' : Shared) (Q : Value → Shared → Prop) (E : Value → Shared → Prop), G s'.heap → Q (.bool r) s' → wpAny (model prog w) A.in1 (richCompare .Gt b a) Q E s') {s : Shared} {c : Nat} (hst : St 1 s.heap)
    (hS : s.heap.get? S = some { cls := .type "list", dict := none, data := .seq #[a, a] c, slots := #[] }) (g : G s.heap) (hR : ∀ h' tk, G h' → R (.ok (.ret (if r = true then b else a))) { s with heap := h', toks := tk }) :
    codeAny (model prog w) A (.builtin "max.loop" ⟨[.ref I, .none, .ref S], []⟩) R s := by
  have hSw : S ∉ [I] := fun h => hSf (W.sub _ h)
  have hname : (toString "max" ++ toString ".loop" : String) = "max.loop" := by decide
  refine codeAny_builtin F.entry_max_loop ?_
  rw [Around.under_plainId F.plain_max_loop _]
  show wpAny _ A.in1 (seqItems? (.ref S) >>= _) _ _ s
  refine wpAny_bind (wpAny_seqItems hS rfl ?_)
  show wpAny _ A.in1 (tryCatch (pyNext (.ref I)) _ >>= _) _ _ s
  refine wpAny_bind (wpAny_tryCatch (W.item 1 s _ _ (by decide) hst fun v h' tk hP hst' hk' => ?_))
  cases hb v hP
  have hS' := hk' S _ hSw hS
  have g' : G h' := hG _ _ (fun c o c1 c2 e => hk' c o (by simp [c1]) e) g
  show wpAny _ A.in1 (tryCatch (holding [b, b] (richCompare .Gt b a >>= _)) _ >>= _) _ _ _
  refine wpAny_bind (wpAny_tryCatch (wpAny_holding (wpAny_bind (hcmp _ _ _ g' ?_))))
  refine wpAny_bind (wpAny_holding (wpAny_truthy_bool ?_))
  refine wpAny_bind (wpAny_letGo (wpAny_pure ?_))
  cases r with
  | true =>
    simp only [if_true]
    refine wpAny_bind ?_
    refine wpAny_updateSeq hS' rfl (wpAny_bind (wpAny_letGo ?_))
    rw [hname]
    refine wpAny_pure ⟨plainId_quiet F.plain_max_loop _, max_end (v := b) W hG hSf (W.frame _ _ _ hst' fun c hc o e => ?_) (Heap.get?_update_self _ hS' rfl) ?_ fun h'' tk'' g'' => hR h'' tk'' g''⟩
    · exact (Heap.get?_update_other _ _ (fun h : S = c => hSf (by rw [h]; exact hc))).trans e
    · exact hG _ _ (fun c o c1 c2 e => (Heap.get?_update_other _ _ (Ne.symm c2)).trans e) g'
  | false =>
    simp only [Bool.false_eq_true, if_false]
    refine wpAny_bind (wpAny_letGo ?_)
    rw [hname]
    exact wpAny_pure ⟨plainId_quiet F.plain_max_loop _, max_end (v := a) W hG hSf hst' hS' g' fun h'' tk'' g'' => hR h'' tk'' g''⟩
theorem max_start (W : Walks prog w A.in1 I fp [I] 2 P St) (hG : ∀ h h', (∀ c o, c ≠ I → c ≠ S → h.get? c = some o → h'.get? c = some o) → G h → G h') (hSf : S ∉ fp) (ha : ∀ v, P 0 v → v = a) (hb : ∀ v, P 1 v → v = b)
    (hcmp : ∀ (s' : Shared) (Q : Value → Shared → Prop) (E : Value → Shared → Prop), G s'.heap → Q (.bool r) s' → wpAny (model prog w) A.in1 (richCompare .Gt b a) Q E s') {s : Shared} {c : Nat} (hst : St 0 s.heap)
    (hS : s.heap.get? S = some { cls := .type "list", dict := none, data := .seq #[] c, slots := #[] }) (g : G s.heap) (hR : ∀ h' tk, G h' → R (.ok (.ret (if r = true then b else a))) { s with heap := h', toks := tk }) :
    codeAny (model prog w) A (.builtin "max.loop" ⟨[.ref I, .none, .ref S], []⟩) R s := by
  have hSw : S ∉ [I] := fun h => hSf (W.sub _ h)
  have hname : (toString "max" ++ toString ".loop" : String) = "max.loop" := by decide
  refine codeAny_builtin F.entry_max_loop ?_
  rw [Around.under_plainId F.plain_max_loop _]
  show wpAny _ A.in1 (seqItems? (.ref S) >>= _) _ _ s
  refine wpAny_bind (wpAny_seqItems hS rfl ?_)
  show wpAny _ A.in1 (tryCatch (pyNext (.ref I)) _ >>= _) _ _ s
  refine wpAny_bind (wpAny_tryCatch (W.item 0 s _ _ (by decide) hst fun v h' tk hP hst' hk' => ?_))
  cases ha v hP
  have hS' := hk' S _ hSw hS
  have g' : G h' := hG _ _ (fun c o c1 c2 e => hk' c o (by simp [c1]) e) g
  show wpAny _ A.in1 (updateSeq S (fun _ => #[a, a]) >>= _) _ _ _
  refine wpAny_bind ?_
  refine wpAny_updateSeq hS' rfl ?_
  rw [hname]
  refine wpAny_pure ⟨plainId_quiet F.plain_max_loop _, max_mid W hG hSf hb hcmp (W.frame _ _ _ hst' fun c hc o e => ?_) (Heap.get?_update_self _ hS' rfl) ?_ fun h'' tk'' g'' => hR h'' tk'' g''⟩
  · exact (Heap.get?_update_other _ _ (fun h : S = c => hSf (by rw [h]; exact hc))).trans e
  · exact hG _ _ (fun c o c1 c2 e => (Heap.get?_update_other _ _ (Ne.symm c2)).trans e) g'
theorem args_max2 (a b : Value) : argsOk "max" ⟨[a, b], []⟩ := by unfold argsOk; kernel_rfl
theorem max_data {E : Value → Shared → Prop} {s : Shared} {Q : Value → Shared → Prop} (hh : A.handled = none)
    (hcmp : ∀ (s' : Shared) (Q : Value → Shared → Prop) (E : Value → Shared → Prop), (∀ c o, s.heap.get? c = some o → s'.heap.get? c = some o) → Q (.bool r) s' → wpAny (model prog w) A.in1 (richCompare .Gt b a) Q E s')
    (h : ∀ h' tk, (∀ c o, s.heap.get? c = some o → h'.get? c = some o) → Q (if r = true then b else a) { s with heap := h', toks := tk }) :
    wpAny (model prog w) A (call (.builtin "max") [a, b]) Q E s := by
  have hname : (toString "max" ++ toString ".loop" : String) = "max.loop" := by decide
  refine call_function_tree F.kind_max F.plain_max F.entry_max (args_max2 _ _) ?_
  show wpAny _ A.in1 (Builtin.Builtins.bindParams "max" ["key", "default"] 0 ⟨[], []⟩ >>= _) _ _ s
  refine wpAny_bind (wpAny_of_eq (show Builtin.Builtins.bindParams "max" ["key", "default"] 0 ⟨[], []⟩ = pure [none, none] from rfl) ?_)
  show wpAny _ A.in1 (newTuple [a, b] >>= _) _ _ s
  refine wpAny_bind (wpAny_newObj_type ?_)
  have hT : (s.heap.push { cls := .type "tuple", data := .seq #[a, b] }).IsTuple s.heap.objs.size #[a, b] := ⟨_, Heap.get?_push_size _ rfl, rfl, 0, rfl⟩
  have hsz : (s.heap.push { cls := .type "tuple", data := .seq #[a, b] }).objs.size = s.heap.objs.size + 1 := Heap.size_push ..
  refine wpAny_bind (wpAny_pyIter_tuple hT ?_)
  refine wpAny_bind (wpAny_newObj_type ?_)
  have W := Walks.tuple (prog := prog) (w := w) (A := A.in1) hh (s.heap.push { cls := .type "tuple", data := .seq #[a, b] }).objs.size s.heap.objs.size (by rw [hsz]; exact Nat.ne_of_lt (Nat.lt_succ_self _)) #[a, b]
  generalize hp1 : s.heap.push { cls := .type "tuple", data := .seq #[a, b] } = h1 at W hT hsz ⊢
  have k1 : ∀ c o, s.heap.get? c = some o → h1.get? c = some o := fun c o e => by rw [← hp1]; exact Heap.get?_push_of_some _ e
  have lt : ∀ {c o}, s.heap.get? c = some o → c < s.heap.objs.size := fun e => Heap.lt_size e
  rw [hname]
  refine wpAny_pure ⟨plainId_quiet F.plain_max_loop _, max_start (G := fun h => ∀ c o, s.heap.get? c = some o → h.get? c = some o) W (fun h h' k g c o e => k c o (Nat.ne_of_lt (by rw [hsz]; exact Nat.lt_succ_of_lt (lt e))) (Nat.ne_of_lt (by rw [Heap.size_push, hsz]; exact Nat.lt_succ_of_lt (Nat.lt_succ_of_lt (lt e)))) (g c o e)) ?_ (fun v hv => ?_) (fun v hv => ?_) (fun s' Q E g q => hcmp s' Q E g q) ⟨⟨_, Heap.get?_push_of_some _ (Heap.get?_push_size _ rfl), rfl, rfl⟩, (hT.push _).push _⟩ (Heap.get?_push_size _ rfl) ?_ fun h' tk g => h h' tk g⟩
  · rw [List.mem_cons, List.mem_cons]
    rintro (e | e | e)
    · rw [Heap.size_push] at e; exact absurd e (Nat.ne_of_gt (Nat.lt_succ_self _))
    · rw [Heap.size_push, hsz] at e; exact absurd e (Nat.ne_of_gt (Nat.lt_succ_of_lt (Nat.lt_succ_self _)))
    · cases e
  · exact (Option.some.inj hv).symm
  · exact (Option.some.inj hv).symm
  · exact fun c o e => Heap.get?_push_of_some _ (Heap.get?_push_of_some _ (k1 c o e))
end

/-! ### the rules -/
open Classical in
noncomputable def sMinD : SC := fun ds w => match ds with
  | [x, y] => match pd w x, pd w y with
    | some d, some e => if PySem.W.alike e d = true ∧ e ≠ .none ∧ e.depth ≤ 60 then .ok (if PySem.W.dataLt e d = true then y else x) w else .no
    | _, _ => .no
  | _ => .no
open Classical in
noncomputable def sMaxD : SC := fun ds w => match ds with
  | [x, y] => match pd w x, pd w y with
    | some d, some e => if PySem.W.alike e d = true ∧ e ≠ .none ∧ e.depth ≤ 60 then .ok (if PySem.W.dataLt d e = true then y else x) w else .no
    | _, _ => .no
  | _ => .no
def rBestD (K : PySem.W.Frag) (f : PyData → PyData → Bool) : List V → Hp → VK → Prop := fun xs H Q => ∃ (x y : V) (d e : PyData), xs = [x, y] ∧ Dp K H x d ∧ Dp K H y e ∧ PySem.W.alike e d = true ∧ e ≠ .none ∧ e.depth ≤ 60 ∧ Q (if f d e = true then y else x) H
section
variable {X : Cx} {K : KT} {e e2 : Expr} {p pos : Pos} {Z : ZT} {W : Option WX} {m : MF}
theorem reads_kept {h h' : Heap} (k : ∀ c o, h.get? c = some o → h'.get? c = some o) {v : Value} {d : PyData} {as : List Addr} (r : Reads h v d as) : Reads h' v d as := Reads.keeps k r
theorem cr_minD (hc : X.calm = true) (hu : X.A.units + 65 < cLine) : CallR X (.builtin "min") (rBestD X.K fun d e => PySem.W.dataLt e d) := fun pins s σ H xs us Q I rv q => by
  obtain ⟨x, y, d, e, rfl, hd, he, al, nn, dp, q⟩ := q
  obtain ⟨u, w', rfl, r1, r2⟩ := vals2 rv
  obtain ⟨as, a1⟩ := Dp.reads I d x u hd r1
  obtain ⟨bs, b1⟩ := Dp.reads I e y w' he r2
  refine min_data (r := PySem.W.dataLt e d) (I.ok.hd hc) (fun s' Q' E' k q' => PySem.W.lt_data (reads_kept k b1) (reads_kept k a1) al nn (by have := Nat.min_le_left e.depth d.depth; show X.A.units + 1 + _ < _; omega) q') fun h' tk k => ?_
  refine ⟨if PySem.W.dataLt e d = true then y else x, H, I.kept (t' := tk) k, ?_, q⟩
  split <;> assumption
theorem cr_maxD (hc : X.calm = true) (hu : X.A.units + 65 < cLine) : CallR X (.builtin "max") (rBestD X.K fun d e => PySem.W.dataLt d e) := fun pins s σ H xs us Q I rv q => by
  obtain ⟨x, y, d, e, rfl, hd, he, al, nn, dp, q⟩ := q
  obtain ⟨u, w', rfl, r1, r2⟩ := vals2 rv
  obtain ⟨as, a1⟩ := Dp.reads I d x u hd r1
  obtain ⟨bs, b1⟩ := Dp.reads I e y w' he r2
  refine max_data (r := PySem.W.dataLt d e) (I.ok.hd hc) (fun s' Q' E' k q' => PySem.W.gt_data (reads_kept k b1) (reads_kept k a1) al nn (by have := Nat.min_le_left e.depth d.depth; show X.A.units + 1 + _ < _; omega) q') fun h' tk k => ?_
  refine ⟨if PySem.W.dataLt d e = true then y else x, H, I.kept (t' := tk) k, ?_, q⟩
  split <;> assumption
theorem opMinD : OpC K sMinD (rBestD K.1 fun d e => PySem.W.dataLt e d) := fun W hd φ H w ds xs Q wr rx q => by
  unfold sMinD at q
  split at q
  · rename_i x y
    obtain ⟨v, u, rfl, r1, r2⟩ := reps2 rx
    split at q
    · rename_i d e h1 h2
      split at q
      · rename_i h
        refine ⟨v, u, d, e, rfl, dp wr r1 h1, dp wr r2 h2, h.1, h.2.1, h.2.2, q.ok wr _ ?_⟩
        dsimp only
        split <;> assumption
      · exact q.elim
    · exact q.elim
  · exact q.elim
theorem opMaxD : OpC K sMaxD (rBestD K.1 fun d e => PySem.W.dataLt d e) := fun W hd φ H w ds xs Q wr rx q => by
  unfold sMaxD at q
  split at q
  · rename_i x y
    obtain ⟨v, u, rfl, r1, r2⟩ := reps2 rx
    split at q
    · rename_i d e h1 h2
      split at q
      · rename_i h
        refine ⟨v, u, d, e, rfl, dp wr r1 h1, dp wr r2 h2, h.1, h.2.1, h.2.2, q.ok wr _ ?_⟩
        dsimp only
        split <;> assumption
      · exact q.elim
    · exact q.elim
  · exact q.elim
theorem de_minD (hu : X.A.units + 65 < cLine) (hc : X.calm = true) (hm : X.mg "min" = none) (ha : PA X [e, e2] (rdA (X.K, Z) W m)) (hg : Gl X "min" := by rfl) (he : starEach [e, e2] X.env = (false, eval e X.env) :: starEach [e2] X.env := by rfl) (hpl : (backTo pos (starEach [e2] X.env)).any (·.1) = false := by rfl) : PE X (.Call (.Name "min" p) [e, e2] [] pos) (rdE (X.K, Z) W (mCall sMinD m)) :=
  de_callB (cr_minD hc hu) opMinD hm (by decide +kernel) ha hg (by decide) (by decide) he hpl
theorem de_maxD (hu : X.A.units + 65 < cLine) (hc : X.calm = true) (hm : X.mg "max" = none) (ha : PA X [e, e2] (rdA (X.K, Z) W m)) (hg : Gl X "max" := by rfl) (he : starEach [e, e2] X.env = (false, eval e X.env) :: starEach [e2] X.env := by rfl) (hpl : (backTo pos (starEach [e2] X.env)).any (·.1) = false := by rfl) : PE X (.Call (.Name "max" p) [e, e2] [] pos) (rdE (X.K, Z) W (mCall sMaxD m)) :=
  de_callB (cr_maxD hc hu) opMaxD hm (by decide +kernel) ha hg (by decide) (by decide) he hpl
end
end VS

set_option Elab.async false
set_option linter.all false
set_option maxRecDepth 100000
set_option maxHeartbeats 2000000
/-! VX13: isinstance(x, C), C an own class of objects: x an instance of it, or data. -/
namespace VS
open PySem PySem.Spec PyProof.Rows L2
structure InsD (K : PySem.W.Frag) (x : Str) : Prop where
  ex : ∃ C, GlbAt K x C ∧ Cls K C ∧ PySem.W.findIn K (.ref C) "__class__" = some (some (.builtin "object.__class__")) ∧ PySem.W.specialIn K (.builtin "object.__class__") "__get__" = some (some (.builtin "getset_descriptor.__get__")) ∧
    PySem.W.takesIn K (.builtin "object.__class__") = some true ∧ PySem.W.mroIn K C (.type "object") = some true ∧ ∀ n ∈ kinds, PySem.W.kitOne K (.type n) (.ref C) = some false
/-- what the written part says further of an own class of objects -/
structure ClsI (K : PySem.W.Frag) (C : Addr) : Prop where
  i1 : PySem.W.findIn K (.ref C) "__class__" = some (some (.builtin "object.__class__"))
  i2 : PySem.W.mroIn K C (.type "object") = some true
  i3 : PySem.W.isClsIn K C = true
  i4 : PySem.W.typeIn K (.ref C) = some (.type "type")
  n1 : PySem.W.subIn K (.type "NoneType") (.ref C) = some false
  n2 : PySem.W.subIn K (.type "bool") (.ref C) = some false
  n3 : PySem.W.subIn K (.type "int") (.ref C) = some false
  n4 : PySem.W.subIn K (.type "str") (.ref C) = some false
  n5 : PySem.W.subIn K (.type "tuple") (.ref C) = some false
  n6 : PySem.W.subIn K (.type "list") (.ref C) = some false
  n7 : PySem.W.subIn K (.type "dict") (.ref C) = some false
theorem ClsI.kit {K : PySem.W.Frag} {C : Addr} (q : ClsI K C) {n : String} (s : PySem.W.subIn K (.type n) (.ref C) = some false) : PySem.W.kitOne K (.type n) (.ref C) = some false := by
  unfold PySem.W.kitOne
  split
  · rename_i e
    exact absurd e (by simp)
  · unfold PySem.W.kitCls
    have e : ((PySem.W.clsIn K C).isSome && PySem.W.typeIn K (.ref C) == some (.type "type")) = true := by
      have := q.i3
      unfold PySem.W.isClsIn at this
      rw [this, q.i4]
      rfl
    simp only [e, if_true]
    exact s
theorem ClsO.ins {K : PySem.W.Frag} {x : Str} {C : Addr} (q : ClsO K x C) (i : ClsI K C) (o : ObjG K) : InsD K x :=
  ⟨C, q.c1, q.cls, i.i1, o.o1, o.o2, i.i2, fun n hn => by
    simp only [kinds, List.mem_cons, List.not_mem_nil, or_false] at hn
    rcases hn with rfl | rfl | rfl | rfl | rfl | rfl | rfl
    · exact i.kit i.n1
    · exact i.kit i.n2
    · exact i.kit i.n3
    · exact i.kit i.n4
    · exact i.kit i.n5
    · exact i.kit i.n6
    · exact i.kit i.n7⟩
theorem ClsO.glb {K : PySem.W.Frag} {mg : Str → Option Value} {h : Heap} {x : Str} {C : Addr} (q : ClsO K x C) (X : K.In h) (G : h.Ns mainGlobals mg) : GlbD K mg x := ⟨C, PySem.W.mg_of X G q.c1, q.c1⟩
def sIsO (x : Str) : SC := fun ds w => match ds with
  | [d, .glb c] => if c = x then match d with
    | .cell k => match w[k]? with
      | some (.obj y _ _) => if y = x then .ok (.bl true) w else .no
      | some (.lst _) => .ok (.bl false) w
      | some (.dic _) => .ok (.bl false) w
      | some (.dit _) => .ok (.bl false) w
      | _ => .no
    | d => match kindT w d with
      | some _ => .ok (.bl false) w
      | none => .no
    else .no
  | _ => .no
section
variable {X : Cx} {K : KT} {e e2 : Expr} {p pos : Pos} {Z : ZT} {W : Option WX} {m : MF} {x : Str}
theorem kitOne_self {K : PySem.W.Frag} {C : Addr} : PySem.W.kitOne K (.ref C) (.ref C) = some true := by
  unfold PySem.W.kitOne
  simp
theorem opIsO (D : InsD K.1 x) : OpC K (sIsO x) (rIsi K.1) := fun W hd φ H w ds xs Q wr rx q => by
  obtain ⟨C, g, cl, f1, f2, f3, f4, neg⟩ := D.ex
  unfold sIsO at q
  split at q
  · rename_i d c
    split at q
    · rename_i hc
      subst hc
      obtain ⟨v, u, rfl, r1, r2⟩ := reps2 rx
      unfold Rep at r2
      obtain ⟨C', rfl, g'⟩ := r2
      cases GlbAt.inj g g'
      have data : ∀ {a : String}, kindT w d = some a → Pst K W hd (CE K hd Q) φ H (.ok (.bl false) w) → rIsi K.1 [v, .ref C] H Q := fun {a} h p =>
        ⟨v, .ref C, .type a, .ref C, false, rfl, .own _, kind_at wr r1 h, neg a (kindT_mem h), p.bl wr⟩
      split at q
      · rename_i k
        cases hw : w[k]? with
        | none => rw [hw] at q; exact q.elim
        | some cl' =>
          rw [hw] at q
          cases cl' with
          | obj y ks ts =>
            simp only at q
            split at q
            · rename_i hy
              subst hy
              obtain ⟨l, rfl, _, _, C2, dx, vs, h1, h2, _⟩ := cell_at wr r1 hw
              cases GlbAt.inj g h2
              exact ⟨.ref l, .ref C, .ref C, .ref C, true, rfl, .own _, .base (.ins h1 cl f1 f2 f3 f4), kitOne_self, q.bl wr⟩
            · exact q.elim
          | lst ts => exact data (a := "list") (by simp [kindT, hw]) q
          | dic kvs => exact data (a := "dict") (by simp [kindT, hw]) q
          | dit kvs => exact data (a := "dict") (by simp [kindT, hw]) q
          | din kvs => exact q.elim
      · cases hk : kindT w d with
        | none => rw [hk] at q; exact q.elim
        | some a => rw [hk] at q; exact data hk q
    · exact q.elim
  · exact q.elim
theorem de_isO (D : InsD X.K x) (hm : X.mg "isinstance" = none) (ha : PA X [e, e2] (rdA (X.K, Z) W m)) (hg : Gl X "isinstance" := by rfl) (he : starEach [e, e2] X.env = (false, eval e X.env) :: starEach [e2] X.env := by rfl) (hpl : (backTo pos (starEach [e2] X.env)).any (·.1) = false := by rfl) : PE X (.Call (.Name "isinstance" p) [e, e2] [] pos) (rdE (X.K, Z) W (mCall (sIsO x) m)) :=
  de_callB call_isi (opIsO D) hm (by decide +kernel) ha hg (by decide) (by decide) he hpl
end
end VS

set_option Elab.async false
set_option linter.all false
set_option maxRecDepth 100000
set_option maxHeartbeats 2000000
/-! VX14: t[::-1] of a tuple. -/
namespace VS
open PySem PySem.Spec PyProof.Rows L2
section
variable {prog : Program} {w : PySem.World} {A : Around} {E : Value → Shared → Prop} {s : Shared}
theorem adjust_rev (n : Nat) : Builtin.Slice.sliceAdjust none none (-1) (n : Int) = ((n : Int) - 1, -1) := rfl
theorem places_rev (n : Nat) : Builtin.Slice.slicePlaces ((n : Int) - 1) (-1) (-1) = n := by
  unfold Builtin.Slice.slicePlaces
  have h1 : ¬ ((-1 : Int) > 0) := by omega
  simp only [h1, if_false]
  have h2 : ((n : Int) - 1 - -1 - 1) / - -1 + 1 = n := by
    rw [show (- -1 : Int) = 1 by decide, Int.ediv_one]
    omega
  rw [h2]
  split <;> omega
theorem sliceApplied_rev {sl : Addr} {vl vu vs : Value} {n : Nat} {Q : Int × Int × Nat → Shared → Prop} (hs : s.heap.IsSliceOf sl vl vu vs) (pl : IsPart vl none) (pu : IsPart vu none) (ps : IsPart vs (some (-1)))
    (h : Q ((n : Int) - 1, -1, n) s) : wpAny (model prog w) A (Builtin.Slice.sliceApplied (.ref sl) (pure (n : Int))) Q E s := by
  obtain ⟨os, hos, hcs, hds⟩ := id hs
  unfold Builtin.Slice.sliceApplied Builtin.Slice.sliceFields
  refine wpAny_bind (wpAny_bind (wpAny_field hos hds (x := vl) rfl (wpAny_bind (wpAny_field hos hds (x := vu) rfl (wpAny_bind (wpAny_field hos hds (x := vs) rfl (wpAny_pure ?_)))))))
  refine wpAny_bind (HT.slicePart_ ps ?_)
  show wpAny _ _ (if ((-1 : Int) == 0) = true then _ else _) _ _ s
  rw [if_neg (by decide)]
  refine wpAny_bind (HT.slicePart_ pl (wpAny_bind (HT.slicePart_ pu (wpAny_bind (wpAny_pure ?_)))))
  show wpAny _ _ (match Builtin.Slice.sliceAdjust none none (-1) (n : Int) with | (lo, hi) => pure (lo, (-1 : Int), Builtin.Slice.slicePlaces lo hi (-1))) _ _ s
  rw [adjust_rev n]
  show wpAny _ _ (pure ((n : Int) - 1, (-1 : Int), Builtin.Slice.slicePlaces ((n : Int) - 1) (-1) (-1))) _ _ s
  rw [places_rev]
  exact wpAny_pure h
theorem pick_rev (xs : Array Value) : ((List.range xs.size).filterMap fun (k : Nat) => xs[(((xs.size : Nat) : Int) - 1 + (k : Int) * -1).toNat]?).toArray = xs.toList.reverse.toArray := by
  have e : (fun (k : Nat) => xs[(((xs.size : Nat) : Int) - 1 + (k : Int) * -1).toNat]?) = (fun j => xs[j]?) ∘ fun k => xs.size - 1 - k := by
    funext k
    have : (((xs.size : Nat) : Int) - 1 + (k : Int) * -1).toNat = xs.size - 1 - k := by omega
    show xs[(((xs.size : Nat) : Int) - 1 + (k : Int) * -1).toNat]? = xs[xs.size - 1 - k]?
    rw [this]
  rw [e, ← List.filterMap_map, PySem.W.krv_range, List.filterMap_reverse, PySem.W.krv_all]
theorem getItem_tuple_rev {t sl : Addr} {items : Array Value} {vl vu vs : Value} {Q : Value → Shared → Prop} (ht : IsTup s.heap t items) (hs : s.heap.IsSliceOf sl vl vu vs) (pl : IsPart vl none) (pu : IsPart vu none) (ps : IsPart vs (some (-1)))
    (h : Q (.ref s.heap.objs.size) { s with heap := s.heap.push { cls := .type "tuple", data := .seq items.toList.reverse.toArray } })
    (hsz : items.size ≤ sizeLine) : wpAny (model prog w) A (getItem (.ref t) (.ref sl)) Q E s := by
  have htake : sizeOk (.seq items.toList.reverse.toArray) := by
    show items.toList.reverse.toArray.size ≤ sizeLine
    rw [List.size_toArray, List.length_reverse, Array.length_toList]
    exact hsz
  obtain ⟨os, hos, hcs, hds⟩ := id hs
  have hTs : s.TypeIs (.ref sl) "slice" := ⟨os, hos, hcs⟩
  unfold getItem
  try with_reducible refine wpAny_holding ?_
  first | refine wpAny_bind (wpAny_pure ?_) | skip
  refine wpAny_bind (wpAny_sequenceKey ht.typeIs (by decide) ?_)
  refine wpAny_bind (wpAny_callSpecial?_slot (name := Str.ofString "__getitem__") ht.typeIs PyProof.Rows.slot_tuple_getitem
    (wpAny_call_entry PyProof.Rows.slot_tuple_getitem ht.typeIs entry_tuple_getitem ?_ (args_tuple_getitem _ _)))
  show wpAny _ _ (Builtin.Tuple.tupleItemsOf (.ref t) >>= _) _ _ s
  refine wpAny_bind (tupleItemsOf_ ht ?_)
  refine wpAny_bind (wpAny_typeOf hTs ?_)
  rw [if_pos (by decide)]
  refine wpAny_bind (sliceApplied_rev hs pl pu ps ?_)
  have hno : ¬ ((((items.size : Nat) : Int) - 1 == 0 && (-1 : Int) == 1 && items.size == items.size) = true) := by
    rw [show ((-1 : Int) == 1) = false by decide, Bool.and_false, Bool.false_and]
    exact Bool.false_ne_true
  show wpAny _ _ (if (((items.size : Nat) : Int) - 1 == 0 && (-1 : Int) == 1 && items.size == items.size) = true then _ else _) _ _ s
  rw [if_neg hno, pick_rev]
  first
    | exact wpAny_bind (m := Builtin.Tuple.tupleExact _) (wpAny_newObj_type (wpAny_pure ⟨_, rfl, wpAny_pure h⟩) htake)
    | exact wpAny_bind (m := Builtin.Tuple.tupleExact _) (wpAny_newObj_type (wpAny_bind (wpAny_pure (wpAny_pure ⟨_, rfl, wpAny_pure h⟩))) htake)
    | exact wpAny_bind (wpAny_bind (m := Builtin.Tuple.tupleExact _) (wpAny_newObj_type (wpAny_pure (wpAny_pure ⟨_, rfl, wpAny_pure h⟩)) htake))
    | exact wpAny_bind (wpAny_bind (m := Builtin.Tuple.tupleExact _) (wpAny_newObj_type (wpAny_pure ⟨_, rfl, wpAny_pure h⟩) htake))
end
section
variable {X : Cx} {Z : ZT} {W : Option WX} {a : Expr} {ma : ME} {pos : Pos}
def tRevT (K : PySem.W.Frag) (te : TE) : TE := fun σ H Q => te σ H fun x H1 => ∃ a xs, x = .ref a ∧ SqT K H1 a xs ∧ ∀ p, H1 p = none → Q (.ref p) (upd H1 p (.tup xs.reverse))
theorem pe_revT {e : Expr} {te : TE} {k : Nat} {p1 p2 p3 pos : Pos} (he : PE X e te) : PE X (.Subscript e (.Slice none none (some (.UnaryOp .USub (.Constant (.int 1) k p1) p2)) p3) pos) (tRevT X.K te) := by
  refine ⟨fun pins s σ H Q I h => ?_⟩
  refine Subscript_ (thn (he.run pins s σ H _ I h) fun v s1 ⟨x, H1, I1, r1, q1⟩ => ?_)
  obtain ⟨a, xs, ex, hx, q⟩ := q1
  subst ex
  cases r1
  have hst : PO X (some (.UnaryOp .USub (.Constant (.int 1) k p1) p2)) (tPart (tUn (rU fun i => .int (-i)) (tC (.int 1)))) := po_some (pe_un un_neg pe_int)
  refine wpAny_Slice (thn (po_none.run pins s1 σ H1 (fun o H2 => o = none ∧ H2 = H1) I1 ⟨rfl, rfl⟩) fun vl s2 ⟨l, H2, I2, pl, el, e2⟩ => ?_)
  subst el e2
  refine thn (po_none.run pins s2 σ H2 (fun o H3 => o = none ∧ H3 = H2) I2 ⟨rfl, rfl⟩) fun vu s3 ⟨u, H3, I3, pu, eu, e3⟩ => ?_
  subst eu e3
  refine thn (hst.run pins s3 σ H3 (fun o H4 => o = some (-1) ∧ H4 = H3) I3 ⟨1, rfl, -1, rfl, rfl, rfl⟩) fun vs s4 ⟨o, H4, I4, ps, eo, e4⟩ => ?_
  subst eo e4
  have I5 : Inv X pins σ H4 { s4 with heap := s4.heap.push { cls := .type "slice", data := .fields #[vl, vu, vs] } } := I4.kept (t' := s4.toks) fun b ob q => Heap.get?_push_of_some _ q
  obtain ⟨its, r, ht, hz⟩ := I5.tuple hx
  have hlen : its.toArray.size = xs.length := by rw [List.size_toArray]; exact r.length.symm
  show wpAny (model X.prog X.w) X.A (subscriptTail e (.Slice none none (some (.UnaryOp .USub (.Constant (.int 1) k p1) p2)) p3) (.ref a) (.ref s4.heap.objs.size)) (EP X pins σ Q) X.xe { s4 with heap := s4.heap.push { cls := .type "slice", data := .fields #[vl, vu, vs] } }
  refine tail_any (ops := [.ref a, .ref s4.heap.objs.size]) ht.typeIs (PyProof.Rows.slot_tuple_getitem.lookup) ?_ (by with_unfolding_all rfl)
  refine getItem_tuple_rev ht (Heap.IsSliceOf.new _ vl vu vs) pl pu ps ?_ (by rw [hlen]; exact hz)
  refine ⟨.ref _, _, I5.laid (t' := s4.toks) (o := .tup xs.reverse) (fun b ob q => Heap.get?_push_of_some _ q) (Nat.le_refl _) ?_, rfl, q _ (I5.hok.fresh (Nat.le_refl _))⟩
  exact ⟨by rw [List.length_reverse]; exact hz, _, r.reverse, IsTup.new _ _⟩
def mRevT (a : ME) : ME := fun ρ w => (a ρ w).bind fun t w1 => match t with
  | .tup ts => .ok (.tup ts.reverse) w1
  | _ => .no
theorem de_revT {k : Nat} {p1 p2 p3 : Pos} (ha : PE X a (rdE (X.K, Z) W ma)) : PE X (.Subscript a (.Slice none none (some (.UnaryOp .USub (.Constant (.int 1) k p1) p2)) p3) pos) (rdE (X.K, Z) W (mRevT ma)) := PE_imp (pe_revT ha) fun σ H Q => by
  rintro ⟨hd, φ, ρ, w, sr, wr, p⟩
  refine ⟨hd, φ, ρ, w, sr, wr, Pst.then isPst p fun t w1 φ1 H1 e1 wr1 p1 v rv => ?_⟩
  cases t with
  | tup ts =>
    have rv3 := rv
    unfold Rep at rv3
    obtain ⟨q, xs, rfl, n, rs⟩ := rv3
    exact ⟨q, xs, rfl, SqT.of n.1, p1.tup wr1 rs.rev⟩
  | _ => exact p1.elim
end
end VS

set_option Elab.async false
set_option linter.all false
set_option maxRecDepth 100000
set_option maxHeartbeats 2000000
/-! VX15: the machine of list.sort(key=f), f's calls known by an invariant of their own; keys are ints. -/
namespace VS
open PySem PySem.Spec PyProof.Rows L2 PySem.W
open PySem.Calls
section
variable {prog : Program} {w : PySem.World} {A : Around} {E : Value → Shared → Prop} {s : Shared} {a kS : Addr} {vs : List Value} {keys : Array Value} {e e1 : Nat} {P : PySem.Fin → Shared → Prop} {ks : List Int} {J : Shared → Prop}
/-- what stays when all but the objects at a and kS stays -/
def JUp (J : Shared → Prop) (a kS : Addr) : Prop := ∀ (s : Shared) (h : Heap), J s → (∀ b o, b ≠ a → b ≠ kS → s.heap.get? b = some o → h.get? b = some o) → J { s with heap := h }
theorem keyJ_tail {st : SortSt} {out : List Value} (up : JUp J a kS) (j : J s) (nk : s.heap.get? kS = some (seqObj "list" keys e)) (na : s.heap.get? a = some (seqObj "list" #[] e1)) (hka : kS ≠ a)
    (hsz : keys.size ≤ sizeLine) (hz : out.length ≤ sizeLine) (hfl : failedOf st = none) (ho : (arrOf st).map (·.2) = out.toArray)
    (h : ∀ s' c, J s' → s'.heap.get? a = some (seqObj "list" out.toArray c) → P (.done (.ret .none)) s') :
    wpAny (model prog w) A (ksk_tail a false e1 (.ref kS) st) P E s := by
  have s1 := Heap.SameBut.update s.heap kS (Obj.mapSeq fun _ => (#[] : Array Value))
  have na1 : (s.heap.update kS (Obj.mapSeq fun _ => (#[] : Array Value))).get? a = some (seqObj "list" #[] e1) := (s1.2 a hka.symm).trans na
  have s2 := Heap.SameBut.update (s.heap.update kS (Obj.mapSeq fun _ => (#[] : Array Value))) a (Obj.mapSeq fun _ => out.toArray)
  obtain ⟨c2, hc2⟩ : ∃ c2, ((s.heap.update kS (Obj.mapSeq fun _ => (#[] : Array Value))).update a (Obj.mapSeq fun _ => out.toArray)).get? a = some (seqObj "list" out.toArray c2) := ⟨_, get?_update_seq na1 fun _ => out.toArray⟩
  have hz2 : out.toArray.size ≤ sizeLine + 1 := by
    rw [List.size_toArray]
    exact Nat.le_succ_of_le hz
  unfold ksk_tail
  try dsimp only
  simp only [Bool.false_eq_true, if_false]
  rw [ho]
  refine wpAny_bind (listUpdate_at nk rfl ?_ hsz (Nat.zero_le _))
  refine wpAny_bind (wpAny_letGo ?_)
  refine wpAny_bind (seqEpoch_at na1 rfl ?_)
  refine wpAny_bind (listUpdate_at na1 rfl ?_ (Nat.zero_le _) hz2)
  rw [hfl]
  simp only [bne_self_eq_false, Bool.false_eq_true, if_false]
  exact wpAny_pure (h _ c2 (up s _ j fun b o h1 h2 q => (s2.2 b h1).trans ((s1.2 b h2).trans q)) hc2)
theorem keyJ_end {κ : PyProof.Rows.KeyKind} (up : JUp J a kS) (j : J s) (nk : s.heap.get? kS = some (seqObj "list" keys e)) (na : s.heap.get? a = some (seqObj "list" #[] e1)) (hka : kS ≠ a)
    (S : SortsAt prog w A s κ keys.toList) (hsz : keys.size = vs.length) (hZ : vs.length ≤ sizeLine)
    (h : ∀ s' c, J s' → s'.heap.get? a = some (seqObj "list" (sortVals κ false keys.toList vs).toArray c) → P (.done (.ret .none)) s') :
    wpAny (model prog w) A (ksk_end a false vs.toArray e1 (.ref kS) keys) P E s := by
  obtain ⟨kd, h1, h2⟩ := S.kind
  have hkl : keys.toList.length = vs.length := by
    rw [Array.length_toList]
    exact hsz
  have hK : PyProof.Rows.KeysOf κ (keys.zip vs.toArray) := keysOf_zip S.keys
  have hol : (sortVals κ false keys.toList vs).length = vs.length := sortVals_length false hkl
  have hss : (keys.zip vs.toArray).size = vs.length := by rw [Array.size_zip, hsz, List.size_toArray, Nat.min_self]
  have fin : ∀ st' : SortSt, (arrOf st').Perm (keys.zip vs.toArray) → SortedToK κ (arrOf st') (keys.zip vs.toArray).size →
      Stable κ (arrOf st') (keys.zip vs.toArray) → (arrOf st').map (·.2) = (sortVals κ false keys.toList vs).toArray := by
    intro st' hp hs ht
    have e := sort_out (rev := false) (keys := keys) (items := vs.toArray) (xs := arrOf st') (κ := κ) hK (by simpa using hp) (by simpa using hs) (by simpa using ht)
    have e' := congrArg List.toArray e
    rw [Array.toArray_toList] at e'
    simpa using e'
  unfold ksk_end
  try dsimp only
  simp only [Bool.false_eq_true, if_false]
  by_cases hl2 : vs.toArray.size < 2
  · rw [if_pos hl2, if_pos hl2]
    refine wpAny_bind (wpAny_pure ?_)
    rw [StateT.run_pure]
    refine wpAny_bind (wpAny_pure ?_)
    try dsimp only
    refine keyJ_tail (st := SortSt.mk' general' (keys.zip vs.toArray) #[] 7 none) up j nk na hka (by rw [hsz]; exact hZ) (by rw [hol]; exact hZ) rfl (fin _ (Array.Perm.refl _) ?_ (Stable.refl _)) h
    intro i j hij hj
    rw [hss] at hj
    rw [List.size_toArray] at hl2
    have : i = j := by omega
    subst this
    exact KeyOrd.kle_refl _
  · rw [if_neg hl2, if_neg hl2]
    rw [List.size_toArray] at hl2
    refine wpAny_bind (h2 (by omega) _ ?_)
    refine wpAny_bind (wpAny_mono (H.wpS_sortRunsSt (κ := κ) (kd := kd) (a₀ := keys.zip vs.toArray)
      (st := SortSt.mk' kd (keys.zip vs.toArray) #[] 7 none)
      (Q := fun _ st' => failedOf st' = none ∧ (arrOf st').map (·.2) = (sortVals κ false keys.toList vs).toArray)
      h1 hK ⟨Array.Perm.refl _, rfl, rfl⟩ rfl (Stable.refl _) (by rw [hss]; omega) fun st' a1 a2 a3 a4 => ⟨a2, fin st' a1 a3 a4⟩) ?_ fun _ _ e => e)
    rintro ⟨⟨⟩, st'⟩ s' ⟨rfl, hf, ho⟩
    try dsimp only at ho ⊢
    exact keyJ_tail up j nk na hka (by rw [hsz]; exact hZ) (by rw [hol]; exact hZ) hf ho h
/-- a call f(x) that keeps the invariant and the two lists, and gives the key k -/
def KeyJ (J : Shared → Prop) (a kS : Addr) (oA oK : Obj) (k : Int) (v : Value) (s' : Shared) : Prop := J s' ∧ s'.heap.get? a = some oA ∧ s'.heap.get? kS = some oK ∧ ∃ t, v = .int k t
theorem reads_int {h : Heap} {k : Int} {t : Tok} : Reads h (.int k t) (.int k) [] := by
  first | exact .int | exact .int _ _ | (unfold Reads; first | exact ⟨_, rfl⟩ | exact ⟨⟨_, rfl⟩, rfl⟩ | rfl)
theorem keyJ_rest {f : Value} (up : JUp J a kS) (j : J s) (nk : s.heap.get? kS = some (seqObj "list" #[] 0)) (na : s.heap.get? a = some (seqObj "list" #[] e1)) (hka : kS ≠ a)
    (hlen : ks.length = vs.length) (hZ : vs.length ≤ sizeLine) (hu : A.units + 1 < cLine)
    (turn : ∀ (i : Nat) (v : Value) (k : Int), vs[i]? = some v → ks[i]? = some k → ∀ (s' : Shared) (oA oK : Obj), J s' → s'.heap.get? a = some oA → s'.heap.get? kS = some oK → (∃ xs n, oA = seqObj "list" xs n) → (∃ xs n, oK = seqObj "list" xs n) →
      wpAny (model prog w) A (call f [v]) (KeyJ J a kS oA oK k) (fun _ _ => False) s')
    (h : ∀ s' out c, J s' → s'.heap.get? a = some (seqObj "list" (List.toArray out) c) → KeyedOut false (ks.map PyData.int) vs out → P (.done (.ret .none)) s') :
    wpAny (model prog w) A (ksk_rest a f false vs.toArray e1 (.ref kS)) P E s := by
  have hal : AllAlike (ks.map PyData.int) := fun d hd d' hd' => by
    obtain ⟨i, _, rfl⟩ := List.mem_map.mp hd
    obtain ⟨j, _, rfl⟩ := List.mem_map.mp hd'
    rfl
  have hsk : PySem.W.Sortable (ks.map PyData.int) := .inr fun d hd => by
    obtain ⟨i, _, rfl⟩ := List.mem_map.mp hd
    exact ⟨(fun z => by cases z), (fun xs z => by cases z)⟩
  have hu' : ∀ d, d ∈ ks.map PyData.int → A.units + d.depth < cLine := fun d hd => by
    obtain ⟨i, _, rfl⟩ := List.mem_map.mp hd
    show A.units + (PyData.int i).depth < cLine
    simp [PyData.depth]
    omega
  unfold ksk_rest
  refine wpAny_bind (wpAny_rule ?_)
  first
    | rw [List.forIn_toArray]
    | (rw [← Array.forIn_toList]; simp only [List.toList_toArray])
    | rw [← Array.forIn_toList]
  refine wpAny_bind (ksk_fold (fun i s' => ∃ kA e, J s' ∧ s'.heap.get? kS = some (seqObj "list" kA e) ∧ s'.heap.get? a = some (seqObj "list" #[] e1) ∧ EachIs (fun v k => ∃ t, v = Value.int k t) kA.toList (ks.take i)) vs 0 s
    ⟨#[], 0, j, nk, na, by rw [List.take_zero]; exact EachIs.nil⟩ ?step ?done)
  case step =>
    rintro i x s' hx ⟨kA, e, j', nk', na', hk⟩
    simp only [Nat.zero_add] at hk ⊢
    have hj : i < vs.length := (List.getElem?_eq_some_iff.mp hx).1
    obtain ⟨k, hkj⟩ : ∃ k, ks[i]? = some k := ⟨_, List.getElem?_eq_getElem (by omega)⟩
    have hz : kA.size ≤ vs.length := by
      have h1 := hk.length
      rw [Array.length_toList, List.length_take] at h1
      omega
    refine wpAny_bind (wpAny_attempt (wpAny_mono (turn i x k hx hkj s' _ _ j' na' nk' ⟨_, _, rfl⟩ ⟨_, _, rfl⟩) (fun v s'' he => ?_) fun _ _ hF => hF.elim))
    obtain ⟨j2, na2, nk2, t, rfl⟩ := he
    try dsimp only
    have s1 := Heap.SameBut.update s''.heap kS (Obj.mapSeq (·.push (Value.int k t)))
    obtain ⟨c2, hc2⟩ : ∃ c2, (s''.heap.update kS (Obj.mapSeq (·.push (Value.int k t)))).get? kS = some (seqObj "list" (kA.push (Value.int k t)) c2) := ⟨_, get?_update_seq nk2 (·.push (Value.int k t))⟩
    have ek : ks.take (i + 1) = ks.take i ++ [k] := by rw [List.take_add_one, hkj]; simp
    have ea : (kA.push (Value.int k t)).toList = kA.toList ++ [Value.int k t] := by simp
    refine wpAny_bind (listUpdate_at nk2 rfl ?_ (Nat.le_trans hz hZ) (Nat.le_trans (Nat.le_of_eq (Array.size_push ..)) (Nat.succ_le_succ (Nat.le_trans hz hZ))))
    refine wpAny_pure ⟨rfl, kA.push (Value.int k t), c2, up _ _ j2 fun b o _ hb q => (s1.2 b hb).trans q, hc2, (s1.2 a hka.symm).trans na2, ?_⟩
    rw [ea, ek]
    exact each_snoc ⟨t, rfl⟩ hk
  case done =>
    rintro s' ⟨kA, e, j', nk', na', hk⟩
    have e3 : ks.take (0 + vs.length) = ks := List.take_of_length_le (by omega)
    rw [e3] at hk
    have hk' : EachIs (fun v k => ∃ as, Reads s'.heap v k as) kA.toList (ks.map PyData.int) := by
      have g : ∀ {us : List Value} {ns : List Int}, EachIs (fun v k => ∃ t, v = Value.int k t) us ns → EachIs (fun v k => ∃ as, Reads s'.heap v k as) us (ns.map PyData.int) := fun {us ns} z => by
        induction z with
        | nil => exact .nil
        | cons q _ ih =>
          obtain ⟨t, rfl⟩ := q
          exact .cons ⟨[], reads_int⟩ ih
      exact g hk
    have hsz : kA.size = vs.length := by
      have h1 := hk.length
      rw [Array.length_toList] at h1
      omega
    try dsimp only
    refine wpAny_bind (listItems_at nk' rfl ?_)
    exact keyJ_end (κ := dataKind s'.heap (ks.map PyData.int)) up j' nk' na' hka (SortsAt.data hk' hal hsk hu') hsz hZ fun s2 c j2 n2 => h s2 _ c j2 n2 ⟨s'.heap, kA.toList, hal, rfl, hk'⟩
theorem keyJ_tree {f : Value} {n : Nat} (ho : s.heap.get? a = some (seqObj "list" vs.toArray n)) (hk0 : s.heap.objs.size + 1 = kS) (up : JUp J a kS) (j : J s)
    (hlen : ks.length = vs.length) (hZ : vs.length ≤ sizeLine) (hu : A.units + 1 < cLine)
    (turn : ∀ (i : Nat) (v : Value) (k : Int), vs[i]? = some v → ks[i]? = some k → ∀ (s' : Shared) (oA oK : Obj), J s' → s'.heap.get? a = some oA → s'.heap.get? kS = some oK → (∃ xs n, oA = seqObj "list" xs n) → (∃ xs n, oK = seqObj "list" xs n) →
      wpAny (model prog w) A (call f [v]) (KeyJ J a kS oA oK k) (fun _ _ => False) s')
    (h : ∀ s' out c, J s' → s'.heap.get? a = some (seqObj "list" (List.toArray out) c) → KeyedOut false (ks.map PyData.int) vs out → P (.done (.ret .none)) s') :
    wpAny (model prog w) A (ksk_tree a f false) P E s := by
  have ha : a < s.heap.objs.size := Heap.lt_size ho
  obtain ⟨e1, ho1⟩ : ∃ e1, (s.heap.update a (Obj.mapSeq fun _ => (#[] : Array Value))).get? a = some (seqObj "list" #[] e1) := ⟨_, get?_update_seq ho fun _ => #[]⟩
  have hkS : ((s.heap.update a (Obj.mapSeq fun _ => (#[] : Array Value))).push (seqObj "tuple" vs.toArray 0)).objs.size = s.heap.objs.size + 1 := by rw [size_push', Heap.size_update]
  unfold ksk_tree
  refine wpAny_bind (listItems_at ho rfl ?_)
  refine wpAny_bind (listUpdate_at ho rfl ?_ (by rw [List.size_toArray]; exact hZ) (Nat.zero_le _))
  refine wpAny_bind (seqEpoch_at ho1 rfl ?_)
  refine wpAny_bind (wpAny_newTuple ?_ (by show vs.length ≤ _; exact hZ))
  refine wpAny_bind (wpAny_newList ?_ (Nat.zero_le _))
  refine wpAny_holding ?_
  have hka : kS ≠ a := by rw [← hk0]; exact Nat.ne_of_gt (Nat.lt_succ_of_lt ha)
  have eS : ((s.heap.update a (Obj.mapSeq fun _ => (#[] : Array Value))).push (seqObj "tuple" vs.toArray 0)).objs.size = kS := hkS.trans hk0
  show wpAny (model prog w) A (ksk_rest a f false vs.toArray e1 (.ref ((s.heap.update a (Obj.mapSeq fun _ => (#[] : Array Value))).push (seqObj "tuple" vs.toArray 0)).objs.size)) P E { s with heap := ((s.heap.update a (Obj.mapSeq fun _ => (#[] : Array Value))).push (seqObj "tuple" vs.toArray 0)).push (seqObj "list" #[] 0) }
  rw [eS]
  refine keyJ_rest (s := { s with heap := ((s.heap.update a (Obj.mapSeq fun _ => (#[] : Array Value))).push (seqObj "tuple" vs.toArray 0)).push (seqObj "list" #[] 0) }) up (up s _ j fun b o h1 h2 q => sortingHeap_old h1 q) (by rw [← eS]; exact Heap.get?_push_size _ rfl) (Heap.get?_push_of_some _ (Heap.get?_push_of_some _ ho1)) hka hlen hZ hu turn h
/-- sorted(xs, key=f) of a list at l -/
theorem sortedJ {l : Addr} {f : Addr} {Q : Value → Shared → Prop} (hl : s.heap.IsList l vs.toArray) (up : JUp J (s.heap.objs.size + 1) (s.heap.objs.size + 3)) (j : J { s with heap := copyHeap s.heap vs })
    (hlen : ks.length = vs.length) (hZ : vs.length ≤ sizeLine) (hu : A.units + 3 < cLine)
    (turn : ∀ (i : Nat) (v : Value) (k : Int), vs[i]? = some v → ks[i]? = some k → ∀ (s' : Shared) (oA oK : Obj), J s' → s'.heap.get? (s.heap.objs.size + 1) = some oA → s'.heap.get? (s.heap.objs.size + 3) = some oK → (∃ xs n, oA = seqObj "list" xs n) → (∃ xs n, oK = seqObj "list" xs n) →
      wpAny (model prog w) A.in1.in1 (call (.ref f) [v]) (KeyJ J (s.heap.objs.size + 1) (s.heap.objs.size + 3) oA oK k) (fun _ _ => False) s')
    (h : ∀ s' out c, J s' → s'.heap.get? (s.heap.objs.size + 1) = some (seqObj "list" (List.toArray out) c) → KeyedOut false (ks.map PyData.int) vs out → Q (.ref (s.heap.objs.size + 1)) s') :
    wpAny (model prog w) A (call (.builtin "sorted") [.ref l] [(Str.ofString "key", .ref f)]) Q E s := by
  refine sorted_of_sort hl hZ (by first | exact args_sorted_key _ _ | (unfold argsOk; kernel_rfl) | decide) (fun x => by first | exact args_list_sort_key _ _ | (unfold argsOk; kernel_rfl) | decide) fun E' => ?_
  rw [ksk_t1]
  have hsz : (copyHeap s.heap vs).objs.size = s.heap.objs.size + 2 := by
    unfold copyHeap
    rw [size_push', Heap.size_update, size_push']
  refine keyJ_tree (s := { s with heap := copyHeap s.heap vs }) (a := s.heap.objs.size + 1) (kS := s.heap.objs.size + 3) (copyHeap_at s.heap vs) (by show (copyHeap s.heap vs).objs.size + 1 = _; rw [hsz]) up j hlen hZ (by show A.units + 1 + 1 + 1 < cLine; omega) turn fun s' out c j' n' k' => ⟨rfl, h s' out c j' n' k'⟩
end
end VS

set_option Elab.async false
set_option linter.all false
set_option maxRecDepth 100000
set_option maxHeartbeats 2000000
/-! VX16: sorted(xs, key=lambda p: e), e an int, nothing changed by it. -/
namespace VS
open PySem PySem.Spec PyProof.Rows L2 LamX
section
variable {X : Cx} {pins : List (Addr × Obj)} {σ : L2.St} {H HZ : Hp} {s s1 : Shared}
/-- an object that stands already is taken in -/
theorem Inv.born {a : Addr} {o : HO} (I : L2.Inv X pins σ H s) (f : FpOk X pins H a) (new : ObjOk X.prog X.w (upd H a o) s.heap a o) : L2.Inv X pins σ (upd H a o) s := by
  obtain ⟨hn, f1, f2, f3, f4, f5⟩ := f
  have keepH : ∀ {b u}, H b = some u → (upd H a o) b = some u := fun {b u} e => by rw [upd_ne (ne_of_none e hn)]; exact e
  refine ⟨I.ok, I.os, I.bare, ⟨I.base.keep, I.base.slot, fun b ob q n hx => ?_, I.base.there, fun b xs e => keepH (I.base.tups b xs e), fun b ob u e => keepH (I.base.frzs b ob u e), fun b ps e => ?_⟩, I.loc, I.cell, by rw [upd_ne (Ne.symm f1)]; exact I.free, fun x c e => by rw [upd_ne (f4 x c e)]; exact I.freeC x c e, fun p hp => ?_, fun b u e => ?_, I.len⟩
  · have hb : b ≠ a := fun z => by
      subst z
      rcases f3 with z | z
      · exact hx z
      · exact absurd (Heap.lt_size q) (Nat.not_lt.mpr z)
    rw [upd_ne hb]
    exact I.base.free b ob q n hx
  · obtain ⟨more, q⟩ := I.base.tbls b ps e
    exact ⟨more, keepH q⟩
  · obtain ⟨h1, h2, h3, h4, h5⟩ := I.pin p hp
    exact ⟨h1, by rw [upd_ne (f5 p hp)]; exact h2, h3, h4, h5⟩
  · by_cases hb : b = a
    · subst hb; rw [upd_same] at e; cases e; exact new
    · rw [upd_ne hb] at e
      exact (I.hok b u e).stay (fun c v _ q => q) (fun c q => keepH q) fun c xs q => keepH q
/-! ### a lambda of one parameter -/
structure LamP (sc scope : Scope) (p : Str) : Prop where
  kind : scope.kind = .function
  co : scope.isCoroutine = false
  gen : scope.isGenerator = false
  own : ∀ y ∈ scope.names, y.2 ≠ .cell ∧ (y.2 = .local → y.1 = p)
  par : scope.names.lookup p = some .local
  free : ∀ y ∈ scope.names, y.2 = .free → sc.names.lookup y.1 = some .cell ∨ sc.names.lookup y.1 = some .free
def lamPB (sc scope : Scope) (p : Str) : Bool :=
  decide (scope.kind = .function) && (!scope.isCoroutine && (!scope.isGenerator && ((scope.names.all fun y => !decide (y.2 = .cell) && ((!decide (y.2 = .local) || decide (y.1 = p)) && (!decide (y.2 = .free) || (decide (sc.names.lookup y.1 = some .cell) || decide (sc.names.lookup y.1 = some .free))))) && decide (scope.names.lookup p = some .local))))
theorem lamP_by {sc scope : Scope} {p : Str} (h : lamPB sc scope p = true) : LamP sc scope p := by
  unfold lamPB at h
  simp only [Bool.and_eq_true, Bool.or_eq_true, Bool.not_eq_true', decide_eq_true_eq, decide_eq_false_iff_not, List.all_eq_true] at h
  obtain ⟨h1, h2, h3, h4, h5⟩ := h
  refine ⟨h1, h2, h3, fun y hy => ⟨(h4 y hy).1, fun e => ?_⟩, h5, fun y hy e => ?_⟩
  · rcases (h4 y hy).2.1 with z | z
    · exact absurd e z
    · exact z
  · rcases (h4 y hy).2.2 with z | z | z
    · exact absurd e z
    · exact .inl z
    · exact .inr z
theorem LamP.has {X : Cx} {scope : Scope} {p : Str} (L : LamP X.env.scope scope p) (ok : X.Ok) : ∀ y ∈ scope.names, y.2 = .free → ∃ c, X.env.cells.lookup y.1 = some c := fun y hy e => by
  rcases L.free y hy e with k | k
  · exact ok.has _ (.inl k)
  · exact ok.has _ (.inr k)
/-- the context of its body -/
abbrev lamPCx (X : Cx) (A : Around) (outer : List PySem.Env) (s : Shared) (H : Hp) (E : XK) (scope : Scope) (f c' : Addr) (p : Str) : Cx := { LamX.lamCx X A outer s H E scope f c' with N := X.N ++ [p] }
theorem lamP_start {A : Around} {outer : List PySem.Env} {E : XK} {scope : Scope} {f c' : Addr} {p : Str} {h₁ : Heap} {tk : Nat} {pv : V} {u : Value} (I : L2.Inv X pins σ H s) (L : LamP X.env.scope scope p) (e0 : Env0 X.prog X.w X.K X.mg X.base A outer s1 HZ) (hd : A.handled = none) (hp : p ∉ X.N) (rv : L2.RelV pv u)
    (un : Un (frs X.stack) [] H HZ s.heap s1.heap) (hns : h₁.Ns s1.heap.objs.size fun y => ([(p, u)] : List (Str × Value)).reverse.lookup y) (kp : ∀ b o, s1.heap.get? b = some o → h₁.get? b = some o) :
    L2.Inv (lamPCx X A outer s1 HZ E scope f c' p) [] (σ ++ [some pv]) HZ { s1 with heap := h₁, toks := tk } := by
  have hfree := L.has I.ok
  have cm : ∀ {y c}, (cloFrom X.env.cells scope.names []).lookup y = some c → X.env.cells.lookup y = some c := fun {y c} e => by
    rcases cloFrom_mem (PySem.mem_of_lookup e) with hm | ⟨h1, h2⟩
    · cases hm
    · obtain ⟨c1, hc⟩ := hfree _ h1 rfl
      have hc : X.env.cells.lookup y = some c1 := hc
      have e2 : c = c1 := by
        rw [h2, hc] <;> rfl
      rw [e2]
      exact hc
  have look : ∀ {y}, scope.names.lookup y = some .free → ∃ c, (cloFrom X.env.cells scope.names []).lookup y = some c := fun {y} hl => by
    have hy : (y, NameKind.free) ∈ scope.names := PySem.mem_of_lookup hl
    exact mem_lookup (cloFrom_has (cells := X.env.cells) (acc := []) hy)
  have cellK : ∀ {c : Addr} {v : Option Value}, H c = none → s.heap.IsCell c v → h₁.IsCell c v := fun {c v} n ⟨o, ho, hd⟩ => by
    obtain ⟨sl, q⟩ := un.any ho n (by simp)
    exact ⟨_, kp _ _ q, hd⟩
  have noA : ∀ b : Addr, b ∉ (lamPCx X A outer s1 HZ E scope f c' p).ex := fun b z => absurd (show b ∈ ([] : List Addr) from z) (by simp)
  refine ⟨⟨e0.mod, L.kind, rfl, rfl, Nat.le_refl _, fun y z c e1 e2 => I.ok.inj y z c (cm e1) (cm e2), fun y hy => ?_, fun y c z _ => ?_, fun _ => hd, Around.frames_deeper e0.frames, .inr ⟨rfl, rfl⟩, fun b z => absurd z (noA b), e0.bs, e0.bsz, fun b _ _ => noA b,
      fun b z => absurd z (noA b), e0.funs, e0.frf⟩,
    rfl, e0.bare, Un.kept kp, ⟨_, hns, fun i y v e1 e2 e3 => ?_⟩, fun y c e => ?_, e0.hok.fresh (Nat.le_refl _), fun y c e => ?_, fun q hq => absurd (show q ∈ ([] : List (Addr × Obj)) ++ [] from hq) (by simp), e0.hok.kept kp, by rw [List.length_append, List.length_append, I.len]; rfl⟩
  · have hy : scope.names.lookup y = some .cell ∨ scope.names.lookup y = some .free := hy
    rcases hy with hy | hy
    · exact absurd rfl (L.own _ (PySem.mem_of_lookup hy)).1
    · exact look hy
  · have z : false = true := z
    cases z
  · have e1 : (X.N ++ [p])[i]? = some y := e1
    by_cases hi : i < X.N.length
    · rw [List.getElem?_append_left hi] at e1
      rw [List.getElem?_append_left (by rw [I.len]; exact hi)] at e2
      have e3 : Vis scope y := e3
      rcases e3 with k | k | k
      · have : y = p := (L.own _ (PySem.mem_of_lookup k)).2 rfl
        exact absurd (List.mem_of_getElem? e1) (this ▸ hp)
      · exact absurd rfl (L.own _ (PySem.mem_of_lookup k)).1
      · obtain ⟨m, hn, hl⟩ := I.loc
        have hvis : Vis X.env.scope y := (L.free _ (PySem.mem_of_lookup k) rfl).elim (fun k => .inr (.inl k)) (fun k => .inr (.inr k))
        obtain ⟨w', r, q⟩ := hl i y v e1 e2 hvis
        obtain ⟨c2, h2⟩ := look k
        refine ⟨w', r, .inr ⟨.inr k, c2, h2, ?_⟩⟩
        have c1 := cm h2
        rcases q with ⟨k', _⟩ | ⟨_, c3, e', z⟩
        · have k' : X.env.scope.names.lookup y = some .local := k'
          rcases L.free _ (PySem.mem_of_lookup k) rfl with k2 | k2 <;> rw [show X.env.scope.names.lookup y = _ from k2] at k' <;> cases k'
        · rw [c1] at e'
          cases e'
          exact cellK (I.freeC y _ c1) z
    · have hii : i = X.N.length := by
        have h1 := (List.getElem?_eq_some_iff.mp e1).1
        rw [List.length_append] at h1
        have : [p].length = 1 := rfl
        omega
      subst hii
      rw [List.getElem?_append_right (Nat.le_refl _), Nat.sub_self] at e1
      rw [← I.len, List.getElem?_append_right (Nat.le_refl _), Nat.sub_self] at e2
      have ey : p = y := Option.some.inj e1
      have ev : pv = v := Option.some.inj (Option.some.inj e2)
      subst ey ev
      exact ⟨u, rv, .inl ⟨L.par, by simp⟩⟩
  · obtain ⟨w', z⟩ := I.cell y c (cm e)
    exact ⟨w', cellK (I.freeC y c (cm e)) z⟩
  · obtain ⟨v, o, ho, hd⟩ := I.cell y c (cm e)
    exact un.free c o ho (I.freeC y c (cm e)) (by simp)
/-- the lambda is called by a built-in function -/
theorem call_key {A : Around} {scope : Scope} {f co : Addr} {p : Str} {k : Nat} {ar : Arguments} {bd : Expr} {pm ct : Value} {pv : V} {u : Value} {tb : TE} {Q : VK} (I : L2.Inv X pins σ H s) (L : LamP X.env.scope scope p) (e0 : Env0 X.prog X.w X.K X.mg X.base A X.stack s H)
    (hf : s.heap.get? f = some (lamF X ar bd scope pm ct co)) (hco : H co = some (CodeO co (X.env.qual ++ "<lambda>"))) (hr : Room (k + 1) A)
    (bnd : ∀ (q : Str) (cl : List (Str × Addr)) (m1 m2 m3 u : Value), bindArgs (PySem.W.kla_fn "<lambda>" q ar bd scope cl m1 m2 m3) ⟨[u], []⟩ = pure [(p, u)])
    (hp : p ∉ X.N) (rv : L2.RelV pv u) (bdy : ∀ (s : Shared), Room k (A.deeper (lamEnv X scope s.heap.objs.size f co)) → PE (lamPCx X A X.stack s H (fun _ _ _ => False) scope f co p) bd tb) (ht : tb (σ ++ [some pv]) H Q) :
    wpAny (model X.prog X.w) A (call (.ref f) [u]) (EP X pins σ Q) (fun _ _ => False) s := by
  obtain ⟨⟨oc, vs, tt, c1, c2, c3⟩, _⟩ := I.hok co _ hco
  have go : codeAny (model X.prog X.w) A (.call (.ref f) ⟨[u], []⟩) (CR (L2.CX X.prog X.w) X.stack X.prog X.w H s Q (fun _ _ _ => False)) s := by
    refine PySem.W.kla_callFunE hr.depth hf rfl L.co L.gen rfl ⟨co, oc, vs, tt, rfl, c1, c2, c3⟩ ?_
    rw [bnd]
    refine wpAny_pure (wpAny_newFunctionEnv (fun y hy => (L.own y hy).1) (fun y hy => by rw [List.mem_singleton.mp hy]; exact L.par) (fun h1 ns sb => ⟨I.nolimit.fresh _ sb, ?_⟩) L.kind)
    have kp : ∀ b o, s.heap.get? b = some o → h1.get? b = some o := fun b o e => sb.extBut b o (Nat.ne_of_lt (Heap.lt_size e)) (Heap.get?_push_of_some _ e)
    refine PySem.W.kla_codeExpr (wpAny_mono ((bdy s (hr.deeper _)).run [] _ _ H Q (lamP_start I L e0 hr.hd hp rv Un.refl ns kp) ht) (fun v t ⟨w', J', I2, rv2, q2⟩ => ?_) fun _ _ z => z)
    exact ⟨w', J', I2.os, I2.bare, I2.base, I2.hok, rv2, q2⟩
  refine wpAny_call (codeAny_mono go fun r t z => ?_)
  match r, z with
  | .error e, z => obtain ⟨_, _, _, _, _, _, _, _, _, _, _, _, z⟩ := z; exact z.elim
  | .ok (.ret u), z => exact I.after z
end
end VS

set_option Elab.async false
set_option linter.all false
set_option maxRecDepth 100000
set_option maxHeartbeats 2000000
/-! VX17: sorted(xs, key=lambda p: e) as a fresh list. -/
namespace VS
open PySem PySem.Spec PyProof.Rows L2 LamX
open PySem.W (EachIs KeyedOut copyHeap copyHeap_old keyedOut_each sort_maps)
/-- sorted by a key that changes nothing; the key's last slot is the item -/
noncomputable def mSortK (a key : ME) : MF := fun ρ w => (a ρ w).bind fun t w1 => match lst? w1 t with
  | some ts => (open Classical in if h : ∃ k : T → Int, ∀ t ∈ ts, key (ρ ++ [some t]) w1 = .ok (.int (k t)) w1 then .ok (ts.mergeSort fun x y => decide (h.choose x ≤ h.choose y)) w1 else .no)
  | none => .no
theorem SR.snoc {K : KT} {hd φ : List Addr} {H : Hp} {σ : L2.St} {ρ : Env} {t : T} {v : V} (h : SR K hd φ H σ ρ) (r : Rep K hd φ H t v) : SR K hd φ H (σ ++ [some v]) (ρ ++ [some t]) := by
  refine ⟨by rw [List.length_append, List.length_append, h.len]; rfl, fun i u hu => ?_⟩
  by_cases hi : i < ρ.length
  · rw [List.getElem?_append_left hi] at hu
    obtain ⟨v', h1, h2⟩ := h.get i u hu
    exact ⟨v', by rw [List.getElem?_append_left (by rw [h.len]; exact hi)]; exact h1, h2⟩
  · have hii : i = ρ.length := by
      have h1 := (List.getElem?_eq_some_iff.mp hu).1
      rw [List.length_append] at h1
      have : [some t].length = 1 := rfl
      omega
    subst hii
    rw [List.getElem?_append_right (Nat.le_refl _), Nat.sub_self] at hu
    have e : t = u := Option.some.inj (Option.some.inj hu)
    subst e
    refine ⟨v, ?_, r⟩
    rw [← h.len, List.getElem?_append_right (Nat.le_refl _), Nat.sub_self]
    rfl
theorem codeO_cell {K : KT} {hd φ : List Addr} {H : Hp} {w : World} {co : Addr} {q : Str} {P : Program} {pw : PySem.World} {hp : Heap} (ok : HOk P pw H hp) (wr : WR K hd φ H w) (h : H co = some (CodeO co q)) : co ∉ φ := fun z => by
  obtain ⟨k, hk⟩ := List.getElem?_of_mem z
  have hl := (List.getElem?_eq_some_iff.mp hk).1
  have hkw : k < w.length := by rw [← wr.len]; exact hl
  obtain ⟨x, hw⟩ : ∃ x, w[k]? = some x := ⟨w[k], List.getElem?_eq_getElem hkw⟩
  have c := wr.cells k _ co hw hk
  cases x with
  | lst ts => obtain ⟨xs, h1, _⟩ := c; rw [h] at h1; cases h1
  | dic kvs => obtain ⟨ys, h1, _⟩ := c; rw [h] at h1; cases h1
  | dit kvs => obtain ⟨ys, h1, _⟩ := c; rw [h] at h1; cases h1
  | din kvs =>
    obtain ⟨ys, h1, _⟩ := c
    obtain ⟨⟨_, _, _, xs, _, o, es, ep, a1, _, a2, _⟩, _⟩ := ok co _ h1
    obtain ⟨⟨oc, vs, t, b1, b2, _⟩, _⟩ := ok co _ h
    rw [a1] at b1
    cases b1
    rw [a2] at b2
    cases b2
  | obj x ks ts => first | (obtain ⟨_, _, _, h1, _⟩ := c; rw [h] at h1; cases h1) | (unfold CellR at c; obtain ⟨_, _, _, _, h1, _⟩ := c; rw [h] at h1; cases h1) | (unfold CellR at c; obtain ⟨_, _, _, _, _, h1, _⟩ := c; rw [h] at h1; cases h1)
theorem vals_get {xs : List V} {us : List Value} (h : Vals xs us) {i : Nat} {u : Value} (hu : us[i]? = some u) : ∃ x, xs[i]? = some x ∧ L2.RelV x u := by
  induction h generalizing i with
  | nil => simp at hu
  | cons r _ ih =>
    cases i with
    | zero => exact ⟨_, rfl, by simp at hu; subst hu; exact r⟩
    | succ i => exact ih (by simpa using hu)
theorem reps_get {K : KT} {hd φ : List Addr} {H : Hp} : ∀ {ts : List T} {xs : List V} {i : Nat} {t : T} {x : V}, Reps K hd φ H ts xs → ts[i]? = some t → xs[i]? = some x → Rep K hd φ H t x
  | [], _, i, t, x, _, h1, _ => by simp at h1
  | t0 :: ts, xs, i, t, x, h, h1, h2 => by
    unfold Reps at h
    obtain ⟨v, vs, rfl, g1, g2⟩ := h
    cases i with
    | zero => simp at h1 h2; subst h1 h2; exact g1
    | succ i => exact reps_get g2 (by simpa using h1) (by simpa using h2)
/-- what comes out, item by item -/
theorem sort_out {K : KT} {hd φ : List Addr} {H : Hp} {ts : List T} {xs : List V} {vs out : List Value} (key : T → Int) (rs : Reps K hd φ H ts xs) (rv : Vals xs vs) (ko : KeyedOut false ((ts.map key).map PyData.int) vs out) :
    ∃ ys : List V, Vals ys out ∧ Reps K hd φ H (ts.mergeSort fun x y => decide (key x ≤ key y)) ys := by
  have hl : ts.length = xs.length := rs.len
  have hk : (ts.map key).map PyData.int = (ts.zip xs).map fun p => PyData.int (key p.1) := by
    have e : ts = (ts.zip xs).map Prod.fst := (List.map_fst_zip (by omega)).symm
    conv => lhs; rw [e]
    rw [List.map_map, List.map_map]
    rfl
  rw [hk] at ko
  have hR : EachIs (fun (v : Value) (p : T × V) => L2.RelV p.2 v ∧ Rep K hd φ H p.1 p.2) vs (ts.zip xs) := by
    have g : ∀ {ts : List T} {xs : List V} {vs : List Value}, Reps K hd φ H ts xs → Vals xs vs → EachIs (fun (v : Value) (p : T × V) => L2.RelV p.2 v ∧ Rep K hd φ H p.1 p.2) vs (ts.zip xs) := fun {ts} => by
      induction ts with
      | nil =>
        intro xs vs h1 h2
        unfold Reps at h1
        subst h1
        cases h2
        exact .nil
      | cons t ts ih =>
        intro xs vs h1 h2
        unfold Reps at h1
        obtain ⟨v, vs', rfl, g1, g2⟩ := h1
        cases h2 with
        | cons r rr => exact .cons ⟨r, g1⟩ (ih g2 rr)
    exact g rs rv
  have ho := keyedOut_each (fun p : T × V => PyData.int (key p.1)) ko hR
  have hm : ((ts.zip xs).mergeSort (PySem.W.dataLe false fun p : T × V => PyData.int (key p.1))).map Prod.fst = ts.mergeSort fun x y => decide (key x ≤ key y) := by
    rw [PySem.W.dataLe_int]
    rw [sort_maps (s := fun x y => decide (key x ≤ key y)) Prod.fst (fun _ _ _ _ => rfl), List.map_fst_zip (by omega)]
  refine ⟨((ts.zip xs).mergeSort (PySem.W.dataLe false fun p : T × V => PyData.int (key p.1))).map Prod.snd, ?_, ?_⟩
  · have g : ∀ {out : List Value} {ps : List (T × V)}, EachIs (fun (v : Value) (p : T × V) => L2.RelV p.2 v ∧ Rep K hd φ H p.1 p.2) out ps → Vals (ps.map Prod.snd) out := fun {out ps} z => by
      induction z with
      | nil => exact .nil
      | cons q _ ih => exact .cons q.1 ih
    exact g ho
  · rw [← hm]
    have g : ∀ {out : List Value} {ps : List (T × V)}, EachIs (fun (v : Value) (p : T × V) => L2.RelV p.2 v ∧ Rep K hd φ H p.1 p.2) out ps → Reps K hd φ H (ps.map Prod.fst) (ps.map Prod.snd) := fun {out ps} z => by
      induction z with
      | nil => exact Reps.nil
      | cons q _ ih => exact Reps.cons q.2 ih
    exact g ho
theorem df_sortK {X : Cx} {Z : ZT} {W : Option WX} {ma mk : ME} {p : Str} {k : Nat} {a : Expr} {params : Arguments} {body : Expr} {scope : Scope} {p0 lpos kpos pos : Pos} (L : LamAt Z X.base X.mg X.env.code (X.env.qual ++ "<lambda>")) (hr : Room (k + 4) X.A) (hm : X.mg "sorted" = none) (ha : PE X a (rdE (X.K, Z) W ma))
    (hbody : ∀ (A : Around) (outer : List PySem.Env) (s : Shared) (H : Hp) (f c' : Addr), Room k (A.deeper (LamX.lamEnv X scope s.heap.objs.size f c')) → PE (lamPCx X A outer s H (fun _ _ _ => False) scope f c' p) body (rdE (X.K, Z) none mk))
    (LP : lamPB X.env.scope scope p = true := by decide +kernel) (hp : p ∉ X.N := by decide +kernel) (hg : Gl X "sorted" := by rfl) (hdef : defaultsOf params X.env = ([], []) := by rfl)
    (bnd : ∀ (q : Str) (cl : List (Str × Addr)) (m1 m2 m3 u : Value), bindArgs (PySem.W.kla_fn "<lambda>" q params body scope cl m1 m2 m3) ⟨[u], []⟩ = pure [(p, u)] := by intros; rfl)
    (he : backTo pos (starEach [a] X.env) = (false, eval a X.env) :: backTo pos (starEach [] X.env) := by rfl) (hpl : (backTo pos (starEach [a] X.env)).any (·.1) = false := by rfl) (hs : starEach [a] X.env = (false, eval a X.env) :: starEach [] X.env := by rfl) :
    PE X (.Call (.Name "sorted" p0) [a] [⟨some "key", .Lambda params body scope lpos, kpos⟩] pos) (rdF (X.K, Z) W (mSortK ma mk)) := by
  obtain ⟨c, P, hcode, TB, mZ, uZ⟩ := L.ex
  have LS := lamP_by LP
  refine ⟨fun pins s σ H Q I h => ?_⟩
  obtain ⟨hd, φ, ρ, w, sr, wr, hP⟩ := h
  have h1 : rdE (X.K, Z) W ma σ H (fun v H1 => ∃ φ1 t w1, Ext hd φ H hd φ1 H1 ∧ WR (X.K, Z) hd φ1 H1 w1 ∧ Rep (X.K, Z) hd φ1 H1 t v ∧ PstF (X.K, Z) W hd Q φ1 H1 (match lst? w1 t with
      | some ts => (open Classical in if h : ∃ k : T → Int, ∀ t ∈ ts, mk (ρ ++ [some t]) w1 = .ok (.int (k t)) w1 then .ok (ts.mergeSort fun x y => decide (h.choose x ≤ h.choose y)) w1 else .no)
      | none => .no)) := ⟨hd, φ, ρ, w, sr, wr, Pst.then isPstF hP fun t w1 φ1 H1 e1 wr1 p1 v rv => ⟨φ1, t, w1, e1, wr1, rv, p1⟩⟩
  refine wpAny_Call_Name_kw (ld_blt I hg hm PyProof.Rows.boot_sorted ?_ (by decide) (by decide))
  refine PyProof.Rows.callWith_kw (thn ((pa_cons ha pa_nil hs).run pos pins s σ H (fun vs H1 => ∃ v, vs = [v] ∧ ∃ φ1 t w1, Ext hd φ H hd φ1 H1 ∧ WR (X.K, Z) hd φ1 H1 w1 ∧ Rep (X.K, Z) hd φ1 H1 t v ∧ PstF (X.K, Z) W hd Q φ1 H1 (match lst? w1 t with
      | some ts => (open Classical in if h : ∃ k : T → Int, ∀ t ∈ ts, mk (ρ ++ [some t]) w1 = .ok (.int (k t)) w1 then .ok (ts.mergeSort fun x y => decide (h.choose x ≤ h.choose y)) w1 else .no)
      | none => .no)) I ?_) fun us s1 ⟨vs, H1, I1, r1, v, ev, φ1, t, w1, e1, wr1, rv, p1⟩ => ?_) he hpl (by rfl) (by rfl)
  · obtain ⟨hd', φ', ρ', w', a1, a2, a3⟩ := h1
    exact ⟨hd', φ', ρ', w', a1, a2, by
      revert a3
      refine fun a3 => ?_
      cases q : ma ρ' w' with
      | no => rw [q] at a3; exact a3
      | ex t ρ2 w2 => rw [q] at a3; exact a3
      | ok d w2 =>
        rw [q] at a3
        intro H' φ2 ee ww
        have := a3 H' φ2 ee ww
        intro v rv
        exact ⟨v, rfl, this v rv⟩⟩
  · subst ev
    cases r1 with
    | cons r rr =>
      cases rr
      cases q1 : lst? w1 t with
      | none => rw [q1] at p1; exact p1.elim
      | some ts =>
        rw [q1] at p1
        simp only at p1
        split at p1
        · rename_i hk
          obtain ⟨key, hkey⟩ : ∃ key, key = hk.choose := ⟨_, rfl⟩
          have hkk : ∀ t ∈ ts, mk (ρ ++ [some t]) w1 = .ok (.int (key t)) w1 := by rw [hkey]; exact hk.choose_spec
          rw [← hkey] at p1
          show wpAny _ _ (evalAll ((do let v ← eval (.Lambda params body scope lpos) X.env; standAt pos; pure v) :: [])) _ _ s1
          refine wpAny_evalAll_cons (wpAny_bind (lam_make2 I1 TB hcode mZ uZ wr1.tabs hdef (LS.has I1.ok) fun f co pm ct H2 s2 I2 eN T2 f1 f2 f3 c1 => wpAny_bind (wpAny_standAt (wpAny_pure (wpAny_evalAll_nil ?_)))))
          have e2 : Ext hd φ1 H1 hd φ1 H2 := Ext.tables eN
          have wr2 : WR (X.K, Z) hd φ1 H2 w1 := wr1.tables eN T2
          obtain ⟨l, xs, ex, hx, rs⟩ := lst_at wr2 (rv.mono e2) q1
          subst ex
          cases r
          obtain ⟨its, rvs, pl, hz⟩ := I2.list (SqL.of (K := X.K) hx)
          have hlen : its.length = xs.length := rvs.length.symm
          have htl : ts.length = xs.length := rs.len
          have hfs : f < s2.heap.objs.size := Heap.lt_size f1
          have hfl : f ≠ X.env.locals := fun z => by
            obtain ⟨m, ⟨o', es, ep, ho', hd', _⟩, _⟩ := I2.loc
            rw [← z, f1] at ho'
            cases ho'
            cases hd'
          have hff : f ∉ X.fs := fun z => f3 (by
            rcases I2.ok.stk with q | ⟨q, _⟩
            · rw [q]; exact z
            · rw [q]
              unfold frs
              rw [List.filterMap_cons]
              cases X.env.frame with
              | none => exact z
              | some _ => exact List.mem_cons_of_mem _ z)
          show wpAny _ _ (call (.builtin "sorted") [.ref l] [(Str.ofString "key", .ref f)]) _ _ s2
          refine sortedJ (ks := ts.map key) (J := fun s' => ∃ φ3 H3, Ext hd φ1 H2 hd φ3 H3 ∧ WR (X.K, Z) hd φ3 H3 w1 ∧ L2.Inv X pins σ H3 s' ∧ FpOk X pins H3 (s2.heap.objs.size + 1) ∧ FpOk X pins H3 (s2.heap.objs.size + 3) ∧ s'.heap.get? f = some (lamF X params body scope pm ct co) ∧ H3 f = none)
            pl.isList ?up ?start (by rw [List.length_map]; omega) (by rw [hlen]; exact hz) (by have := hr.un; omega) ?turn ?fin
          case up =>
            rintro s' h' ⟨φ3, H3, e3, wr3, I3, fa, fk, hf, hfn⟩ kp
            refine ⟨φ3, H3, e3, wr3, I3.turnedL (t' := s'.toks) (ch := [s2.heap.objs.size + 1, s2.heap.objs.size + 3]) (fun b o hb q => kp b o (fun z => hb (by simp [z])) (fun z => hb (by simp [z])) q) (fun b hb => ?_), fa, fk, kp f _ (Nat.ne_of_lt (Nat.lt_trans hfs (by omega))) (Nat.ne_of_lt (Nat.lt_trans hfs (by omega))) hf, hfn⟩
            simp only [List.mem_cons, List.not_mem_nil, or_false] at hb
            rcases hb with rfl | rfl
            · exact fa
            · exact fk
          case start =>
            exact ⟨φ1, H2, Ext.refl, wr2, I2.kept (t' := s2.toks) (fun b o q => copyHeap_old q), I2.fpOk (show s2.heap.objs.size ≤ s2.heap.objs.size + 1 by omega) (I2.hok.fresh (show s2.heap.objs.size ≤ s2.heap.objs.size + 1 by omega)), I2.fpOk (show s2.heap.objs.size ≤ s2.heap.objs.size + 3 by omega) (I2.hok.fresh (show s2.heap.objs.size ≤ s2.heap.objs.size + 3 by omega)), copyHeap_old f1, f2⟩
          case turn =>
            rintro i v kk hv hkv s' oA oK ⟨φ3, H3, e3, wr3, I3, fa, fk, hf, hfn⟩ hA hK ⟨xa, na, rfl⟩ ⟨xk, nk, rfl⟩
            obtain ⟨x, hx', rx⟩ := vals_get rvs hv
            have hi : i < ts.length := by rw [htl]; exact (List.getElem?_eq_some_iff.mp hx').1
            obtain ⟨t, ht⟩ : ∃ t, ts[i]? = some t := ⟨ts[i], List.getElem?_eq_getElem hi⟩
            rw [List.getElem?_map, ht] at hkv
            have hkv : key t = kk := Option.some.inj hkv
            have rt := (reps_get rs ht hx').mono e3
            have hco : H3 co = some (CodeO co (X.env.qual ++ "<lambda>")) := e3.keep co _ c1 (codeO_cell I2.hok wr2 c1) codeO_ne
            have I4 : L2.Inv X (pins ++ [(s2.heap.objs.size + 1, seqObj "list" xa na), (s2.heap.objs.size + 3, seqObj "list" xk nk), (f, lamF X params body scope pm ct co)]) σ H3 s' := I3.pins_of fun q hq => by
              rcases List.mem_append.mp hq with hq | hq
              · exact I3.pin q (List.mem_append_right _ hq)
              · simp only [List.mem_cons, List.not_mem_nil, or_false] at hq
                rcases hq with rfl | rfl | rfl
                · exact ⟨hA, fa.1, fa.2.1, fa.2.2.1, fun v z => by cases z⟩
                · exact ⟨hK, fk.1, fk.2.1, fk.2.2.1, fun v z => by cases z⟩
                · exact ⟨hf, hfn, hfl, hff, fun v z => by cases z⟩
            have go := call_key (A := X.A.in1.in1) (tb := rdE (X.K, Z) none mk) (Q := fun v' H' => v' = V.int (key t) ∧ ∃ φ', Ext hd φ3 H3 hd φ' H' ∧ WR (X.K, Z) hd φ' H' w1) I4 LS I4.env0.in1.in1 hf hco ((hr.in1.in1).mono (by omega)) bnd hp rx
              (fun s hr => hbody _ _ s H3 f co hr) ⟨hd, φ3, ρ ++ [some t], w1, SR.snoc (sr.mono ((e1.trans e2).trans e3)) rt, wr3, by
                rw [hkk t (List.mem_of_getElem? ht)]
                intro H' φ' e' wr' v' rv'
                unfold Rep at rv'
                exact ⟨rv', φ', e', wr'⟩⟩
            refine wpAny_mono go (fun u' s'' hq => ?_) fun _ _ z => z
            obtain ⟨v', H', I5, rv', hv', φ', e5, wr5⟩ := hq
            subst hv'
            have pA := I5.pin (s2.heap.objs.size + 1, seqObj "list" xa na) (by simp)
            have pK := I5.pin (s2.heap.objs.size + 3, seqObj "list" xk nk) (by simp)
            have pf := I5.pin (f, lamF X params body scope pm ct co) (by simp)
            refine ⟨⟨φ', H', e3.trans e5, wr5, I5.pins_of (fun q hq => I5.pin q (List.mem_append_right _ (List.mem_append_left _ hq))), ⟨pA.2.1, fa.2⟩, ⟨pK.2.1, fk.2⟩, pf.1, pf.2.1⟩, pA.1, pK.1, ?_⟩
            obtain ⟨tk, rfl⟩ := rv'
            exact ⟨tk, by rw [hkv]⟩
          case fin =>
            rintro s' out cc ⟨φ3, H3, e3, wr3, I3, fa, fk, hf, hfn⟩ hA ko
            obtain ⟨ys, rv', rs'⟩ := sort_out key (rs.mono e3) rvs ko
            have hyl : ys.length ≤ sizeLine := by
              have := rs'.len
              rw [List.length_mergeSort] at this
              omega
            exact ⟨.ref (s2.heap.objs.size + 1), upd H3 (s2.heap.objs.size + 1) (.lst ys), Inv.born I3 fa ⟨hyl, out, cc, rv', hA⟩, rfl, PstF.new (isPstF.mono _ _ _ _ _ (e2.trans e3) p1) wr3 rs' _ fa.1⟩
        · exact p1.elim
end VS

set_option Elab.async false
set_option linter.all false
set_option maxRecDepth 100000
set_option maxHeartbeats 2000000
/-! VX18: x in range(a, b), x not in range(a, b); str of an int. -/
namespace VS
open PySem PySem.Spec PyProof.Rows L2
theorem notIn_of_in {M : Model} {A : Around} {E : Value → Shared → Prop} {s : Shared} {a b : Value} {Q : Value → Shared → Prop} (h : wpAny M A (compareOp .In a b) (fun v s => ∃ k, v = .bool k ∧ Q (.bool (!k)) s) E s) : wpAny M A (compareOp .NotIn a b) Q E s := by
  intro Γ p hΓ
  have h1 := h Γ p hΓ
  rw [show compareOp .In a b = Sem.bind (contains b a) (fun k => Sem.pure (.bool k)) from rfl, Sem.wp_bind] at h1
  rw [show compareOp .NotIn a b = Sem.bind (contains b a) (fun k => Sem.pure (.bool (!k))) from rfl, Sem.wp_bind]
  simp only [Sem.wp_pure] at h1 ⊢
  exact Sem.wp_mono M Γ (contains b a) (fun k p' s' h => by obtain ⟨k', e, q⟩ := h; cases e; exact q) (fun _ _ _ q => q) p s h1
section
variable {X : Cx} {K : KT} {hd φ : List Addr} {H : Hp} {w : World} {e a b c : Expr} {es : List Expr} {pos p p2 q : Pos} {ma mb m0 : ME} {m : MF} {tg : Expr} {Z : ZT} {W : Option WX}
theorem op_notin_rng : OpR X (compareOp .NotIn) fun x y H Q => ∃ i a lo hi, x = V.int i ∧ y = V.ref a ∧ H a = some (HO.rng lo hi) ∧ Q (V.bl (!decide (lo ≤ i ∧ i < hi))) H := by
  intro pins s σ H x y v u Q I rx ry h
  obtain ⟨i, a, lo, hi, rfl, rfl, hH, q⟩ := h
  refine notIn_of_in ?_
  have := op_in_rng (X := X) pins s σ H (V.int i) (V.ref a) v u (fun z H' => ∃ k, z = V.bl k ∧ Q (V.bl (!k)) H') I rx ry ⟨i, a, lo, hi, rfl, rfl, hH, _, rfl, q⟩
  refine wpAny_mono this ?_ (fun _ _ q => q)
  rintro v s' ⟨z, H', I', r, k, rfl, q'⟩
  exact ⟨k, r, V.bl (!k), H', I', rfl, q'⟩
/-- i in range(lo, hi) -/
def mInR (f : Bool → Bool) (a : ME) (m : MF) : ME := fun ρ w => (a ρ w).bind fun t w1 => (m ρ w1).bind fun ts w2 => match t, ts with
  | .int i, [.int lo, .int hi] => .ok (.bl (f (decide (lo ≤ i ∧ i < hi)))) w2
  | _, _ => .no
abbrev rRngF (f : Bool → Bool) : R2 := fun x y H Q => ∃ i a lo hi, x = V.int i ∧ y = V.ref a ∧ H a = some (HO.rng lo hi) ∧ Q (V.bl (f (decide (lo ≤ i ∧ i < hi)))) H
theorem inr_read {f : Bool → Bool} : ∀ σ H Q, rdE K W (mInR f ma m) σ H Q → tOp (rRngF f) (rdE K W ma) (tCB (fun vs H Q => ∃ i j, vs = [V.int i, V.int j] ∧ ∀ p, H p = none → Q (.ref p) (upd H p (.rng i j))) (rdA K W m)) σ H Q := fun σ H Q => by
  rintro ⟨hd, φ, ρ, w, sr, wr, p⟩
  refine ⟨hd, φ, ρ, w, sr, wr, Pst.then isPst p fun dx w1 φ1 H1 e1 wr1 p1 x rx => ?_⟩
  refine ⟨hd, φ1, ρ, w1, sr.mono e1, wr1, Pst.then isPst p1 fun ds w2 φ2 H2 e2 wr2 p2 xs rxs => ?_⟩
  match dx, ds, p2 with
  | .int i, [.int lo, .int hi], p2 =>
    cases rep_int (rx.mono e2)
    obtain ⟨v, u, rfl, r1, r2⟩ := reps2 rxs
    cases rep_int r1
    cases rep_int r2
    refine ⟨lo, hi, rfl, fun q hq => ⟨i, q, lo, hi, rfl, rfl, upd_same, ?_⟩⟩
    exact p2 (upd H2 q (.rng lo hi)) φ2 (Ext.new hq) (wr2.new hq) _ (by unfold Rep; rfl)
section
variable (hm : X.mg "range" = none) (ha : PE X e (rdE (X.K, Z) W ma)) (hA : PA X [a, b] (rdA (X.K, Z) W m))
include hm ha hA
theorem de_inr (hg : Gl X "range" := by rfl) (he : starEach [a, b] X.env = (false, eval a X.env) :: starEach [b] X.env := by rfl) (hpl : (backTo p2 (starEach [b] X.env)).any (·.1) = false := by rfl) (hk : behindInMarks .In (.Call (.Name "range" p) [a, b] [] p2) = false := by rfl) : PE X (.Compare e [.In] [.Call (.Name "range" p) [a, b] [] p2] pos) (rdE (X.K, Z) W (mInR id ma m)) :=
  PE_imp (pe_cmpR op_in_rng ha (pe_callTy cr_range2 hg hm boot_range hA (by decide) (by decide) he hpl) hk) (inr_read (f := id))
theorem de_notinr (hg : Gl X "range" := by rfl) (he : starEach [a, b] X.env = (false, eval a X.env) :: starEach [b] X.env := by rfl) (hpl : (backTo p2 (starEach [b] X.env)).any (·.1) = false := by rfl) (hk : behindInMarks .NotIn (.Call (.Name "range" p) [a, b] [] p2) = false := by rfl) : PE X (.Compare e [.NotIn] [.Call (.Name "range" p) [a, b] [] p2] pos) (rdE (X.K, Z) W (mInR not ma m)) :=
  PE_imp (pe_cmpR op_notin_rng ha (pe_callTy cr_range2 hg hm boot_range hA (by decide) (by decide) he hpl) hk) (inr_read (f := not))
theorem dt_inr (hg : Gl X "range" := by rfl) (he : starEach [a, b] X.env = (false, eval a X.env) :: starEach [b] X.env := by rfl) (hpl : (backTo p2 (starEach [b] X.env)).any (·.1) = false := by rfl) (hk : behindInMarks .In (.Call (.Name "range" p) [a, b] [] p2) = false := by rfl) : PT X (.Compare e [.In] [.Call (.Name "range" p) [a, b] [] p2] pos) (rdT (X.K, Z) W (mTest (mInR id ma m))) :=
  PT_imp (pt_cmpR op_in_rng ha (pe_callTy cr_range2 hg hm boot_range hA (by decide) (by decide) he hpl) hk) fun σ H Q h => inr_read (f := id) σ H _ (test_read σ H Q h)
theorem dt_notinr (hg : Gl X "range" := by rfl) (he : starEach [a, b] X.env = (false, eval a X.env) :: starEach [b] X.env := by rfl) (hpl : (backTo p2 (starEach [b] X.env)).any (·.1) = false := by rfl) (hk : behindInMarks .NotIn (.Call (.Name "range" p) [a, b] [] p2) = false := by rfl) : PT X (.Compare e [.NotIn] [.Call (.Name "range" p) [a, b] [] p2] pos) (rdT (X.K, Z) W (mTest (mInR not ma m))) :=
  PT_imp (pt_cmpR op_notin_rng ha (pe_callTy cr_range2 hg hm boot_range hA (by decide) (by decide) he hpl) hk) fun σ H Q h => inr_read (f := not) σ H _ (test_read σ H Q h)
end
/-! str of an int -/
def sStrI : SC := fun ds w => match ds with
  | [.int i] => if i.natAbs.log2 < 1920 then .ok (.str (Str.ofString (toString i))) w else .no
  | _ => .no
theorem opStrI : OpC K sStrI (fun xs H Q => ∃ i, xs = [V.int i] ∧ i.natAbs.log2 < 1920 ∧ Q (V.str (Str.ofString (toString i))) H) := fun W hd φ H w ds xs Q wr rx p => by
  unfold sStrI at p
  match ds, p with
  | [.int i], p =>
    obtain ⟨v, rfl, r⟩ := reps1 rx
    cases rep_int r
    simp only at p
    split at p
    · rename_i h
      exact ⟨i, rfl, h, p.ok wr _ (by unfold Rep; rfl)⟩
    · exact p.elim
theorem de_strI (hm : X.mg "str" = none) (ha : PA X [e] (rdA (X.K, Z) W m)) (hg : Gl X "str" := by rfl) (he : starEach [e] X.env = (false, eval e X.env) :: starEach [] X.env := by rfl) (hpl : (backTo pos (starEach [] X.env)).any (·.1) = false := by rfl) : PE X (.Call (.Name "str" p) [e] [] pos) (rdE (X.K, Z) W (mCall sStrI m)) :=
  de_callTy call_str_int opStrI hm PyProof.Rows.boot_str ha hg (by decide) (by decide) he hpl
end
end VS

set_option Elab.async false
set_option linter.all false
set_option maxRecDepth 100000
set_option maxHeartbeats 2000000
/-! VX19: xs.insert(i, x); a < b of data as a test. -/
namespace VS
open PySem PySem.Spec PyProof.Rows L2
section
variable {X : Cx} {K : KT} {hd φ : List Addr} {H : Hp} {w : World} {e e2 a b c o : Expr} {es : List Expr} {pos p p2 q : Pos} {ma mb m0 mo : ME} {m : MF} {tg : Expr} {Z : ZT} {W : Option WX}
theorem dt_ltD (hu : X.A.units + 64 < cLine) (ha : PE X a (rdE (X.K, Z) W ma)) (hb : PE X b (rdE (X.K, Z) W mb)) : PT X (.Compare a [.Lt] [b] pos) (rdT (X.K, Z) W (mTest (mOp2 sLtD ma mb))) := dt_cmp (op_ltD hu) opLtD ha hb (nomark _)
def sInsert : SM := fun d ds w => match d, ds with
  | .cell k, [.int i, t] => match w[k]? with
    | some (.lst ts) => if ts.length < sizeLine ∧ 0 ≤ i ∧ i < 2 ^ 63 then .ok .non (w.set k (.lst (ts.take i.toNat ++ [t] ++ ts.drop i.toNat))) else .no
    | _ => .no
  | _, _ => .no
abbrev rInsert : V → List V → Hp → VK → Prop := fun x vs H Q => ∃ (l : Addr) (xs : List V) (i : Int) (y : V), x = .ref l ∧ vs = [.int i, y] ∧ H l = some (.lst xs) ∧ xs.length < sizeLine ∧ 0 ≤ i ∧ i < 2 ^ 63 ∧ Q .non (upd H l (.lst (xs.take i.toNat ++ [y] ++ xs.drop i.toNat)))
theorem opInsert : OpM K sInsert rInsert := fun W hd φ H w d ds x xs Q wr rx rxs p => by
  unfold sInsert at p
  match d, ds, p with
  | .cell k, [.int i, t], p =>
    simp only at p
    cases q : w[k]? with
    | none => rw [q] at p; exact p.elim
    | some c =>
      rw [q] at p
      cases c with
      | lst ts =>
        simp only at p
        split at p
        · rename_i hl
          obtain ⟨l, rfl, hk, _, ys, h1, h2⟩ := cell_at wr rx q
          obtain ⟨v, u, rfl, r1, r2⟩ := reps2 rxs
          cases rep_int r1
          exact ⟨l, ys, i, u, rfl, rfl, h1, by rw [← h2.len]; exact hl.1, hl.2.1, hl.2.2, Pst.write (xs := ys) wr hk (((h2.take i.toNat).append (Reps.cons r2 Reps.nil)).append (h2.drop i.toNat)) (by unfold Rep; rfl) p⟩
        · exact p.elim
      | _ => exact p.elim
theorem de_insert {apos : Pos} (ho : PE X o (rdE (X.K, Z) W mo)) (ha : PA X [e, e2] (rdA (X.K, Z) W m))
    (hbase : attributeBase o "insert" X.env (eval o X.env) = eval o X.env := by rfl) (hline : (apos.endLine == pos.line) = true := by rfl)
    (hfew : ((backTo pos (starEach [e, e2] X.env)).all (fun x => !x.1) && (backToKw pos (keywordEach [] X.env)).all (fun x => x.1.isSome)
      && decide (([e, e2] : List Expr).length + ([] : List Keyword).length + (if ([] : List Keyword).isEmpty then 0 else 1) < 30)) = true := by rfl)
    (hs : starEach [e, e2] X.env = (false, eval e X.env) :: starEach [e2] X.env := by rfl) (hplain : (backTo pos (starEach [e2] X.env)).any (·.1) = false := by rfl) :
    PE X (.Call (.Attribute o "insert" apos) [e, e2] [] pos) (rdE (X.K, Z) W (mMeth sInsert mo m)) :=
  PE_imp (pe_bm PySem.F.plainAttrs_list PySem.F.slot_list_insert PySem.F.type_list_insert mt_insert ho ha hbase hfew hline hs hplain) (meth_read opInsert)
end
end VS

set_option Elab.async false
set_option linter.all false
set_option maxRecDepth 100000
set_option maxHeartbeats 2000000
/-! VX20: len(set(rows)), rows tuples of ints, less than 64 of them. -/
namespace VS
open PySem PySem.Spec PyProof.Rows L2
/-- each row once -/
def dedR : List (List Int) → List (List Int)
  | [] => []
  | x :: r => if x ∈ r then dedR r else x :: dedR r
theorem dedR_mem : ∀ {r : List (List Int)} {x : List Int}, x ∈ dedR r ↔ x ∈ r
  | [], x => Iff.rfl
  | y :: r, x => by
    have ih := dedR_mem (r := r) (x := x)
    unfold dedR
    split
    · rename_i h
      rw [ih, List.mem_cons]
      refine ⟨.inr, fun z => z.elim (fun e => e ▸ h) id⟩
    · rw [List.mem_cons, List.mem_cons, ih]
theorem dedR_nd : ∀ (r : List (List Int)), (dedR r).Nodup
  | [] => .nil
  | y :: r => by
    unfold dedR
    split
    · exact dedR_nd r
    · rename_i h
      exact List.nodup_cons.mpr ⟨fun z => h (dedR_mem.mp z), dedR_nd r⟩
theorem many_ded {l r : List (List Int)} (n1 : l.Nodup) (h : ∀ k, k ∈ l ↔ k ∈ r) : l.length = (dedR r).length := by
  have p : l.Perm (dedR r) := List.perm_iff_count.mpr fun k => by
    rw [n1.count, (dedR_nd r).count]
    have : (k ∈ l) = (k ∈ dedR r) := propext ((h k).trans dedR_mem.symm)
    simp only [this]
  exact p.length_eq
/-- rows of ints -/
def rowsI : List T → Option (List (List Int))
  | [] => some []
  | .tup us :: ts => match intsT us, rowsI ts with
    | some ns, some r => some (ns :: r)
    | _, _ => none
  | _ => none
section
variable {X : Cx} {K : KT} {hd φ : List Addr} {H : Hp} {w : World} {Z : ZT} {W : Option WX} {a : Expr} {p p2 pos q : Pos} {ma : ME}
theorem call_len_setT : CallR X (.builtin "len") (fun xs H Q => ∃ (a : Addr) (L : List (Addr × List Int)), xs = [V.ref a] ∧ H a = some (SetTO X.prog X.w a L) ∧ ((L.map (·.2)).Nodup → Q (.int (L.length : Nat)) H)) := by
  intro pins s σ H xs us Q I r h
  obtain ⟨a, L, rfl, hH, q⟩ := h
  cases r with
  | cons r1 rt =>
    cases rt
    cases r1
    obtain ⟨⟨es, ep, t, ⟨o, ho, hx, hd⟩, hr, tb, nd, _, _, hm, hl⟩, _⟩ := (show ObjOk X.prog X.w H s.heap a (SetTO X.prog X.w a L) from I.hok a _ hH)
    have hz : es.size = L.length := by
      have := congrArg List.length hr
      simpa [rowsOf] using this
    have hp : t.place.size = L.length := by rw [tb.sz, List.length_map]
    have hf : t.fits es.size = true := by
      unfold SetTable.fits SetTable.fill
      rw [tb.dm, hp, hz]
      simp
      omega
    exact call_len_set ho hx hd hf (by rw [hz]; omega) ⟨.int _, H, I.tok _, ⟨_, by rw [hz] <;> rfl⟩, q nd⟩
/-- the rows of a list, where they stand -/
theorem rows_at : ∀ {ts : List T} {vs : List V} {kss : List (List Int)}, Reps K hd φ H ts vs → rowsI ts = some kss → ∃ ks : List (Addr × List Int), vs = ks.map (fun p => V.ref p.1) ∧ ks.map (·.2) = kss ∧ ∀ p ∈ ks, SqT K.1 H p.1 (p.2.map V.int)
  | [], vs, kss, r, h => by
    cases h
    unfold Reps at r
    subst r
    exact ⟨[], rfl, rfl, fun p hp => nomatch hp⟩
  | .tup us :: ts, vs, kss, r, h => by
    unfold rowsI at h
    cases q1 : intsT us with
    | none => rw [q1] at h; cases h
    | some ns =>
      cases q2 : rowsI ts with
      | none => rw [q1, q2] at h; cases h
      | some kr =>
        rw [q1, q2] at h
        cases h
        unfold Reps at r
        obtain ⟨v, xs, rfl, r1, r2⟩ := r
        unfold Rep at r1
        obtain ⟨l, ys, rfl, n, rs⟩ := r1
        cases intV_at rs q1
        obtain ⟨ks, rfl, rfl, h3⟩ := rows_at r2 q2
        refine ⟨(l, ns) :: ks, rfl, rfl, fun p hp => ?_⟩
        rcases List.mem_cons.mp hp with rfl | hp
        · exact SqT.of n.1
        · exact h3 p hp
  | .non :: ts, vs, kss, r, h => by cases h
  | .bl _ :: ts, vs, kss, r, h => by cases h
  | .int _ :: ts, vs, kss, r, h => by cases h
  | .str _ :: ts, vs, kss, r, h => by cases h
  | .ty _ :: ts, vs, kss, r, h => by cases h
  | .lst _ :: ts, vs, kss, r, h => by cases h
  | .frz _ :: ts, vs, kss, r, h => by cases h
  | .rng _ :: ts, vs, kss, r, h => by cases h
  | .cell _ :: ts, vs, kss, r, h => by cases h
  | .glb _ :: ts, vs, kss, r, h => by cases h
  | .exc _ _ _ :: ts, vs, kss, r, h => by cases h
  | .dct _ _ :: ts, vs, kss, r, h => by cases h
def mLenSetR (a : ME) : ME := fun ρ w => (a ρ w).bind fun t w1 => match lst? w1 t with
  | some ts => match rowsI ts with
    | some kss => if kss.length < 64 then .ok (.int ((dedR kss).length : Nat)) w1 else .no
    | none => .no
  | none => .no
theorem de_lensetR (hu : X.A.units + 64 < cLine) (hm : X.mg "len" = none) (hm2 : X.mg "set" = none) (ha : PE X a (rdE (X.K, Z) W ma)) (hg : Gl X "len" := by rfl) (hg2 : Gl X "set" := by rfl) (hc : X.calm = true := by rfl)
    (na : starEach [a] X.env = (false, eval a X.env) :: starEach [] X.env := by rfl) (np : (backTo q (starEach [] X.env)).any (·.1) = false := by rfl)
    (ns : starEach [.Call (.Name "set" p2) [a] [] q] X.env = (false, eval (.Call (.Name "set" p2) [a] [] q) X.env) :: starEach [] X.env := by rfl) (nq : (backTo pos (starEach [] X.env)).any (·.1) = false := by rfl) :
    PE X (.Call (.Name "len" p) [.Call (.Name "set" p2) [a] [] q] [] pos) (rdE (X.K, Z) W (mLenSetR ma)) :=
  PE_imp (pe_callB call_len_setT hg hm boot_len (pa_cons (pe_callTy (cr_setOfT hc hu) hg2 hm2 boot_set (pa_cons ha pa_nil na) (by decide) (by decide) na np) pa_nil ns) (by decide) (by decide) ns nq) fun σ H Q => by
  rintro ⟨hd, φ, ρ, w, sr, wr, p⟩
  refine ⟨hd, φ, ρ, w, sr, wr, Pst.then isPst p fun t w1 φ1 H1 e1 wr1 p1 x rx => ?_⟩
  cases q1 : lst? w1 t with
  | none => rw [q1] at p1; exact p1.elim
  | some ts =>
    rw [q1] at p1
    simp only at p1
    cases q2 : rowsI ts with
    | none => rw [q2] at p1; exact p1.elim
    | some kss =>
      rw [q2] at p1
      simp only at p1
      split at p1
      · rename_i hl
        obtain ⟨l, xs, rfl, h1, h2⟩ := lst_at wr1 rx q1
        obtain ⟨ks, rfl, rfl, h3⟩ := rows_at h2 q2
        refine ⟨l, ks, rfl, SqL.of h1, h3, by simpa using hl, fun b L hb g1 g2 => ?_⟩
        refine ⟨b, L, rfl, upd_same, fun nd => ?_⟩
        have e : L.length = (dedR (ks.map (·.2))).length := by
          have := many_ded (r := ks.map (·.2)) nd fun k => ⟨fun hk => by
            obtain ⟨p, hp, rfl⟩ := List.mem_map.mp hk
            exact List.mem_map.mpr ⟨p, g1 p hp, rfl⟩, fun hk => by
            obtain ⟨p, hp, rfl⟩ := List.mem_map.mp hk
            exact g2 p hp⟩
          rw [← this, List.length_map]
        rw [e]
        exact p1 (upd H1 b (SetTO X.prog X.w b L)) φ1 (Ext.new hb) (wr1.new hb) _ (by unfold Rep; rfl)
      · exact p1.elim
end
end VS

set_option Elab.async false
set_option linter.all false
set_option maxRecDepth 100000
set_option maxHeartbeats 2000000
/-! VX21: all of a list of bools and tuples. -/
namespace VS
open PySem PySem.Spec PyProof.Rows L2
section
variable {prog : Program} {w : PySem.World} {A : Around} {I : Addr} {fp wr : List Addr} {n : Nat} {P : Nat → Value → Prop} {St : Nat → Heap → Prop} {R : Result → Shared → Prop}
def KeepH (wr : List Addr) (h0 h : Heap) : Prop := ∀ (b : Addr) (o : Obj), b ∉ wr → h0.get? b = some o → h.get? b = some o
theorem all_loopT (hA : A.handled = none) (W : ∀ A' : Around, A'.handled = none → Walks prog w A' I fp wr n P St) (tr : Nat → Bool) (h0 : Heap)
    (T : ∀ (A' : Around) (i : Nat) (v : Value) (s : Shared) (Q : Bool → Shared → Prop) (E : Value → Shared → Prop), P i v → KeepH wr h0 s.heap → (∀ tk, Q (tr i) { s with toks := tk }) → wpAny (model prog w) A' (truthy v) Q E s) :
    ∀ (k i : Nat) (s : Shared), n - i = k → i ≤ n → St i s.heap → KeepH wr h0 s.heap →
      (∀ (h' : Heap) (tk : Nat), KeepH wr h0 h' → R (.ok (.ret (.bool ((List.drop i (List.range n)).all tr)))) { s with heap := h', toks := tk }) →
      codeAny (model prog w) A (.builtin "all.loop" { pos := [.ref I] }) R s := by
  intro k
  induction k with
  | zero =>
    intro i s hk hi hst kp h
    have e : i = n := by omega
    subst e
    refine codeAny_builtin F.entry_all_loop ?_
    show wpAny _ _ (pyNext (.ref I) >>= _) _ _ _
    refine wpAny_bind ((W (A.under _) hA).done s _ _ hst fun h' tk keep => ?_)
    refine wpAny_bind (wpAny_rule (wpAny_pure ?_))
    have := h h' tk (fun b o hb ho => keep b o hb (kp b o hb ho))
    rw [List.drop_eq_nil_of_le (by simp)] at this
    exact this
  | succ k ih =>
    intro i s hk hi hst kp h
    have hlt : i < n := by omega
    refine codeAny_builtin F.entry_all_loop ?_
    show wpAny _ _ (pyNext (.ref I) >>= _) _ _ _
    refine wpAny_bind ((W (A.under _) hA).item i s _ _ hlt hst fun v h' tk hp hst' keep => ?_)
    have kp' : KeepH wr h0 h' := fun b o hb ho => keep b o hb (kp b o hb ho)
    refine wpAny_bind (wpAny_holding (T _ i v _ _ _ hp kp' fun tk' => ?_))
    refine wpAny_bind (wpAny_letGo ?_)
    have e : List.drop i (List.range n) = i :: List.drop (i + 1) (List.range n) := by
      rw [List.drop_eq_getElem_cons (by simpa using hlt)]
      simp
    rw [e] at h
    cases q : tr i with
    | true =>
      refine wpAny_pure ⟨rfl, ?_⟩
      refine ih (i + 1) _ (by omega) (by omega) hst' kp' fun h2 tk2 kp2 => ?_
      have := h h2 tk2 kp2
      rw [List.all_cons, q, Bool.true_and] at this
      exact this
    | false =>
      refine wpAny_bind (wpAny_rule (wpAny_pure ?_))
      have := h h' tk' kp'
      rw [List.all_cons, q, Bool.false_and] at this
      exact this
theorem call_all_T {E : Value → Shared → Prop} {Q : Value → Shared → Prop} {s : Shared} {l : Addr} {items : Array Value} (hA : A.handled = none) (hl : s.heap.IsList l items) (tr : Nat → Bool)
    (T : ∀ (A' : Around) (i : Nat) (v : Value) (s' : Shared) (Q : Bool → Shared → Prop) (E : Value → Shared → Prop), items[i]? = some v → (∀ b o, s.heap.get? b = some o → s'.heap.get? b = some o) → (∀ tk, Q (tr i) { s' with toks := tk }) → wpAny (model prog w) A' (truthy v) Q E s')
    (h : ∀ (h' : Heap) (tk : Nat), (∀ b o, s.heap.get? b = some o → h'.get? b = some o) → Q (.bool ((List.range items.size).all tr)) { s with heap := h', toks := tk }) :
    wpAny (model prog w) A (call (.builtin "all") [.ref l]) Q E s := by
  have ne : ∀ b o, s.heap.get? b = some o → b ∉ [s.heap.objs.size] := fun b o hb hm => by
    exact absurd (List.mem_singleton.mp hm) (Nat.ne_of_lt (Heap.lt_size hb))
  have hne : l ≠ s.heap.objs.size := by
    obtain ⟨o, ho, _⟩ := hl
    exact Nat.ne_of_lt (Heap.lt_size ho)
  refine wpAny_call ?_
  refine codeAny_call_builtin F.plain_all F.entry_all ?_
  have hargs : checkBuiltinCall "all" { pos := [Value.ref l] } = pure () := by rfl
  rw [hargs]
  refine wpAny_pure ?_
  show wpAny _ _ (pyIter (.ref l) >>= fun it => again (Code.builtin "all.loop" { pos := [it] })) _ _ _
  refine wpAny_bind (wpAny_pyIter_list hl ?_)
  refine wpAny_pure ⟨rfl, ?_⟩
  obtain ⟨o, ho, hc, hd⟩ := hl
  refine all_loopT (fp := [s.heap.objs.size, l]) (wr := [s.heap.objs.size]) (n := items.size) (P := fun i v => items[i]? = some v) (St := fun i h => h.IsListIter s.heap.objs.size l i ∧ h.IsList l items) hA (fun A' hA' => Walks.list hA' s.heap.objs.size l hne items) tr s.heap ?_ items.size 0 _ (by omega) (Nat.zero_le _) ⟨⟨_, Heap.get?_push_size _ rfl, rfl, rfl⟩, o, Heap.get?_push_of_some _ ho, hc, hd⟩ (fun b u _ hu => Heap.get?_push_of_some _ hu) (fun h' tk kp => ?_)
  · intro A' i v s' Q' E' hv kp hq
    exact T A' i v s' Q' E' hv (fun b u hu => kp b u (ne b u hu) hu) hq
  · have := h h' tk fun b u hu => kp b u (ne b u hu) hu
    rw [List.drop_zero]
    exact this
end
/-! ### over values -/
def TruB (K : PySem.W.Frag) (H : Hp) (v : V) (b : Bool) : Prop := v = .bl b ∨ ∃ t ys, v = .ref t ∧ SqT K H t ys ∧ b = !ys.isEmpty
def rAllT (K : PySem.W.Frag) : List V → Hp → VK → Prop := fun vs H Q => ∃ (a : Addr) (xs : List V) (bs : List Bool), vs = [V.ref a] ∧ SqL K H a xs ∧ xs.length = bs.length ∧ (∀ (i : Nat) v b, xs[i]? = some v → bs[i]? = some b → TruB K H v b) ∧ Q (.bl (bs.all id)) H
theorem all_range (bs : List Bool) : (List.range bs.length).all (fun i => bs.getD i false) = bs.all id := by
  have : (List.range bs.length).map (fun i => bs.getD i false) = bs := by
    refine List.ext_getElem (by simp) fun i h1 h2 => ?_
    simp [List.getD_eq_getElem?_getD, h2]
  conv => rhs; rw [← this]
  rw [List.all_map]
  rfl
section
variable {X : Cx} {K : KT} {hd φ : List Addr} {H : Hp} {w : World} {e : Expr} {pos p : Pos} {m : MF} {Z : ZT} {W : Option WX}
theorem cr_allT (hc : X.calm = true) : CallR X (.builtin "all") (rAllT X.K) := by
  intro pins s σ H vs us Q I r h
  obtain ⟨a, xs, bs, rfl, hL, hlen, ht, q⟩ := h
  cases r with
  | cons r1 rt =>
    cases rt
    cases r1
    obtain ⟨its, rv, pl, hz⟩ := I.list hL
    have hsz : its.toArray.size = bs.length := by rw [List.size_toArray, ← rv.length, hlen]
    refine call_all_T (I.ok.hd hc) pl.isList (fun i => bs.getD i false) ?_ fun h' tk kp => ?_
    · intro A' i v s' Q' E' hv kp hq
      have hv' : its[i]? = some v := by simpa using hv
      have hi : i < xs.length := by rw [rv.length]; exact (List.getElem?_eq_some_iff.mp hv').1
      have hx : xs[i]? = some xs[i] := List.getElem?_eq_getElem hi
      have hb : bs[i]? = some (bs[i]'(by omega)) := List.getElem?_eq_getElem (by omega)
      obtain ⟨u, hu, rx⟩ := rv.get hx
      rw [hv'] at hu
      cases hu
      have hg : bs.getD i false = bs[i]'(by omega) := by simp [List.getD_eq_getElem?_getD, hb]
      have htr := ht i _ _ hx hb
      simp only [hg] at hq ⊢
      generalize xs[i] = x at rx htr
      generalize bs[i]'(by omega) = b at htr hq
      rcases htr with rfl | ⟨t, ys, rfl, hT, rfl⟩
      · cases rx
        exact wpAny_truthy_bool (hq s'.toks)
      · cases (show v = Value.ref t from rx)
        obtain ⟨its2, rv2, ⟨o, ho, hc2, hd2⟩, hz2⟩ := I.tuple hT
        have e2 : (!its2.toArray.isEmpty) = !ys.isEmpty := by
          have hl := rv2.length
          cases ys with
          | nil =>
            cases its2 with
            | nil => rfl
            | cons _ _ => simp at hl
          | cons _ _ =>
            cases its2 with
            | nil => simp at hl
            | cons _ _ => rfl
        refine truthy_tuple ⟨o, kp _ _ ho, hc2, hd2⟩ ?_ ?_
        · have hl := rv2.length
          rw [sizeLine_eq] at hz2
          rw [List.size_toArray]
          omega
        · rw [e2]
          exact hq _
    · rw [hsz, all_range]
      exact ⟨.bl _, H, I.kept kp, rfl, q⟩
/-- the truth of bools and tuples -/
def trsT : List T → Option (List Bool)
  | [] => some []
  | .bl b :: ts => (trsT ts).map (b :: ·)
  | .tup us :: ts => (trsT ts).map ((!us.isEmpty) :: ·)
  | _ => none
theorem trus_at : ∀ {ts : List T} {xs : List V} {bs : List Bool}, Reps K hd φ H ts xs → trsT ts = some bs → xs.length = bs.length ∧ ∀ (i : Nat) v b, xs[i]? = some v → bs[i]? = some b → TruB K.1 H v b
  | [], xs, bs, r, h => by
    cases h
    unfold Reps at r
    subst r
    exact ⟨rfl, fun i v b h _ => by simp at h⟩
  | .bl c :: ts, xs, bs, r, h => by
    unfold trsT at h
    obtain ⟨br, q, rfl⟩ := Option.map_eq_some_iff.mp h
    unfold Reps at r
    obtain ⟨v, ys, rfl, r1, r2⟩ := r
    unfold Rep at r1
    subst r1
    obtain ⟨h1, h2⟩ := trus_at r2 q
    refine ⟨by simp [h1], fun i v b g1 g2 => ?_⟩
    cases i with
    | zero => cases g1; cases g2; exact .inl rfl
    | succ i => exact h2 i v b g1 g2
  | .tup us :: ts, xs, bs, r, h => by
    unfold trsT at h
    obtain ⟨br, q, rfl⟩ := Option.map_eq_some_iff.mp h
    unfold Reps at r
    obtain ⟨v, ys, rfl, r1, r2⟩ := r
    unfold Rep at r1
    obtain ⟨l, zs, rfl, n, rs⟩ := r1
    obtain ⟨h1, h2⟩ := trus_at r2 q
    refine ⟨by simp [h1], fun i v b g1 g2 => ?_⟩
    cases i with
    | zero =>
      cases g1
      cases g2
      refine .inr ⟨l, zs, rfl, SqT.of n.1, ?_⟩
      have hl := rs.len
      cases us with
      | nil => cases zs with
        | nil => rfl
        | cons _ _ => simp at hl
      | cons _ _ => cases zs with
        | nil => simp at hl
        | cons _ _ => rfl
    | succ i => exact h2 i v b g1 g2
  | .non :: ts, xs, bs, r, h => by cases h
  | .int _ :: ts, xs, bs, r, h => by cases h
  | .str _ :: ts, xs, bs, r, h => by cases h
  | .ty _ :: ts, xs, bs, r, h => by cases h
  | .lst _ :: ts, xs, bs, r, h => by cases h
  | .frz _ :: ts, xs, bs, r, h => by cases h
  | .rng _ :: ts, xs, bs, r, h => by cases h
  | .cell _ :: ts, xs, bs, r, h => by cases h
  | .glb _ :: ts, xs, bs, r, h => by cases h
  | .exc _ _ _ :: ts, xs, bs, r, h => by cases h
  | .dct _ _ :: ts, xs, bs, r, h => by cases h
def sAllT : SC := fun ds w => match ds with
  | [t] => match lst? w t with
    | some ts => match trsT ts with
      | some bs => .ok (.bl (bs.all id)) w
      | none => .no
    | none => .no
  | _ => .no
theorem opAllT : OpC K sAllT (rAllT K.1) := fun W hd φ H w ds xs Q wr rx p => by
  unfold sAllT at p
  match ds, p with
  | [t], p =>
    simp only at p
    cases q1 : lst? w t with
    | none => rw [q1] at p; exact p.elim
    | some ts =>
      rw [q1] at p
      simp only at p
      cases q2 : trsT ts with
      | none => rw [q2] at p; exact p.elim
      | some bs =>
        rw [q2] at p
        obtain ⟨v, rfl, r⟩ := reps1 rx
        obtain ⟨a, ys, rfl, h1, h2⟩ := lst_at wr r q1
        obtain ⟨g1, g2⟩ := trus_at h2 q2
        exact ⟨a, ys, bs, rfl, SqL.of h1, g1, g2, p.bl wr⟩
theorem de_allT (hc : X.calm = true) (hm : X.mg "all" = none) (ha : PA X [e] (rdA (X.K, Z) W m)) (hg : Gl X "all" := by rfl) (he : starEach [e] X.env = (false, eval e X.env) :: starEach [] X.env := by rfl) (hpl : (backTo pos (starEach [] X.env)).any (·.1) = false := by rfl) : PE X (.Call (.Name "all" p) [e] [] pos) (rdE (X.K, Z) W (mCall sAllT m)) :=
  de_callB (cr_allT hc) opAllT hm (by decide +kernel) ha hg (by decide) (by decide) he hpl
end
end VS

set_option Elab.async false
set_option linter.all false
set_option maxRecDepth 100000
set_option maxHeartbeats 1000000
/-! VX22: zip(*rows), rows of as many items, walked by one name: at the model's level. -/
namespace VZ
open PySem PySem.Spec PyProof.Rows L2
abbrev zipO (TI TO : Addr) (f0 f1 : Value) : Obj := { cls := .type "zip", dict := none, data := .fields #[f0, f1, .bool false, .ref TI, .ref TO], slots := #[] }
abbrev tupO (vs : Array Value) : Obj := { cls := .type "tuple", data := .seq vs }
/-- a row's iterator, the row, its items -/
abbrev Rw := Addr × Addr × Array Value
/-- the iterators stand: those of rs at i -/
def Its (h : Heap) (rs : List Rw) (i : Nat) : Prop := ∀ p ∈ rs, h.IsTupleIter p.1 p.2.1 i ∧ h.IsTuple p.2.1 p.2.2
theorem apart_ti {h : Heap} {a it : Addr} {j : Nat} {vs : Array Value} (ht : h.IsTuple a vs) (hi : h.IsTupleIter it a j) : a ≠ it := by
  rintro rfl
  obtain ⟨o, h1, h2, _⟩ := hi
  obtain ⟨o', g1, g2, _⟩ := ht
  rw [g1] at h1
  cases h1
  rw [g2] at h2
  exact absurd (Value.type.inj h2) (by decide)
theorem apart_tj {h : Heap} {a b it : Addr} {j : Nat} {vs : Array Value} (ht : h.IsTuple a vs) (hi : h.IsTupleIter it b j) : a ≠ it := by
  rintro rfl
  obtain ⟨o, h1, h2, _⟩ := hi
  obtain ⟨o', g1, g2, _⟩ := ht
  rw [g1] at h1
  cases h1
  rw [g2] at h2
  exact absurd (Value.type.inj h2) (by decide)
section
variable {prog : Program} {w : World} {A : Around} {E : Value → Shared → Prop} {s : Shared}
theorem wpAny_loadIfAlive {a : Addr} {Q : Option Obj → Shared → Prop} (h : Q (s.heap.get? a) s) : wpAny (model prog w) A (loadIfAlive a) Q E s := fun Γ p _ => h
/-- one iterator drawn -/
theorem draw_one {rs : List Rw} {p : Rw} {i : Nat} {Q : Value → Shared → Prop} (I : Its s.heap (p :: rs) i) (nd : ((p :: rs).map (·.1)).Nodup) (hi : i < p.2.2.size)
    (hQ : ∀ h', h'.IsTupleIter p.1 p.2.1 (i + 1) → Its h' rs i → Heap.SameBut p.1 s.heap h' → Q (p.2.2[i]'hi) { s with heap := h' }) :
    wpAny (model prog w) A (Builtin.SmallTypes.nextOf (.ref p.1)) Q E s := by
  obtain ⟨h1, h2⟩ := I p (List.mem_cons_self ..)
  refine RZ.nextOf_tuple_item h1 h2 (Array.getElem?_eq_getElem hi) fun h' hit sb => hQ h' hit (fun q hq => ?_) sb
  obtain ⟨g1, g2⟩ := I q (List.mem_cons_of_mem _ hq)
  have hne : q.1 ≠ p.1 := fun e => by
    rw [List.map_cons, List.nodup_cons] at nd
    exact nd.1 (e ▸ List.mem_map_of_mem hq)
  exact ⟨g1.extBut sb.extBut hne, g2.extBut sb.extBut (apart_tj g2 h1)⟩

def col (i : Nat) (p : Rw) : Value := p.2.2.getD i .none
theorem col_at {i : Nat} {p : Rw} (h : i < p.2.2.size) : col i p = p.2.2[i] := by simp [col, h]
theorem isFree {z TI TO : Addr} {f0 f1 : Value} (hz : s.heap.get? z = some (zipO TI TO f0 f1)) (hf : f0 = .none ∨ ∃ a tk, f0 = .int a tk) :
    wpAny (model prog w) A (Builtin.SmallTypes.ownedTupleIsFree (.ref z)) (fun b s1 => ∃ h1 f1', s1 = { s with heap := h1 } ∧ h1.get? z = some (zipO TI TO f0 f1') ∧ Heap.SameBut z s.heap h1) E s := by
  unfold Builtin.SmallTypes.ownedTupleIsFree
  rcases hf with rfl | ⟨a, tk, rfl⟩
  · refine wpAny_bind (wpAny_field hz rfl (x := .none) rfl (wpAny_pure ⟨s.heap, f1, rfl, hz, rfl, fun _ _ => rfl⟩))
  · refine wpAny_bind (wpAny_field hz rfl (x := .int a tk) rfl ?_)
    dsimp only
    refine wpAny_bind (wpAny_loadIfAlive ?_)
    split
    · exact wpAny_pure ⟨s.heap, f1, rfl, hz, rfl, fun _ _ => rfl⟩
    · refine wpAny_bind (wpAny_field hz rfl (x := f1) rfl ?_)
      split
      · refine wpAny_bind (wpAny_setField_rec hz (by simp) fun h1 g1 sb => wpAny_pure ⟨h1, .bool true, rfl, g1, sb⟩)
      · exact wpAny_pure ⟨s.heap, f1, rfl, hz, rfl, fun _ _ => rfl⟩
/-- how far the drawing is -/
structure Dw (s : Shared) (rs dn left : List Rw) (i : Nat) (h' : Heap) : Prop where
  all : rs = dn ++ left
  new : Its h' dn (i + 1)
  old : Its h' left i
  size : h'.objs.size = s.heap.objs.size
theorem Dw.step {rs dn left : List Rw} {p : Rw} {i : Nat} {h' h2 : Heap} (D : Dw s rs dn (p :: left) i h') (nd : (rs.map (·.1)).Nodup) (hit : h2.IsTupleIter p.1 p.2.1 (i + 1)) (hI : Its h2 left i) (sb : Heap.SameBut p.1 h' h2) : Dw s rs (dn ++ [p]) left i h2 := by
  obtain ⟨h1, g1⟩ := D.old p (List.mem_cons_self ..)
  refine ⟨by rw [D.all, List.append_assoc]; rfl, fun q hq => ?_, hI, by rw [sb.1, D.size]⟩
  rcases List.mem_append.mp hq with hq | hq
  · obtain ⟨a1, a2⟩ := D.new q hq
    have hne : q.1 ≠ p.1 := fun e => by
      rw [D.all, List.map_append, List.nodup_append] at nd
      exact nd.2.2 q.1 (List.mem_map_of_mem hq) p.1 (by simp) e
    exact ⟨a1.extBut sb.extBut hne, a2.extBut sb.extBut (apart_tj a2 h1)⟩
  · rw [List.mem_singleton.mp hq]
    exact ⟨hit, g1.extBut sb.extBut (apart_tj g1 h1)⟩
theorem Dw.draw {rs dn left : List Rw} {p : Rw} {i : Nat} {h' : Heap} {Q : Value → Shared → Prop} (D : Dw s rs dn (p :: left) i h') (nd : (rs.map (·.1)).Nodup) (hi : i < p.2.2.size)
    (hQ : ∀ h2, Dw s rs (dn ++ [p]) left i h2 → Heap.SameBut p.1 h' h2 → Q (col i p) { s with heap := h2 }) :
    wpAny (model prog w) A (Builtin.SmallTypes.nextOf (.ref p.1)) Q E { s with heap := h' } := by
  have nd' : ((p :: left).map (·.1)).Nodup := by
    rw [D.all, List.map_append, List.nodup_append] at nd
    exact nd.2.1
  rw [col_at hi] at hQ
  exact draw_one (s := { s with heap := h' }) D.old nd' hi fun h2 hit hI sb => hQ h2 (D.step nd hit hI sb) sb

theorem Dw.keep {rs dn left : List Rw} {i : Nat} {h' h2 : Heap} {c : Addr} (D : Dw s rs dn left i h') (sb : Heap.SameBut c h' h2) (h1 : c ∉ rs.map (·.1)) (h3 : ∀ p ∈ rs, p.2.1 ≠ c) : Dw s rs dn left i h2 := by
  have m1 : ∀ q ∈ dn, q ∈ rs := fun q hq => by rw [D.all]; exact List.mem_append_left _ hq
  have m2 : ∀ q ∈ left, q ∈ rs := fun q hq => by rw [D.all]; exact List.mem_append_right _ hq
  have ne : ∀ q ∈ rs, q.1 ≠ c := fun q hq e => h1 (e ▸ List.mem_map_of_mem hq)
  exact ⟨D.all, fun q hq => ⟨(D.new q hq).1.extBut sb.extBut (ne q (m1 q hq)), (D.new q hq).2.extBut sb.extBut (h3 q (m1 q hq))⟩,
    fun q hq => ⟨(D.old q hq).1.extBut sb.extBut (ne q (m2 q hq)), (D.old q hq).2.extBut sb.extBut (h3 q (m2 q hq))⟩, by rw [sb.1, D.size]⟩
theorem next_item {z TI TO : Addr} {rs : List Rw} {f0 f1 : Value} {ow : Array Value} {i : Nat} {Q : Value → Shared → Prop}
    (hz : s.heap.get? z = some (zipO TI TO f0 f1)) (hf : f0 = .none ∨ ∃ a tk, f0 = .int a tk)
    (hTI : s.heap.get? TI = some (tupO (rs.map fun p => .ref p.1).toArray)) (hTO : s.heap.get? TO = some (tupO ow)) (how : ow.size = rs.length)
    (I : Its s.heap rs i) (hn : ∀ p ∈ rs, i < p.2.2.size) (ne : rs ≠ []) (few : rs.length ≤ 1000)
    (nd : (z :: TI :: TO :: rs.map (·.1)).Nodup) (lz : ∀ p ∈ rs, p.2.1 ≠ z) (lTO : ∀ p ∈ rs, p.2.1 ≠ TO)
    (hQ : ∀ h' f0' f1' ow', h'.get? z = some (zipO TI TO f0' f1') → (f0' = .none ∨ ∃ a tk, f0' = .int a tk) → h'.get? TO = some (tupO ow') → ow'.size = rs.length → Its h' rs (i + 1) → h'.get? s.heap.objs.size = some (tupO (rs.map (col i)).toArray) → h'.objs.size = s.heap.objs.size + 1 →
      (∀ c o, c ≠ z → c ≠ TO → c ∉ rs.map (·.1) → s.heap.get? c = some o → h'.get? c = some o) → Q (.ref s.heap.objs.size) { s with heap := h' }) :
    wpAny (model prog w) A (Builtin.«zip.__next__» ⟨[.ref z], []⟩) (fun fin s' => ∃ v, fin = .done (.ret v) ∧ Q v s') E s := by
  rw [List.nodup_cons, List.nodup_cons, List.nodup_cons] at nd
  obtain ⟨nz, nTI, nTO, ndr⟩ := nd
  simp only [List.mem_cons, not_or] at nz nTI
  obtain ⟨zTI, zTO, zr⟩ := nz
  obtain ⟨TITO, TIr⟩ := nTI
  have zlt : z < s.heap.objs.size := Heap.lt_size hz
  have TOlt : TO < s.heap.objs.size := Heap.lt_size hTO
  show wpAny _ _ (field (.ref z) 2 >>= _) _ _ _
  refine wpAny_bind (wpAny_field hz rfl (x := .bool false) rfl ?_)
  show wpAny _ _ (field (.ref z) 3 >>= _) _ _ _
  refine wpAny_bind (wpAny_field hz rfl (x := .ref TI) rfl ?_)
  refine wpAny_bind (wpAny_seqItems hTI rfl ?_)
  have hne : (rs.map fun p => Value.ref p.1).toArray.isEmpty = false := by
    cases rs with
    | nil => exact absurd rfl ne
    | cons p rs => simp
  simp only [hne, Bool.false_eq_true, if_false]
  refine wpAny_bind (wpAny_mono (isFree hz hf) (fun b s1 hb => ?_) fun _ _ x => x)
  obtain ⟨h1, f1', rfl, hz1, sb1⟩ := hb
  have D1 : Dw s rs [] rs i h1 := by
    refine ⟨rfl, (fun q hq => nomatch hq), fun q hq => ?_, by rw [sb1.1]⟩
    exact ⟨(I q hq).1.extBut sb1.extBut (fun e => zr (e ▸ List.mem_map_of_mem hq)), (I q hq).2.extBut sb1.extBut (lz q hq)⟩
  have hTO1 : h1.get? TO = some (tupO ow) := (sb1.2 _ (Ne.symm zTO)).trans hTO
  cases b with
  | false =>
    simp only [Bool.false_eq_true, if_false]
    rw [← Array.forIn_toList]
    refine wpAny_bind (wpAny_mono (wpAny_forIn_list _
      (fun rest (b : Option PySem.Fin × Array Value) s' => ∃ dn left h', rest = left.map (fun p => Value.ref p.1) ∧ s' = { s with heap := h' } ∧ Dw s rs dn left i h' ∧ h'.get? z = some (zipO TI TO f0 f1') ∧ h'.get? TO = some (tupO ow) ∧ b.1 = none ∧ b.2.toList = dn.map (col i) ∧
        (∀ c o, c ≠ z → c ≠ TO → c ∉ rs.map (·.1) → s.heap.get? c = some o → h'.get? c = some o))
      (fun (b : Option PySem.Fin × Array Value) s' => ∃ h', s' = { s with heap := h' } ∧ Dw s rs rs [] i h' ∧ h'.get? z = some (zipO TI TO f0 f1') ∧ h'.get? TO = some (tupO ow) ∧ b.1 = none ∧ b.2.toList = rs.map (col i) ∧
        (∀ c o, c ≠ z → c ≠ TO → c ∉ rs.map (·.1) → s.heap.get? c = some o → h'.get? c = some o)) ?_ ?_ _ _ ?_) (fun b s' hb => ?_) fun _ _ x => x)
    · rintro x rest ⟨b1, items⟩ s' ⟨dn, left, h', hr, rfl, D, g1, g2, rfl, hi, keep⟩
      cases left with
      | nil => cases hr
      | cons p left =>
        cases hr
        have hp : p ∈ rs := by rw [D.all]; simp
        refine wpAny_bind (wpAny_holding ?_)
        show wpAny _ _ (Builtin.SmallTypes.nextOf (.ref p.1) >>= _) _ _ _
        refine wpAny_bind (D.draw ndr (hn p hp) fun h2 D2 sb => wpAny_pure ?_)
        have pn : ∀ {c : Addr}, c ∉ rs.map (·.1) → c ≠ p.1 := fun h e => h (e ▸ List.mem_map_of_mem hp)
        refine wpAny_pure ⟨dn ++ [p], left, h2, rfl, rfl, D2, (sb.2 _ (pn zr)).trans g1, (sb.2 _ (pn nTO)).trans g2, rfl, ?_, fun c o c1 c2 c3 e => (sb.2 _ (pn c3)).trans (keep c o c1 c2 c3 e)⟩
        show (items.push (col i p)).toList = _
        rw [Array.toList_push, hi, List.map_append]
        rfl
    · rintro ⟨b1, items⟩ s' ⟨dn, left, h', hr, rfl, D, g1, g2, rfl, hi, keep⟩
      have : left = [] := by
        cases left with
        | nil => rfl
        | cons p left => cases hr
      subst this
      have hd : dn = rs := by rw [D.all, List.append_nil]
      subst hd
      exact ⟨h', rfl, D, g1, g2, rfl, hi, keep⟩
    · exact ⟨[], rs, h1, by simp, rfl, D1, hz1, hTO1, rfl, rfl, fun c o c1 _ _ e => (sb1.2 _ c1).trans e⟩
    · obtain ⟨b1, items⟩ := b
      obtain ⟨h', rfl, D, g1, g2, hb1, hi, keep⟩ := hb
      cases hb1
      dsimp only
      refine wpAny_bind (wpAny_newTuple ?_ (by rw [hi, List.length_map, sizeLine_eq]; omega))
      refine wpAny_pure ⟨_, rfl, ?_⟩
      have hsz := D.size
      rw [hsz]
      have up : ∀ c o, h'.get? c = some o → (h'.push (tupO items.toList.toArray)).get? c = some o := fun c o e => Heap.get?_push_of_some _ e
      refine hQ _ f0 f1' ow (up _ _ g1) hf (up _ _ g2) how (fun q hq => ⟨(D.new q hq).1.at fun o e => up _ o e, (D.new q hq).2.at fun o e => up _ o e⟩) ?_ ?_ fun c o c1 c2 c3 e => up c o (keep c o c1 c2 c3 e)
      · rw [← hsz, hi]
        exact Heap.get?_push_size _ rfl
      · rw [Heap.size_push, hsz]
  | true =>
    simp only [if_true]
    refine wpAny_bind (wpAny_rule ?_)
    refine wpAny_bind (wpAny_field hz1 rfl (x := .ref TO) rfl ?_)
    refine wpAny_bind (wpAny_setField_rec hz1 (by simp) fun h₁ hz₁ hs₁ => ?_)
    replace hz₁ : h₁.get? z = some (zipO TI TO .ellipsis f1') := hz₁
    have D₁ : Dw s rs [] rs i h₁ := D1.keep hs₁ zr lz
    have hTO₁ : h₁.get? TO = some (tupO ow) := (hs₁.2 _ (Ne.symm zTO)).trans hTO1
    refine wpAny_bind (wpAny_mono (wpAny_forIn_list _
      (fun rest (b : Option PySem.Fin × Unit) s' => ∃ dn left h' ow', rest = (left.map (fun p => Value.ref p.1)).zipIdx dn.length ∧ s' = { s with heap := h' } ∧ Dw s rs dn left i h' ∧ h'.get? z = some (zipO TI TO .ellipsis f1') ∧ h'.get? TO = some (tupO ow') ∧ b.1 = none ∧ ow'.size = rs.length ∧ ow'.toList.take dn.length = dn.map (col i) ∧
        (∀ c o, c ≠ z → c ≠ TO → c ∉ rs.map (·.1) → s.heap.get? c = some o → h'.get? c = some o))
      (fun (b : Option PySem.Fin × Unit) s' => ∃ h' ow', s' = { s with heap := h' } ∧ Dw s rs rs [] i h' ∧ h'.get? z = some (zipO TI TO .ellipsis f1') ∧ h'.get? TO = some (tupO ow') ∧ b.1 = none ∧ ow'.size = rs.length ∧ ow'.toList = rs.map (col i) ∧
        (∀ c o, c ≠ z → c ≠ TO → c ∉ rs.map (·.1) → s.heap.get? c = some o → h'.get? c = some o)) ?_ ?_ _ _ ?_) (fun b s' hb => ?_) fun _ _ x => x)
    · rintro x rest ⟨b1, b2⟩ s' ⟨dn, left, h', ow', hr, rfl, D, g1, g2, rfl, hsz, hi, keep⟩
      cases left with
      | nil => cases hr
      | cons p left =>
        rw [List.map_cons, List.zipIdx_cons] at hr
        cases hr
        have hp : p ∈ rs := by rw [D.all]; simp
        have hlen : rs.length = dn.length + (left.length + 1) := by rw [D.all]; simp
        refine wpAny_bind (wpAny_onRaise ?_)
        show wpAny _ _ (Builtin.SmallTypes.nextOf (.ref p.1) >>= _) _ _ _
        refine wpAny_bind (D.draw ndr (hn p hp) fun h2 D2 sb => wpAny_pure ?_)
        have pn : ∀ {c : Addr}, c ∉ rs.map (·.1) → c ≠ p.1 := fun h e => h (e ▸ List.mem_map_of_mem hp)
        have g2' : h2.get? TO = some (tupO ow') := (sb.2 _ (pn nTO)).trans g2
        dsimp only
        refine wpAny_bind (wpAny_seqItems g2' rfl ?_)
        dsimp only
        refine wpAny_bind (wpAny_updateSeq g2' rfl ?_ (by rw [hsz, sizeLine_eq]; omega) (by rw [Array.size_setIfInBounds, hsz, sizeLine_eq]; omega))
        refine wpAny_bind (wpAny_letGo (wpAny_pure ?_))
        have sb3 : Heap.SameBut TO h2 (h2.update TO (Obj.mapSeq fun x => x.setIfInBounds dn.length (col i p))) := Heap.SameBut.update ..
        have g3 : (h2.update TO (Obj.mapSeq fun x => x.setIfInBounds dn.length (col i p))).get? TO = some (tupO (ow'.setIfInBounds dn.length (col i p))) := by
          rw [Heap.get?_update_self _ g2' rfl]
          simp [Obj.mapSeq]
        refine ⟨dn ++ [p], left, _, ow'.setIfInBounds dn.length (col i p), by simp, rfl, D2.keep sb3 nTO lTO, (sb3.2 _ zTO).trans ((sb.2 _ (pn zr)).trans g1), g3, rfl, by rw [Array.size_setIfInBounds, hsz], ?_, fun c o c1 c2 c3 e => (sb3.2 _ c2).trans ((sb.2 _ (pn c3)).trans (keep c o c1 c2 c3 e))⟩
        rw [Array.toList_setIfInBounds, List.length_append, List.length_singleton, List.take_set]
        have hlt : dn.length < ow'.toList.length := by have e : ow'.toList.length = ow'.size := Array.length_toList; omega
        rw [List.take_succ_eq_append_getElem hlt, hi, List.map_append]
        have e : ∀ y : Value, (dn.map (col i) ++ [y]).set dn.length (col i p) = dn.map (col i) ++ [col i p] := fun y => by
          rw [List.set_append, if_neg (by simp)]
          simp
        exact e _
    · rintro ⟨b1, b2⟩ s' ⟨dn, left, h', ow', hr, rfl, D, g1, g2, rfl, hsz, hi, keep⟩
      have : left = [] := by
        cases left with
        | nil => rfl
        | cons p left => cases hr
      subst this
      have hd : dn = rs := by rw [D.all, List.append_nil]
      subst hd
      rw [List.take_of_length_le (by have e : ow'.toList.length = ow'.size := Array.length_toList; omega)] at hi
      exact ⟨h', ow', rfl, D, g1, g2, rfl, hsz, hi, keep⟩
    · exact ⟨[], rs, h₁, ow, by simp, rfl, D₁, hz₁, hTO₁, rfl, how, by simp, fun c o c1 c2 _ e => (hs₁.2 _ c1).trans ((sb1.2 _ c1).trans e)⟩
    · obtain ⟨b1, b2⟩ := b
      obtain ⟨h', ow', rfl, D, g1, g2, hb1, hsz, hi, keep⟩ := hb
      cases hb1
      dsimp only
      refine wpAny_bind (wpAny_seqItems g2 rfl ?_)
      dsimp only
      refine wpAny_bind (wpAny_newTuple ?_ (by rw [hi, List.length_map, sizeLine_eq]; omega))
      have hs' := D.size
      refine wpAny_bind ?_
      unfold Builtin.SmallTypes.ownedTupleHandOut
      have up0 : ∀ c o, h'.get? c = some o → (h'.push (tupO ow'.toList.toArray)).get? c = some o := fun c o e => Heap.get?_push_of_some _ e
      refine wpAny_bind (wpAny_setField_rec (up0 _ _ g1) (by simp) fun h₇ hz₇ hs₇ => ?_)
      replace hz₇ : h₇.get? z = some (zipO TI TO (rawInt h'.objs.size) f1') := hz₇
      refine wpAny_setField_rec hz₇ (by simp) fun h₈ hz₈ hs₈ => ?_
      replace hz₈ : h₈.get? z = some (zipO TI TO (rawInt h'.objs.size) (.bool false)) := hz₈
      have up : ∀ c o, c ≠ z → h'.get? c = some o → h₈.get? c = some o := fun c o hc e => (hs₈.2 _ hc).trans ((hs₇.2 _ hc).trans (up0 c o e))
      refine wpAny_pure ⟨_, rfl, ?_⟩
      rw [hs']
      refine hQ _ _ _ ow' hz₈ (.inr ⟨_, _, rfl⟩) (up _ _ (Ne.symm zTO) g2) hsz (fun q hq => ⟨(D.new q hq).1.at fun o e => up _ o (fun e => zr (e ▸ List.mem_map_of_mem hq)) e, (D.new q hq).2.at fun o e => up _ o (lz q hq) e⟩) ?_ ?_ fun c o c1 c2 c3 e => up c o c1 (keep c o c1 c2 c3 e)
      · rw [← hs', ← hi]
        have hzn : h'.objs.size ≠ z := Nat.ne_of_gt (by rw [hs']; exact zlt)
        exact (hs₈.2 _ hzn).trans ((hs₇.2 _ hzn).trans (Heap.get?_push_size _ rfl))
      · rw [hs₈.1, hs₇.1, Heap.size_push, hs']

theorem next_end {z TI TO : Addr} {p : Rw} {rs : List Rw} {f0 f1 : Value} {ow : Array Value} {i : Nat} {Q : PySem.Fin → Shared → Prop} (hh : A.handled = none)
    (hz : s.heap.get? z = some (zipO TI TO f0 f1)) (hf : f0 = .none ∨ ∃ a tk, f0 = .int a tk)
    (hTI : s.heap.get? TI = some (tupO ((p :: rs).map fun p => .ref p.1).toArray))
    (I : Its s.heap (p :: rs) i) (hn : p.2.2[i]? = none) (zr : p.1 ≠ z) (lz : p.2.1 ≠ z)
    (hE : ∀ h' e, (∀ c o, c ≠ z → c ≠ p.1 → s.heap.get? c = some o → h'.get? c = some o) → (∃ o, h'.get? e = some o ∧ o.cls = .type "StopIteration") → E (.ref e) { s with heap := h' }) :
    wpAny (model prog w) A (Builtin.«zip.__next__» ⟨[.ref z], []⟩) Q E s := by
  obtain ⟨it, ro⟩ := I p (List.mem_cons_self ..)
  show wpAny _ _ (field (.ref z) 2 >>= _) _ _ _
  refine wpAny_bind (wpAny_field hz rfl (x := .bool false) rfl ?_)
  show wpAny _ _ (field (.ref z) 3 >>= _) _ _ _
  refine wpAny_bind (wpAny_field hz rfl (x := .ref TI) rfl ?_)
  refine wpAny_bind (wpAny_seqItems hTI rfl ?_)
  have hne : ((p :: rs).map fun p => Value.ref p.1).toArray.isEmpty = false := by simp
  simp only [hne, Bool.false_eq_true, if_false]
  refine wpAny_bind (wpAny_mono (isFree hz hf) (fun b s1 hb => ?_) fun _ _ x => x)
  obtain ⟨h1, f1', rfl, hz1, sb1⟩ := hb
  have it1 : h1.IsTupleIter p.1 p.2.1 i := it.extBut sb1.extBut zr
  have ro1 : h1.IsTuple p.2.1 p.2.2 := ro.extBut sb1.extBut lz
  cases b with
  | false =>
    simp only [Bool.false_eq_true, if_false]
    rw [← Array.forIn_toList]
    simp only [List.map_cons, List.forIn_cons]
    refine wpAny_bind (wpAny_bind (wpAny_bind (wpAny_holding ?_)))
    show wpAny _ _ (Builtin.SmallTypes.nextOf (.ref p.1) >>= _) _ _ _
    exact wpAny_bind (RZ.nextOf_tuple_end (s := { s with heap := h1 }) hh it1 ro1 hn fun h2 e hk he => hE h2 e (fun c o c1 c2 x => hk c o c2 ((sb1.2 _ c1).trans x)) he)
  | true =>
    simp only [if_true]
    refine wpAny_bind (wpAny_rule ?_)
    refine wpAny_bind (wpAny_field hz1 rfl (x := .ref TO) rfl ?_)
    refine wpAny_bind (wpAny_setField_rec hz1 (by simp) fun h₁ hz₁ hs₁ => ?_)
    replace hz₁ : h₁.get? z = some (zipO TI TO .ellipsis f1') := hz₁
    simp only [List.map_cons, List.zipIdx_cons, List.forIn_cons]
    refine wpAny_bind (wpAny_bind (wpAny_bind (wpAny_onRaise ?_)))
    show wpAny _ _ (Builtin.SmallTypes.nextOf (.ref p.1) >>= _) _ _ _
    refine wpAny_bind (RZ.nextOf_tuple_end (s := { s with heap := h₁ }) hh (it1.extBut hs₁.extBut zr) (ro1.extBut hs₁.extBut lz) hn fun h₂ e hk he => ?_)
    obtain ⟨oe, hoe, hce⟩ := he
    have hz₂ : h₂.get? z = some (zipO TI TO .ellipsis f1') := hk _ _ zr.symm hz₁
    have hez : e ≠ z := fun x => by
      subst x
      rw [hz₂] at hoe
      cases hoe
      simp at hce
    exact wpAny_setField_rec hz₂ (by simp) fun h₃ _ hs₃ => hE h₃ e (fun c o c1 c2 x => hs₃.extBut _ _ c1 (hk _ _ c2 (hs₁.extBut _ _ c1 (sb1.extBut _ _ c1 x)))) ⟨oe, hs₃.extBut _ _ hez hoe, hce⟩
end
end VZ

namespace VZ
open PySem PySem.Spec PyProof.Rows L2
abbrev Ln := Addr × Array Value
def mkR : Nat → List Ln → List Rw
  | _, [] => []
  | b, l :: r => (b, l.1, l.2) :: mkR (b + 1) r
theorem mkR_len : ∀ (b : Nat) (ls : List Ln), (mkR b ls).length = ls.length
  | _, [] => rfl
  | b, l :: r => by simp [mkR, mkR_len (b + 1) r]
theorem mkR_app : ∀ (b : Nat) (ls ms : List Ln), mkR b (ls ++ ms) = mkR b ls ++ mkR (b + ls.length) ms
  | b, [], ms => by simp [mkR]
  | b, l :: r, ms => by
    have ih := mkR_app (b + 1) r ms
    simp only [List.cons_append, mkR, ih, List.length_cons]
    rw [show b + 1 + r.length = b + (r.length + 1) by omega]
theorem mkR_at : ∀ (b : Nat) (ls : List Ln) (p : Rw), p ∈ mkR b ls → b ≤ p.1 ∧ p.1 < b + ls.length ∧ p.2 ∈ ls
  | b, l :: r, p, h => by
    simp only [mkR] at h
    rcases List.mem_cons.mp h with rfl | h
    · exact ⟨Nat.le_refl _, by simp, List.mem_cons_self ..⟩
    · obtain ⟨h1, h2, h3⟩ := mkR_at (b + 1) r p h
      exact ⟨Nat.le_of_succ_le h1, by simp only [List.length_cons]; exact Nat.lt_of_lt_of_le h2 (by omega), List.mem_cons_of_mem _ h3⟩
theorem mkR_nd : ∀ (b : Nat) (ls : List Ln), ((mkR b ls).map (·.1)).Nodup
  | _, [] => List.nodup_nil
  | b, l :: r => by
    simp only [mkR, List.map_cons, List.nodup_cons]
    refine ⟨fun h => ?_, mkR_nd (b + 1) r⟩
    obtain ⟨p, hp, e⟩ := List.mem_map.mp h
    have := (mkR_at (b + 1) r p hp).1
    rw [e] at this
    exact absurd this (Nat.not_succ_le_self b)
theorem mkR_snd : ∀ (b : Nat) (ls : List Ln), (mkR b ls).map (·.2) = ls
  | _, [] => rfl
  | b, l :: r => by simp [mkR, mkR_snd (b + 1) r]
section
variable {prog : Program} {w : World} {A : Around} {E : Value → Shared → Prop} {s : Shared}
/-- the iterators of all -/
theorem iterAll_ok {ls : List Ln} {Q : List Value → Shared → Prop} (hl : ∀ l ∈ ls, s.heap.IsTuple l.1 l.2)
    (hQ : ∀ h', (∀ c o, s.heap.get? c = some o → h'.get? c = some o) → h'.objs.size = s.heap.objs.size + ls.length → Its h' (mkR s.heap.objs.size ls) 0 → Q ((mkR s.heap.objs.size ls).map fun p => .ref p.1) { s with heap := h' }) :
    wpAny (model prog w) A (Builtin.SmallTypes.iterAll (ls.map fun l => .ref l.1)) Q E s := by
  unfold Builtin.SmallTypes.iterAll
  refine wpAny_bind (wpAny_mono (wpAny_forIn_list _
    (fun rest (b : Array Value) s' => ∃ dn left h', ls = dn ++ left ∧ rest = left.map (fun l => Value.ref l.1) ∧ s' = { s with heap := h' } ∧ b.toList = (mkR s.heap.objs.size dn).map (fun p => .ref p.1) ∧ (∀ c o, s.heap.get? c = some o → h'.get? c = some o) ∧ h'.objs.size = s.heap.objs.size + dn.length ∧ Its h' (mkR s.heap.objs.size dn) 0)
    (fun (b : Array Value) s' => ∃ h', s' = { s with heap := h' } ∧ b.toList = (mkR s.heap.objs.size ls).map (fun p => .ref p.1) ∧ (∀ c o, s.heap.get? c = some o → h'.get? c = some o) ∧ h'.objs.size = s.heap.objs.size + ls.length ∧ Its h' (mkR s.heap.objs.size ls) 0) ?_ ?_ _ _ ?_) (fun b s' hb => ?_) fun _ _ x => x)
  · rintro x rest b s' ⟨dn, left, h', hs, hr, rfl, hb, keep, hz, hI⟩
    cases left with
    | nil => cases hr
    | cons l left =>
      cases hr
      have hll : h'.IsTuple l.1 l.2 := (hl l (by rw [hs]; simp)).at fun o e => keep _ _ e
      refine wpAny_bind (wpAny_holding (wpAny_pyIter_tuple (s := { s with heap := h' }) hll ?_))
      have up : ∀ c o, h'.get? c = some o → (h'.push { cls := .type "tuple_iterator", data := .fields #[.ref l.1, .int 0 0] }).get? c = some o := fun c o e => Heap.get?_push_of_some _ e
      refine wpAny_pure ⟨dn ++ [l], left, _, by rw [hs]; simp, rfl, rfl, ?_, fun c o e => up c o (keep c o e), by rw [Heap.size_push, hz, List.length_append]; rfl, fun q hq => ?_⟩
      · rw [Array.toList_push, hb, mkR_app, List.map_append]
        show _ ++ [Value.ref h'.objs.size] = _
        rw [hz]
        rfl
      · rw [mkR_app] at hq
        rcases List.mem_append.mp hq with hq | hq
        · exact ⟨(hI q hq).1.at fun o e => up _ o e, (hI q hq).2.at fun o e => up _ o e⟩
        · have e : q = (s.heap.objs.size + dn.length, l.1, l.2) := List.mem_singleton.mp hq
          rw [e]
          refine ⟨?_, hll.at fun o e => up _ o e⟩
          show Heap.IsTupleIter _ (s.heap.objs.size + dn.length) l.1 0
          rw [← hz]
          exact ⟨_, Heap.get?_push_size _ rfl, rfl, rfl⟩
  · rintro b s' ⟨dn, left, h', hs, hr, rfl, hb, keep, hz, hI⟩
    have : left = [] := by
      cases left with
      | nil => rfl
      | cons p left => cases hr
    subst this
    rw [List.append_nil] at hs
    subst hs
    exact ⟨h', rfl, hb, keep, hz, hI⟩
  · exact ⟨[], ls, s.heap, rfl, rfl, rfl, rfl, fun _ _ e => e, rfl, fun q hq => nomatch hq⟩
  · obtain ⟨h', rfl, hb, keep, hz, hI⟩ := hb
    refine wpAny_pure ?_
    rw [hb]
    exact hQ h' keep hz hI
end
end VZ

namespace VZ
open PySem PySem.Spec PyProof.Rows L2
abbrev psZ : List Manifest.Param := [⟨"iterables", .varPos, false⟩, ⟨"strict", .kwOnly, false⟩]
theorem cc (n : Nat) : Bind.checkCount "zip" psZ n = pure () := by
  simp [Bind.checkCount, Bind.isPositional]
  intro _ h
  exact absurd h (by decide)
abbrev sgZ : Manifest.Signature := ⟨.keywordsApart, "zip", "zip", .cls, psZ⟩
theorem chk (n : Nat) : Bind.check sgZ "zip" "zip" n [] = pure () := by
  unfold Bind.check
  simp only [cc]
  kernel_rfl
theorem chkA (vs : List Value) : Bind.checkArgs "zip.__new__" sgZ ⟨.type "zip" :: vs, []⟩ = pure () := by
  have z := chk vs.length
  unfold Bind.checkArgs
  show (((Bind.check sgZ "zip" "zip" vs.length []) : Sem Unit).onRaise _) = _
  rw [z]
  rfl
theorem typeCall_zip (vs : List Value) : checkTypeCall "zip" ⟨vs, []⟩ = pure () := by kernel_rfl
theorem newCall_zip (vs : List Value) : checkBuiltinCall "zip.__new__" ⟨.type "zip" :: vs, []⟩ = pure () := by
  have h : checkBuiltinCall "zip.__new__" ⟨.type "zip" :: vs, []⟩ = Bind.checkArgs "zip.__new__" sgZ ⟨.type "zip" :: vs, []⟩ := by kernel_rfl
  rw [h, chkA]
theorem args_init (o : Value) (vs : List Value) : argsOk "object.__init__" ⟨o :: vs, []⟩ := by
  unfold argsOk; rw [signature?_of (id := "object.__init__") (n := ['_', '_', 't', 'i', 'n', 'i', '_', '_']) (o := ['t', 'c', 'e', 'j', 'b', 'o']) (by kernel_rfl) F.owner_object]; kernel_rfl
/-- a zip, just made -/
structure NewZ (h h' : Heap) (ls : List Ln) : Prop where
  z : h'.get? (h.objs.size + ls.length + 2) = some (zipO (h.objs.size + ls.length) (h.objs.size + ls.length + 1) .none (.bool false))
  TI : h'.get? (h.objs.size + ls.length) = some (tupO ((mkR h.objs.size ls).map fun p => .ref p.1).toArray)
  TO : h'.get? (h.objs.size + ls.length + 1) = some (tupO (ls.map fun _ => Value.none).toArray)
  its : Its h' (mkR h.objs.size ls) 0
  keep : ∀ c o, h.get? c = some o → h'.get? c = some o
  size : h'.objs.size = h.objs.size + ls.length + 3
theorem new_meets (ls : List Ln) (few : ls.length ≤ 1000) : Meets (Builtin.«zip.__new__» ⟨.type "zip" :: ls.map (fun l => .ref l.1), []⟩) (fun _ R s => (∀ l ∈ ls, s.heap.IsTuple l.1 l.2) ∧
      ∀ h', NewZ s.heap h' ls → R (.ok (.ret (.ref (s.heap.objs.size + ls.length + 2)))) { s with heap := h' }) :=
  .of_wp fun prog w A R s h => by
    obtain ⟨hp, g, d, tk, os⟩ := s
    obtain ⟨hl, hR⟩ := h
    have hsub := sub_zip
    unfold Builtin.«zip.__new__»
    generalize hIA : Builtin.SmallTypes.iterAll = IA
    wp_walk
    subst hIA
    refine iterAll_ok (s := ⟨hp, g, d, tk, os⟩) hl fun h' keep hz hI => ?_
    have hz' : h'.objs.size = hp.objs.size + ls.length := hz
    have hlen : ((mkR hp.objs.size ls).map fun p => Value.ref p.1).length = ls.length := by rw [List.length_map, mkR_len]
    have hmap : ((mkR hp.objs.size ls).map fun p => Value.ref p.1).map (fun _ => Value.none) = ls.map fun _ => Value.none := by
      rw [List.map_map]
      have e : (mkR hp.objs.size ls).map (fun _ => Value.none) = ((mkR hp.objs.size ls).map (·.2)).map fun _ => Value.none := by rw [List.map_map]; rfl
      rw [mkR_snd] at e
      exact e
    refine wpAny_bind (wpAny_newTuple ?_ (by show _ ≤ sizeLine; rw [hlen, sizeLine_eq]; omega))
    show wpAny _ _ (newTuple (((mkR hp.objs.size ls).map fun p => Value.ref p.1).map fun _ => Value.none) >>= _) _ _ _
    rw [hmap]
    refine wpAny_bind (wpAny_newTuple ?_ (by show _ ≤ sizeLine; rw [List.length_map, sizeLine_eq]; omega))
    dsimp only
    have z1 : (h'.push (tupO ((mkR hp.objs.size ls).map fun p => Value.ref p.1).toArray)).objs.size = hp.objs.size + ls.length + 1 := by rw [Heap.size_push, hz']
    have z2 : ((h'.push (tupO ((mkR hp.objs.size ls).map fun p => Value.ref p.1).toArray)).push (tupO (ls.map fun _ => Value.none).toArray)).objs.size = hp.objs.size + ls.length + 2 := by rw [Heap.size_push, z1]
    have g1 : ((h'.push (tupO ((mkR hp.objs.size ls).map fun p => Value.ref p.1).toArray)).push (tupO (ls.map fun _ => Value.none).toArray)).get? (hp.objs.size + ls.length) = some (tupO ((mkR hp.objs.size ls).map fun p => Value.ref p.1).toArray) := by
      rw [← hz']
      exact Heap.get?_push_of_some _ (Heap.get?_push_size _ rfl)
    have g2 : ((h'.push (tupO ((mkR hp.objs.size ls).map fun p => Value.ref p.1).toArray)).push (tupO (ls.map fun _ => Value.none).toArray)).get? (hp.objs.size + ls.length + 1) = some (tupO (ls.map fun _ => Value.none).toArray) := by
      rw [← z1]
      exact Heap.get?_push_size _ rfl
    have up : ∀ c o, h'.get? c = some o → ((h'.push (tupO ((mkR hp.objs.size ls).map fun p => Value.ref p.1).toArray)).push (tupO (ls.map fun _ => Value.none).toArray)).get? c = some o := fun c o e => Heap.get?_push_of_some _ (Heap.get?_push_of_some _ e)
    show wpAny _ _ (Builtin.SmallTypes.newRecord (.type "zip") (Builtin.SmallTypes.ownedTupleFields ++ [.bool false, .ref h'.objs.size, .ref (h'.push (tupO ((mkR hp.objs.size ls).map fun p => Value.ref p.1).toArray)).objs.size]) >>= _) _ _ ⟨(h'.push (tupO ((mkR hp.objs.size ls).map fun p => Value.ref p.1).toArray)).push (tupO (ls.map fun _ => Value.none).toArray), g, d, tk, os⟩
    rw [hz', z1]
    generalize (h'.push (tupO ((mkR hp.objs.size ls).map fun p => Value.ref p.1).toArray)).push (tupO (ls.map fun _ => Value.none).toArray) = h2 at z2 g1 g2 up ⊢
    unfold Builtin.SmallTypes.newRecord
    refine wpAny_bind (wpAny_newObj_type ?_ (by show 5 ≤ sizeLine + 2; rw [sizeLine_eq]; decide))
    rw [z2]
    refine wpAny_pure ⟨_, rfl, ?_⟩
    refine hR _ ⟨?_, Heap.get?_push_of_some _ g1, Heap.get?_push_of_some _ g2, fun q hq => ⟨(hI q hq).1.at fun o e => Heap.get?_push_of_some _ (up _ o e), (hI q hq).2.at fun o e => Heap.get?_push_of_some _ (up _ o e)⟩, fun c o e => Heap.get?_push_of_some _ (up c o (keep c o e)), by rw [Heap.size_push, z2]⟩
    show (h2.push _).get? (hp.objs.size + ls.length + 2) = _
    rw [← z2]
    exact Heap.get?_push_size _ rfl
section
variable {prog : Program} {w : World} {A : Around} {E : Value → Shared → Prop} {s : Shared}
theorem call_zip {ls : List Ln} {Q : Value → Shared → Prop} (few : ls.length ≤ 1000) (hl : ∀ l ∈ ls, s.heap.IsTuple l.1 l.2)
    (h : ∀ h', NewZ s.heap h' ls → Q (.ref (s.heap.objs.size + ls.length + 2)) { s with heap := h' }) : wpAny (model prog w) A (call (.type "zip") (ls.map fun l => .ref l.1)) Q E s := by
  refine callType_new F.called_zip (by decide) (typeCall_zip _) (newCall_zip _) (fun obj => args_init obj _) F.entry_zip_new (new_meets ls few) ⟨hl, fun h' n => ?_⟩
  exact ⟨⟨_, n.z, rfl⟩, h h' n⟩
theorem pyIter_zip {z TI TO : Addr} {f0 f1 : Value} {Q : Value → Shared → Prop} (hz : s.heap.get? z = some (zipO TI TO f0 f1)) (h : Q (.ref z) s) : wpAny (model prog w) A (pyIter (.ref z)) Q E s := by
  have hT : s.TypeIs (.ref z) "zip" := ⟨_, hz, rfl⟩
  refine wpAny_pyIter_slot hT F.slot_zip_iter (wpAny_call_entry F.slot_zip_iter hT F.entry_zip_iter ?_ (F.args_zip_iter_1 _))
  show wpAny _ _ (ret (.ref z)) _ _ s
  exact wpAny_pure ⟨_, rfl, "zip", _, hT, F.slot_zip_next.lookup, h⟩
end
end VZ

namespace VZ
open PySem PySem.Spec PyProof.Rows L2
/-- rows of n items each, where they stand -/
def Rows (K : PySem.W.Frag) (H : Hp) (ls : List Addr) (xss : List (List V)) (n : Nat) : Prop := xss.length = ls.length ∧ ∀ (k : Nat) (l : Addr) (xs : List V), ls[k]? = some l → xss[k]? = some xs → SqT K H l xs ∧ xs.length = n
def at_ (i : Nat) (xs : List V) : V := xs.getD i .non
/-- the items at one place, of all rows, in a new tuple -/
def IteZ (K : PySem.W.Frag) (ls : List Addr) (n : Nat) : It :=
  ⟨fun i H => i < n ∧ ∃ xss, Rows K H ls xss n, fun i H v H' => ∃ T cl, v = .ref T ∧ H T = none ∧ H' = upd H T (.tup cl) ∧ (∀ xss, Rows K H ls xss n → cl = xss.map (at_ i)),
   fun i H => n ≤ i ∧ ∃ xss, Rows K H ls xss n⟩
def tnZ (z TI TO : Addr) (ps : List (Addr × Addr)) : Nat → Heap → Prop := fun i h => ∃ f0 f1 ow, h.get? z = some (zipO TI TO f0 f1) ∧ (f0 = .none ∨ ∃ a tk, f0 = .int a tk) ∧ h.get? TI = some (tupO (ps.map fun p => .ref p.1).toArray) ∧
  h.get? TO = some (tupO ow) ∧ ow.size = ps.length ∧ ∀ p ∈ ps, h.IsTupleIter p.1 p.2 i
abbrev fpZ (z TI TO : Addr) (ps : List (Addr × Addr)) : List Addr := z :: TI :: TO :: ps.map (·.1)
theorem Rows.tail {K : PySem.W.Frag} {H : Hp} {l : Addr} {ls : List Addr} {xs : List V} {xss : List (List V)} {n : Nat} (r : Rows K H (l :: ls) (xs :: xss) n) : Rows K H ls xss n :=
  ⟨by have := r.1; simpa using this, fun k a b h1 h2 => r.2 (k + 1) a b (by simpa using h1) (by simpa using h2)⟩
section
variable {X : Cx} {pins : List (Addr × Obj)} {σ : L2.St} {H : Hp} {s : Shared}
theorem rows_of {i n : Nat} (I : Inv X pins σ H s) : ∀ (ps : List (Addr × Addr)) (xss : List (List V)), Rows X.K H (ps.map (·.2)) xss n → (∀ p ∈ ps, s.heap.IsTupleIter p.1 p.2 i) →
    ∃ rs : List Rw, rs.map (fun r => (r.1, r.2.1)) = ps ∧ Its s.heap rs i ∧ (∀ r ∈ rs, r.2.2.size = n) ∧ (i < n → Vals (xss.map (at_ i)) (rs.map (col i)))
  | [], xss, r, _ => by
    have : xss = [] := List.eq_nil_of_length_eq_zero r.1
    subst this
    exact ⟨[], rfl, (fun q hq => nomatch hq), (fun q hq => nomatch hq), fun _ => .nil⟩
  | p :: ps, [], r, _ => absurd r.1 (by simp)
  | p :: ps, xs :: xss, r, hi => by
    obtain ⟨rs, h1, h2, h3, h4⟩ := rows_of I ps xss r.tail (fun q hq => hi q (List.mem_cons_of_mem _ hq))
    obtain ⟨hq, hxl⟩ := r.2 0 p.2 xs rfl rfl
    obtain ⟨its, rv, tp, hz⟩ := I.tuple hq
    have tp' : s.heap.IsTuple p.2 its.toArray := tp
    have hlen := rv.length
    refine ⟨(p.1, p.2, its.toArray) :: rs, by rw [List.map_cons, h1], fun q hq' => ?_, fun q hq' => ?_, fun hin => ?_⟩
    · rcases List.mem_cons.mp hq' with rfl | hq'
      · exact ⟨hi p (List.mem_cons_self ..), tp'⟩
      · exact h2 q hq'
    · rcases List.mem_cons.mp hq' with rfl | hq'
      · show its.toArray.size = n
        rw [List.size_toArray]
        omega
      · exact h3 q hq'
    · have hx : xs[i]? = some (at_ i xs) := by
        unfold at_
        rw [List.getD_eq_getElem?_getD, List.getElem?_eq_getElem (by omega)]
        rfl
      obtain ⟨u, hu, ru⟩ := rv.get hx
      have e : col i (p.1, p.2, its.toArray) = u := by
        unfold col
        show its.toArray.getD i .none = u
        simp [Array.getD_eq_getD_getElem?, hu]
      refine .cons ?_ (h4 hin)
      rw [e]
      exact ru
theorem arrs_of {n : Nat} (I : Inv X pins σ H s) : ∀ (ls : List Addr) (xss : List (List V)), Rows X.K H ls xss n → ∃ lns : List Ln, lns.map (·.1) = ls ∧ ∀ l ∈ lns, s.heap.IsTuple l.1 l.2
  | [], xss, r => ⟨[], rfl, (fun q hq => nomatch hq)⟩
  | l :: ls, [], r => absurd r.1 (by simp)
  | l :: ls, xs :: xss, r => by
    obtain ⟨lns, h1, h2⟩ := arrs_of I ls xss r.tail
    obtain ⟨hq, hxl⟩ := r.2 0 l xs rfl rfl
    obtain ⟨its, rv, tp, hz⟩ := I.tuple hq
    refine ⟨(l, its.toArray) :: lns, by rw [List.map_cons, h1], fun q hq' => ?_⟩
    rcases List.mem_cons.mp hq' with rfl | hq'
    · exact tp
    · exact h2 q hq'
theorem rows_same {n : Nat} (I : Inv X pins σ H s) : ∀ (ls : List Addr) (xss yss : List (List V)), Rows X.K H ls xss n → Rows X.K H ls yss n → xss = yss
  | [], xss, yss, r, q => by rw [List.eq_nil_of_length_eq_zero r.1, List.eq_nil_of_length_eq_zero q.1]
  | l :: ls, [], _, r, _ => absurd r.1 (by simp)
  | l :: ls, _, [], _, q => absurd q.1 (by simp)
  | l :: ls, xs :: xss, ys :: yss, r, q => by
    rw [rows_same I ls xss yss r.tail q.tail, I.tuple_inj (r.2 0 l xs rfl rfl).1 (q.2 0 l ys rfl rfl).1]
end
end VZ

namespace VZ
open PySem PySem.Spec PyProof.Rows L2
section
variable {prog : Program} {w : World} {A : Around} {E : Value → Shared → Prop} {s : Shared}
theorem pyNext_item {z : Addr} {T : Value} {Q : Option Value → Shared → Prop} {TI TO : Addr} {f0 f1 : Value} (hz : s.heap.get? z = some (zipO TI TO f0 f1))
    (h : wpAny (model prog w) A.in1 (Builtin.«zip.__next__» ⟨[.ref z], []⟩) (fun fin s' => ∃ v, fin = .done (.ret v) ∧ Q (some v) s') (fun _ _ => False) s) : wpAny (model prog w) A (pyNext (.ref z)) Q E s := by
  have hT : s.TypeIs (.ref z) "zip" := ⟨_, hz, rfl⟩
  unfold pyNext
  refine wpAny_bind (wpAny_attempt (wpAny_callSpecial?_slot (name := Str.ofString "__next__") hT F.slot_zip_next
    (wpAny_call_entry F.slot_zip_next hT F.entry_zip_next (wpAny_mono h (fun fin s' hf => ?_) fun _ _ x => x.elim) (F.args_zip_next_1 _))))
  obtain ⟨v, rfl, q⟩ := hf
  exact ⟨v, rfl, wpAny_pure q⟩
end

theorem apart_z {h : Heap} {z TI TO a : Addr} {f0 f1 : Value} {vs : Array Value} (hz : h.get? z = some (zipO TI TO f0 f1)) (ht : h.IsTuple a vs) : a ≠ z := by
  rintro rfl
  obtain ⟨o', g1, g2, _⟩ := ht
  rw [hz] at g1
  cases g1
  exact absurd (Value.type.inj g2) (by decide)
theorem turnZ {P : Program} {w : PySem.World} {K : PySem.W.Frag} {x : Str} {tp : Pos} (z TI TO : Addr) (ps : List (Addr × Addr)) (n : Nat) (ne : ps ≠ []) (few : ps.length ≤ 1000) (nd : (fpZ z TI TO ps).Nodup) (lTO : ∀ p ∈ ps, p.2 ≠ TO) :
    Turn P w K (.Name x tp) (IteZ K (ps.map (·.2)) n) (fpZ z TI TO ps) z (tnZ z TI TO ps) where
  mem := List.mem_cons_self ..
  obj := fun i h st b hb => by
    obtain ⟨f0, f1, ow, hz, hf, hTI, hTO, how, hit⟩ := st
    simp only [fpZ, List.mem_cons] at hb
    rcases hb with rfl | rfl | rfl | hb
    · exact ⟨_, hz, fun v q => nomatch q⟩
    · exact ⟨_, hTI, fun v q => nomatch q⟩
    · exact ⟨_, hTO, fun v q => nomatch q⟩
    · obtain ⟨p, hp, rfl⟩ := List.mem_map.mp hb
      obtain ⟨o, ho, hc, hd⟩ := hit p hp
      exact ⟨o, ho, fun v q => by rw [hd] at q; cases q⟩
  keep := fun i h h' st k => by
    obtain ⟨f0, f1, ow, hz, hf, hTI, hTO, how, hit⟩ := st
    refine ⟨f0, f1, ow, k z (by simp [fpZ]) _ hz, hf, k TI (by simp [fpZ]) _ hTI, k TO (by simp [fpZ]) _ hTO, how, fun p hp => (hit p hp).at fun o q => k p.1 ?_ o q⟩
    simp only [fpZ, List.mem_cons]
    exact .inr (.inr (.inr (List.mem_map_of_mem hp)))
  item := by
    intro X hP hw hK hc i pins s σ H E I hf st hg
    subst hP hw hK
    obtain ⟨f0, f1, ow, hz, hf0, hTI, hTO, how, hit⟩ := st
    obtain ⟨hin, xss, hrows⟩ := hg
    obtain ⟨rs, h1, h2, h3, h4⟩ := rows_of I ps xss hrows hit
    have hv := h4 hin
    have hm1 : rs.map (·.1) = ps.map (·.1) := by rw [← h1, List.map_map]; rfl
    have hmr : (rs.map fun p => Value.ref p.1) = ps.map fun p => Value.ref p.1 := by rw [← h1, List.map_map]; rfl
    have hlen : rs.length = ps.length := by rw [← h1, List.length_map]
    have hTI' : s.heap.get? TI = some (tupO (rs.map fun p => .ref p.1).toArray) := by rw [hmr]; exact hTI
    have nd' : (z :: TI :: TO :: rs.map (·.1)).Nodup := by rw [hm1]; exact nd
    have lz : ∀ r ∈ rs, r.2.1 ≠ z := fun r hr => apart_z hz (h2 r hr).2
    have lTO' : ∀ r ∈ rs, r.2.1 ≠ TO := fun r hr => lTO (r.1, r.2.1) (by rw [← h1]; exact List.mem_map_of_mem hr)
    have hT : s.TypeIs (.ref z) "zip" := ⟨_, hz, rfl⟩
    unfold pyNext
    refine wpAny_bind (wpAny_attempt (wpAny_callSpecial?_slot (name := Str.ofString "__next__") hT F.slot_zip_next
      (wpAny_call_entry F.slot_zip_next hT F.entry_zip_next
        (next_item hz hf0 hTI' hTO (by rw [how, hlen]) h2 (fun r hr => by rw [h3 r hr]; exact hin) (fun e => by rw [e] at hlen; exact ne (List.eq_nil_of_length_eq_zero hlen.symm)) (by rw [hlen]; exact few) nd' lz lTO' fun h' f0' f1' ow' a1 a2 a3 a4 a5 a6 a7 a8 => wpAny_pure ?_) (F.args_zip_next_1 _))))
    refine ⟨_, rfl, wpAny_pure ?_⟩
    have cl : xss.map (at_ i) ≠ [] → True := fun _ => trivial
    have nw : ObjOk X.prog X.w (upd H s.heap.objs.size (.tup (xss.map (at_ i)))) h' s.heap.objs.size (.tup (xss.map (at_ i))) := by
      refine ⟨?_, rs.map (col i), hv, ⟨_, a6, rfl, _, rfl⟩⟩
      show (xss.map (at_ i)).length ≤ sizeLine
      rw [hv.length, List.length_map, hlen, sizeLine_eq]
      omega
    have I1 : Inv X pins σ (upd H s.heap.objs.size (.tup (xss.map (at_ i)))) { s with heap := h' } := I.turnedNew (t' := s.toks) (ch := fpZ z TI TO ps) (fun b o hb q => a8 b o (fun e => hb (by simp [fpZ, e])) (fun e => hb (by simp [fpZ, e])) (fun e => hb (by rw [hm1] at e; simp only [fpZ, List.mem_cons]; exact .inr (.inr (.inr e)))) q) hf (Nat.le_refl _) nw
    refine ⟨.ref s.heap.objs.size, _, I1, rfl, ⟨_, _, rfl, I.hok.fresh (Nat.le_refl _), rfl, fun ys hy => by rw [rows_same I _ _ _ hy hrows]⟩, ⟨f0', f1', ow', a1, a2, ?_, a3, by rw [a4, hlen], fun p hp => ?_⟩, fun b hb => ?_⟩
    · have nTI : TI ≠ z ∧ TI ≠ TO ∧ TI ∉ rs.map (·.1) := by
        rw [List.nodup_cons, List.nodup_cons] at nd'
        obtain ⟨q1, q2, q3⟩ := nd'
        simp only [List.mem_cons, not_or] at q1 q2
        exact ⟨Ne.symm q1.1, q2.1, q2.2⟩
      exact a8 _ _ nTI.1 nTI.2.1 nTI.2.2 hTI
    · rw [← h1] at hp
      obtain ⟨r, hr, rfl⟩ := List.mem_map.mp hp
      exact (a5 r hr).1
    · have hlt : b < s.heap.objs.size := by
        simp only [fpZ, List.mem_cons] at hb
        rcases hb with rfl | rfl | rfl | hb
        · exact Heap.lt_size hz
        · exact Heap.lt_size hTI
        · exact Heap.lt_size hTO
        · obtain ⟨p, hp, rfl⟩ := List.mem_map.mp hb
          obtain ⟨o, ho, _⟩ := hit p hp
          exact Heap.lt_size ho
      exact (upd_ne (Nat.ne_of_lt hlt)).trans (hf b hb).1
  done := by
    intro X hP hw hK hc i pins s σ H E I hf st hg
    subst hP hw hK
    obtain ⟨f0, f1, ow, hz, hf0, hTI, hTO, how, hit⟩ := st
    obtain ⟨hin, xss, hrows⟩ := hg
    obtain ⟨rs, h1, h2, h3, _⟩ := rows_of I ps xss hrows hit
    have hT : s.TypeIs (.ref z) "zip" := ⟨_, hz, rfl⟩
    cases rs with
    | nil => exact absurd h1.symm (by simpa using ne)
    | cons r rs =>
      have hm1 : (r :: rs).map (·.1) = ps.map (·.1) := by rw [← h1, List.map_map]; rfl
      have hmr : ((r :: rs).map fun p => Value.ref p.1) = ps.map fun p => Value.ref p.1 := by rw [← h1, List.map_map]; rfl
      have hTI' : s.heap.get? TI = some (tupO ((r :: rs).map fun p => .ref p.1).toArray) := by rw [hmr]; exact hTI
      have rin : r.1 ∈ ps.map (·.1) := by rw [← hm1]; simp
      have zr : r.1 ≠ z := fun e => by
        rw [List.nodup_cons] at nd
        apply nd.1
        simp only [List.mem_cons]
        exact .inr (.inr (e ▸ rin))
      have hend : r.2.2[i]? = none := by
        rw [Array.getElem?_eq_none_iff, h3 r (List.mem_cons_self ..)]
        exact hin
      have hh : X.A.in1.handled = none := I.ok.hd hc
      unfold pyNext
      refine wpAny_bind (wpAny_attempt (wpAny_callSpecial?_slot (name := Str.ofString "__next__") hT F.slot_zip_next
        (wpAny_call_entry F.slot_zip_next hT F.entry_zip_next (next_end (ow := ow) (TO := TO) hh hz hf0 hTI' h2 hend zr (apart_z hz (h2 r (List.mem_cons_self ..)).2) fun h' e hk he => ?_) (F.args_zip_next_1 _))))
      obtain ⟨o, ho, hcl⟩ := he
      refine wpAny_bind (wpAny_isInstance (T := "StopIteration") (b := true) ⟨o, ho, hcl⟩ isSubtype_stop ?_)
      refine wpAny_pure ⟨rfl, ?_⟩
      refine I.turnedL (t' := s.toks) (ch := fpZ z TI TO ps) (fun b o hb q => hk b o (fun e => hb (by simp [fpZ, e])) (fun e => hb ?_) q) hf
      rw [e]
      simp only [fpZ, List.mem_cons]
      exact .inr (.inr (.inr rin))
  self := fun A i s Q E st h => by
    obtain ⟨f0, f1, ow, hz, _⟩ := st
    exact pyIter_zip hz h

/-- zip(*e), of rows of n items each -/
def iZs (K : PySem.W.Frag) (te : TE) : TI := fun σ H R => te σ H fun y H1 => ∃ (a : Addr) (ls : List Addr) (xss : List (List V)) (n : Nat), y = .ref a ∧ (SqT K H1 a (ls.map V.ref) ∨ SqL K H1 a (ls.map V.ref)) ∧ ls ≠ [] ∧ ls.length ≤ 1000 ∧ Rows K H1 ls xss n ∧ R (IteZ K ls n) H1
theorem refs_of : ∀ {ls : List Addr} {us : List Value}, Vals (ls.map V.ref) us → us = ls.map Value.ref
  | [], us, r => by cases r; rfl
  | l :: ls, us, r => by
    cases r with
    | cons r1 r2 =>
      have e : _ = Value.ref l := r1
      rw [e, refs_of r2]
      rfl
theorem pi_zipS {X : Cx} {e : Expr} {te : TE} {p sp pos tp : Pos} {x : Str} (hg : Gl X "zip") (hm : X.mg "zip" = none) (he : PE X e te) (hs : starEach [.Starred e sp] X.env = [(true, eval e X.env)] := by rfl) : PI X (.Name x tp) (.Call (.Name "zip" p) [.Starred e sp] [] pos) (iZs X.K te) := by
  refine ⟨fun pins s σ H R I h => ?_⟩
  refine Call_ (ld_blt I hg hm boot_zip ?_)
  rw [hs]
  refine PySem.W.ks_call (P := fun _ => True) rfl (fun h _ => ⟨Keeper.machine, .inr (.inl rfl), PySem.W.Looks.now⟩) (PySem.W.ks_lone (thn (he.run pins s σ H _ I h) fun v s1 ⟨y, H1, I1, ry, a, ls, xss, n, ey, hls, ne, few, hrows, q⟩ => ?_))
  subst ey
  obtain rfl : v = Value.ref a := ry
  refine StX.star_any I1 hls fun us s2 I2 rv => ⟨trivial, ?_⟩
  rw [refs_of rv]
  obtain ⟨lns, hl1, hl2⟩ := arrs_of I2 ls xss hrows
  have hlr : ls.map Value.ref = lns.map fun l => Value.ref l.1 := by rw [← hl1, List.map_map]; rfl
  have hll : lns.length = ls.length := by rw [← hl1, List.length_map]
  show wpAny _ _ (call (.type "zip") (ls.map Value.ref)) _ _ _
  rw [hlr]
  refine call_zip (by rw [hll]; exact few) hl2 fun h' nz => pyIter_zip nz.z ?_
  have hps : ((mkR s2.heap.objs.size lns).map fun r => (r.1, r.2.1)).map (·.2) = ls := by
    have e : (mkR s2.heap.objs.size lns).map (fun r => r.2.1) = ((mkR s2.heap.objs.size lns).map (·.2)).map (·.1) := by rw [List.map_map]; rfl
    rw [mkR_snd, hl1] at e
    rw [List.map_map]
    exact e
  have hpl : ((mkR s2.heap.objs.size lns).map fun r => (r.1, r.2.1)).length = lns.length := by rw [List.length_map, mkR_len]
  have hp1 : ((mkR s2.heap.objs.size lns).map fun r => (r.1, r.2.1)).map (·.1) = (mkR s2.heap.objs.size lns).map (·.1) := by rw [List.map_map]; rfl
  have below : ∀ b ∈ (mkR s2.heap.objs.size lns).map (·.1), s2.heap.objs.size ≤ b ∧ b < s2.heap.objs.size + lns.length := fun b hb => by
    obtain ⟨r, hr, rfl⟩ := List.mem_map.mp hb
    obtain ⟨g1, g2, _⟩ := mkR_at _ _ r hr
    exact ⟨g1, g2⟩
  have nd : (fpZ (s2.heap.objs.size + lns.length + 2) (s2.heap.objs.size + lns.length) (s2.heap.objs.size + lns.length + 1) ((mkR s2.heap.objs.size lns).map fun r => (r.1, r.2.1))).Nodup := by
    unfold fpZ
    rw [hp1, List.nodup_cons, List.nodup_cons, List.nodup_cons]
    have far : ∀ d : Nat, s2.heap.objs.size + lns.length ≤ d → d ∉ (mkR s2.heap.objs.size lns).map (·.1) := fun d hd hb => absurd (below d hb).2 (Nat.not_lt.mpr hd)
    refine ⟨?_, ?_, far _ (Nat.le_succ _), mkR_nd _ _⟩
    · simp only [List.mem_cons, not_or]
      exact ⟨Nat.ne_of_gt (by omega), Nat.ne_of_gt (by omega), far _ (by omega)⟩
    · simp only [List.mem_cons, not_or]
      exact ⟨Nat.ne_of_lt (by omega), far _ (Nat.le_refl _)⟩
  have old : ∀ l ∈ lns, l.1 < s2.heap.objs.size := fun l hl => by
    obtain ⟨o, ho, _⟩ := hl2 l hl
    exact Heap.lt_size ho
  refine ⟨s2.heap.objs.size + lns.length + 2, fpZ (s2.heap.objs.size + lns.length + 2) (s2.heap.objs.size + lns.length) (s2.heap.objs.size + lns.length + 1) ((mkR s2.heap.objs.size lns).map fun r => (r.1, r.2.1)), _, _, H1, rfl, I2.kept (t' := s2.toks) nz.keep,
    turnZ _ _ _ _ n (fun e => ?_) (by rw [hpl, hll]; exact few) nd (fun p hp => ?_), ⟨_, _, _, nz.z, .inl rfl, ?_, nz.TO, ?_, fun p hp => ?_⟩, fun b hb => ?_, by rw [hps]; exact q⟩
  · have := congrArg List.length e
    rw [hpl, hll] at this
    exact ne (List.eq_nil_of_length_eq_zero this)
  · obtain ⟨r, hr, rfl⟩ := List.mem_map.mp hp
    obtain ⟨_, _, g3⟩ := mkR_at _ _ r hr
    have := old _ g3
    exact Nat.ne_of_lt (Nat.lt_of_lt_of_le this (by omega))
  · rw [List.map_map]
    exact nz.TI
  · rw [hpl]
    simp
  · obtain ⟨r, hr, rfl⟩ := List.mem_map.mp hp
    exact (nz.its r hr).1
  · have hle : s2.heap.objs.size ≤ b := by
      simp only [fpZ, List.mem_cons] at hb
      rcases hb with rfl | rfl | rfl | hb
      · omega
      · omega
      · omega
      · rw [hp1] at hb
        exact (below b hb).1
    exact I2.fpOk hle (I2.hok.fresh hle)
end VZ


set_option Elab.async false
set_option linter.all false
set_option maxRecDepth 100000
set_option maxHeartbeats 2000000
/-! VX23: for x in zip(*rows). -/
namespace VS
open PySem PySem.Spec PyProof.Rows L2
def tupsT : List T → Option (List (List T))
  | [] => some []
  | .tup us :: ts => (tupsT ts).map (us :: ·)
  | _ => none
def colT (qs : List (List T)) (i : Nat) : T := .tup (qs.map fun q => q.getD i .non)
/-- the columns of rows -/
def colsT (ts : List T) : Option (List T) := match tupsT ts with
  | some qs => match qs with
    | [] => none
    | q :: _ => if (∀ r ∈ qs, r.length = q.length) ∧ qs.length ≤ 1000 then some ((List.range q.length).map (colT qs)) else none
  | none => none
def mZipS (a : ME) : MI := fun ρ w => (a ρ w).bind fun t w1 => match seq? w1 t with
  | some ts => match colsT ts with
    | some cs => .ok (cs, none) w1
    | none => .no
  | none => .no
section
variable {X : Cx} {K : KT} {hd φ : List Addr} {H : Hp} {w : World} {Z : ZT} {W : Option WX} {a e : Expr} {p pos : Pos} {ma : ME}
/-- rows where they stand -/
def RR (K : KT) (hd φ : List Addr) (H : Hp) : List Addr → List (List T) → List (List V) → Prop
  | [], [], [] => True
  | l :: ls, q :: qs, xs :: xss => (SqT K.1 H l xs ∧ Reps K hd φ H q xs) ∧ RR K hd φ H ls qs xss
  | _, _, _ => False
theorem RR.rows {n : Nat} : ∀ {ls : List Addr} {qs : List (List T)} {xss : List (List V)}, RR K hd φ H ls qs xss → (∀ q ∈ qs, q.length = n) → VZ.Rows K.1 H ls xss n
  | [], [], [], _, _ => ⟨rfl, fun k l xs h => by simp at h⟩
  | l :: ls, q :: qs, xs :: xss, r, hn => by
    obtain ⟨⟨h1, h2⟩, h3⟩ := r
    obtain ⟨g1, g2⟩ := RR.rows h3 fun q hq => hn q (.tail _ hq)
    refine ⟨by simp [g1], fun k a b e1 e2 => ?_⟩
    match k, e1, e2 with
    | 0, e1, e2 =>
      cases e1
      cases e2
      exact ⟨h1, by rw [← h2.len]; exact hn q (.head _)⟩
    | k + 1, e1, e2 => exact g2 k a b (by simpa using e1) (by simpa using e2)
  | [], _ :: _, _, r, _ => r.elim
  | [], [], _ :: _, r, _ => r.elim
  | _ :: _, [], _, r, _ => r.elim
  | _ :: _, _ :: _, [], r, _ => r.elim
theorem RR.col {n i : Nat} (hi : i < n) : ∀ {ls : List Addr} {qs : List (List T)} {xss : List (List V)}, RR K hd φ H ls qs xss → (∀ q ∈ qs, q.length = n) → Reps K hd φ H (qs.map fun q => q.getD i .non) (xss.map (VZ.at_ i))
  | [], [], [], _, _ => Reps.nil
  | l :: ls, q :: qs, xs :: xss, r, hn => by
    obtain ⟨⟨h1, h2⟩, h3⟩ := r
    have ih := RR.col hi h3 fun q hq => hn q (.tail _ hq)
    have hq := hn q (.head _)
    have hat : q[i]? = some (q.getD i .non) := by
      rw [List.getD_eq_getElem?_getD, List.getElem?_eq_getElem (by omega)]
      rfl
    obtain ⟨x, hx, rx⟩ := h2.at hat
    have e : VZ.at_ i xs = x := by
      unfold VZ.at_
      rw [List.getD_eq_getElem?_getD, hx]
      rfl
    simp only [List.map_cons]
    rw [e]
    exact Reps.cons rx ih
  | [], _ :: _, _, r, _ => r.elim
  | [], [], _ :: _, r, _ => r.elim
  | _ :: _, [], _, r, _ => r.elim
  | _ :: _, _ :: _, [], r, _ => r.elim
theorem rows_stay {hd₀ φ₀ : List Addr} {H₀ : Hp} : ∀ {ts : List T} {vs : List V} {qs : List (List T)}, Reps K hd₀ φ₀ H₀ ts vs → tupsT ts = some qs →
    ∃ ls : List Addr, vs = ls.map V.ref ∧ ls.length = qs.length ∧ ∀ (D : Option Addr) hd φ H, Off D hd₀ H₀ → ExtD D hd₀ φ₀ H₀ hd φ H → ∃ xss, RR K hd φ H ls qs xss
  | [], vs, qs, r, h => by
    cases h
    unfold Reps at r
    subst r
    exact ⟨[], rfl, rfl, fun D hd φ H _ _ => ⟨[], trivial⟩⟩
  | .tup us :: ts, vs, qs, r, h => by
    unfold tupsT at h
    cases q1 : tupsT ts with
    | none => rw [q1] at h; cases h
    | some qr =>
      rw [q1] at h
      cases h
      unfold Reps at r
      obtain ⟨v, vr, rfl, r1, r2⟩ := r
      unfold Rep at r1
      obtain ⟨a, xs, rfl, n, rs⟩ := r1
      obtain ⟨ls, rfl, hl, f⟩ := rows_stay r2 q1
      refine ⟨a :: ls, rfl, by simp [hl], fun D hd φ H off e => ?_⟩
      obtain ⟨xss, g⟩ := f D hd φ H off e
      exact ⟨xs :: xss, ⟨SqT.of (n.monoD e off).1, rs.monoD e off⟩, g⟩
  | .non :: ts, vs, qs, r, h => by cases h
  | .bl _ :: ts, vs, qs, r, h => by cases h
  | .int _ :: ts, vs, qs, r, h => by cases h
  | .str _ :: ts, vs, qs, r, h => by cases h
  | .ty _ :: ts, vs, qs, r, h => by cases h
  | .lst _ :: ts, vs, qs, r, h => by cases h
  | .frz _ :: ts, vs, qs, r, h => by cases h
  | .rng _ :: ts, vs, qs, r, h => by cases h
  | .glb _ :: ts, vs, qs, r, h => by cases h
  | .exc _ _ _ :: ts, vs, qs, r, h => by cases h
  | .dct _ _ :: ts, vs, qs, r, h => by cases h
  | .cell _ :: ts, vs, qs, r, h => by cases h
theorem src_zipS {hd₀ φ₀ : List Addr} {H₀ : Hp} {ls : List Addr} {qs : List (List T)} {n : Nat} (hn : ∀ q ∈ qs, q.length = n)
    (h : ∀ (D : Option Addr) hd φ H, Off D hd₀ H₀ → ExtD D hd₀ φ₀ H₀ hd φ H → ∃ xss, RR K hd φ H ls qs xss) : Src K hd₀ φ₀ H₀ (VZ.IteZ K.1 ls n) ((List.range n).map (colT qs)) none := fun D i hd φ H w off e wr kp => by
  obtain ⟨xss, hr⟩ := h D hd φ H off e
  have rows := hr.rows hn
  refine ⟨fun t ht => ?_, fun hl => ⟨by rw [List.length_map, List.length_range] at hl; exact hl, xss, rows⟩⟩
  rw [List.getElem?_map] at ht
  by_cases hi : i < n
  · rw [List.getElem?_range hi] at ht
    cases ht
    refine ⟨⟨hi, xss, rows⟩, fun x H' hy => ?_⟩
    obtain ⟨T, cl, rfl, hp, rfl, hy⟩ := hy
    have hc := hy xss rows
    subst hc
    refine ⟨Ext.new hp, wr.new hp, ?_⟩
    unfold colT
    unfold Rep
    exact ⟨T, _, rfl, ⟨upd_same, wr.nin hp⟩, (hr.col hi hn).mono (Ext.new hp)⟩
  · rw [List.getElem?_eq_none (by rw [List.length_range]; omega)] at ht
    cases ht
theorem di_zipS {x : Str} {sp tp : Pos} (hm : X.mg "zip" = none) (ha : PE X e (rdE (X.K, Z) W ma)) (hg : Gl X "zip" := by rfl) (hs : starEach [.Starred e sp] X.env = [(true, eval e X.env)] := by rfl) :
    PI X (.Name x tp) (.Call (.Name "zip" p) [.Starred e sp] [] pos) (rdI (X.K, Z) W (mZipS ma)) := PI_imp (VZ.pi_zipS hg hm ha hs) fun σ H Q => by
  rintro ⟨hd, φ, ρ, w, sr, wr, p⟩
  refine ⟨hd, φ, ρ, w, sr, wr, Pst.then isPst p fun t w1 φ1 H1 e1 wr1 p1 v rv => ?_⟩
  cases q1 : seq? w1 t with
  | none => rw [q1] at p1; exact p1.elim
  | some ts =>
    rw [q1] at p1
    simp only at p1
    unfold colsT at p1
    cases q2 : tupsT ts with
    | none => rw [q2] at p1; exact p1.elim
    | some qs =>
      rw [q2] at p1
      cases qs with
      | nil => exact p1.elim
      | cons q qs =>
        simp only at p1
        by_cases c : (∀ r ∈ q :: qs, r.length = q.length) ∧ (q :: qs).length ≤ 1000
        · rw [if_pos c] at p1
          obtain ⟨a, vs, rfl, hsq, rvs⟩ := seq_at wr1 rv q1
          obtain ⟨ls, rfl, hl, f⟩ := rows_stay rvs q2
          obtain ⟨xss, hr⟩ := f none _ _ _ off_none Ext.refl.toD
          have hn : ∀ r ∈ q :: qs, r.length = q.length := c.1
          exact ⟨a, ls, xss, q.length, rfl, hsq.symm, (fun e => by rw [e] at hl; cases hl), by rw [hl]; exact c.2, hr.rows hn, p1 H1 φ1 Ext.refl wr1 _ (src_zipS hn f)⟩
        · rw [if_neg c] at p1
          exact p1.elim
end
end VS

set_option Elab.async false
set_option linter.all false
set_option maxRecDepth 100000
set_option maxHeartbeats 2000000
/-! VX24: max, min, sum of one list or tuple of ints. -/
namespace VS
open PySem PySem.Spec PyProof.Rows L2
section
variable {prog : Program} {w : PySem.World} {A : Around} {E : Value → Shared → Prop} {s : Shared} {l : Addr} {its : List Value} {ns : List Int}
theorem max_rawT {Q : Value → Shared → Prop} (hh : A.handled = none) (hl : s.heap.IsTuple l its.toArray) (hi : IntsAre its ns) (hne : 0 < ns.length)
    (h : ∀ h' tk M t', (∀ b o, s.heap.get? b = some o → h'.get? b = some o) → M ∈ ns → (∀ a, a ∈ ns → a ≤ M) → Q (.int M t') { s with heap := h', toks := tk }) : wpAny (model prog w) A (call (.builtin "max") [.ref l]) Q E s := by
  obtain ⟨xs, e⟩ := hi.allInts.items
  have hn : numsOf (intItems xs).toList = ns := by rw [← e]; exact hi.numsOf
  rw [nums_intItems] at hn
  subst hn
  rw [e] at hl
  have hsz : 0 < xs.size := by simpa using hne
  obtain ⟨o, ho, _⟩ := id hl
  have hlt : l < s.heap.objs.size := Heap.lt_size ho
  refine call_max_walk (wpAny_pyIter_tuple hl ?_)
  refine ⟨_, _, _, _, _, _, _, rfl, Walks.tuple (A := A.in1) hh _ l (Nat.ne_of_lt hlt) (intItems xs), ⟨⟨_, Heap.get?_push_size _ rfl, rfl, rfl⟩, hl.at fun o e => Heap.get?_push_of_some _ e⟩, fun b hb => ?_, by simpa [intItems] using hsz, CmpOf.ints_gt (numAt xs) (fun _ _ => intItems_at), fun v h' tk hP hk => ?_⟩
  · rcases List.mem_cons.mp hb with rfl | hb
    · exact Heap.lt_size (Heap.get?_push_size _ rfl)
    · obtain rfl := List.mem_singleton.mp hb
      exact Heap.lt_size (Heap.get?_push_of_some _ ho)
  · have hk' : ∀ b o, s.heap.get? b = some o → h'.get? b = some o := fun b o e => hk b o (fun hm => absurd (Heap.lt_size e) ((List.mem_singleton.mp hm) ▸ Nat.lt_irrefl _)) (Heap.get?_push_of_some _ e)
    have hv : (intItems xs)[argBest (fun i j => decide (numAt xs i > numAt xs j)) (xs.size - 1)]? = some v := by simpa [intItems] using hP
    obtain ⟨t, rfl⟩ := intItems_at hv
    obtain ⟨h1, h2⟩ := argBest_gt (numAt xs) (xs.size - 1)
    refine h h' tk _ t hk' ?_ fun a ha => ?_
    · rw [numAt_eq]; exact PySem.getD_mem (by rw [List.length_map, Array.length_toList]; omega)
    · obtain ⟨j, hj, rfl⟩ := mem_getD ha
      rw [List.length_map, Array.length_toList] at hj
      rw [← numAt_eq]; exact h2 j (by omega)
theorem min_rawT {Q : Value → Shared → Prop} (hh : A.handled = none) (hl : s.heap.IsTuple l its.toArray) (hi : IntsAre its ns) (hne : 0 < ns.length)
    (h : ∀ h' tk M t', (∀ b o, s.heap.get? b = some o → h'.get? b = some o) → M ∈ ns → (∀ a, a ∈ ns → M ≤ a) → Q (.int M t') { s with heap := h', toks := tk }) : wpAny (model prog w) A (call (.builtin "min") [.ref l]) Q E s := by
  obtain ⟨xs, e⟩ := hi.allInts.items
  have hn : numsOf (intItems xs).toList = ns := by rw [← e]; exact hi.numsOf
  rw [nums_intItems] at hn
  subst hn
  rw [e] at hl
  have hsz : 0 < xs.size := by simpa using hne
  obtain ⟨o, ho, _⟩ := id hl
  have hlt : l < s.heap.objs.size := Heap.lt_size ho
  refine call_min_walk (wpAny_pyIter_tuple hl ?_)
  refine ⟨_, _, _, _, _, _, _, rfl, Walks.tuple (A := A.in1) hh _ l (Nat.ne_of_lt hlt) (intItems xs), ⟨⟨_, Heap.get?_push_size _ rfl, rfl, rfl⟩, hl.at fun o e => Heap.get?_push_of_some _ e⟩, fun b hb => ?_, by simpa [intItems] using hsz, CmpOf.ints_lt (numAt xs) (fun _ _ => intItems_at), fun v h' tk hP hk => ?_⟩
  · rcases List.mem_cons.mp hb with rfl | hb
    · exact Heap.lt_size (Heap.get?_push_size _ rfl)
    · obtain rfl := List.mem_singleton.mp hb
      exact Heap.lt_size (Heap.get?_push_of_some _ ho)
  · have hk' : ∀ b o, s.heap.get? b = some o → h'.get? b = some o := fun b o e => hk b o (fun hm => absurd (Heap.lt_size e) ((List.mem_singleton.mp hm) ▸ Nat.lt_irrefl _)) (Heap.get?_push_of_some _ e)
    have hv : (intItems xs)[argBest (fun i j => decide (numAt xs i < numAt xs j)) (xs.size - 1)]? = some v := by simpa [intItems] using hP
    obtain ⟨t, rfl⟩ := intItems_at hv
    obtain ⟨h1, h2⟩ := argBest_lt (numAt xs) (xs.size - 1)
    refine h h' tk _ t hk' ?_ fun a ha => ?_
    · rw [numAt_eq]; exact PySem.getD_mem (by rw [List.length_map, Array.length_toList]; omega)
    · obtain ⟨j, hj, rfl⟩ := mem_getD ha
      rw [List.length_map, Array.length_toList] at hj
      rw [← numAt_eq]; exact h2 j (by omega)
theorem sum_rawT {Q : Value → Shared → Prop} (hh : A.handled = none) (hl : s.heap.IsTuple l its.toArray) (hi : IntsAre its ns)
    (h : ∀ h' tk t', (∀ b o, s.heap.get? b = some o → h'.get? b = some o) → Q (.int ns.sum t') { s with heap := h', toks := tk }) : wpAny (model prog w) A (call (.builtin "sum") [.ref l]) Q E s := by
  obtain ⟨xs, e⟩ := hi.allInts.items
  have hn : numsOf (intItems xs).toList = ns := by rw [← e]; exact hi.numsOf
  rw [nums_intItems] at hn
  rw [e] at hl
  refine PySem.W.ktm_sumG hh hl fun h' tk t' hk => ?_
  have := h h' tk t' hk
  rw [preSum_eq, List.take_of_length_le (by simp), hn]; exact this
end
section
variable {X : Cx} {K : KT} {e : Expr} {pos p : Pos} {m : MF} {Z : ZT} {W : Option WX}
def SqQ (K : PySem.W.Frag) (H : Hp) (a : Addr) (xs : List V) : Prop := SqL K H a xs ∨ SqT K H a xs
def rSumQ (K : PySem.W.Frag) : List V → Hp → VK → Prop := fun vs H Q => ∃ (a : Addr) (ns : List Int), vs = [V.ref a] ∧ SqQ K H a (ns.map V.int) ∧ Q (.int ns.sum) H
def rMaxQ (K : PySem.W.Frag) : List V → Hp → VK → Prop := fun vs H Q => ∃ (a : Addr) (ns : List Int), vs = [V.ref a] ∧ SqQ K H a (ns.map V.int) ∧ 0 < ns.length ∧ ∀ m, m ∈ ns → (∀ y, y ∈ ns → y ≤ m) → Q (.int m) H
def rMinQ (K : PySem.W.Frag) : List V → Hp → VK → Prop := fun vs H Q => ∃ (a : Addr) (ns : List Int), vs = [V.ref a] ∧ SqQ K H a (ns.map V.int) ∧ 0 < ns.length ∧ ∀ m, m ∈ ns → (∀ y, y ∈ ns → m ≤ y) → Q (.int m) H
theorem cr_sumQ (hc : X.calm = true) : CallR X (.builtin "sum") (rSumQ X.K) := by
  intro pins s σ H vs us Q I r h
  obtain ⟨a, ns, rfl, hs, q⟩ := h
  rcases hs with hs | hs
  · exact cr_sum hc pins s σ H _ us Q I r ⟨a, ns, rfl, hs, q⟩
  · obtain ⟨its, rv, tp, _⟩ := I.tuple hs
    rw [Vals.ref1 r]
    exact sum_rawT (I.ok.hd hc) tp rv.ints fun h' tk t' hk => ⟨.int _, H, I.kept hk, ⟨_, rfl⟩, q⟩
theorem cr_maxQ (hc : X.calm = true) : CallR X (.builtin "max") (rMaxQ X.K) := by
  intro pins s σ H vs us Q I r h
  obtain ⟨a, ns, rfl, hs, hne, q⟩ := h
  rcases hs with hs | hs
  · exact cr_max hc pins s σ H _ us Q I r ⟨a, ns, rfl, hs, hne, q⟩
  · obtain ⟨its, rv, tp, _⟩ := I.tuple hs
    rw [Vals.ref1 r]
    exact max_rawT (I.ok.hd hc) tp rv.ints hne fun h' tk m t' hk h1 h2 => ⟨.int _, H, I.kept hk, ⟨_, rfl⟩, q m h1 h2⟩
theorem cr_minQ (hc : X.calm = true) : CallR X (.builtin "min") (rMinQ X.K) := by
  intro pins s σ H vs us Q I r h
  obtain ⟨a, ns, rfl, hs, hne, q⟩ := h
  rcases hs with hs | hs
  · exact cr_min hc pins s σ H _ us Q I r ⟨a, ns, rfl, hs, hne, q⟩
  · obtain ⟨its, rv, tp, _⟩ := I.tuple hs
    rw [Vals.ref1 r]
    exact min_rawT (I.ok.hd hc) tp rv.ints hne fun h' tk m t' hk h1 h2 => ⟨.int _, H, I.kept hk, ⟨_, rfl⟩, q m h1 h2⟩
/-- f of a list or tuple of ints -/
def sIntsQ (f : List Int → Option Int) : SC := fun ds w => match ds with
  | [t] => match seq? w t with
    | some ts => match intsT ts with
      | some ns => match f ns with
        | some i => .ok (.int i) w
        | none => .no
      | none => .no
    | none => .no
  | _ => .no
theorem opIntsQ {f : List Int → Option Int} {r : List V → Hp → VK → Prop} (h : ∀ (l : Addr) (ns : List Int) (i : Int) (H : Hp) (Q : VK), SqQ K.1 H l (ns.map V.int) → f ns = some i → Q (.int i) H → r [V.ref l] H Q) : OpC K (sIntsQ f) r := fun W hd φ H w ds xs Q wr rx p => by
  unfold sIntsQ at p
  match ds, p with
  | [t], p =>
    simp only at p
    cases q1 : seq? w t with
    | none => rw [q1] at p; exact p.elim
    | some ts =>
      rw [q1] at p
      simp only at p
      cases q2 : intsT ts with
      | none => rw [q2] at p; exact p.elim
      | some ns =>
        rw [q2] at p
        simp only at p
        cases q3 : f ns with
        | none => rw [q3] at p; exact p.elim
        | some i =>
          rw [q3] at p
          obtain ⟨v, rfl, r1⟩ := reps1 rx
          obtain ⟨l, ys, rfl, h1, h2⟩ := seq_at wr r1 q1
          cases intV_at h2 q2
          exact h l ns i H Q h1 q3 (p.int wr)
theorem opMaxQ : OpC K (sIntsQ fMax) (rMaxQ K.1) := opIntsQ fun l ns i H Q hs hf q => by
  cases ns with
  | nil => cases hf
  | cons n ns =>
    cases hf
    refine ⟨l, n :: ns, rfl, hs, by simp, fun m hm hb => ?_⟩
    obtain ⟨h1, h2, h3⟩ := maxI_spec ns n
    have e : m = maxI n ns := by
      refine Int.le_antisymm ?_ (hb _ (h1.elim (fun h => by rw [h]; exact .head _) (fun h => .tail _ h)))
      rcases List.mem_cons.mp hm with rfl | hm
      · exact h2
      · exact h3 m hm
    rw [e]
    exact q
theorem opMinQ : OpC K (sIntsQ fMin) (rMinQ K.1) := opIntsQ fun l ns i H Q hs hf q => by
  cases ns with
  | nil => cases hf
  | cons n ns =>
    cases hf
    refine ⟨l, n :: ns, rfl, hs, by simp, fun m hm hb => ?_⟩
    obtain ⟨h1, h2, h3⟩ := minI_spec ns n
    have e : m = minI n ns := by
      refine Int.le_antisymm (hb _ (h1.elim (fun h => by rw [h]; exact .head _) (fun h => .tail _ h))) ?_
      rcases List.mem_cons.mp hm with rfl | hm
      · exact h2
      · exact h3 m hm
    rw [e]
    exact q
theorem opSumQ : OpC K (sIntsQ fSum) (rSumQ K.1) := opIntsQ fun l ns i H Q hs hf q => by
  cases hf
  exact ⟨l, ns, rfl, hs, q⟩
theorem de_maxQ (hc : X.calm = true) (hm : X.mg "max" = none) (ha : PA X [e] (rdA (X.K, Z) W m)) (hg : Gl X "max" := by rfl) (he : starEach [e] X.env = (false, eval e X.env) :: starEach [] X.env := by rfl) (hpl : (backTo pos (starEach [] X.env)).any (·.1) = false := by rfl) : PE X (.Call (.Name "max" p) [e] [] pos) (rdE (X.K, Z) W (mCall (sIntsQ fMax) m)) :=
  de_callB (cr_maxQ hc) opMaxQ hm (by decide +kernel) ha hg (by decide) (by decide) he hpl
theorem de_minQ (hc : X.calm = true) (hm : X.mg "min" = none) (ha : PA X [e] (rdA (X.K, Z) W m)) (hg : Gl X "min" := by rfl) (he : starEach [e] X.env = (false, eval e X.env) :: starEach [] X.env := by rfl) (hpl : (backTo pos (starEach [] X.env)).any (·.1) = false := by rfl) : PE X (.Call (.Name "min" p) [e] [] pos) (rdE (X.K, Z) W (mCall (sIntsQ fMin) m)) :=
  de_callB (cr_minQ hc) opMinQ hm (by decide +kernel) ha hg (by decide) (by decide) he hpl
theorem de_sumQ (hc : X.calm = true) (hm : X.mg "sum" = none) (ha : PA X [e] (rdA (X.K, Z) W m)) (hg : Gl X "sum" := by rfl) (he : starEach [e] X.env = (false, eval e X.env) :: starEach [] X.env := by rfl) (hpl : (backTo pos (starEach [] X.env)).any (·.1) = false := by rfl) : PE X (.Call (.Name "sum" p) [e] [] pos) (rdE (X.K, Z) W (mCall (sIntsQ fSum) m)) :=
  de_callB (cr_sumQ hc) opSumQ hm (by decide +kernel) ha hg (by decide) (by decide) he hpl
end
end VS

set_option Elab.async false
set_option linter.all false
set_option maxRecDepth 100000
set_option maxHeartbeats 2000000
/-! VX25: a call of a local name that holds a def of the module. -/
namespace VS
open PySem PySem.Spec PyProof.Rows L2
/-- the i-th slot holds the def at f -/
def tCallLS (i : Nat) (f : Addr) (sp : Sp) (E : L2.St → XK) (t : TA) : TE := fun σ H Q => σ[i]? = some (some (.ref f)) ∧ t σ H fun vs H1 => sp vs H1 Q (E σ)
section
variable {X : Cx} {CX : CXT} {k i : Nat} {f : Addr} {fd : FuncData} {ps : List Str} {sp : Sp} {E : L2.St → XK} {x : Str} {p pos : Pos} {e : Expr} {es : List Expr} {t : TA}
theorem pe_callLS (F : FnOk X.prog X.w X.K X.mg X.base CX k f fd ps sp) (hr : Room k X.A) (hN : X.N[i]? = some x) (hv : Vis X.env.scope x) (hk : PySem.W.keepIn X.K (.ref f) = true) (hb : Binds X.K fd ps []) (hx : ∀ σ, PassesAt CX X σ (E σ)) (ha : PA X (e :: es) t)
    (hdb : (x == ("__debug__" : Str)) = false := by decide) (hcd : (x == ("__classdict__" : Str)) = false := by decide)
    (he : starEach (e :: es) X.env = (false, eval e X.env) :: starEach es X.env := by rfl) (hpl : (backTo pos (starEach es X.env)).any (·.1) = false := by rfl) : PE X (.Call (.Name x p) (e :: es) [] pos) (tCallLS i f sp E t) := by
  refine ⟨fun pins s σ H Q I h => ?_⟩
  obtain ⟨hs, ht⟩ := h
  refine wpAny_Call_Name_kw (thn ((pe_var (pos := p) hN hv hdb hcd).run pins s σ H (fun v H1 => v = .ref f ∧ H1 = H) I ⟨.ref f, hs, rfl, rfl⟩) fun u s1 ⟨v, H1, I1, r1, q1⟩ => ?_)
  obtain ⟨rfl, rfl⟩ := q1
  cases r1
  refine PySem.W.callWith_K (h₀ := X.base) I.ok.mod.kin hk (thn (ha.run pos pins s1 σ _ _ I1 ht) fun us s2 ⟨vs, H2, I2, r, q⟩ => ⟨I2.kIn, ?_⟩) he hpl
  exact run_fnS F hr hb (hx σ) I2 r q
end
section
variable {X : Cx} {Z : ZT} {W : Option WX} {n i k : Nat} {x y : Str} {p pos : Pos} {e : Expr} {es : List Expr} {m : MF} {f : Sem} {ps : List Str} {tab : List (Str × Sem)}
/-- f(..), the slot i holding a def of the table -/
def mDefT (i : Nat) (tab : List (Str × Sem)) (n : Nat) (m : MF) : ME := fun ρ w => match ρ[i]? with
  | some (some (.glb y)) => match tab.lookup y with
    | some f => mDef n f m ρ w
    | none => .no
  | _ => .no
/-- the defs of a table -/
inductive LocT (X : Cx) (Z : ZT) (n : Nat) : List (Str × Sem) → Prop
  | nil : LocT X Z n []
  | cons {k : Nat} {x : Str} {ps : List Str} {f : Sem} {tab : List (Str × Sem)} (D : Df X.prog X.w X.K Z X.mg X.base k x ps f) (g : GlbD X.K X.mg x) (hr : Room k X.A) (hn : ps.length = n) (t : LocT X Z n tab) : LocT X Z n ((x, f) :: tab)
theorem LocT.at_ (t : LocT X Z n tab) (h : tab.lookup y = some f) : ∃ (k : Nat) (ps : List Str), Df X.prog X.w X.K Z X.mg X.base k y ps f ∧ GlbD X.K X.mg y ∧ Room k X.A ∧ ps.length = n := by
  induction t with
  | nil => cases h
  | @cons k x ps f' tab D g hr hn t ih =>
    rw [List.lookup_cons] at h
    by_cases e : y = x
    · subst e
      simp only [beq_self_eq_true] at h
      cases h
      exact ⟨k, ps, D, g, hr, hn⟩
    · have e' : (y == x) = false := by simpa using e
      rw [e'] at h
      exact ih h
theorem de_defT (T : LocT X Z n tab) (tk : TakesO X W) (ha : PA X (e :: es) (rdA (X.K, Z) W m)) (hN : X.N[i]? = some x := by rfl) (hv : Vis X.env.scope x := by first | exact Or.inl rfl | exact Or.inr (Or.inl rfl) | exact Or.inr (Or.inr rfl))
    (hdb : (x == ("__debug__" : Str)) = false := by decide) (hcd : (x == ("__classdict__" : Str)) = false := by decide)
    (he : starEach (e :: es) X.env = (false, eval e X.env) :: starEach es X.env := by rfl) (hpl : (backTo pos (starEach es X.env)).any (·.1) = false := by rfl) : PE X (.Call (.Name x p) (e :: es) [] pos) (rdE (X.K, Z) W (mDefT i tab n m)) := by
  refine ⟨fun pins s σ H Q I h => ?_⟩
  obtain ⟨hd, φ, ρ, w, sr, wr, q⟩ := h
  unfold mDefT at q
  split at q
  · rename_i y hy
    split at q
    · rename_i f hf
      obtain ⟨k, ps, D, g, hr, hn⟩ := T.at_ hf
      subst hn
      obtain ⟨ad, fd, ok, hm, hk, hb⟩ := D.ex
      obtain ⟨a, hm2, hga⟩ := g.ex
      have ea : a = ad := by
        rw [hm] at hm2
        exact (Value.ref.inj (Option.some.inj hm2)).symm
      subst ea
      obtain ⟨v, h1, h2⟩ := sr.get i _ hy
      unfold Rep at h2
      obtain ⟨b, rfl, hgb⟩ := h2
      have eb := hga.inj hgb
      subst eb
      exact (pe_callLS (E := wE W) ok hr hN hv hk hb (passO tk) ha hdb hcd he hpl).run pins s σ H Q I ⟨h1, def_read σ H Q ⟨hd, φ, ρ, w, sr, wr, q⟩⟩
    · exact q.elim
  · exact q.elim
end
end VS

set_option Elab.async false
set_option linter.all false
set_option maxRecDepth 100000
set_option maxHeartbeats 4000000
namespace VS
open PySem PySem.Spec PyProof.Rows L2
def topS (i : Nat) : Stmt := PySem.Challenge.pw_seenatonce_k10_rows_below_joined_common.main.body.getD i (.Pass ⟨0, 0, 0, 0⟩)
def isTab : List (Str × Str × Bool) := [("BadRow", "BadRow", true), ("BadRow", "BadRows", false), ("BadRows", "BadRow", false), ("BadRows", "BadRows", true), ("", "BadRow", false), ("", "BadRows", false)]
def caughtL : List Str := ["BadRow", "BadRows"]
structure Zs (K : PySem.W.Frag) (mg : Str → Option Value) : Prop where
  z_bool : mg "bool" = none
  z_isinstance : mg "isinstance" = none
  z_int : mg "int" = none
  z_tuple : mg "tuple" = none
  z_list : mg "list" = none
  z_len : mg "len" = none
  z_all : mg "all" = none
  z_zip : mg "zip" = none
  z_max : mg "max" = none
  z_min : mg "min" = none
  z_abs : mg "abs" = none
  z_range : mg "range" = none
  z_repr : mg "repr" = none
  c_GREATEST : ∃ t, mg "GREATEST" = some (.int 999999999999999999 t)
  c_MOST_HANDS : ∃ t, mg "MOST_HANDS" = some (.int 6 t)
  e_BadRow : ErrC K mg "BadRow"
  e_BadRows : ErrC K mg "BadRows"
  g_BadRow : GlbD K mg "BadRow"
  g_BadRows : GlbD K mg "BadRows"
  g_common : GlbD K mg "common"
  g_joined : GlbD K mg "joined"
  isx : IsTab K isTab
  cg : CaughtD K mg caughtL
abbrev t__law_caught : Stmt := topS 26
theorem caught_t : CaughtT t__law_caught "SeenError" := ⟨⟨rfl, rfl, rfl, by decide +kernel, rfl, by decide +kernel, by decide +kernel⟩, rfl, rfl, rfl, rfl, by decide, ⟨_, _, _, _, _, _, _, _, _, _, _, _, _, _, _, rfl⟩⟩
section
variable {P : Program} {w : PySem.World} {K : PySem.W.Frag} {Z : ZT} {mg : Str → Option Value} {base : Heap}
/-! is_number -/
abbrev t_is_number : Stmt := topS 7
abbrev N_is_number : List Str := ["value"]
theorem sc_is_number : FnScope N_is_number ["value"] (defScope t_is_number) := ⟨rfl, rfl, rfl, by decide +kernel, rfl, by decide +kernel, by decide +kernel⟩
noncomputable def m_is_number : MS := (mRet (mAndV (mCall sIsi (mCons (mVar 0) (mCons (mC (.ty "int")) mNil))) (mAndV (mNotV (mCall sIsi (mCons (mVar 0) (mCons (mC (.ty "bool")) mNil)))) (mChain sLe sLe (mOp1 sNeg (mC (.int 999999999999999999))) (mVar 0) (mC (.int 999999999999999999))))))
noncomputable def s_is_number : Sem := runB 1 m_is_number
theorem b_is_number {cd : Value} (z : Zs K mg) : Bd P w K Z mg base N_is_number "is_number" t_is_number cd 0 m_is_number :=
 fun f A outer s H E W hr tk =>
 (ds_one (ds_ret (de_and (de_isi z.z_isinstance (da_cons (de_var 0) (da_cons (de_gty z.z_int (by decide +kernel)) da_nil))) (de_and (de_not (de_isi z.z_isinstance (da_cons (de_var 0) (da_cons (de_gty z.z_bool (by decide +kernel)) da_nil)))) (de_one (de_chain op_le op2B0 op_le op2B0 (de_neg (de_gint' z.c_GREATEST)) (de_var 0) (de_gint' z.c_GREATEST)))))))
/-! is_count -/
abbrev t_is_count : Stmt := topS 8
abbrev N_is_count : List Str := ["value"]
theorem sc_is_count : FnScope N_is_count ["value"] (defScope t_is_count) := ⟨rfl, rfl, rfl, by decide +kernel, rfl, by decide +kernel, by decide +kernel⟩
noncomputable def m_is_count : MS := (mRet (mAndV (mDef 1 s_is_number (mCons (mVar 0) mNil)) (mOp2 sGe (mVar 0) (mC (.int 0)))))
noncomputable def s_is_count : Sem := runB 1 m_is_count
theorem b_is_count {cd : Value} (z : Zs K mg) (D_is_number : Df P w K Z mg base 1 "is_number" ["value"] s_is_number) : Bd P w K Z mg base N_is_count "is_count" t_is_count cd 1 m_is_count :=
 fun f A outer s H E W hr tk =>
 (ds_one (ds_ret (de_and (de_def D_is_number tk (hr.mono (by decide)) (da_cons (de_var 0) da_nil)) (de_one (de_ge (de_var 0) de_int)))))
/-! is_list -/
abbrev t_is_list : Stmt := topS 9
abbrev N_is_list : List Str := ["value"]
theorem sc_is_list : FnScope N_is_list ["value"] (defScope t_is_list) := ⟨rfl, rfl, rfl, by decide +kernel, rfl, by decide +kernel, by decide +kernel⟩
noncomputable def m_is_list : MS := (mRet (mCall sIsi (mCons (mVar 0) (mCons (mTup (mCons (mC (.ty "list")) (mCons (mC (.ty "tuple")) mNil))) mNil))))
noncomputable def s_is_list : Sem := runB 1 m_is_list
theorem b_is_list {cd : Value} (z : Zs K mg) : Bd P w K Z mg base N_is_list "is_list" t_is_list cd 0 m_is_list :=
 fun f A outer s H E W hr tk =>
 (ds_one (ds_ret (de_isi z.z_isinstance (da_cons (de_var 0) (da_cons (de_tup (da_cons (de_gty z.z_list (by decide +kernel)) (da_cons (de_gty z.z_tuple (by decide +kernel)) da_nil))) da_nil)))))
/-! is_tuple_of -/
abbrev t_is_tuple_of : Stmt := topS 10
abbrev N_is_tuple_of : List Str := ["value", "many"]
theorem sc_is_tuple_of : FnScope N_is_tuple_of ["value", "many"] (defScope t_is_tuple_of) := ⟨rfl, rfl, rfl, by decide +kernel, rfl, by decide +kernel, by decide +kernel⟩
noncomputable def m_is_tuple_of : MS := (mRet (mAndV (mCall sIsi (mCons (mVar 0) (mCons (mC (.ty "tuple")) mNil))) (mOp2 sEq (mCall sLen (mCons (mVar 0) mNil)) (mVar 1))))
noncomputable def s_is_tuple_of : Sem := runB 2 m_is_tuple_of
theorem b_is_tuple_of {cd : Value} (z : Zs K mg) : Bd P w K Z mg base N_is_tuple_of "is_tuple_of" t_is_tuple_of cd 0 m_is_tuple_of :=
 fun f A outer s H E W hr tk =>
 (ds_one (ds_ret (de_and (de_isi z.z_isinstance (da_cons (de_var 0) (da_cons (de_gty z.z_tuple (by decide +kernel)) da_nil))) (de_one (de_eq hr.units (de_len z.z_len (da_cons (de_var 0) da_nil)) (de_var 1))))))
/-! is_row_for -/
abbrev t_is_row_for : Stmt := topS 11
abbrev N_is_row_for : List Str := ["value", "hands", "item"]
theorem sc_is_row_for : FnScope N_is_row_for ["value", "hands"] (defScope t_is_row_for) := ⟨rfl, rfl, rfl, by decide +kernel, rfl, by decide +kernel, by decide +kernel⟩
noncomputable def m_is_row_for : MS := (mRet (mAndV (mDef 2 s_is_tuple_of (mCons (mVar 0) (mCons (mVar 1) mNil))) (mCall sAll (mCons (mVal (mComp [2] (mItems (mVar 0)) (mgName 2) mYes (mDef 1 s_is_count (mCons (mVar 2) mNil)))) mNil))))
noncomputable def s_is_row_for : Sem := runB 3 m_is_row_for
theorem b_is_row_for {cd : Value} (z : Zs K mg) (D_is_count : Df P w K Z mg base 2 "is_count" ["value"] s_is_count) (D_is_tuple_of : Df P w K Z mg base 1 "is_tuple_of" ["value", "many"] s_is_tuple_of) : Bd P w K Z mg base N_is_row_for "is_row_for" t_is_row_for cd 2 m_is_row_for :=
 fun f A outer s H E W hr tk =>
 (ds_one (ds_ret (de_and (de_def D_is_tuple_of tk (hr.mono (by decide)) (da_cons (de_var 0) (da_cons (de_var 1) da_nil))) (de_one (de_all rfl z.z_all (da_cons (de_val (df_comp (own := [("item", 2)]) rfl sc_is_row_for.nd (di_seq (de_var 0)) (show blkC N_is_row_for (defScope t_is_row_for) _ [("item", 2)] = true by decide +kernel) (fun _ _ _ _ _ => (dg_name 2 sc_is_row_for.nd)) (fun _ _ _ _ _ => dts_nil) (fun _ _ _ _ _ => (de_def D_is_count trivial (hr.mono (by decide)) (da_cons (de_var 2) da_nil))))) da_nil))))))
/-! below -/
abbrev t_below : Stmt := topS 12
abbrev N_below : List Str := ["one", "other", "item", "others"]
theorem sc_below : FnScope N_below ["one", "other"] (defScope t_below) := ⟨rfl, rfl, rfl, by decide +kernel, rfl, by decide +kernel, by decide +kernel⟩
noncomputable def m_below : MS := (mRet (mCall sAll (mCons (mVal (mComp [2, 3] (mZip (mCons (mVar 0) (mCons (mVar 1) mNil))) (mgTup 2 (mgCons (mgName 2) (mgCons (mgName 3) mgNil))) mYes (mOp2 sLe (mVar 2) (mVar 3)))) mNil)))
noncomputable def s_below : Sem := runB 4 m_below
theorem b_below {cd : Value} (z : Zs K mg) : Bd P w K Z mg base N_below "below" t_below cd 0 m_below :=
 fun f A outer s H E W hr tk =>
 (ds_one (ds_ret (de_all rfl z.z_all (da_cons (de_val (df_comp (own := [("item", 2), ("others", 3)]) rfl sc_below.nd (di_zip z.z_zip (da_cons (de_var 0) (da_cons (de_var 1) da_nil))) (show blkC N_below (defScope t_below) _ [("item", 2), ("others", 3)] = true by decide +kernel) (fun _ _ _ _ _ => (dg_tup rfl (dgs_cons (dg_name 2 sc_below.nd) (dgs_cons (dg_name 3 sc_below.nd) dgs_nil)))) (fun _ _ _ _ _ => dts_nil) (fun _ _ _ _ _ => (de_le (de_var 2) (de_var 3))))) da_nil))))
/-! is_row -/
abbrev t_is_row : Stmt := topS 14
abbrev N_is_row : List Str := ["value"]
theorem sc_is_row : FnScope N_is_row ["value"] (defScope t_is_row) := ⟨rfl, rfl, rfl, by decide +kernel, rfl, by decide +kernel, by decide +kernel⟩
noncomputable def m_is_row : MS := (mRet (mAndV (mCall sIsi (mCons (mVar 0) (mCons (mC (.ty "tuple")) mNil))) (mAndV (mChain sLe sLe (mC (.int 1)) (mCall sLen (mCons (mVar 0) mNil)) (mC (.int 6))) (mDef 2 s_is_row_for (mCons (mVar 0) (mCons (mCall sLen (mCons (mVar 0) mNil)) mNil))))))
noncomputable def s_is_row : Sem := runB 1 m_is_row
theorem b_is_row {cd : Value} (z : Zs K mg) (D_is_row_for : Df P w K Z mg base 3 "is_row_for" ["value", "hands"] s_is_row_for) : Bd P w K Z mg base N_is_row "is_row" t_is_row cd 3 m_is_row :=
 fun f A outer s H E W hr tk =>
 (ds_one (ds_ret (de_and (de_isi z.z_isinstance (da_cons (de_var 0) (da_cons (de_gty z.z_tuple (by decide +kernel)) da_nil))) (de_and (de_chain op_le op2B0 op_le op2B0 de_int (de_len z.z_len (da_cons (de_var 0) da_nil)) (de_gint' z.c_MOST_HANDS)) (de_one (de_def D_is_row_for tk (hr.mono (by decide)) (da_cons (de_var 0) (da_cons (de_len z.z_len (da_cons (de_var 0) da_nil)) da_nil))))))))
/-! are_alike_rows -/
abbrev t_are_alike_rows : Stmt := topS 15
abbrev N_are_alike_rows : List Str := ["values", "value"]
theorem sc_are_alike_rows : FnScope N_are_alike_rows ["values"] (defScope t_are_alike_rows) := ⟨rfl, rfl, rfl, by decide +kernel, rfl, by decide +kernel, by decide +kernel⟩
noncomputable def m_are_alike_rows : MS := (mRet (mAndV (mCall sAll (mCons (mVal (mComp [1] (mItems (mVar 0)) (mgName 1) mYes (mDef 1 s_is_row (mCons (mVar 1) mNil)))) mNil)) (mCall sAll (mCons (mVal (mComp [1] (mItems (mVar 0)) (mgName 1) mYes (mOp2 sEq (mCall sLen (mCons (mVar 1) mNil)) (mCall sLen (mCons (mOp2 sIx (mVar 0) (mC (.int 0))) mNil))))) mNil))))
noncomputable def s_are_alike_rows : Sem := runB 2 m_are_alike_rows
theorem b_are_alike_rows {cd : Value} (z : Zs K mg) (D_is_row : Df P w K Z mg base 4 "is_row" ["value"] s_is_row) : Bd P w K Z mg base N_are_alike_rows "are_alike_rows" t_are_alike_rows cd 4 m_are_alike_rows :=
 fun f A outer s H E W hr tk =>
 (ds_one (ds_ret (de_and (de_all rfl z.z_all (da_cons (de_val (df_comp (own := [("value", 1)]) rfl sc_are_alike_rows.nd (di_seq (de_var 0)) (show blkC N_are_alike_rows (defScope t_are_alike_rows) _ [("value", 1)] = true by decide +kernel) (fun _ _ _ _ _ => (dg_name 1 sc_are_alike_rows.nd)) (fun _ _ _ _ _ => dts_nil) (fun _ _ _ _ _ => (de_def D_is_row trivial (hr.mono (by decide)) (da_cons (de_var 1) da_nil))))) da_nil)) (de_one (de_all rfl z.z_all (da_cons (de_val (df_comp (own := [("value", 1)]) rfl sc_are_alike_rows.nd (di_seq (de_var 0)) (show blkC N_are_alike_rows (defScope t_are_alike_rows) _ [("value", 1)] = true by decide +kernel) (fun _ _ _ _ _ => (dg_name 1 sc_are_alike_rows.nd)) (fun _ _ _ _ _ => dts_nil) (fun _ _ _ _ _ => (de_eq hr.units (de_len z.z_len (da_cons (de_var 1) da_nil)) (de_len z.z_len (da_cons (de_sub' (hu_of hr) (de_var 0) de_int) da_nil)))))) da_nil))))))
/-! check_rows -/
abbrev t_check_rows : Stmt := topS 16
abbrev N_check_rows : List Str := ["rows"]
theorem sc_check_rows : FnScope N_check_rows ["rows"] (defScope t_check_rows) := ⟨rfl, rfl, rfl, by decide +kernel, rfl, by decide +kernel, by decide +kernel⟩
noncomputable def m_check_rows : MS := (mIfS (mOr (mNot (mTru (mDef 1 s_is_list (mCons (mVar 0) mNil)))) (mNot (mTru (mDef 1 s_are_alike_rows (mCons (mVar 0) mNil)))))
 (mRaise "BadRows")
 mSkip)
noncomputable def s_check_rows : Sem := runB 1 m_check_rows
theorem b_check_rows {cd : Value} (z : Zs K mg) (D_are_alike_rows : Df P w K Z mg base 5 "are_alike_rows" ["values"] s_are_alike_rows) (D_is_list : Df P w K Z mg base 1 "is_list" ["value"] s_is_list) : Bd P w K Z mg base N_check_rows "check_rows" t_check_rows cd 5 m_check_rows :=
 fun f A outer s H E W hr tk =>
 (ds_one (ds_if (dt_w (dw_or (dt_not (dt_tru (de_def D_is_list tk (hr.mono (by decide)) (da_cons (de_var 0) da_nil)))) (dw_or1 (dt_not (dt_tru (de_def D_are_alike_rows tk (hr.mono (by decide)) (da_cons (de_var 0) da_nil)))))))
 (ds_one (ds_raise z.e_BadRows rfl tk))
 ds_nil))
/-! is_below -/
abbrev t_is_below : Stmt := topS 17
abbrev N_is_below : List Str := ["one", "other"]
theorem sc_is_below : FnScope N_is_below ["one", "other"] (defScope t_is_below) := ⟨rfl, rfl, rfl, by decide +kernel, rfl, by decide +kernel, by decide +kernel⟩
noncomputable def m_is_below : MS := (mSeq (mIfS (mNot (mTru (mDef 1 s_is_row (mCons (mVar 0) mNil))))
 (mRaise "BadRow")
 mSkip)
 (mSeq (mIfS (mNot (mTru (mDef 2 s_is_row_for (mCons (mVar 1) (mCons (mCall sLen (mCons (mVar 0) mNil)) mNil)))))
 (mRaise "BadRow")
 mSkip)
 (mRet (mDef 2 s_below (mCons (mVar 0) (mCons (mVar 1) mNil))))))
noncomputable def s_is_below : Sem := runB 2 m_is_below
theorem b_is_below {cd : Value} (z : Zs K mg) (D_is_row : Df P w K Z mg base 4 "is_row" ["value"] s_is_row) (D_is_row_for : Df P w K Z mg base 3 "is_row_for" ["value", "hands"] s_is_row_for) (D_below : Df P w K Z mg base 1 "below" ["one", "other"] s_below) : Bd P w K Z mg base N_is_below "is_below" t_is_below cd 4 m_is_below :=
 fun f A outer s H E W hr tk =>
 (ds_cons (ds_if (dt_not (dt_tru (de_def D_is_row tk (hr.mono (by decide)) (da_cons (de_var 0) da_nil))))
 (ds_one (ds_raise z.e_BadRow rfl tk))
 ds_nil)
 (ds_cons (ds_if (dt_not (dt_tru (de_def D_is_row_for tk (hr.mono (by decide)) (da_cons (de_var 1) (da_cons (de_len z.z_len (da_cons (de_var 0) da_nil)) da_nil)))))
 (ds_one (ds_raise z.e_BadRow rfl tk))
 ds_nil)
 (ds_one (ds_ret (de_def D_below tk (hr.mono (by decide)) (da_cons (de_var 0) (da_cons (de_var 1) da_nil)))))))
/-! _check_some_rows -/
abbrev t__check_some_rows : Stmt := topS 18
abbrev N__check_some_rows : List Str := ["rows"]
theorem sc__check_some_rows : FnScope N__check_some_rows ["rows"] (defScope t__check_some_rows) := ⟨rfl, rfl, rfl, by decide +kernel, rfl, by decide +kernel, by decide +kernel⟩
noncomputable def m__check_some_rows : MS := (mSeq (mDrop (mDef 1 s_check_rows (mCons (mVar 0) mNil)))
 (mIfS (mNot (mTru (mVar 0)))
 (mRaise "BadRows")
 mSkip))
noncomputable def s__check_some_rows : Sem := runB 1 m__check_some_rows
theorem b__check_some_rows {cd : Value} (z : Zs K mg) (D_check_rows : Df P w K Z mg base 6 "check_rows" ["rows"] s_check_rows) : Bd P w K Z mg base N__check_some_rows "_check_some_rows" t__check_some_rows cd 6 m__check_some_rows :=
 fun f A outer s H E W hr tk =>
 (ds_cons (ds_expr (de_def D_check_rows tk (hr.mono (by decide)) (da_cons (de_var 0) da_nil)))
 (ds_one (ds_if (dt_not (dt_tru (de_var 0)))
 (ds_one (ds_raise z.e_BadRows rfl tk))
 ds_nil)))
/-! joined -/
abbrev t_joined : Stmt := topS 19
abbrev N_joined : List Str := ["rows", "items"]
theorem sc_joined : FnScope N_joined ["rows"] (defScope t_joined) := ⟨rfl, rfl, rfl, by decide +kernel, rfl, by decide +kernel, by decide +kernel⟩
noncomputable def m_joined : MS := (mSeq (mDrop (mDef 1 s__check_some_rows (mCons (mVar 0) mNil)))
 (mRet (mCall sTup (mCons (mVal (mComp [1] (mZipS (mVar 0)) (mgName 1) mYes (mCall (sIntsQ fMax) (mCons (mVar 1) mNil)))) mNil))))
noncomputable def s_joined : Sem := runB 2 m_joined
theorem b_joined {cd : Value} (z : Zs K mg) (D__check_some_rows : Df P w K Z mg base 7 "_check_some_rows" ["rows"] s__check_some_rows) : Bd P w K Z mg base N_joined "joined" t_joined cd 7 m_joined :=
 fun f A outer s H E W hr tk =>
 (ds_cons (ds_expr (de_def D__check_some_rows tk (hr.mono (by decide)) (da_cons (de_var 0) da_nil)))
 (ds_one (ds_ret (de_tuple z.z_tuple (da_cons (de_val (df_comp (own := [("items", 1)]) rfl sc_joined.nd (di_zipS z.z_zip (de_var 0)) (show blkC N_joined (defScope t_joined) _ [("items", 1)] = true by decide +kernel) (fun _ _ _ _ _ => (dg_name 1 sc_joined.nd)) (fun _ _ _ _ _ => dts_nil) (fun _ _ _ _ _ => (de_maxQ rfl z.z_max (da_cons (de_var 1) da_nil))))) da_nil)))))
/-! common -/
abbrev t_common : Stmt := topS 20
abbrev N_common : List Str := ["rows", "items"]
theorem sc_common : FnScope N_common ["rows"] (defScope t_common) := ⟨rfl, rfl, rfl, by decide +kernel, rfl, by decide +kernel, by decide +kernel⟩
noncomputable def m_common : MS := (mSeq (mDrop (mDef 1 s__check_some_rows (mCons (mVar 0) mNil)))
 (mRet (mCall sTup (mCons (mVal (mComp [1] (mZipS (mVar 0)) (mgName 1) mYes (mCall (sIntsQ fMin) (mCons (mVar 1) mNil)))) mNil))))
noncomputable def s_common : Sem := runB 2 m_common
theorem b_common {cd : Value} (z : Zs K mg) (D__check_some_rows : Df P w K Z mg base 7 "_check_some_rows" ["rows"] s__check_some_rows) : Bd P w K Z mg base N_common "common" t_common cd 7 m_common :=
 fun f A outer s H E W hr tk =>
 (ds_cons (ds_expr (de_def D__check_some_rows tk (hr.mono (by decide)) (da_cons (de_var 0) da_nil)))
 (ds_one (ds_ret (de_tuple z.z_tuple (da_cons (de_val (df_comp (own := [("items", 1)]) rfl sc_common.nd (di_zipS z.z_zip (de_var 0)) (show blkC N_common (defScope t_common) _ [("items", 1)] = true by decide +kernel) (fun _ _ _ _ _ => (dg_name 1 sc_common.nd)) (fun _ _ _ _ _ => dts_nil) (fun _ _ _ _ _ => (de_minQ rfl z.z_min (da_cons (de_var 1) da_nil))))) da_nil)))))
/-! _law_begun -/
abbrev t__law_begun : Stmt := topS 22
abbrev N__law_begun : List Str := ["script", "great", "cell"]
theorem sc__law_begun : FnScope N__law_begun ["script"] (defScope t__law_begun) := ⟨rfl, rfl, rfl, by decide +kernel, rfl, by decide +kernel, by decide +kernel⟩
noncomputable def m__law_begun : MS := (mSeq (mAsg (if true = true then mCell (mComp [2] (mItems (mVar 0)) (mgName 2) (mTest (mOp2 sGe (mCall sAbs (mCons (mVar 2) mNil)) (mOp2 sPow (mC (.int 10)) (mC (.int 18))))) (mOp2 sSub (mCall sAbs (mCons (mVar 2) mNil)) (mOp2 sPow (mC (.int 10)) (mC (.int 18))))) else mVal (mComp [2] (mItems (mVar 0)) (mgName 2) (mTest (mOp2 sGe (mCall sAbs (mCons (mVar 2) mNil)) (mOp2 sPow (mC (.int 10)) (mC (.int 18))))) (mOp2 sSub (mCall sAbs (mCons (mVar 2) mNil)) (mOp2 sPow (mC (.int 10)) (mC (.int 18)))))) (mgName 1))
 (mRet (mDict (mpCons (mC (.str "great")) (mVar 1) (mpCons (mC (.str "cells")) (mVal (mComp [2] (mItems (mVar 0)) (mgName 2) mYes (mCall sAbs (mCons (mVar 2) mNil)))) (mpCons (mC (.str "left")) (mC (.int 0)) (mpCons (mC (.str "turn")) (mC (.int 0)) mpNil)))))))
noncomputable def s__law_begun : Sem := runB 3 m__law_begun
theorem b__law_begun {cd : Value} (z : Zs K mg) : Bd P w K Z mg base N__law_begun "_law_begun" t__law_begun cd 0 m__law_begun :=
 fun f A outer s H E W hr tk =>
 (ds_cons (ds_setLc (own := [("cell", 2)]) 1 true rfl sc__law_begun.nd (di_seq (de_var 0)) (show blkC N__law_begun (defScope t__law_begun) _ [("cell", 2)] = true by decide +kernel) (fun _ _ _ _ _ => (dg_name 2 sc__law_begun.nd)) (fun _ _ _ _ _ => (dts_one (dt_ge (de_abs z.z_abs (da_cons (de_var 2) da_nil)) (de_pow de_int de_int)))) (fun _ _ _ _ _ => (de_sub (de_abs z.z_abs (da_cons (de_var 2) da_nil)) (de_pow de_int de_int))) (sw_true rfl rfl rfl (by decide +kernel)))
 (ds_one (ds_ret (de_dict (dp_cons de_str (de_var 1) (dp_cons de_str (de_val (df_comp (own := [("cell", 2)]) rfl sc__law_begun.nd (di_seq (de_var 0)) (show blkC N__law_begun (defScope t__law_begun) _ [("cell", 2)] = true by decide +kernel) (fun _ _ _ _ _ => (dg_name 2 sc__law_begun.nd)) (fun _ _ _ _ _ => dts_nil) (fun _ _ _ _ _ => (de_abs z.z_abs (da_cons (de_var 2) da_nil))))) (dp_cons de_str de_int (dp_cons de_str de_int dp_nil))))))))
/-! _law_blended -/
abbrev t__law_blended : Stmt := topS 23
abbrev N__law_blended : List Str := ["state", "turn", "prime", "found", "blend", "cell"]
theorem sc__law_blended : FnScope N__law_blended ["state"] (defScope t__law_blended) := ⟨rfl, rfl, rfl, by decide +kernel, rfl, by decide +kernel, by decide +kernel⟩
noncomputable def m__law_blended : MS := (mSeq (mPar 1 3 (mCons (mOp2 sAdd (mOp2 sIx (mVar 0) (mC (.str "turn"))) (mC (.int 1))) (mCons (mC (.int 0)) mNil)))
 (mSeq (mAsg (mVar 1) (mgSub sSet (mVar 0) (mC (.str "turn"))))
 (mSeq (mFor (mItems (mVal (mLst (mCons (mC (.int 2147483477)) (mCons (mC (.int 2147483423)) (mCons (mC (.int 2147483399)) mNil)))))) (mgName 2)
 (mSeq (mAsg (mOp2 sAdd (mOp2 sMul (mC (.int 40014)) (mVar 1)) (mOp2 sFdiv (mVar 2) (mC (.int 67)))) (mgName 4))
 (mSeq (mFor (mItems (mOp2 sIx (mVar 0) (mC (.str "cells")))) (mgName 5)
 (mAsg (mOp2 sMod (mCall sInt (mCons (mOp2 sAdd (mOp2 sAdd (mOp2 sMul (mVar 4) (mC (.int 69621))) (mVar 5)) (mVar 1)) mNil)) (mVar 2)) (mgName 4)))
 (mAsg (mOp2 sAdd (mOp2 sMul (mVar 3) (mC (.int 2147483647))) (mOp2 sMod (mCall sInt (mCons (mOp2 sPow (mVar 4) (mC (.int 5))) mNil)) (mVar 2))) (mgName 3)))))
 (mRet (mVar 3)))))
noncomputable def s__law_blended : Sem := runB 6 m__law_blended
theorem b__law_blended {cd : Value} (z : Zs K mg) : Bd P w K Z mg base N__law_blended "_law_blended" t__law_blended cd 0 m__law_blended :=
 fun f A outer s H E W hr tk =>
 (ds_cons (ds_par 1 3 rfl sc__law_blended.nd (da_cons (de_add (de_sub' (hu_of hr) (de_var 0) de_str) de_int) (da_cons de_int da_nil)))
 (ds_cons (ds_asg (de_var 1) (dg_item (hu_of hr) (de_var 0) de_str))
 (ds_cons (ds_for (passes_of rfl) rfl (di_seq (de_val (df_lst (da_cons de_int (da_cons de_int (da_cons de_int da_nil)))))) (dg_name 2 sc__law_blended.nd)
 (ds_cons (ds_set 4 sc__law_blended.nd (de_add (de_mul de_int (de_var 1)) (de_fdiv (de_var 2) de_int)))
 (ds_cons (ds_for (passes_of rfl) rfl (di_seq (de_sub' (hu_of hr) (de_var 0) de_str)) (dg_name 5 sc__law_blended.nd)
 (ds_one (ds_set 4 sc__law_blended.nd (de_mod (de_int1 z.z_int (da_cons (de_add (de_add (de_mul (de_var 4) de_int) (de_var 5)) (de_var 1)) da_nil)) (de_var 2)))))
 (ds_one (ds_set 3 sc__law_blended.nd (de_add (de_mul (de_var 3) de_int) (de_mod (de_int1 z.z_int (da_cons (de_pow (de_var 4) de_int) da_nil)) (de_var 2))))))))
 (ds_one (ds_ret (de_var 3))))))
/-! _law_draw -/
abbrev t__law_draw : Stmt := topS 24
abbrev N__law_draw : List Str := ["state", "size_here", "found"]
theorem sc__law_draw : FnScope N__law_draw ["state", "size_here"] (defScope t__law_draw) := ⟨rfl, rfl, rfl, by decide +kernel, rfl, by decide +kernel, by decide +kernel⟩
noncomputable def m__law_draw : MS := (mSeq (mIfS (mTest (mOp2 sEq (mOp2 sIx (mVar 0) (mC (.str "left"))) (mC (.int 0))))
 (mAsg (mIf (mTest (mOp2 sNe (mOp2 sIx (mVar 0) (mC (.str "great"))) (mVal (mLst mNil)))) (mMeth sPopAt (mOp2 sIx (mVar 0) (mC (.str "great"))) (mCons (mC (.int 0)) mNil)) (mDef 1 s__law_blended (mCons (mVar 0) mNil))) (mgSub sSet (mVar 0) (mC (.str "left"))))
 mSkip)
 (mSeq (mAsg (mOp2 sMod (mCall sInt (mCons (mOp2 sIx (mVar 0) (mC (.str "left"))) mNil)) (mVar 1)) (mgName 2))
 (mSeq (mAsg (mOp2 sFdiv (mOp2 sIx (mVar 0) (mC (.str "left"))) (mVar 1)) (mgSub sSet (mVar 0) (mC (.str "left"))))
 (mRet (mVar 2)))))
noncomputable def s__law_draw : Sem := runB 3 m__law_draw
theorem b__law_draw {cd : Value} (z : Zs K mg) (D__law_blended : Df P w K Z mg base 1 "_law_blended" ["state"] s__law_blended) : Bd P w K Z mg base N__law_draw "_law_draw" t__law_draw cd 1 m__law_draw :=
 fun f A outer s H E W hr tk =>
 (ds_cons (ds_if (dt_eq hr.units (de_sub' (hu_of hr) (de_var 0) de_str) de_int)
 (ds_one (ds_asg (de_if (dt_ne hr.units (de_sub' (hu_of hr) (de_var 0) de_str) (de_val (df_lst da_nil))) (de_popAt (de_sub' (hu_of hr) (de_var 0) de_str) (da_cons de_int da_nil)) (de_def D__law_blended tk (hr.mono (by decide)) (da_cons (de_var 0) da_nil))) (dg_item (hu_of hr) (de_var 0) de_str)))
 ds_nil)
 (ds_cons (ds_set 2 sc__law_draw.nd (de_mod (de_int1 z.z_int (da_cons (de_sub' (hu_of hr) (de_var 0) de_str) da_nil)) (de_var 1)))
 (ds_cons (ds_asg (de_fdiv (de_sub' (hu_of hr) (de_var 0) de_str) (de_var 1)) (dg_item (hu_of hr) (de_var 0) de_str))
 (ds_one (ds_ret (de_var 2))))))
/-! _law_pick -/
abbrev t__law_pick : Stmt := topS 25
abbrev N__law_pick : List Str := ["state", "several"]
theorem sc__law_pick : FnScope N__law_pick ["state", "several"] (defScope t__law_pick) := ⟨rfl, rfl, rfl, by decide +kernel, rfl, by decide +kernel, by decide +kernel⟩
noncomputable def m__law_pick : MS := (mRet (mOp2 sIx (mVar 1) (mDef 2 s__law_draw (mCons (mVar 0) (mCons (mCall sLen (mCons (mVar 1) mNil)) mNil)))))
noncomputable def s__law_pick : Sem := runB 2 m__law_pick
theorem b__law_pick {cd : Value} (z : Zs K mg) (D__law_draw : Df P w K Z mg base 2 "_law_draw" ["state", "size_here"] s__law_draw) : Bd P w K Z mg base N__law_pick "_law_pick" t__law_pick cd 2 m__law_pick :=
 fun f A outer s H E W hr tk =>
 (ds_one (ds_ret (de_sub' (hu_of hr) (de_var 1) (de_def D__law_draw tk (hr.mono (by decide)) (da_cons (de_var 0) (da_cons (de_len z.z_len (da_cons (de_var 1) da_nil)) da_nil))))))
/-! _law_is_truth -/
abbrev t__law_is_truth : Stmt := topS 27
abbrev N__law_is_truth : List Str := ["found", "due"]
theorem sc__law_is_truth : FnScope N__law_is_truth ["found", "due"] (defScope t__law_is_truth) := ⟨rfl, rfl, rfl, by decide +kernel, rfl, by decide +kernel, by decide +kernel⟩
noncomputable def m__law_is_truth : MS := (mRet (mIf (mTru (mVar 1)) (mOp2 sIsB (mVar 0) (mC (.bl true))) (mOp2 sIsB (mVar 0) (mC (.bl false)))))
noncomputable def s__law_is_truth : Sem := runB 2 m__law_is_truth
theorem b__law_is_truth {cd : Value} (z : Zs K mg) : Bd P w K Z mg base N__law_is_truth "_law_is_truth" t__law_is_truth cd 0 m__law_is_truth :=
 fun f A outer s H E W hr tk =>
 (ds_one (ds_ret (de_if (dt_tru (de_var 1)) (de_isB (de_var 0) de_bl) (de_isB (de_var 0) de_bl))))
/-! _law_is_whole -/
abbrev t__law_is_whole : Stmt := topS 28
abbrev N__law_is_whole : List Str := ["item"]
theorem sc__law_is_whole : FnScope N__law_is_whole ["item"] (defScope t__law_is_whole) := ⟨rfl, rfl, rfl, by decide +kernel, rfl, by decide +kernel, by decide +kernel⟩
noncomputable def m__law_is_whole : MS := (mRet (mAndV (mCall sIsi (mCons (mVar 0) (mCons (mC (.ty "int")) mNil))) (mNotV (mCall sIsi (mCons (mVar 0) (mCons (mC (.ty "bool")) mNil))))))
noncomputable def s__law_is_whole : Sem := runB 1 m__law_is_whole
theorem b__law_is_whole {cd : Value} (z : Zs K mg) : Bd P w K Z mg base N__law_is_whole "_law_is_whole" t__law_is_whole cd 0 m__law_is_whole :=
 fun f A outer s H E W hr tk =>
 (ds_one (ds_ret (de_and (de_isi z.z_isinstance (da_cons (de_var 0) (da_cons (de_gty z.z_int (by decide +kernel)) da_nil))) (de_one (de_not (de_isi z.z_isinstance (da_cons (de_var 0) (da_cons (de_gty z.z_bool (by decide +kernel)) da_nil))))))))
/-! _law_ln_under -/
abbrev t__law_ln_under : Stmt := topS 29
abbrev N__law_ln_under : List Str := ["one", "other", "item", "there"]
theorem sc__law_ln_under : FnScope N__law_ln_under ["one", "other"] (defScope t__law_ln_under) := ⟨rfl, rfl, rfl, by decide +kernel, rfl, by decide +kernel, by decide +kernel⟩
noncomputable def m__law_ln_under : MS := (mRet (mOp2 sEq (mVal (mComp [2, 3] (mZip (mCons (mVar 0) (mCons (mVar 1) mNil))) (mgTup 2 (mgCons (mgName 2) (mgCons (mgName 3) mgNil))) (mTest (mOp2 sGt (mVar 2) (mVar 3))) (mC (.int 1)))) (mVal (mLst mNil))))
noncomputable def s__law_ln_under : Sem := runB 4 m__law_ln_under
theorem b__law_ln_under {cd : Value} (z : Zs K mg) : Bd P w K Z mg base N__law_ln_under "_law_ln_under" t__law_ln_under cd 0 m__law_ln_under :=
 fun f A outer s H E W hr tk =>
 (ds_one (ds_ret (de_eq hr.units (de_val (df_comp (own := [("item", 2), ("there", 3)]) rfl sc__law_ln_under.nd (di_zip z.z_zip (da_cons (de_var 0) (da_cons (de_var 1) da_nil))) (show blkC N__law_ln_under (defScope t__law_ln_under) _ [("item", 2), ("there", 3)] = true by decide +kernel) (fun _ _ _ _ _ => (dg_tup rfl (dgs_cons (dg_name 2 sc__law_ln_under.nd) (dgs_cons (dg_name 3 sc__law_ln_under.nd) dgs_nil)))) (fun _ _ _ _ _ => (dts_one (dt_gt (de_var 2) (de_var 3)))) (fun _ _ _ _ _ => de_int))) (de_val (df_lst da_nil)))))
/-! _law_ln_row -/
abbrev t__law_ln_row : Stmt := topS 30
abbrev N__law_ln_row : List Str := ["state", "many", "most", "great", "turn"]
theorem sc__law_ln_row : FnScope N__law_ln_row ["state", "many", "most"] (defScope t__law_ln_row) := ⟨rfl, rfl, rfl, by decide +kernel, rfl, by decide +kernel, by decide +kernel⟩
noncomputable def m__law_ln_row : MS := (mSeq (mAsg (mOp2 sEq (mDef 2 s__law_draw (mCons (mVar 0) (mCons (mC (.int 12)) mNil))) (mC (.int 0))) (mgName 3))
 (mRet (mCall sTup (mCons (mVal (mComp [4] (mRange1 (mCons (mVar 1) mNil)) (mgName 4) mYes (mIf (mTru (mVar 3)) (mOp2 sSub (mOp2 sSub (mOp2 sPow (mC (.int 10)) (mC (.int 18))) (mC (.int 1))) (mDef 2 s__law_draw (mCons (mVar 0) (mCons (mVar 2) mNil)))) (mDef 2 s__law_draw (mCons (mVar 0) (mCons (mVar 2) mNil)))))) mNil))))
noncomputable def s__law_ln_row : Sem := runB 5 m__law_ln_row
theorem b__law_ln_row {cd : Value} (z : Zs K mg) (D__law_draw : Df P w K Z mg base 2 "_law_draw" ["state", "size_here"] s__law_draw) : Bd P w K Z mg base N__law_ln_row "_law_ln_row" t__law_ln_row cd 2 m__law_ln_row :=
 fun f A outer s H E W hr tk =>
 (ds_cons (ds_set 3 sc__law_ln_row.nd (de_eq hr.units (de_def D__law_draw tk (hr.mono (by decide)) (da_cons (de_var 0) (da_cons de_int da_nil))) de_int))
 (ds_one (ds_ret (de_tuple z.z_tuple (da_cons (de_val (df_comp (own := [("turn", 4)]) rfl sc__law_ln_row.nd (di_range1 z.z_range (da_cons (de_var 1) da_nil)) (show blkC N__law_ln_row (defScope t__law_ln_row) _ [("turn", 4)] = true by decide +kernel) (fun _ _ _ _ _ => (dg_name 4 sc__law_ln_row.nd)) (fun _ _ _ _ _ => dts_nil) (fun _ _ _ _ _ => (de_if (dt_tru (de_var 3)) (de_sub (de_sub (de_pow de_int de_int) de_int) (de_def D__law_draw trivial (hr.mono (by decide)) (da_cons (de_var 0) (da_cons (de_var 2) da_nil)))) (de_def D__law_draw trivial (hr.mono (by decide)) (da_cons (de_var 0) (da_cons (de_var 2) da_nil))))))) da_nil)))))
/-! _law_ln_near -/
abbrev t__law_ln_near : Stmt := topS 31
abbrev N__law_ln_near : List Str := ["state", "row", "item"]
theorem sc__law_ln_near : FnScope N__law_ln_near ["state", "row"] (defScope t__law_ln_near) := ⟨rfl, rfl, rfl, by decide +kernel, rfl, by decide +kernel, by decide +kernel⟩
noncomputable def m__law_ln_near : MS := (mRet (mCall sTup (mCons (mVal (mComp [2] (mItems (mVar 1)) (mgName 2) mYes (mCall sMax2 (mCons (mC (.int 0)) (mCons (mCall sMin2 (mCons (mOp2 sSub (mOp2 sPow (mC (.int 10)) (mC (.int 18))) (mC (.int 1))) (mCons (mOp2 sSub (mOp2 sAdd (mVar 2) (mDef 2 s__law_draw (mCons (mVar 0) (mCons (mC (.int 3)) mNil)))) (mC (.int 1))) mNil))) mNil))))) mNil)))
noncomputable def s__law_ln_near : Sem := runB 3 m__law_ln_near
theorem b__law_ln_near {cd : Value} (z : Zs K mg) (D__law_draw : Df P w K Z mg base 2 "_law_draw" ["state", "size_here"] s__law_draw) : Bd P w K Z mg base N__law_ln_near "_law_ln_near" t__law_ln_near cd 2 m__law_ln_near :=
 fun f A outer s H E W hr tk =>
 (ds_one (ds_ret (de_tuple z.z_tuple (da_cons (de_val (df_comp (own := [("item", 2)]) rfl sc__law_ln_near.nd (di_seq (de_var 1)) (show blkC N__law_ln_near (defScope t__law_ln_near) _ [("item", 2)] = true by decide +kernel) (fun _ _ _ _ _ => (dg_name 2 sc__law_ln_near.nd)) (fun _ _ _ _ _ => dts_nil) (fun _ _ _ _ _ => (de_max2 rfl z.z_max (da_cons de_int (da_cons (de_min2 rfl z.z_min (da_cons (de_sub (de_pow de_int de_int) de_int) (da_cons (de_sub (de_add (de_var 2) (de_def D__law_draw trivial (hr.mono (by decide)) (da_cons (de_var 0) (da_cons de_int da_nil)))) de_int) da_nil))) da_nil)))))) da_nil))))
/-! _law_ln_rows -/
abbrev t__law_ln_rows : Stmt := topS 32
abbrev N__law_ln_rows : List Str := ["state", "many", "count", "most", "found", "turn", "way", "one"]
theorem sc__law_ln_rows : FnScope N__law_ln_rows ["state", "many", "count", "most"] (defScope t__law_ln_rows) := ⟨rfl, rfl, rfl, by decide +kernel, rfl, by decide +kernel, by decide +kernel⟩
noncomputable def m__law_ln_rows : MS := (mSeq (mAsg (mCell (mLst mNil)) (mgName 4))
 (mSeq (mFor (mRange1 (mCons (mVar 2) mNil)) (mgName 5)
 (mSeq (mAsg (mDef 2 s__law_draw (mCons (mVar 0) (mCons (mC (.int 5)) mNil))) (mgName 6))
 (mIfS (mOr (mTest (mOp2 sEq (mVar 4) (mVal (mLst mNil)))) (mTest (mOp2 sLt (mVar 6) (mC (.int 3)))))
 (mDrop (mMeth sAppend (mVar 4) (mCons (mDef 3 s__law_ln_row (mCons (mVar 0) (mCons (mVar 1) (mCons (mVar 3) mNil)))) mNil)))
 (mSeq (mAsg (mDef 2 s__law_pick (mCons (mVar 0) (mCons (mVar 4) mNil))) (mgName 7))
 (mDrop (mMeth sAppend (mVar 4) (mCons (mIf (mTest (mOp2 sEq (mVar 6) (mC (.int 3)))) (mDef 2 s__law_ln_near (mCons (mVar 0) (mCons (mVar 7) mNil))) (mVar 7)) mNil)))))))
 (mRet (mVar 4))))
noncomputable def s__law_ln_rows : Sem := gc (runB 8 m__law_ln_rows)
theorem b__law_ln_rows {cd : Value} (z : Zs K mg) (D__law_draw : Df P w K Z mg base 2 "_law_draw" ["state", "size_here"] s__law_draw) (D__law_ln_row : Df P w K Z mg base 3 "_law_ln_row" ["state", "many", "most"] s__law_ln_row) (D__law_pick : Df P w K Z mg base 3 "_law_pick" ["state", "several"] s__law_pick) (D__law_ln_near : Df P w K Z mg base 3 "_law_ln_near" ["state", "row"] s__law_ln_near) : Bd P w K Z mg base N__law_ln_rows "_law_ln_rows" t__law_ln_rows cd 3 m__law_ln_rows :=
 fun f A outer s H E W hr tk =>
 (ds_cons (ds_set 4 sc__law_ln_rows.nd (de_cell (df_lst da_nil)))
 (ds_cons (ds_for (passes_of rfl) rfl (di_range1 z.z_range (da_cons (de_var 2) da_nil)) (dg_name 5 sc__law_ln_rows.nd)
 (ds_cons (ds_set 6 sc__law_ln_rows.nd (de_def D__law_draw tk (hr.mono (by decide)) (da_cons (de_var 0) (da_cons de_int da_nil))))
 (ds_one (ds_if (dt_w (dw_or (dt_eq hr.units (de_var 4) (de_val (df_lst da_nil))) (dw_or1 (dt_lt (de_var 6) de_int))))
 (ds_one (ds_expr (de_append (de_var 4) (da_cons (de_def D__law_ln_row tk (hr.mono (by decide)) (da_cons (de_var 0) (da_cons (de_var 1) (da_cons (de_var 3) da_nil)))) da_nil))))
 (ds_cons (ds_set 7 sc__law_ln_rows.nd (de_def D__law_pick tk (hr.mono (by decide)) (da_cons (de_var 0) (da_cons (de_var 4) da_nil))))
 (ds_one (ds_expr (de_append (de_var 4) (da_cons (de_if (dt_eq hr.units (de_var 6) de_int) (de_def D__law_ln_near tk (hr.mono (by decide)) (da_cons (de_var 0) (da_cons (de_var 7) da_nil))) (de_var 7)) da_nil)))))))))
 (ds_one (ds_ret (de_var 4)))))
/-! _law_ln_is_row -/
abbrev t__law_ln_is_row : Stmt := topS 33
abbrev N__law_ln_is_row : List Str := ["item", "one"]
theorem sc__law_ln_is_row : FnScope N__law_ln_is_row ["item"] (defScope t__law_ln_is_row) := ⟨rfl, rfl, rfl, by decide +kernel, rfl, by decide +kernel, by decide +kernel⟩
noncomputable def m__law_ln_is_row : MS := (mSeq (mIfS (mOr (mNot (mTru (mCall sIsi (mCons (mVar 0) (mCons (mC (.ty "tuple")) mNil))))) (mTest (mInR not (mCall sLen (mCons (mVar 0) mNil)) (mCons (mC (.int 1)) (mCons (mC (.int 7)) mNil)))))
 (mRet (mC (.bl false)))
 mSkip)
 (mRet (mOp2 sEq (mVal (mComp [1] (mItems (mVar 0)) (mgName 1) (mOr (mNot (mTru (mDef 1 s__law_is_whole (mCons (mVar 1) mNil)))) (mOr (mTest (mOp2 sLt (mVar 1) (mC (.int 0)))) (mTest (mOp2 sGe (mVar 1) (mOp2 sPow (mC (.int 10)) (mC (.int 18))))))) (mC (.int 1)))) (mVal (mLst mNil)))))
noncomputable def s__law_ln_is_row : Sem := runB 2 m__law_ln_is_row
theorem b__law_ln_is_row {cd : Value} (z : Zs K mg) (D__law_is_whole : Df P w K Z mg base 1 "_law_is_whole" ["item"] s__law_is_whole) : Bd P w K Z mg base N__law_ln_is_row "_law_ln_is_row" t__law_ln_is_row cd 1 m__law_ln_is_row :=
 fun f A outer s H E W hr tk =>
 (ds_cons (ds_if (dt_w (dw_or (dt_not (dt_tru (de_isi z.z_isinstance (da_cons (de_var 0) (da_cons (de_gty z.z_tuple (by decide +kernel)) da_nil))))) (dw_or1 (dt_notinr z.z_range (de_len z.z_len (da_cons (de_var 0) da_nil)) (da_cons de_int (da_cons de_int da_nil))))))
 (ds_one (ds_ret de_bl))
 ds_nil)
 (ds_one (ds_ret (de_eq hr.units (de_val (df_comp (own := [("one", 1)]) rfl sc__law_ln_is_row.nd (di_seq (de_var 0)) (show blkC N__law_ln_is_row (defScope t__law_ln_is_row) _ [("one", 1)] = true by decide +kernel) (fun _ _ _ _ _ => (dg_name 1 sc__law_ln_is_row.nd)) (fun _ _ _ _ _ => (dts_one (dt_w (dw_or (dt_not (dt_tru (de_def D__law_is_whole trivial (hr.mono (by decide)) (da_cons (de_var 1) da_nil)))) (dw_or (dt_lt (de_var 1) de_int) (dw_or1 (dt_ge (de_var 1) (de_pow de_int de_int)))))))) (fun _ _ _ _ _ => de_int))) (de_val (df_lst da_nil))))))
/-! _law_ln_bad_rows -/
abbrev t__law_ln_bad_rows : Stmt := topS 34
abbrev N__law_ln_bad_rows : List Str := ["state", "some"]
theorem sc__law_ln_bad_rows : FnScope N__law_ln_bad_rows ["state"] (defScope t__law_ln_bad_rows) := ⟨rfl, rfl, rfl, by decide +kernel, rfl, by decide +kernel, by decide +kernel⟩
noncomputable def m__law_ln_bad_rows : MS := (mSeq (mAsg (mVal (mLst (mCons (mC .non) (mCons (mC (.int 5)) (mCons (mC (.str "rows")) (mCons mC0 (mCons (mVal (mLst (mCons (mTup mNil) mNil))) (mCons (mVal (mLst (mCons (mTup (mCons (mC (.int 1)) mNil)) (mCons (mTup (mCons (mC (.int 1)) (mCons (mC (.int 2)) mNil))) mNil)))) (mCons (mVal (mLst (mCons (mTup (mCons (mC (.int 0)) (mCons (mOp1 sNeg (mC (.int 1))) mNil))) mNil))) (mCons (mVal (mLst (mCons (mVal (mLst (mCons (mC (.int 0)) (mCons (mC (.int 1)) mNil)))) mNil))) (mCons (mVal (mLst (mCons (mTup (mCons (mC (.int 0)) (mCons (mC (.bl true)) mNil))) mNil))) (mCons (mVal (mLst (mCons (mTup (mCons (mC (.int 0)) (mCons (mC (.int 1)) mNil))) (mCons (mC .non) mNil)))) (mCons (mVal (mLst (mCons (mOp2 sMulT (mTup (mCons (mC (.int 0)) mNil)) (mC (.int 7))) mNil))) mNil))))))))))))) (mgName 1))
 (mRet (mDef 2 s__law_pick (mCons (mVar 0) (mCons (mVal (mOp2F sCat (mVar 1) (mVal (mLst (mCons (mTup (mCons (mTup (mCons (mC (.int 0)) (mCons (mC (.int 1)) mNil))) (mCons (mTup (mCons (mC (.int 0)) (mCons (mC (.str "1")) mNil))) mNil))) (mCons (mVal (mLst (mCons (mTup (mCons (mOp2 sPow (mC (.int 10)) (mC (.int 18))) (mCons (mC (.int 0)) mNil))) mNil))) (mCons (mTup (mCons (mC (.int 1)) (mCons (mC (.int 2)) mNil))) mNil))))))) mNil)))))
noncomputable def s__law_ln_bad_rows : Sem := runB 2 m__law_ln_bad_rows
theorem b__law_ln_bad_rows {cd : Value} (z : Zs K mg) (D__law_pick : Df P w K Z mg base 3 "_law_pick" ["state", "several"] s__law_pick) : Bd P w K Z mg base N__law_ln_bad_rows "_law_ln_bad_rows" t__law_ln_bad_rows cd 3 m__law_ln_bad_rows :=
 fun f A outer s H E W hr tk =>
 (ds_cons (ds_set 1 sc__law_ln_bad_rows.nd (de_val (df_lst (da_cons de_non (da_cons de_int (da_cons de_str (da_cons de_dct0 (da_cons (de_val (df_lst (da_cons (de_tup da_nil) da_nil))) (da_cons (de_val (df_lst (da_cons (de_tup (da_cons de_int da_nil)) (da_cons (de_tup (da_cons de_int (da_cons de_int da_nil))) da_nil)))) (da_cons (de_val (df_lst (da_cons (de_tup (da_cons de_int (da_cons (de_neg de_int) da_nil))) da_nil))) (da_cons (de_val (df_lst (da_cons (de_val (df_lst (da_cons de_int (da_cons de_int da_nil)))) da_nil))) (da_cons (de_val (df_lst (da_cons (de_tup (da_cons de_int (da_cons de_bl da_nil))) da_nil))) (da_cons (de_val (df_lst (da_cons (de_tup (da_cons de_int (da_cons de_int da_nil))) (da_cons de_non da_nil)))) (da_cons (de_val (df_lst (da_cons (de_mulT (de_tup (da_cons de_int da_nil)) de_int) da_nil))) da_nil))))))))))))))
 (ds_one (ds_ret (de_def D__law_pick tk (hr.mono (by decide)) (da_cons (de_var 0) (da_cons (de_val (df_add (de_var 1) (de_val (df_lst (da_cons (de_tup (da_cons (de_tup (da_cons de_int (da_cons de_int da_nil))) (da_cons (de_tup (da_cons de_int (da_cons de_str da_nil))) da_nil))) (da_cons (de_val (df_lst (da_cons (de_tup (da_cons (de_pow de_int de_int) (da_cons de_int da_nil))) da_nil))) (da_cons (de_tup (da_cons de_int (da_cons de_int da_nil))) da_nil))))))) da_nil))))))
/-! law -/
abbrev t_law : Stmt := topS 35
abbrev N_law : List Str := ["script", "state", "lap", "many", "rows_here", "handed", "others", "row", "some", "bad", "wrong", "work", "most", "least", "above", "below_v", "other"]
theorem sc_law : FnScope N_law ["script"] (defScope t_law) := ⟨rfl, rfl, rfl, by decide +kernel, rfl, by decide +kernel, by decide +kernel⟩
noncomputable def m_law : MS := (mSeq (mAsg (mDef 1 s__law_begun (mCons (mVar 0) mNil)) (mgName 1))
 (mSeq (mFor (mRange1 (mCons (mOp2 sAdd (mC (.int 1)) (mCall sMin2 (mCons (mCall sLen (mCons (mVar 0) mNil)) (mCons (mC (.int 5)) mNil)))) mNil)) (mgName 2)
 (mSeq (mAsg (mOp2 sAdd (mC (.int 1)) (mDef 2 s__law_draw (mCons (mVar 1) (mCons (mC (.int 6)) mNil)))) (mgName 3))
 (mSeq (mAsg (mDef 4 s__law_ln_rows (mCons (mVar 1) (mCons (mVar 3) (mCons (mOp2 sAdd (mC (.int 1)) (mDef 2 s__law_draw (mCons (mVar 1) (mCons (mC (.int 7)) mNil)))) (mCons (mOp2 sAdd (mC (.int 1)) (mDef 2 s__law_draw (mCons (mVar 1) (mCons (mC (.int 4)) mNil)))) mNil))))) (mgName 4))
 (mSeq (mAsg (mIf (mTest (mOp2 sEq (mDef 2 s__law_draw (mCons (mVar 1) (mCons (mC (.int 2)) mNil))) (mC (.int 0)))) (mVal (mCallF sList (mCons (mVar 4) mNil))) (mCall sTup (mCons (mVar 4) mNil))) (mgName 5))
 (mSeq (mAsg (mTup (mCons (mDefP 1 0 1 [0] s_joined mNil (mCons (mVar 5) mNil)) (mCons (mDefP 1 0 1 [0] s_common mNil (mCons (mVar 5) mNil)) mNil))) (mgTup 2 (mgCons (mgName 12) (mgCons (mgName 13) mgNil))))
 (mSeq (mIfS (mOr (mTest (mOp2 sNe (mCall sShow (mCons (mVal (mCallF sList (mCons (mVar 5) mNil))) mNil)) (mCall sShow (mCons (mVar 4) mNil)))) (mOr (mNot (mTru (mDef 1 s__law_ln_is_row (mCons (mVar 12) mNil)))) (mNot (mTru (mDef 1 s__law_ln_is_row (mCons (mVar 13) mNil))))))
 (mRet (mC (.bl false)))
 mSkip)
 (mSeq (mIfS (mOr (mTest (mOp2 sNe (mCall sLen (mCons (mVar 12) mNil)) (mVar 3))) (mTest (mOp2 sNe (mCall sLen (mCons (mVar 13) mNil)) (mVar 3))))
 (mRet (mC (.bl false)))
 mSkip)
 (mSeq (mAsg (mVal (mOp2F sCat (mVal (mLst (mCons (mDef 2 s__law_ln_near (mCons (mVar 1) (mCons (mVar 12) mNil))) (mCons (mDef 2 s__law_ln_near (mCons (mVar 1) (mCons (mVar 13) mNil))) (mCons (mVar 12) (mCons (mVar 13) mNil)))))) (mVar 4))) (mgName 6))
 (mSeq (mAsg (mVal (mOp2F sCat (mVar 6) (mVal (mLst (mCons (mDef 3 s__law_ln_row (mCons (mVar 1) (mCons (mVar 3) (mCons (mC (.int 4)) mNil)))) (mCons (mOp2 sMulT (mTup (mCons (mC (.int 0)) mNil)) (mVar 3)) (mCons (mOp2 sMulT (mTup (mCons (mOp2 sSub (mOp2 sPow (mC (.int 10)) (mC (.int 18))) (mC (.int 1))) mNil)) (mVar 3)) mNil))))))) (mgName 6))
 (mSeq (mFor (mItems (mVar 6)) (mgName 7)
 (mSeq (mAsg (mOp2 sEq (mVal (mComp [16] (mItems (mVar 4)) (mgName 16) (mNot (mTru (mDef 2 s__law_ln_under (mCons (mVar 16) (mCons (mVar 7) mNil))))) (mC (.int 1)))) (mVal (mLst mNil))) (mgName 14))
 (mSeq (mAsg (mOp2 sEq (mVal (mComp [16] (mItems (mVar 4)) (mgName 16) (mNot (mTru (mDef 2 s__law_ln_under (mCons (mVar 7) (mCons (mVar 16) mNil))))) (mC (.int 1)))) (mVal (mLst mNil))) (mgName 15))
 (mSeq (mIfS (mOr (mTest (mOp2 sNe (mDef 2 s__law_ln_under (mCons (mVar 12) (mCons (mVar 7) mNil))) (mVar 14))) (mTest (mOp2 sNe (mDef 2 s__law_ln_under (mCons (mVar 7) (mCons (mVar 13) mNil))) (mVar 15))))
 (mRet (mC (.bl false)))
 mSkip)
 (mSeq (mAsg (mDef 2 s__law_pick (mCons (mVar 1) (mCons (mVar 6) mNil))) (mgName 16))
 (mIfS (mNot (mTru (mDef 2 s__law_is_truth (mCons (mDefP 2 0 2 [0, 1] s_is_below mNil (mCons (mVar 7) (mCons (mVar 16) mNil))) (mCons (mDef 2 s__law_ln_under (mCons (mVar 7) (mCons (mVar 16) mNil))) mNil)))))
 (mRet (mC (.bl false)))
 mSkip))))))
 (mSeq (mIfS (mOr (mTest (mOp2 sNe (mCall sShow (mCons (mDef 1 s_joined (mCons (mVal (mLst (mCons (mVar 12) mNil))) mNil)) mNil)) (mCall sShow (mCons (mVar 12) mNil)))) (mTest (mOp2 sNe (mCall sShow (mCons (mDef 1 s_common (mCons (mTup (mCons (mVar 13) mNil)) mNil)) mNil)) (mCall sShow (mCons (mVar 13) mNil)))))
 (mRet (mC (.bl false)))
 mSkip)
 (mSeq (mAsg (mVal (mLst (mCons (mC .non) (mCons (mC (.int 3)) (mCons (mTup mNil) (mCons (mVal (mOp2F sRep (mVal (mLst (mCons (mC (.int 0)) mNil))) (mVar 3))) (mCons (mOp2 sMulT (mTup (mCons (mOp1 sNeg (mC (.int 1))) mNil)) (mVar 3)) (mCons (mOp2 sMulT (mTup (mCons (mC (.bl true)) mNil)) (mVar 3)) (mCons (mOp2 sMulT (mTup (mCons (mC (.int 0)) mNil)) (mC (.int 7))) (mCons (mOp2 sMulT (mTup (mCons (mOp2 sPow (mC (.int 10)) (mC (.int 18))) mNil)) (mVar 3)) (mCons (mC (.str "0")) mNil))))))))))) (mgName 8))
 (mSeq (mAsg (mDef 2 s__law_pick (mCons (mVar 1) (mCons (mVar 8) mNil))) (mgName 9))
 (mSeq (mIfS (mNot (mTru (mCall (sIsX isTab) (mCons (mCaught caughtL (mDef 2 s_is_below (mCons (mVar 9) (mCons (mC .non) mNil)))) (mCons (mC (.glb "BadRow")) mNil)))))
 (mRet (mC (.bl false)))
 mSkip)
 (mSeq (mAsg (mDef 2 s__law_pick (mCons (mVar 1) (mCons (mVal (mLst (mCons (mVar 9) (mCons (mOp2 sAdd (mVar 12) (mTup (mCons (mC (.int 0)) mNil))) (mCons (mSlT (mVar 12) (mPart (mC (.int 1))) mNoPart) mNil))))) mNil))) (mgName 9))
 (mSeq (mIfS (mNot (mTru (mCall (sIsX isTab) (mCons (mCaught caughtL (mDef 2 s_is_below (mCons (mVar 12) (mCons (mVar 9) mNil)))) (mCons (mC (.glb "BadRow")) mNil)))))
 (mRet (mC (.bl false)))
 mSkip)
 (mSeq (mAsg (mDef 2 s__law_pick (mCons (mVar 1) (mCons (mVal (mLst (mCons (mDef 1 s__law_ln_bad_rows (mCons (mVar 1) mNil)) (mCons (mVal (mLst mNil)) (mCons (mTup mNil) (mCons (mVal (mOp2F sCat (mVar 4) (mVal (mLst (mCons (mOp2 sAdd (mVar 12) (mTup (mCons (mC (.int 0)) mNil))) mNil))))) (mCons (mVal (mOp2F sCat (mVal (mLst (mCons (mVar 9) mNil))) (mVar 4))) mNil))))))) mNil))) (mgName 10))
 (mFor (mItems (mVal (mLst (mCons (mC (.glb "joined")) (mCons (mC (.glb "common")) mNil))))) (mgName 11)
 (mIfS (mNot (mTru (mCall (sIsX isTab) (mCons (mCaught caughtL (mDefT 11 [("joined", s_joined), ("common", s_common)] 1 (mCons (mVar 10) mNil))) (mCons (mC (.glb "BadRows")) mNil)))))
 (mRet (mC (.bl false)))
 mSkip)))))))))))))))))))
 (mRet (mC (.bl true)))))
noncomputable def s_law : Sem := runB 17 m_law
theorem b_law {cd : Value} (z : Zs K mg) (LT : LamAt Z base mg cd ((envOfC "law" (defScope t_law) 0 0 .none).qual ++ "<lambda>")) (D__law_begun : Df P w K Z mg base 1 "_law_begun" ["script"] s__law_begun) (D__law_draw : Df P w K Z mg base 2 "_law_draw" ["state", "size_here"] s__law_draw) (D__law_ln_rows : Df P w K Z mg base 4 "_law_ln_rows" ["state", "many", "count", "most"] s__law_ln_rows) (D_common : Df P w K Z mg base 8 "common" ["rows"] s_common) (D_joined : Df P w K Z mg base 8 "joined" ["rows"] s_joined) (D__law_ln_is_row : Df P w K Z mg base 2 "_law_ln_is_row" ["item"] s__law_ln_is_row) (D__law_ln_near : Df P w K Z mg base 3 "_law_ln_near" ["state", "row"] s__law_ln_near) (D__law_ln_row : Df P w K Z mg base 3 "_law_ln_row" ["state", "many", "most"] s__law_ln_row) (D__law_ln_under : Df P w K Z mg base 1 "_law_ln_under" ["one", "other"] s__law_ln_under) (D__law_pick : Df P w K Z mg base 3 "_law_pick" ["state", "several"] s__law_pick) (D_is_below : Df P w K Z mg base 5 "is_below" ["one", "other"] s_is_below) (D__law_is_truth : Df P w K Z mg base 1 "_law_is_truth" ["found", "due"] s__law_is_truth) (D__law_ln_bad_rows : Df P w K Z mg base 4 "_law_ln_bad_rows" ["state"] s__law_ln_bad_rows) (PD_common_0 : DfP P w K Z mg base 8 "common" 1 0 ["rows"] [0] s_common) (PD_joined_0 : DfP P w K Z mg base 8 "joined" 1 0 ["rows"] [0] s_joined) (PD_is_below_0 : DfP P w K Z mg base 5 "is_below" 2 0 ["one", "other"] [0, 1] s_is_below) : BdG P w K Z mg base N_law "law" t_law cd 10 m_law :=
 fun f A outer s H E W hg tk => have hr := hg.room
 (ds_cons (ds_set 1 sc_law.nd (de_def D__law_begun tk (hr.mono (by decide)) (da_cons (de_var 0) da_nil)))
 (ds_cons (ds_for (passes_of rfl) rfl (di_range1 z.z_range (da_cons (de_add de_int (de_min2 rfl z.z_min (da_cons (de_len z.z_len (da_cons (de_var 0) da_nil)) (da_cons de_int da_nil)))) da_nil)) (dg_name 2 sc_law.nd)
 (ds_cons (ds_set 3 sc_law.nd (de_add de_int (de_def D__law_draw tk (hr.mono (by decide)) (da_cons (de_var 1) (da_cons de_int da_nil)))))
 (ds_cons (ds_set 4 sc_law.nd (de_def D__law_ln_rows tk (hr.mono (by decide)) (da_cons (de_var 1) (da_cons (de_var 3) (da_cons (de_add de_int (de_def D__law_draw tk (hr.mono (by decide)) (da_cons (de_var 1) (da_cons de_int da_nil)))) (da_cons (de_add de_int (de_def D__law_draw tk (hr.mono (by decide)) (da_cons (de_var 1) (da_cons de_int da_nil)))) da_nil))))))
 (ds_cons (ds_set 5 sc_law.nd (de_if (dt_eq hr.units (de_def D__law_draw tk (hr.mono (by decide)) (da_cons (de_var 1) (da_cons de_int da_nil))) de_int) (de_val (df_list z.z_list (da_cons (de_var 4) da_nil))) (de_tuple z.z_tuple (da_cons (de_var 4) da_nil))))
 (ds_cons (ds_asg (de_tup (da_cons (de_defP0 PD_joined_0 tk (hr.mono (by decide)) (dk_cons (de_var 5) dk_nil)) (da_cons (de_defP0 PD_common_0 tk (hr.mono (by decide)) (dk_cons (de_var 5) dk_nil)) da_nil))) (dg_tup rfl (dgs_cons (dg_name 12 sc_law.nd) (dgs_cons (dg_name 13 sc_law.nd) dgs_nil))))
 (ds_cons (ds_if (dt_w (dw_or (dt_ne hr.units (de_show z.z_repr hg (da_cons (de_val (df_list z.z_list (da_cons (de_var 5) da_nil))) da_nil)) (de_show z.z_repr hg (da_cons (de_var 4) da_nil))) (dw_or (dt_not (dt_tru (de_def D__law_ln_is_row tk (hr.mono (by decide)) (da_cons (de_var 12) da_nil)))) (dw_or1 (dt_not (dt_tru (de_def D__law_ln_is_row tk (hr.mono (by decide)) (da_cons (de_var 13) da_nil))))))))
 (ds_one (ds_ret de_bl))
 ds_nil)
 (ds_cons (ds_if (dt_w (dw_or (dt_ne hr.units (de_len z.z_len (da_cons (de_var 12) da_nil)) (de_var 3)) (dw_or1 (dt_ne hr.units (de_len z.z_len (da_cons (de_var 13) da_nil)) (de_var 3)))))
 (ds_one (ds_ret de_bl))
 ds_nil)
 (ds_cons (ds_set 6 sc_law.nd (de_val (df_add (de_val (df_lst (da_cons (de_def D__law_ln_near tk (hr.mono (by decide)) (da_cons (de_var 1) (da_cons (de_var 12) da_nil))) (da_cons (de_def D__law_ln_near tk (hr.mono (by decide)) (da_cons (de_var 1) (da_cons (de_var 13) da_nil))) (da_cons (de_var 12) (da_cons (de_var 13) da_nil)))))) (de_var 4))))
 (ds_cons (ds_set 6 sc_law.nd (de_val (df_add (de_var 6) (de_val (df_lst (da_cons (de_def D__law_ln_row tk (hr.mono (by decide)) (da_cons (de_var 1) (da_cons (de_var 3) (da_cons de_int da_nil)))) (da_cons (de_mulT (de_tup (da_cons de_int da_nil)) (de_var 3)) (da_cons (de_mulT (de_tup (da_cons (de_sub (de_pow de_int de_int) de_int) da_nil)) (de_var 3)) da_nil))))))))
 (ds_cons (ds_for (passes_of rfl) rfl (di_seq (de_var 6)) (dg_name 7 sc_law.nd)
 (ds_cons (ds_set 14 sc_law.nd (de_eq hr.units (de_val (df_comp (own := [("other", 16)]) rfl sc_law.nd (di_seq (de_var 4)) (show blkC N_law (defScope t_law) _ [("other", 16)] = true by decide +kernel) (fun _ _ _ _ _ => (dg_name 16 sc_law.nd)) (fun _ _ _ _ _ => (dts_one (dt_not (dt_tru (de_def D__law_ln_under trivial (hr.mono (by decide)) (da_cons (de_var 16) (da_cons (de_var 7) da_nil))))))) (fun _ _ _ _ _ => de_int))) (de_val (df_lst da_nil))))
 (ds_cons (ds_set 15 sc_law.nd (de_eq hr.units (de_val (df_comp (own := [("other", 16)]) rfl sc_law.nd (di_seq (de_var 4)) (show blkC N_law (defScope t_law) _ [("other", 16)] = true by decide +kernel) (fun _ _ _ _ _ => (dg_name 16 sc_law.nd)) (fun _ _ _ _ _ => (dts_one (dt_not (dt_tru (de_def D__law_ln_under trivial (hr.mono (by decide)) (da_cons (de_var 7) (da_cons (de_var 16) da_nil))))))) (fun _ _ _ _ _ => de_int))) (de_val (df_lst da_nil))))
 (ds_cons (ds_if (dt_w (dw_or (dt_ne hr.units (de_def D__law_ln_under tk (hr.mono (by decide)) (da_cons (de_var 12) (da_cons (de_var 7) da_nil))) (de_var 14)) (dw_or1 (dt_ne hr.units (de_def D__law_ln_under tk (hr.mono (by decide)) (da_cons (de_var 7) (da_cons (de_var 13) da_nil))) (de_var 15)))))
 (ds_one (ds_ret de_bl))
 ds_nil)
 (ds_cons (ds_set 16 sc_law.nd (de_def D__law_pick tk (hr.mono (by decide)) (da_cons (de_var 1) (da_cons (de_var 6) da_nil))))
 (ds_one (ds_if (dt_not (dt_tru (de_def D__law_is_truth tk (hr.mono (by decide)) (da_cons (de_defP0 PD_is_below_0 tk (hr.mono (by decide)) (dk_cons (de_var 7) (dk_cons (de_var 16) dk_nil))) (da_cons (de_def D__law_ln_under tk (hr.mono (by decide)) (da_cons (de_var 7) (da_cons (de_var 16) da_nil))) da_nil)))))
 (ds_one (ds_ret de_bl))
 ds_nil)))))))
 (ds_cons (ds_if (dt_w (dw_or (dt_ne hr.units (de_show z.z_repr hg (da_cons (de_def D_joined tk (hr.mono (by decide)) (da_cons (de_val (df_lst (da_cons (de_var 12) da_nil))) da_nil)) da_nil)) (de_show z.z_repr hg (da_cons (de_var 12) da_nil))) (dw_or1 (dt_ne hr.units (de_show z.z_repr hg (da_cons (de_def D_common tk (hr.mono (by decide)) (da_cons (de_tup (da_cons (de_var 13) da_nil)) da_nil)) da_nil)) (de_show z.z_repr hg (da_cons (de_var 13) da_nil))))))
 (ds_one (ds_ret de_bl))
 ds_nil)
 (ds_cons (ds_set 8 sc_law.nd (de_val (df_lst (da_cons de_non (da_cons de_int (da_cons (de_tup da_nil) (da_cons (de_val (df_mul (de_val (df_lst (da_cons de_int da_nil))) (de_var 3))) (da_cons (de_mulT (de_tup (da_cons (de_neg de_int) da_nil)) (de_var 3)) (da_cons (de_mulT (de_tup (da_cons de_bl da_nil)) (de_var 3)) (da_cons (de_mulT (de_tup (da_cons de_int da_nil)) de_int) (da_cons (de_mulT (de_tup (da_cons (de_pow de_int de_int) da_nil)) (de_var 3)) (da_cons de_str da_nil))))))))))))
 (ds_cons (ds_set 9 sc_law.nd (de_def D__law_pick tk (hr.mono (by decide)) (da_cons (de_var 1) (da_cons (de_var 8) da_nil))))
 (ds_cons (ds_if (dt_not (dt_tru (de_isX z.isx z.z_isinstance (da_cons (de_caughtG (k := 5) z.cg LT (hg.mono (by decide)) (fun A outer s H E f c' hg tk => have hr := hg.room; (de_def D_is_below tk (hr.mono (by decide)) (da_cons (de_var 9) (da_cons de_non da_nil)))) (LS := show LamX.lamSB (defScope t_law) _ = true by decide +kernel)) (da_cons (de_glb z.g_BadRow) da_nil)))))
 (ds_one (ds_ret de_bl))
 ds_nil)
 (ds_cons (ds_set 9 sc_law.nd (de_def D__law_pick tk (hr.mono (by decide)) (da_cons (de_var 1) (da_cons (de_val (df_lst (da_cons (de_var 9) (da_cons (de_add (de_var 12) (de_tup (da_cons de_int da_nil))) (da_cons (de_slice (de_var 12) (do_some de_int) do_none) da_nil))))) da_nil))))
 (ds_cons (ds_if (dt_not (dt_tru (de_isX z.isx z.z_isinstance (da_cons (de_caughtG (k := 5) z.cg LT (hg.mono (by decide)) (fun A outer s H E f c' hg tk => have hr := hg.room; (de_def D_is_below tk (hr.mono (by decide)) (da_cons (de_var 12) (da_cons (de_var 9) da_nil)))) (LS := show LamX.lamSB (defScope t_law) _ = true by decide +kernel)) (da_cons (de_glb z.g_BadRow) da_nil)))))
 (ds_one (ds_ret de_bl))
 ds_nil)
 (ds_cons (ds_set 10 sc_law.nd (de_def D__law_pick tk (hr.mono (by decide)) (da_cons (de_var 1) (da_cons (de_val (df_lst (da_cons (de_def D__law_ln_bad_rows tk (hr.mono (by decide)) (da_cons (de_var 1) da_nil)) (da_cons (de_val (df_lst da_nil)) (da_cons (de_tup da_nil) (da_cons (de_val (df_add (de_var 4) (de_val (df_lst (da_cons (de_add (de_var 12) (de_tup (da_cons de_int da_nil))) da_nil))))) (da_cons (de_val (df_add (de_val (df_lst (da_cons (de_var 9) da_nil))) (de_var 4))) da_nil))))))) da_nil))))
 (ds_one (ds_for (passes_of rfl) rfl (di_seq (de_val (df_lst (da_cons (de_glb z.g_joined) (da_cons (de_glb z.g_common) da_nil))))) (dg_name 11 sc_law.nd)
 (ds_one (ds_if (dt_not (dt_tru (de_isX z.isx z.z_isinstance (da_cons (de_caughtG (k := 8) z.cg LT (hg.mono (by decide)) (fun A outer s H E f c' hg tk => have hr := hg.room; (de_defT (LocT.cons D_joined z.g_joined (hr.mono (by decide)) rfl (LocT.cons D_common z.g_common (hr.mono (by decide)) rfl LocT.nil)) tk (da_cons (de_var 10) da_nil))) (LS := show LamX.lamSB (defScope t_law) _ = true by decide +kernel)) (da_cons (de_glb z.g_BadRows) da_nil)))))
 (ds_one (ds_ret de_bl))
 ds_nil)))))))))))))))))))))
 (ds_one (ds_ret de_bl))))
end
end VS

set_option Elab.async false
set_option linter.all false
set_option maxRecDepth 100000
set_option maxHeartbeats 4000000
namespace VS
open PySem PySem.Spec PyProof.Rows L2
/-! ### draws -/
structure Rng where
  great : List Int
  cells : List Int
  left : Int
  turn : Int
abbrev kG : Key := .inr "great"
abbrev kC : Key := .inr "cells"
abbrev kL : Key := .inr "left"
abbrev kT : Key := .inr "turn"
theorem kGC : (("great" : Str) = "cells") = False := eq_false (by decide +kernel)
theorem kGL : (("great" : Str) = "left") = False := eq_false (by decide +kernel)
theorem kGT : (("great" : Str) = "turn") = False := eq_false (by decide +kernel)
theorem kCG : (("cells" : Str) = "great") = False := eq_false (by decide +kernel)
theorem kCL : (("cells" : Str) = "left") = False := eq_false (by decide +kernel)
theorem kCT : (("cells" : Str) = "turn") = False := eq_false (by decide +kernel)
theorem kLG : (("left" : Str) = "great") = False := eq_false (by decide +kernel)
theorem kLC : (("left" : Str) = "cells") = False := eq_false (by decide +kernel)
theorem kLT : (("left" : Str) = "turn") = False := eq_false (by decide +kernel)
theorem kTG : (("turn" : Str) = "great") = False := eq_false (by decide +kernel)
theorem kTC : (("turn" : Str) = "cells") = False := eq_false (by decide +kernel)
theorem kTL : (("turn" : Str) = "left") = False := eq_false (by decide +kernel)
def rdic (r : Rng) : List (Key × T) := [(kG, .cell 0), (kC, .lst (r.cells.map .int)), (kL, .int r.left), (kT, .int r.turn)]
def WD (r : Rng) (rest : World) : World := .lst (r.great.map .int) :: .dic (rdic r) :: rest
section
variable {r : Rng} {rest : World} {i : Int}
theorem val_G : valT (rdic r) kG = some (.cell 0) := by simp [valT, rdic, List.find?_cons]
theorem val_C : valT (rdic r) kC = some (.lst (r.cells.map .int)) := by simp [valT, rdic, List.find?_cons, kGC]
theorem val_L : valT (rdic r) kL = some (.int r.left) := by simp [valT, rdic, List.find?_cons, kGL, kCL]
theorem val_T : valT (rdic r) kT = some (.int r.turn) := by simp [valT, rdic, List.find?_cons, kGT, kCT, kLT]
theorem put_L : putT (rdic r) kL (.int i) = rdic { r with left := i } := by simp [putT, rdic, kGL, kCL, kLT, kTL]
theorem put_T : putT (rdic r) kT (.int i) = rdic { r with turn := i } := by simp [putT, rdic, kGT, kCT, kLT]
theorem rlen : (rdic r).length < sizeLine := by show 4 < sizeLine; rw [sizeLine_eq]; decide
@[simp] theorem ix_G : sIx (.cell 1) (.str "great") (WD r rest) = .ok (.cell 0) (WD r rest) := by
  have := val_G (r := r); simp [sIx, WD, keyT, this]
@[simp] theorem ix_C : sIx (.cell 1) (.str "cells") (WD r rest) = .ok (.lst (r.cells.map .int)) (WD r rest) := by
  have := val_C (r := r); simp [sIx, WD, keyT, this]
@[simp] theorem ix_L : sIx (.cell 1) (.str "left") (WD r rest) = .ok (.int r.left) (WD r rest) := by
  have := val_L (r := r); simp [sIx, WD, keyT, this]
@[simp] theorem ix_T : sIx (.cell 1) (.str "turn") (WD r rest) = .ok (.int r.turn) (WD r rest) := by
  have := val_T (r := r); simp [sIx, WD, keyT, this]
@[simp] theorem set_L : sSet (.cell 1) (.str "left") (.int i) (WD r rest) = .ok () (WD { r with left := i } rest) := by
  have := put_L (r := r) (i := i); simp [sSet, WD, keyT, this, rlen]
@[simp] theorem set_T : sSet (.cell 1) (.str "turn") (.int i) (WD r rest) = .ok () (WD { r with turn := i } rest) := by
  have := put_T (r := r) (i := i); simp [sSet, WD, keyT, this, rlen]
@[simp] theorem at_0 : (WD r rest)[0]? = some (.lst (r.great.map .int)) := rfl
end
/-- r' is r some turns on -/
structure Adv (c : Int) (r r' : Rng) : Prop where
  lo : r.turn ≤ r'.turn
  hi : r'.turn ≤ r.turn + c
def Ok (c : Int) (r : Rng) : Prop := 0 ≤ r.turn ∧ r.turn + c ≤ 35184372088832
theorem Adv.refl {r : Rng} : Adv 0 r r := ⟨by omega, by omega⟩
theorem Adv.trans {c d : Int} {r s t : Rng} (a : Adv c r s) (b : Adv d s t) : Adv (c + d) r t := ⟨by have := a.lo; have := b.lo; omega, by have := a.hi; have := b.hi; omega⟩
theorem Adv.mono {c d : Int} {r s : Rng} (a : Adv c r s) (h : c ≤ d) : Adv d r s := ⟨a.lo, by have := a.hi; omega⟩
theorem Ok.on {c d : Int} {r s : Rng} (o : Ok c r) (a : Adv d r s) (e : Int) (h : d + e ≤ c) : Ok e s := ⟨by have := o.1; have := a.lo; omega, by have := o.2; have := a.hi; omega⟩

theorem shaped_int (i : Int) : SeqAt.shaped (.int i) = true := rfl
@[simp] theorem ne_great {r : Rng} {rest : World} : sNe (.cell 0) (.lst []) (WD r rest) = .ok (.bl (!decide (r.great = []))) (WD r rest) := by
  have e : eqT (WD r rest) (.cell 0) (.lst []) = some (decide (r.great = [])) := by
    rw [eqT_of (pd_cell (at_0 (r := r) (rest := rest))) (by simp [pd, pds]; rfl) (shaped_ints _) rfl]
    show some (PyData.eqvAll (r.great.map .int) (([] : List Int).map .int)) = _
    rw [eqv_ints]
  simp [sNe, e]
theorem pow5 {i : Int} {w : World} (h : i.natAbs < 2 ^ 64) : sPow (.int i) (.int 5) w = .ok (.int (i ^ 5)) w := by
  have : CPow i 5 := ⟨by decide, by decide, h⟩
  simp [sPow, s2I, this]
theorem int3 {P : Int → Prop} {a b c : Int} {i : Nat} {t : T} (ht : ([.int a, .int b, .int c] : List T)[i]? = some t) (ha : P a) (hb : P b) (hc : P c) : ∃ x : Int, t = .int x ∧ P x := by
  match i, ht with
  | 0, ht => cases ht; exact ⟨_, rfl, ha⟩
  | 1, ht => cases ht; exact ⟨_, rfl, hb⟩
  | 2, ht => cases ht; exact ⟨_, rfl, hc⟩
theorem ints_at {ns : List Int} {i : Nat} {t : T} (ht : (ns.map T.int)[i]? = some t) : ∃ x : Int, t = .int x ∧ ns[i]? = some x := by
  rw [List.getElem?_map] at ht
  cases q : ns[i]? with
  | none => rw [q] at ht; cases ht
  | some x => rw [q] at ht; cases ht; exact ⟨x, rfl, rfl⟩
theorem blended_ok {r : Rng} {rest : World} (o : Ok 1 r) : ∃ q, s__law_blended [.cell 1] (WD r rest) = .ok (.int q) (WD { r with turn := r.turn + 1 } rest) := by
  obtain ⟨o1, o2⟩ := o
  unfold s__law_blended m__law_blended runB
  have h3 : (3 : Nat) ≤ sizeLine := by rw [sizeLine_eq]; decide
  simp [h3]
  generalize hL : forL (mgName 2) _ _ _ _ _ _ = L
  obtain ⟨ρ', w', e, rfl, a, f, c, d, rfl⟩ : ∃ ρ' w', L = .ok (ρ', .nx) w' ∧ w' = WD { r with turn := r.turn + 1 } rest ∧ ∃ a f c d, ρ' = [some (.cell 1), some (.int (r.turn + 1)), a, some (.int f), c, d] := by
    rw [← hL]
    refine forL_run (P := fun i ρ w => w = WD { r with turn := r.turn + 1 } rest ∧ ∃ a f c d, ρ = [some (.cell 1), some (.int (r.turn + 1)), a, some (.int f), c, d]) ⟨rfl, _, _, _, _, rfl⟩ (fun i t ρ w ht p => ?_)
    obtain ⟨rfl, a, f, c, d, rfl⟩ := p
    obtain ⟨pr, rfl, p0, p1⟩ := int3 (P := fun x => 0 < x ∧ x < 2147483648) ht (by decide) (by decide) (by decide)
    simp [sMul_l (i := 40014) ⟨by decide, by decide⟩, sFdiv_ (j := 67) (by decide) (by decide)]
    generalize hM : forL (mgName 5) _ _ _ _ _ _ = M
    obtain ⟨ρ', w', e, rfl, x, d', hx, rfl⟩ : ∃ ρ' w', M = .ok (ρ', .nx) w' ∧ w' = WD { r with turn := r.turn + 1 } rest ∧ ∃ x d, x.natAbs < 2 ^ 64 ∧ ρ' = [some (.cell 1), some (.int (r.turn + 1)), some (.int pr), some (.int f), some (.int x), d] := by
      rw [← hM]
      have hdiv : 0 ≤ pr / 67 ∧ pr / 67 < 2147483648 := by omega
      refine forL_run (P := fun i ρ w => w = WD { r with turn := r.turn + 1 } rest ∧ ∃ x d, x.natAbs < 2 ^ 64 ∧ ρ = [some (.cell 1), some (.int (r.turn + 1)), some (.int pr), some (.int f), some (.int x), d]) ⟨rfl, 40014 * (r.turn + 1) + pr / 67, _, by omega, rfl⟩ (fun i t ρ w ht p => ?_)
      obtain ⟨rfl, x, d, hx, rfl⟩ := p
      obtain ⟨y, rfl, _⟩ := ints_at ht
      simp [sMul_r (j := 69621) ⟨by decide, by decide⟩, sMod_ p0]
      have h1 := Int.emod_nonneg (x * 69621 + y + (r.turn + 1)) (show pr ≠ 0 by omega)
      have h2 := Int.emod_lt_of_pos (x * 69621 + y + (r.turn + 1)) p0
      exact ⟨_, _, ⟨rfl, rfl⟩, rfl, (x * 69621 + y + (r.turn + 1)) % pr, by omega, _, rfl⟩
    rw [e]
    simp [pow5 hx, sMod_ p0, sMul_r (j := 2147483647) ⟨by decide, by decide⟩]
    exact ⟨_, _, ⟨rfl, rfl⟩, rfl, _, _, _, _, rfl⟩
  rw [e]
  simp
theorem draw_ok {r : Rng} {rest : World} {n : Int} (h0 : 0 < n) (h1 : n < 1073741824) (o : Ok 1 r) : ∃ q r', s__law_draw [.cell 1, .int n] (WD r rest) = .ok (.int q) (WD r' rest) ∧ 0 ≤ q ∧ q < n ∧ Adv 1 r r' := by
  -- the world behind the first statement
  have go : ∀ r1 : Rng, Adv 1 r r1 → ∃ q r', (match ((andThen (.ok ([some (T.cell 1), some (T.int n), none], .nx) (WD r1 rest))
            (mSeq (mAsg (mOp2 sMod (mCall sInt (mCons (mOp2 sIx (mVar 0) (mC (.str "left"))) mNil)) (mVar 1)) (mgName 2))
              (mSeq (mAsg (mOp2 sFdiv (mOp2 sIx (mVar 0) (mC (.str "left"))) (mVar 1)) (mgSub sSet (mVar 0) (mC (.str "left")))) (mRet (mVar 2))))) : R (Env × Fl)) with
        | R.ok (fst, Fl.ret t) w' => R.ok t w'
        | R.ok (fst, Fl.nx) w' => R.ok T.non w'
        | x => R.no) = R.ok (T.int q) (WD r' rest) ∧ 0 ≤ q ∧ q < n ∧ Adv 1 r r' := fun r1 a => by
    simp [sMod_ h0, sFdiv_ h0 h1]
    refine ⟨r1.left % n, { r1 with left := r1.left / n }, ⟨rfl, rfl⟩, Int.emod_nonneg _ (by omega), Int.emod_lt_of_pos _ h0, a.lo, a.hi⟩
  unfold s__law_draw m__law_draw runB
  simp
  by_cases hl : r.left = 0
  · rw [if_pos hl]
    by_cases hg : r.great = []
    · rw [if_pos hg]
      obtain ⟨q, e⟩ := blended_ok (rest := rest) o
      rw [e]
      simp
      have := go { r with turn := r.turn + 1, left := q } ⟨by show r.turn ≤ r.turn + 1; omega, by show r.turn + 1 ≤ r.turn + 1; omega⟩
      simpa [sMod_ h0, sFdiv_ h0 h1] using this
    · rw [if_neg hg]
      obtain ⟨x, gs, hgs⟩ : ∃ x gs, r.great = x :: gs := by
        cases h : r.great with
        | nil => exact absurd h hg
        | cons x gs => exact ⟨x, gs, rfl⟩
      have e1 : lst? (WD r rest) (.cell 0) = some (r.great.map .int) := rfl
      have e2 : sPopAt (.cell 0) [.int 0] (WD r rest) = .ok (.int x) (WD { r with great := gs } rest) := by
        simp [sPopAt, WD, hgs, seqIndex?, rdic]
      rw [e1]
      simp [e2]
      have := go { r with great := gs, left := x } ⟨by show r.turn ≤ r.turn; omega, by show r.turn ≤ r.turn + 1; omega⟩
      simpa [sMod_ h0, sFdiv_ h0 h1] using this
  · rw [if_neg hl]
    have := go r ⟨by omega, by omega⟩
    simpa [sMod_ h0, sFdiv_ h0 h1] using this
end VS

set_option Elab.async false
set_option linter.all false
set_option maxRecDepth 100000
set_option maxHeartbeats 4000000
namespace VS
open PySem PySem.Spec PyProof.Rows L2
/-! ### what a letter may be bent to -/
inductive Vx : T → Prop
  | non : Vx .non
  | bl (b : Bool) : Vx (.bl b)
  | int (i : Int) : Vx (.int i)
  | str (x : Str) (h : PyData.canLay0 (.str x) = true) : Vx (.str x)
  | dct (ks : List Key) (ts : List T) : Vx (.dct ks ts)
  | tup (ts : List T) (hl : ts.length ≤ 60) (h : ∀ u ∈ ts, Vx u) : Vx (.tup ts)
  | lst (ts : List T) (h : ∀ u ∈ ts, Vx u) : Vx (.lst ts)
def isTup : T → Bool | .tup _ => true | _ => false
def isInt : T → Bool | .int _ => true | .bl _ => true | _ => false
def isBl : T → Bool | .bl _ => true | _ => false
def isStr : T → Bool | .str _ => true | _ => false
def eqS (t : T) (s : Str) : Bool := match t with | .str x => decide (x = s) | _ => false
section
variable {w : World} {t u v : T} {s : Str} {i n m : Int}
theorem isi_tuple (h : Vx t) : sIsi [t, .ty "tuple"] w = .ok (.bl (isTup t)) w := by cases h <;> simp [sIsi, kindT, kinds, isiB, isTup]
theorem isi_intV (h : Vx t) : sIsi [t, .ty "int"] w = .ok (.bl (isInt t)) w := by cases h <;> simp [sIsi, kindT, kinds, isiB, isInt]
theorem isi_bool (h : Vx t) : sIsi [t, .ty "bool"] w = .ok (.bl (isBl t)) w := by cases h <;> simp [sIsi, kindT, kinds, isiB, isBl]
theorem isi_str (h : Vx t) : sIsi [t, .ty "str"] w = .ok (.bl (isStr t)) w := by cases h <;> simp [sIsi, kindT, kinds, isiB, isStr]
theorem shaped_str (hs : PyData.canLay0 (.str s) = true) : SeqAt.shaped (.str s) = true := by
  unfold SeqAt.shaped
  rw [hs]
  rfl
theorem eqT_str (h : Vx t) (hs : PyData.canLay0 (.str s) = true) (n1 : isTup t = false) (n2 : ∀ ts, t ≠ .lst ts) (n3 : ∀ ks ts, t ≠ .dct ks ts) : eqT w t (.str s) = some (eqS t s) := by
  cases h with
  | non => rw [eqT_of (d := .none) (e := .str s) (by simp [pd]) (by simp [pd]) rfl (shaped_str hs)]; simp [PyData.eqv, eqS]
  | bl b => rw [eqT_of (d := .bool b) (e := .str s) (by simp [pd]) (by simp [pd]) rfl (shaped_str hs)]; simp [PyData.eqv, eqS]
  | int b => rw [eqT_of (d := .int b) (e := .str s) (by simp [pd]) (by simp [pd]) rfl (shaped_str hs)]; simp [PyData.eqv, eqS]
  | str b h => rw [eqT_of (d := .str b) (e := .str s) (by simp [pd]) (by simp [pd]) (shaped_str h) (shaped_str hs)]; simp [PyData.eqv, eqS]; rfl
  | dct ks ts => exact absurd rfl (n3 ks ts)
  | tup ts _ _ => cases n1
  | lst ts _ => exact absurd rfl (n2 ts)
theorem eqX_str (h : Vx t) (hs : PyData.canLay0 (.str s) = true) : sEqX t (.str s) w = .ok (.bl (eqS t s)) w := by
  have e : eqX w t (.str s) = some (eqS t s) := by
    cases h with
    | dct ks ts => rfl
    | tup ts _ _ => rfl
    | lst ts _ => rfl
    | non => exact eqT_str (w := w) .non hs rfl (fun _ z => nomatch z) (fun _ _ z => nomatch z)
    | bl b => exact eqT_str (w := w) (.bl b) hs rfl (fun _ z => nomatch z) (fun _ _ z => nomatch z)
    | int b => exact eqT_str (w := w) (.int b) hs rfl (fun _ z => nomatch z) (fun _ _ z => nomatch z)
    | str b h => exact eqT_str (w := w) (.str b h) hs rfl (fun _ z => nomatch z) (fun _ _ z => nomatch z)
  simp [sEqX, e]
theorem neX_str (h : Vx t) (hs : PyData.canLay0 (.str s) = true) : sNeX t (.str s) w = .ok (.bl (!eqS t s)) w := by
  have e : neX w t (.str s) = some (!eqS t s) := by
    cases h with
    | dct ks ts => rfl
    | tup ts _ _ => rfl
    | lst ts _ => rfl
    | non => show (eqT w .non (.str s)).map not = _; rw [eqT_str .non hs rfl (fun _ z => nomatch z) (fun _ _ z => nomatch z)]; rfl
    | bl b => show (eqT w (.bl b) (.str s)).map not = _; rw [eqT_str (.bl b) hs rfl (fun _ z => nomatch z) (fun _ _ z => nomatch z)]; rfl
    | int b => show (eqT w (.int b) (.str s)).map not = _; rw [eqT_str (.int b) hs rfl (fun _ z => nomatch z) (fun _ _ z => nomatch z)]; rfl
    | str b h => show (eqT w (.str b) (.str s)).map not = _; rw [eqT_str (.str b h) hs rfl (fun _ z => nomatch z) (fun _ _ z => nomatch z)]; rfl
  simp [sNeX, e]
/-! ### the judges, plainly -/
def num : T → Bool | .int i => decide (-999999999999999999 ≤ i) && decide (i ≤ 999999999999999999) | _ => false
def cnt : T → Bool | .int i => decide (0 ≤ i) && decide (i ≤ 999999999999999999) | _ => false
def tupN (n : Nat) : T → Bool | .tup ts => decide (ts.length = n) | _ => false
def rowOf (n : Nat) : T → Bool | .tup ts => decide (ts.length = n) && ts.all cnt | _ => false
theorem num_ok (h : Vx t) : s_is_number [t] w = .ok (.bl (num t)) w := by
  unfold s_is_number m_is_number runB
  have e1 := isi_intV (w := w) h
  have e2 := isi_bool (w := w) h
  cases h with
  | int i => simp [e1, e2, isInt, isBl, num]; by_cases h1 : -999999999999999999 ≤ i <;> simp [h1]
  | _ => simp [e1, e2, isInt, isBl, num]
theorem cnt_ok (h : Vx t) : s_is_count [t] w = .ok (.bl (cnt t)) w := by
  unfold s_is_count m_is_count runB
  have e1 := num_ok (w := w) h
  cases h with
  | int i =>
    simp [e1, num, cnt]
    by_cases h1 : -999999999999999999 ≤ i <;> by_cases h2 : i ≤ 999999999999999999 <;> by_cases h3 : 0 ≤ i <;> simp [h1, h2, h3]
    omega
  | _ => simp [e1, num, cnt]
theorem tupN_ok (h : Vx t) (n : Nat) : s_is_tuple_of [t, .int n] w = .ok (.bl (tupN n t)) w := by
  unfold s_is_tuple_of m_is_tuple_of runB
  have e1 := isi_tuple (w := w) h
  cases h with
  | tup ts _ _ =>
    by_cases h2 : ts.length = n
    · simp [e1, isTup, tupN, h2]
    · have h3 : ¬ ((ts.length : Int) = (n : Int)) := by omega
      simp [e1, isTup, tupN, h2, h3]
  | _ => simp [e1, isTup, tupN]
theorem allb : ∀ bs : List Bool, blsT (bs.map T.bl) = some bs
  | [] => rfl
  | b :: bs => by simp [blsT, allb bs]
theorem sAll_map {ts : List T} (f : T → Bool) : sAll [.lst (ts.map fun t => .bl (f t))] w = .ok (.bl (ts.all f)) w := by
  have e : blsT (ts.map fun t => T.bl (f t)) = some (ts.map f) := by
    have := allb (ts.map f)
    rw [List.map_map] at this
    exact this
  simp [sAll, e]
theorem rowOf_ok (h : Vx t) (n : Nat) : s_is_row_for [t, .int n] w = .ok (.bl (rowOf n t)) w := by
  unfold s_is_row_for m_is_row_for runB
  have e1 := tupN_ok (w := w) h n
  cases h with
  | tup ts hl hv =>
    have e2 : ∀ ρ0 : Env, ρ0 = [some (.tup ts), some (.int n), none] → compL (mgName 2) mYes (mDef 1 s_is_count (mCons (mVar 2) mNil)) none ts ρ0 ts [] w = .ok (ts.map fun t => .bl (cnt t)) w := fun ρ0 e => by
      subst e
      refine compL_map (fun t => .bl (cnt t)) (by omega) fun u hu => ⟨[some (.tup ts), some (.int n), some u], by simp, rfl, ?_⟩
      have := cnt_ok (w := w) (hv u hu)
      simp [this]
    have e3 := sAll_map (w := w) (ts := ts) cnt
    by_cases h2 : ts.length = n <;> simp [e1, tupN, h2, wipeE, e2, e3, rowOf]
  | _ => simp [e1, tupN, rowOf]
end
end VS

set_option Elab.async false
set_option linter.all false
set_option maxRecDepth 100000
set_option maxHeartbeats 4000000
namespace VS
open PySem PySem.Spec PyProof.Rows L2
/-! ### draws, the world told by its cells -/
/-- the source of draws stands at 0 and 1 -/
def RS (w : World) (r : Rng) : Prop := ∃ rest, w = WD r rest
/-- all other cells stay -/
structure Lk (w w' : World) : Prop where
  len : w'.length = w.length
  cell : ∀ k, 2 ≤ k → w'[k]? = w[k]?
theorem Lk.refl {w : World} : Lk w w := ⟨rfl, fun _ _ => rfl⟩
theorem Lk.trans {a b c : World} (h : Lk a b) (g : Lk b c) : Lk a c := ⟨g.len.trans h.len, fun k hk => (g.cell k hk).trans (h.cell k hk)⟩
theorem lk_wd {r r' : Rng} {rest : World} : Lk (WD r rest) (WD r' rest) := ⟨rfl, fun k hk => by
  match k, hk with
  | k + 2, _ => rfl⟩
section
variable {w : World} {r : Rng} {n : Int} {ts : List T}
theorem draw_st (s : RS w r) (h0 : 0 < n) (h1 : n < 1073741824) (o : Ok 1 r) : ∃ q r' w', s__law_draw [.cell 1, .int n] w = .ok (.int q) w' ∧ 0 ≤ q ∧ q < n ∧ Adv 1 r r' ∧ RS w' r' ∧ Lk w w' := by
  obtain ⟨rest, rfl⟩ := s
  obtain ⟨q, r', e, a, b, c⟩ := draw_ok (rest := rest) h0 h1 o
  exact ⟨q, r', _, e, a, b, c, ⟨rest, rfl⟩, lk_wd⟩
theorem drawN_st (s : RS w r) {n : Nat} (h0 : 0 < n) (h1 : n < 1073741824) (o : Ok 1 r) : ∃ (q : Nat) (r' : Rng) (w' : World), s__law_draw [.cell 1, .int n] w = .ok (.int q) w' ∧ q < n ∧ Adv 1 r r' ∧ RS w' r' ∧ Lk w w' := by
  obtain ⟨q, r', w', e, a, b, c, d, f⟩ := draw_st (n := n) s (by omega) (by omega) o
  obtain ⟨k, rfl⟩ : ∃ k : Nat, q = k := ⟨q.toNat, by omega⟩
  exact ⟨k, r', w', e, by omega, c, d, f⟩
theorem pickI_st (s : RS w r) (h0 : 0 < ts.length) (h1 : ts.length < 1073741824) (o : Ok 1 r) : ∃ (i : Nat) (t : T) (r' : Rng) (w' : World), s__law_pick [.cell 1, .lst ts] w = .ok t w' ∧ ts[i]? = some t ∧ Adv 1 r r' ∧ RS w' r' ∧ Lk w w' := by
  obtain ⟨q, r', w', e, hq, a, s', l⟩ := drawN_st s h0 h1 o
  obtain ⟨t, ht⟩ : ∃ t, ts[q]? = some t := ⟨ts[q], by simp [hq]⟩
  refine ⟨q, t, r', w', ?_, ht, a, s', l⟩
  unfold s__law_pick m__law_pick runB
  have e2 : sIx (.lst ts) (.int (q : Int)) w' = .ok t w' := sIx_lst (by simpa using ht) (by omega)
  simp [e, e2]
theorem pick_st (s : RS w r) (h0 : 0 < ts.length) (h1 : ts.length < 1073741824) (o : Ok 1 r) : ∃ t r' w', s__law_pick [.cell 1, .lst ts] w = .ok t w' ∧ t ∈ ts ∧ Adv 1 r r' ∧ RS w' r' ∧ Lk w w' := by
  obtain ⟨i, t, r', w', e, ht, a, s', l⟩ := pickI_st s h0 h1 o
  exact ⟨t, r', w', e, List.mem_of_getElem? ht, a, s', l⟩
theorem pickC_st {k : Nat} (s : RS w r) (hk : 2 ≤ k) (hc : w[k]? = some (.lst ts)) (h0 : 0 < ts.length) (h1 : ts.length < 1073741824) (o : Ok 1 r) : ∃ t r' w', s__law_pick [.cell 1, .cell k] w = .ok t w' ∧ t ∈ ts ∧ Adv 1 r r' ∧ RS w' r' ∧ Lk w w' := by
  obtain ⟨q, r', w', e, hq, a, s', l⟩ := drawN_st s h0 h1 o
  obtain ⟨t, ht⟩ : ∃ t, ts[q]? = some t := ⟨ts[q], by simp [hq]⟩
  refine ⟨t, r', w', ?_, List.mem_of_getElem? ht, a, s', l⟩
  unfold s__law_pick m__law_pick runB
  have e2 : sIx (.cell k) (.int (q : Int)) w' = .ok t w' := sIx_cell (by rw [l.cell k hk]; exact hc) (by simpa using ht) (by omega)
  have e4 := sLen_cell (w := w) (k := k) (ts := ts) hc
  simp [e4, e, e2]
end
theorem seq_nx {m1 m2 : MS} {ρ ρ1 : Env} {w w1 : World} (h : m1 ρ w = .ok (ρ1, .nx) w1) : mSeq m1 m2 ρ w = m2 ρ1 w1 := by rw [mSeq_, h]; rfl
theorem seq_ret {m1 m2 : MS} {ρ ρ1 : Env} {w w1 : World} {t : T} (h : m1 ρ w = .ok (ρ1, .ret t) w1) : mSeq m1 m2 ρ w = .ok (ρ1, .ret t) w1 := by rw [mSeq_, h]; rfl
theorem run_ret {n : Nat} {M : MS} {ds : List T} {w w' : World} {ρ' : Env} {t : T} (h : M (ds.map some ++ List.replicate (n - ds.length) none) w = .ok (ρ', .ret t) w') : runB n M ds w = .ok t w' := by
  unfold runB
  rw [h]
theorem ile {j : Nat} (h : j ≤ 100) : j ≤ sizeLine := by rw [sizeLine_eq]; omega
end VS

set_option Elab.async false
set_option linter.all false
set_option maxRecDepth 100000
set_option maxHeartbeats 4000000
namespace VS
open PySem PySem.Spec PyProof.Rows L2
def PlainT (k : Nat) (t : T) : Prop := ∃ d, pd0 t = some d ∧ (∀ w, pd w t = some d) ∧ d.canLay0 = true ∧ d.depth ≤ k
def PlainsT (k : Nat) (ts : List T) : Prop := ∃ ds, pds0 ts = some ds ∧ (∀ w, pds w ts = some ds) ∧ PyData.canLayAll0 ds = true ∧ PyData.depthAll ds ≤ k
theorem plain_int {i : Int} : PlainT 1 (.int i) := ⟨.int i, by simp [pd0], fun w => by simp [pd], rfl, by simp [PyData.depth]⟩
theorem plains_of {k : Nat} : ∀ {ts : List T}, (∀ t ∈ ts, PlainT k t) → PlainsT k ts
  | [], _ => ⟨[], rfl, fun w => by simp [pds], rfl, by simp [PyData.depthAll]⟩
  | t :: ts, h => by
    obtain ⟨d, h1, h2, h3, h4⟩ := h t (.head _)
    obtain ⟨ds, g1, g2, g3, g4⟩ := plains_of (fun s hs => h s (.tail _ hs))
    refine ⟨d :: ds, by simp [pds0, h1, g1], fun w => by simp [pds, h2 w, g2 w], by simp [PyData.canLayAll0, h3, g3], ?_⟩
    simp [PyData.depthAll]
    omega
theorem plain_tup {k : Nat} {ts : List T} (h : ∀ t ∈ ts, PlainT k t) : PlainT (k + 1) (.tup ts) := by
  obtain ⟨ds, g1, g2, g3, g4⟩ := plains_of h
  refine ⟨.tuple ds, by simp [pd0, g1], fun w => by simp [pd, g2 w], by simp [PyData.canLay0, g3], ?_⟩
  simp [PyData.depth]
  omega
theorem plain_mono {k l : Nat} {t : T} (h : PlainT k t) (e : k ≤ l) : PlainT l t := by
  obtain ⟨d, h1, h2, h3, h4⟩ := h
  exact ⟨d, h1, h2, h3, by omega⟩
theorem eqvAll_nil : ∀ ds : List PyData, PyData.eqvAll ds [] = decide (ds = [])
  | [] => by simp [PyData.eqvAll]
  | d :: ds => by simp [PyData.eqvAll]
theorem pds0_nil : ∀ {ts : List T} {ds : List PyData}, pds0 ts = some ds → (ds = [] ↔ ts = [])
  | [], ds, h => by cases h; simp
  | t :: ts, ds, h => by
    obtain ⟨d, r, rfl, _, _⟩ := pds0_cons h
    simp
theorem ne_nil {w : World} {k : Nat} {ts : List T} (hk : w[k]? = some (.lst ts)) (h : ∀ t ∈ ts, PlainT 50 t) : sNe (.cell k) (.lst []) w = .ok (.bl (!decide (ts = []))) w := by
  obtain ⟨ds, g1, g2, g3, g4⟩ := plains_of h
  have e : eqT w (.cell k) (.lst []) = some (decide (ts = [])) := by
    rw [eqT_of (d := .list ds) (e := .list []) (by simp [pd, hk, g1]) (by simp [pd, pds]) (by simp [SeqAt.shaped, PyData.canLay0, g3, PyData.depth]; omega) rfl]
    show some (PyData.eqvAll ds []) = _
    rw [eqvAll_nil]
    congr 1
    exact decide_eq_decide.mpr (pds0_nil g1)
  simp [sNe, e]
theorem compL_filterK {g : MG} {c : MT} {e : ME} {oc : OC} {whole : List T} {ρ0 : Env} (hk : Kept oc whole w) (p : T → Bool) (f : T → T) : ∀ (all out : List T), out.length + all.length < 16777216 → (∀ t ∈ all, ∃ ρ1, g t ρ0 w = .ok ρ1 w ∧ c ρ1 w = .ok (p t) w ∧ (p t = true → e ρ1 w = .ok (f t) w)) →
    compL g c e oc whole ρ0 all out w = .ok (out ++ (all.filter p).map f) w
  | [], out, hl, hh => by unfold compL; rw [if_pos hk]; simp
  | t :: ts, out, hl, hh => by
    obtain ⟨ρ1, e1, e2, e3⟩ := hh t List.mem_cons_self
    unfold compL
    rw [if_pos hk, e1, bind_ok', e2, bind_ok']
    cases hp : p t with
    | true =>
      rw [if_pos rfl, e3 hp, bind_ok', if_pos (by rw [sizeLine_eq]; simp at hl; omega), compL_filterK hk p f ts _ (by simp at hl ⊢; omega) fun u hu => hh u (List.mem_cons_of_mem _ hu)]
      simp [hp]
    | false =>
      rw [if_neg Bool.false_ne_true, compL_filterK hk p f ts _ (by simp at hl ⊢; omega) fun u hu => hh u (List.mem_cons_of_mem _ hu)]
      simp [hp]
theorem plain_non : PlainT 1 .non := ⟨.none, by simp [pd0], fun w => by simp [pd], rfl, by simp [PyData.depth]⟩
theorem plain_str {s : Str} (h : PyData.canLay0 (.str s) = true) : PlainT 1 (.str s) := ⟨.str s, by simp [pd0], fun w => by simp [pd], h, by simp [PyData.depth]⟩
theorem ne_ints {w : World} {ns : List Int} : sNe (.lst (ns.map .int)) (.lst []) w = .ok (.bl (!decide (ns = []))) w := by
  have hp : ∀ ns : List Int, pds w (ns.map T.int) = some (ns.map .int) := fun ns => by
    induction ns with
    | nil => rfl
    | cons n ns ih => simp [pds, pd, ih]
  have e : eqT w (.lst (ns.map .int)) (.lst []) = some (decide (ns = [])) := by
    rw [eqT_of (d := .list (ns.map .int)) (e := .list []) (by simp [pd, hp]) (by simp [pd, pds]) (shaped_ints _) rfl]
    show some (PyData.eqvAll (ns.map .int) (([] : List Int).map .int)) = _
    rw [eqv_ints]
  simp [sNe, e]
theorem eq_ints {w : World} {ns : List Int} : sEq (.lst (ns.map .int)) (.lst []) w = .ok (.bl (decide (ns = []))) w := by
  have h := ne_ints (w := w) (ns := ns)
  unfold sNe at h
  unfold sEq
  cases q : eqT w (.lst (ns.map .int)) (.lst []) with
  | none => rw [q] at h; cases h
  | some b =>
    rw [q] at h
    simp at h
    cases b <;> simp_all
end VS

set_option Elab.async false
set_option linter.all false
set_option maxRecDepth 100000
set_option maxHeartbeats 4000000
namespace VS
open PySem PySem.Spec PyProof.Rows L2
def rwT (r : List Nat) : T := .tup (r.map fun (i : Nat) => T.int (i : Int))
def leB : List Nat → List Nat → Bool
  | x :: r, y :: q => decide (x ≤ y) && leB r q
  | _, _ => true
/-! rows that rise -/
theorem leB_of : ∀ {r q : List Nat}, (∀ (k : Nat) (x y : Nat), r[k]? = some x → q[k]? = some y → x ≤ y) → leB r q = true
  | [], _, _ => by unfold leB; rfl
  | _ :: _, [], _ => rfl
  | x :: r, y :: q, h => by
    unfold leB
    rw [Bool.and_eq_true, decide_eq_true_eq]
    exact ⟨h 0 x y rfl rfl, leB_of fun k x y h1 h2 => h (k + 1) x y h1 h2⟩
theorem leB_to : ∀ {r q : List Nat}, leB r q = true → ∀ (k : Nat) (x y : Nat), r[k]? = some x → q[k]? = some y → x ≤ y
  | [], _, _, k, x, y, h, _ => by simp at h
  | _ :: _, [], _, k, x, y, _, h => by simp at h
  | a :: r, c :: q, h, k, x, y, h1, h2 => by
    unfold leB at h
    rw [Bool.and_eq_true, decide_eq_true_eq] at h
    match k, h1, h2 with
    | 0, h1, h2 =>
      cases h1
      cases h2
      exact h.1
    | k + 1, h1, h2 => exact leB_to h.2 k x y h1 h2
theorem leB_refl (r : List Nat) : leB r r = true := leB_of fun k x y h1 h2 => by rw [h1] at h2; cases h2; exact Nat.le_refl _
theorem leB_trans {r q p : List Nat} (h : leB r q = true) (g : leB q p = true) (hl : q.length = r.length) : leB r p = true := leB_of fun k x y h1 h2 => by
  have hk := (List.getElem?_eq_some_iff.mp h1).1
  have e : q[k]? = some (q[k]'(by omega)) := List.getElem?_eq_getElem (by omega)
  exact Nat.le_trans (leB_to h k x _ h1 e) (leB_to g k _ y e h2)
section
variable {w : World} {t : T} {r q : List Nat}
/-! rows -/
def leP : T → Bool
  | .tup [.int x, .int y] => decide (x ≤ y)
  | _ => false
theorem zip_le : ∀ r q : List Nat, ((zipT (r.map fun (i : Nat) => T.int (i : Int)) (q.map fun (i : Nat) => T.int (i : Int))).all leP) = leB r q
  | [], _ => rfl
  | _ :: _, [] => rfl
  | x :: r, y :: q => by
    have ih := zip_le r q
    simp only [List.map, zipT, List.all_cons, leB, ih, leP]
    congr 1
    exact decide_eq_decide.mpr (by omega)
theorem zip_mem : ∀ (r q : List Nat) (u : T), u ∈ zipT (r.map fun (i : Nat) => T.int (i : Int)) (q.map fun (i : Nat) => T.int (i : Int)) → ∃ x y : Nat, u = .tup [.int x, .int y]
  | [], _, u, h => nomatch h
  | _ :: _, [], u, h => nomatch h
  | x :: r, y :: q, u, h => by
    simp only [List.map, zipT] at h
    rcases List.mem_cons.mp h with rfl | h
    · exact ⟨x, y, rfl⟩
    · exact zip_mem r q u h
theorem below_ok {r q : List Nat} (h1 : r.length ≤ 60) : s_below [rwT r, rwT q] w = .ok (.bl (leB r q)) w := by
  obtain ⟨Z, hZ⟩ : ∃ Z, Z = zipT (r.map fun (i : Nat) => T.int (i : Int)) (q.map fun (i : Nat) => T.int (i : Int)) := ⟨_, rfl⟩
  have e1 : sZip [rwT r, rwT q] w = .ok (Z, none) w := by rw [hZ]; rfl
  have hl : Z.length ≤ 60 := by rw [hZ, zipT_len, List.length_map]; omega
  have e2 : compL (mgTup 2 (mgCons (mgName 2) (mgCons (mgName 3) mgNil))) mYes (mOp2 sLe (mVar 2) (mVar 3)) none Z [some (rwT r), some (rwT q), none, none] Z [] w = .ok (Z.map fun u => .bl (leP u)) w := by
    refine compL_map (fun u => .bl (leP u)) (by omega) fun u hu => ?_
    obtain ⟨x, y, rfl⟩ := zip_mem r q u (by rw [← hZ]; exact hu)
    exact ⟨[some (rwT r), some (rwT q), some (.int x), some (.int y)], by simp, rfl, by simp [leP]⟩
  have e3 := sAll_map (w := w) (ts := Z) leP
  have e4 : Z.all leP = leB r q := by rw [hZ]; exact zip_le r q
  rw [e4] at e3
  unfold s_below m_below runB
  simp [mZip, e1, wipeE, e2, e3]
def gtP (u : T) : Bool := !leP u
theorem under_ok {r q : List Nat} (h1 : r.length ≤ 60) : s__law_ln_under [rwT r, rwT q] w = .ok (.bl (leB r q)) w := by
  obtain ⟨Z, hZ⟩ : ∃ Z, Z = zipT (r.map fun (i : Nat) => T.int (i : Int)) (q.map fun (i : Nat) => T.int (i : Int)) := ⟨_, rfl⟩
  have e1 : sZip [rwT r, rwT q] w = .ok (Z, none) w := by rw [hZ]; rfl
  have hl : Z.length ≤ 60 := by rw [hZ, zipT_len, List.length_map]; omega
  have e2 : compL (mgTup 2 (mgCons (mgName 2) (mgCons (mgName 3) mgNil))) (mTest (mOp2 sGt (mVar 2) (mVar 3))) (mC (.int 1)) none Z [some (rwT r), some (rwT q), none, none] Z [] w = .ok ((Z.filter gtP).map fun _ => .int 1) w := by
    refine compL_filter gtP (fun _ => .int 1) (by omega) fun u hu => ?_
    obtain ⟨x, y, rfl⟩ := zip_mem r q u (by rw [← hZ]; exact hu)
    refine ⟨[some (rwT r), some (rwT q), some (.int x), some (.int y)], by simp, ?_, fun _ => rfl⟩
    simp [gtP, leP]
    try (rw [Bool.eq_iff_iff]; simp)
  have e3 : ((Z.filter gtP).map fun _ => T.int 1) = ((Z.filter gtP).map fun _ => (1 : Int)).map .int := by rw [List.map_map]; rfl
  rw [e3] at e2
  have e4 := eq_ints (w := w) (ns := (Z.filter gtP).map fun _ => (1 : Int))
  have e5 : decide (((Z.filter gtP).map fun _ => (1 : Int)) = []) = leB r q := by
    rw [← zip_le r q, ← hZ, Bool.eq_iff_iff, decide_eq_true_eq, List.map_eq_nil_iff, List.filter_eq_nil_iff, List.all_eq_true]
    refine ⟨fun g u hu => ?_, fun g u hu => ?_⟩
    · have := g u hu
      simpa [gtP] using this
    · have := g u hu
      simp [gtP, this]
  rw [e5] at e4
  unfold s__law_ln_under m__law_ln_under runB
  simp [mZip, e1, wipeE, e2, e4, ile, -List.map_map]

end
/-! any value a row -/
structure RowN (r : List Nat) : Prop where
  l1 : 1 ≤ r.length
  l6 : r.length ≤ 6
  b : ∀ x ∈ r, x < 1000000000000000000
def isRow : T → Bool
  | .tup ts => decide (1 ≤ ts.length) && (decide (ts.length ≤ 6) && ts.all cnt)
  | _ => false
theorem cnt_of {t : T} (h : cnt t = true) : ∃ x : Nat, t = .int x ∧ x < 1000000000000000000 := by
  unfold cnt at h
  split at h
  · rename_i i
    simp at h
    exact ⟨i.toNat, by rw [show ((i.toNat : Nat) : Int) = i by omega], by omega⟩
  · cases h
theorem cnts_of : ∀ {ts : List T}, ts.all cnt = true → ∃ r : List Nat, ts = r.map (fun (i : Nat) => T.int (i : Int)) ∧ ∀ x ∈ r, x < 1000000000000000000
  | [], _ => ⟨[], rfl, fun x hx => nomatch hx⟩
  | t :: ts, h => by
    rw [List.all_cons, Bool.and_eq_true] at h
    obtain ⟨x, rfl, hx⟩ := cnt_of h.1
    obtain ⟨r, rfl, hr⟩ := cnts_of h.2
    refine ⟨x :: r, rfl, fun y hy => ?_⟩
    rcases List.mem_cons.mp hy with rfl | hy
    · exact hx
    · exact hr y hy
theorem isRow_of {t : T} (h : isRow t = true) : ∃ r, RowN r ∧ t = rwT r := by
  unfold isRow at h
  split at h
  · rename_i ts
    simp only [Bool.and_eq_true, decide_eq_true_eq] at h
    obtain ⟨r, rfl, hr⟩ := cnts_of h.2.2
    rw [List.length_map] at h
    exact ⟨r, ⟨h.1, h.2.1, hr⟩, rfl⟩
  · cases h
theorem isRow_rw {r : List Nat} (h : RowN r) : isRow (rwT r) = true := by
  obtain ⟨h1, h2, h3⟩ := h
  simp only [isRow, rwT, List.length_map, Bool.and_eq_true, decide_eq_true_eq]
  refine ⟨h1, h2, List.all_eq_true.mpr fun t ht => ?_⟩
  obtain ⟨x, hx, rfl⟩ := List.mem_map.mp ht
  have := h3 x hx
  simp [cnt]
  omega
section
variable {w : World} {t : T}
theorem is_row_ok (h : Vx t) : s_is_row [t] w = .ok (.bl (isRow t)) w := by
  unfold s_is_row m_is_row runB
  have e1 := isi_tuple (w := w) h
  cases h with
  | tup ts hl hv =>
    have e2 := rowOf_ok (w := w) (Vx.tup ts hl hv) ts.length
    have e3 : rowOf ts.length (.tup ts) = ts.all cnt := by simp [rowOf]
    rw [e3] at e2
    by_cases h1 : (1 : Int) ≤ ts.length
    · by_cases h6 : (ts.length : Int) ≤ 6
      · have h1' : 1 ≤ ts.length := by omega
        have h6' : ts.length ≤ 6 := by omega
        simp [e1, isTup, h1, h6, e2, isRow, h1', h6']
      · have h6' : ¬ ts.length ≤ 6 := by omega
        simp [e1, isTup, h1, h6, isRow, h6']
    · have h1' : ¬ 1 ≤ ts.length := by omega
      simp [e1, isTup, h1, isRow, h1']
  | _ => simp [e1, isTup, isRow]
def whole (t : T) : Bool := isInt t && !isBl t
theorem whole_ok (h : Vx t) : s__law_is_whole [t] w = .ok (.bl (whole t)) w := by
  unfold s__law_is_whole m__law_is_whole runB
  have e1 := isi_intV (w := w) h
  have e2 := isi_bool (w := w) h
  cases h <;> simp [e1, e2, whole, isInt, isBl]
theorem pow18 : sPow (.int 10) (.int 18) w = .ok (.int 1000000000000000000) w := by
  have c : CPow 10 18 := ⟨by decide, by decide, by decide⟩
  simp [sPow, s2I, c]
theorem law_row_ok (h : Vx t) : s__law_ln_is_row [t] w = .ok (.bl (isRow t)) w := by
  unfold s__law_ln_is_row m__law_ln_is_row runB
  have e1 := isi_tuple (w := w) h
  cases h with
  | tup ts hl hv =>
    by_cases hb : 1 ≤ (ts.length : Int) ∧ (ts.length : Int) < 7
    · have e2 : compL (mgName 1) (mOr (mNot (mTru (mDef 1 s__law_is_whole (mCons (mVar 1) mNil)))) (mOr (mTest (mOp2 sLt (mVar 1) (mC (.int 0)))) (mTest (mOp2 sGe (mVar 1) (mOp2 sPow (mC (.int 10)) (mC (.int 18))))))) (mC (.int 1)) none ts [some (.tup ts), none] ts [] w = .ok ((ts.filter fun u => !cnt u).map fun _ => .int 1) w := by
        refine compL_filter (fun u => !cnt u) (fun _ => .int 1) (by omega) fun u hu => ⟨[some (.tup ts), some u], by simp, ?_, fun _ => rfl⟩
        have e3 := whole_ok (w := w) (hv u hu)
        cases hv u hu with
        | int i =>
          simp [e3, whole, isInt, isBl, pow18, cnt]
          by_cases h0 : i < 0
          · simp [h0]
            try omega
          · by_cases h9 : 1000000000000000000 ≤ i
            · simp [h0, h9]
              try omega
            · simp [h0, h9]
              try omega
        | _ => simp [e3, whole, isInt, isBl, cnt]
      have e3 : ((ts.filter fun u => !cnt u).map fun _ => T.int 1) = ((ts.filter fun u => !cnt u).map fun _ => (1 : Int)).map .int := by rw [List.map_map]; rfl
      rw [e3] at e2
      have e4 := eq_ints (w := w) (ns := (ts.filter fun u => !cnt u).map fun _ => (1 : Int))
      have e5 : decide (((ts.filter fun u => !cnt u).map fun _ => (1 : Int)) = []) = isRow (.tup ts) := by
        have h1 : 1 ≤ ts.length := by omega
        have h6 : ts.length ≤ 6 := by omega
        simp only [isRow, h1, h6, decide_true, Bool.true_and]
        rw [Bool.eq_iff_iff, decide_eq_true_eq, List.map_eq_nil_iff, List.filter_eq_nil_iff, List.all_eq_true]
        simp
      rw [e5] at e4
      simp [mInR, e1, isTup, hb, wipeE, e2, e4, ile, -List.map_map]
    · have hf : isRow (.tup ts) = false := by
        simp only [isRow]
        by_cases h1 : 1 ≤ ts.length
        · have h6 : ¬ ts.length ≤ 6 := by omega
          simp [h6]
        · simp [h1]
      rw [hf]
      have hb' : (ts.length : Int) < 1 ∨ 7 ≤ (ts.length : Int) := by omega
      simp [mInR, e1, isTup, hb']
  | _ => simp [e1, isTup, isRow]
end
end VS

set_option Elab.async false
set_option linter.all false
set_option maxRecDepth 100000
set_option maxHeartbeats 4000000
namespace VS
open PySem PySem.Spec PyProof.Rows L2
def intU : T → Nat
  | .int i => i.toNat
  | _ => 0
def rowU : T → List Nat
  | .tup ts => ts.map intU
  | _ => []
theorem rowU_rw (r : List Nat) : rowU (rwT r) = r := by
  simp only [rowU, rwT, List.map_map]
  have : (intU ∘ fun (i : Nat) => T.int (i : Int)) = id := by
    funext i
    simp [intU]
  rw [this, List.map_id]
section
variable {w : World} {rs : List (List Nat)} {t : T} {ts : List T}
/-- the length of a row -/
def lenT : T → Nat
  | .tup ts => ts.length
  | _ => 0
def firstL (ts : List T) : Nat := lenT (ts.headD .non)
def alikeB (ts : List T) : Bool := ts.all isRow && ts.all fun u => decide (lenT u = firstL ts)
theorem alike_ok {oc : OC} (hi : sItems t w = .ok (ts, oc) w) (hk : Kept oc ts w) (hv : ∀ u ∈ ts, Vx u) (hl : ts.length ≤ 60) (h0 : ∀ u, ts[0]? = some u → sIx t (.int 0) w = .ok u w) : s_are_alike_rows [t] w = .ok (.bl (alikeB ts)) w := by
  have c1 := compL_filterK (g := mgName 1) (c := mYes) (e := mDef 1 s_is_row (mCons (mVar 1) mNil)) (ρ0 := [some t, none]) hk (fun _ => true) (fun u => .bl (isRow u)) ts [] (by simp; omega) (fun u hu => by
    have e := is_row_ok (w := w) (hv u hu)
    exact ⟨[some t, some u], by simp, by simp, fun _ => by simp [e]⟩)
  rw [List.filter_eq_self.mpr (fun _ _ => rfl), List.nil_append] at c1
  have a1 := sAll_map (w := w) (ts := ts) isRow
  unfold s_are_alike_rows m_are_alike_rows runB
  cases hr : ts.all isRow with
  | false =>
    rw [hr] at a1
    simp [hi, wipeE, c1, a1, alikeB, hr]
  | true =>
    rw [hr] at a1
    have hrow : ∀ u ∈ ts, ∃ us, u = .tup us := fun u hu => by
      obtain ⟨r, _, rfl⟩ := isRow_of (List.all_eq_true.mp hr u hu)
      exact ⟨_, rfl⟩
    have c2 := compL_filterK (g := mgName 1) (c := mYes) (e := mOp2 sEq (mCall sLen (mCons (mVar 1) mNil)) (mCall sLen (mCons (mOp2 sIx (mVar 0) (mC (.int 0))) mNil))) (ρ0 := [some t, none]) hk (fun _ => true) (fun u => .bl (decide (lenT u = firstL ts))) ts [] (by simp; omega) (fun u hu => by
      refine ⟨[some t, some u], by simp, by simp, fun _ => ?_⟩
      obtain ⟨us, rfl⟩ := hrow u hu
      cases ts with
      | nil => cases hu
      | cons a rs =>
        obtain ⟨vs, rfl⟩ := hrow a (.head _)
        have z := h0 (.tup vs) rfl
        have d : decide ((us.length : Int) = vs.length) = decide (us.length = vs.length) := decide_eq_decide.mpr (by omega)
        have f : firstL (T.tup vs :: rs) = vs.length := rfl
        simp [z, lenT, d, f])
    rw [List.filter_eq_self.mpr (fun _ _ => rfl), List.nil_append] at c2
    have a2 := sAll_map (w := w) (ts := ts) (fun u => decide (lenT u = firstL ts))
    simp [hi, wipeE, c1, a1, c2, a2, alikeB, hr]
end
end VS

set_option Elab.async false
set_option linter.all false
set_option maxRecDepth 100000
set_option maxHeartbeats 4000000
namespace VS
open PySem PySem.Spec PyProof.Rows L2
/-! no cells -/
mutual
theorem flat_of : ∀ {t : T} {d : PyData}, pd0 t = some d → ∀ n, NoRef n t
  | .non, _, _, n => by unfold NoRef; trivial
  | .bl _, _, _, n => by unfold NoRef; trivial
  | .int _, _, _, n => by unfold NoRef; trivial
  | .str _, _, _, n => by unfold NoRef; trivial
  | .ty _, _, _, n => by unfold NoRef; trivial
  | .tup ts, d, h, n => by unfold pd0 at h; obtain ⟨ds, h, _⟩ := map_some h; unfold NoRef; exact flats_of h n
  | .lst ts, d, h, n => by unfold pd0 at h; obtain ⟨ds, h, _⟩ := map_some h; unfold NoRef; exact flats_of h n
  | .frz ts, d, h, n => by unfold pd0 at h; obtain ⟨ds, h, _⟩ := map_some h; unfold NoRef; exact flats_of h n
  | .rng _, d, h, n => by cases h
  | .cell k, d, h, n => by cases h
theorem flats_of : ∀ {ts : List T} {ds : List PyData}, pds0 ts = some ds → ∀ n, NoRefs n ts
  | [], _, _, n => by unfold NoRefs; trivial
  | t :: ts, ds, h, n => by
    obtain ⟨d, r, rfl, h1, h2⟩ := pds0_cons h
    unfold NoRefs
    exact ⟨flat_of h1 n, flats_of h2 n⟩
end
mutual
theorem mapC_id {g : Nat → T} : ∀ {t : T}, NoRef 0 t → mapC g t = t
  | .non, _ => rfl
  | .bl _, _ => rfl
  | .int _, _ => rfl
  | .str _, _ => rfl
  | .ty _, _ => rfl
  | .tup ts, h => by unfold NoRef at h; unfold mapC; rw [mapCs_id h]
  | .lst ts, h => by unfold NoRef at h; unfold mapC; rw [mapCs_id h]
  | .frz ts, h => by unfold NoRef at h; unfold mapC; rw [mapCs_id h]
  | .glb _, _ => rfl
  | .exc _ _ ts, h => by unfold NoRef at h; unfold mapC; rw [mapCs_id h]
  | .dct _ ts, h => by unfold NoRef at h; unfold mapC; rw [mapCs_id h]
  | .rng _, _ => rfl
  | .cell k, h => by unfold NoRef at h; omega
theorem mapCs_id {g : Nat → T} : ∀ {ts : List T}, NoRefs 0 ts → mapCs g ts = ts
  | [], _ => rfl
  | t :: ts, h => by unfold NoRefs at h; unfold mapCs; rw [mapC_id h.1, mapCs_id h.2]
end
theorem fz_id {n : Nat} {w : World} : ∀ (f : Nat) {t : T}, NoRef 0 t → fz n w f t = t
  | 0, t, h => rfl
  | f + 1, t, h => by unfold fz; exact mapC_id h
theorem plain_flat {k : Nat} {t : T} (h : PlainT k t) (n : Nat) : NoRef n t := by obtain ⟨d, h1, _⟩ := h; exact flat_of h1 n
theorem plains_flat {k : Nat} : ∀ {ts : List T}, (∀ t ∈ ts, PlainT k t) → ∀ n, NoRefs n ts
  | [], _, n => by unfold NoRefs; trivial
  | t :: ts, h, n => by unfold NoRefs; exact ⟨plain_flat (h t (.head _)) n, plains_flat (fun s hs => h s (.tail _ hs)) n⟩
theorem ints_flat : ∀ (ns : List Int) (n : Nat), NoRefs n (ns.map T.int)
  | [], n => by unfold NoRefs; trivial
  | i :: ns, n => by simp only [List.map_cons]; unfold NoRefs; exact ⟨by unfold NoRef; trivial, ints_flat ns n⟩
theorem gcok_app {w ex : World} : GcOk w (w ++ ex) := ⟨by simp, fun k c hk h => .inl (by rw [List.getElem?_append_left hk] at h; exact h)⟩
theorem gc_of {f : Sem} {ds : List T} {w w' w0 : World} {t t' : T} (e : f ds w = .ok t w') (g : GcOk w w') (ht : fz w.length w' 3 t = t') (hn : NoRef w.length t') (hw : w'.take w.length = w0) : gc f ds w = .ok t' w0 := by
  unfold gc
  rw [e]
  unfold gcR
  simp only
  rw [if_pos ⟨g, by rw [ht]; exact hn⟩, ht, hw]
theorem gc_flat0 {f : Sem} {ds : List T} {w ex : World} {t : T} {k : Nat} (e : f ds w = .ok t (w ++ ex)) (h : PlainT k t) : gc f ds w = .ok t w :=
  gc_of e gcok_app (fz_id 3 (plain_flat h 0)) (plain_flat h _) (by simp)
theorem norefs_of {n : Nat} : ∀ {ts : List T}, (∀ t ∈ ts, NoRef n t) → NoRefs n ts
  | [], _ => by unfold NoRefs; trivial
  | t :: ts, h => by unfold NoRefs; exact ⟨h t (.head _), norefs_of fun u hu => h u (.tail _ hu)⟩
section
variable {w w' : World} {r : Rng} {n : Nat}
theorem rs_flat (s : RS w r) (hn : 2 ≤ n) : (∀ c, w[0]? = some c → NoRefC n c) ∧ (∀ c, w[1]? = some c → NoRefC n c) := by
  obtain ⟨rest, rfl⟩ := s
  refine ⟨fun c h => ?_, fun c h => ?_⟩
  · cases h
    exact ints_flat _ _
  · cases h
    show NoRefs _ [T.cell 0, .lst (r.cells.map .int), .int r.left, .int r.turn]
    unfold NoRefs
    refine ⟨by unfold NoRef; omega, ?_⟩
    unfold NoRefs
    refine ⟨by unfold NoRef; exact ints_flat _ _, ?_⟩
    unfold NoRefs
    refine ⟨by unfold NoRef; trivial, ?_⟩
    unfold NoRefs
    exact ⟨by unfold NoRef; trivial, by unfold NoRefs; trivial⟩
theorem rs_of {r : Rng} (s : RS w r) (h0 : w'[0]? = w[0]?) (h1 : w'[1]? = w[1]?) : RS w' r := by
  obtain ⟨rest, rfl⟩ := s
  match w', h0, h1 with
  | [], h0, _ => cases h0
  | [a], _, h1 => cases h1
  | a :: c :: rest', h0, h1 =>
    have e0 : a = .lst (r.great.map .int) := Option.some.inj h0
    have e1 : c = .dic (rdic r) := Option.some.inj h1
    subst e0 e1
    exact ⟨rest', rfl⟩
end
/-- what was made here goes, what was there stays: a list comes back as it is -/
theorem gc_cells {f : Sem} {ds : List T} {w w' : World} {r r' : Rng} {ts : List T} {j k : Nat} (s : RS w r) (s' : RS w' r') (hl : w.length ≤ w'.length) (same : ∀ k, 2 ≤ k → k < w.length → w'[k]? = w[k]?) (e : f ds w = .ok (.cell j) w') (hj : w.length ≤ j) (at_ : w'[j]? = some (.lst ts)) (h : ∀ t ∈ ts, PlainT k t) :
    ∃ w2, gc f ds w = .ok (.lst ts) w2 ∧ RS w2 r' ∧ Lk w w2 := by
  have h2 : 2 ≤ w.length := by obtain ⟨rest, rfl⟩ := s; show 2 ≤ rest.length + 2; omega
  have tk : ∀ k, k < w.length → (w'.take w.length)[k]? = w'[k]? := fun k hk => List.getElem?_take_of_lt hk
  refine ⟨w'.take w.length, ?_, rs_of s' (tk 0 (by omega)) (tk 1 (by omega)), by rw [List.length_take]; omega, fun k hk => ?_⟩
  · refine gc_of e ⟨hl, fun k c hk hc => ?_⟩ ?_ (by unfold NoRef; exact plains_flat h _) rfl
    · obtain ⟨f0, f1⟩ := rs_flat (n := w.length) s' h2
      by_cases h0 : k = 0
      · subst h0; exact .inr (f0 c hc)
      by_cases h1 : k = 1
      · subst h1; exact .inr (f1 c hc)
      exact .inl (by rw [same k (by omega) hk] at hc; exact hc)
    · unfold fz
      unfold mapC
      rw [if_neg (by omega), at_]
      have : ∀ us : List T, (∀ t ∈ us, PlainT k t) → us.map (fz w.length w' 2) = us := fun us => by
        induction us with
        | nil => intro _; rfl
        | cons u us ih =>
          intro h
          rw [List.map_cons, fz_id 2 (plain_flat (h u (.head _)) 0), ih (fun s hs => h s (.tail _ hs))]
      exact congrArg T.lst (this ts h)
  · by_cases hk2 : k < w.length
    · rw [tk k hk2, same k hk hk2]
    · rw [List.getElem?_eq_none (by rw [List.length_take]; omega), List.getElem?_eq_none (by omega)]
/-- a plain value -/
theorem gc_plain {f : Sem} {ds : List T} {w w' : World} {r r' : Rng} {t : T} {k : Nat} (s : RS w r) (s' : RS w' r') (hl : w.length ≤ w'.length) (same : ∀ k, 2 ≤ k → k < w.length → w'[k]? = w[k]?) (e : f ds w = .ok t w') (h : PlainT k t) :
    ∃ w2, gc f ds w = .ok t w2 ∧ RS w2 r' ∧ Lk w w2 := by
  have h2 : 2 ≤ w.length := by obtain ⟨rest, rfl⟩ := s; show 2 ≤ rest.length + 2; omega
  have tk : ∀ k, k < w.length → (w'.take w.length)[k]? = w'[k]? := fun k hk => List.getElem?_take_of_lt hk
  refine ⟨w'.take w.length, ?_, rs_of s' (tk 0 (by omega)) (tk 1 (by omega)), by rw [List.length_take]; omega, fun k hk => ?_⟩
  · refine gc_of e ⟨hl, fun k c hk hc => ?_⟩ (fz_id 3 (plain_flat h 0)) (plain_flat h _) rfl
    obtain ⟨f0, f1⟩ := rs_flat (n := w.length) s' h2
    by_cases h0 : k = 0
    · subst h0; exact .inr (f0 c hc)
    by_cases h1 : k = 1
    · subst h1; exact .inr (f1 c hc)
    exact .inl (by rw [same k (by omega) hk] at hc; exact hc)
  · by_cases hk2 : k < w.length
    · rw [tk k hk2, same k hk hk2]
    · rw [List.getElem?_eq_none (by rw [List.length_take]; omega), List.getElem?_eq_none (by omega)]
theorem row_plain (r : List Nat) : PlainT 2 (rwT r) := plain_tup fun t ht => by
  obtain ⟨i, _, rfl⟩ := List.mem_map.mp ht
  exact plain_int
end VS

set_option Elab.async false
set_option linter.all false
set_option maxRecDepth 100000
set_option maxHeartbeats 4000000
namespace VS
open PySem PySem.Spec PyProof.Rows L2
section
variable {w w' : World} {ρ ρ' : Env} {x : Str}
theorem caught_ex {x : Str} {M : ME} (hm : M ρ w = .ex (.exc x [] []) ρ' w') (hx : x ∈ caughtL) : mCaught caughtL M ρ w = .ok (.exc x [] []) w' := by
  unfold mCaught
  rw [hm]
  simp only [if_pos hx]
theorem isx_of (e : lookB isTab x x = some true) (n : ¬ (x = "")) : sIsX isTab [.exc x [] [], .glb x] w = .ok (.bl true) w := by
  simp [sIsX, e, n]
theorem guard_ok {C : ME} (hc : mCaught caughtL C ρ w = .ok (.exc x [] []) w) (hx : sIsX isTab [.exc x [] [], .glb x] w = .ok (.bl true) w) : (mIfS (mNot (mTru (mCall (sIsX isTab) (mCons (mCaught caughtL C) (mCons (mC (.glb x)) mNil))))) (mRet (mC (.bl false))) mSkip) ρ w = .ok (ρ, .nx) w := by
  simp only [mIfS_, mNot_, mTru_, mCall_, mCons_, mNil_, hc, mC_, bind_ok', hx, sTru_bl, Bool.not_true, Bool.false_eq_true, if_false, mSkip_]
end
section
variable {w : World} {ρ : Env} {t u v rv : T} {ts : List T} {rs : List (List Nat)}
def isLst : T → Bool
  | .tup _ => true
  | .lst _ => true
  | _ => false
theorem is_list_ok (h : Vx t) : s_is_list [t] w = .ok (.bl (isLst t)) w := by
  unfold s_is_list m_is_list runB
  cases h <;> simp [sIsi, kindT, kinds, isiB, tysT, ile, isLst]
/-- what is no list of rows -/
def badR (t : T) : Bool := !isLst t || (match t with
  | .tup ts => !alikeB ts
  | .lst ts => !alikeB ts
  | _ => true)
theorem rows_bad (h : Vx t) (hl : ∀ ts, t = .lst ts → ts.length ≤ 60) (hb : badR t = true) : s_check_rows [t] w = .ex (.exc "BadRows" [] []) [] w := by
  have e1 := is_list_ok (w := w) h
  unfold s_check_rows m_check_rows runB
  cases h with
  | tup ts hl2 hv =>
    have e2 := alike_ok (w := w) (t := .tup ts) (ts := ts) (oc := none) rfl kept_none hv hl2 (fun u hu => sIx_tup hu (by decide))
    have hf : alikeB ts = false := by simpa [badR, isLst] using hb
    rw [hf] at e2
    simp [e1, isLst, e2, mRaise]
  | lst ts hv =>
    have e2 := alike_ok (w := w) (t := .lst ts) (ts := ts) (oc := none) rfl kept_none hv (hl ts rfl) (fun u hu => sIx_lst hu (by decide))
    have hf : alikeB ts = false := by simpa [badR, isLst] using hb
    rw [hf] at e2
    simp [e1, isLst, e2, mRaise]
  | _ => simp [e1, isLst, mRaise]
end
section
variable {w : World} {ρ : Env}
theorem br_in : ("BadRows" : Str) ∈ caughtL := by decide +kernel
theorem br_tab : lookB isTab "BadRows" "BadRows" = some true := by decide +kernel
theorem br_ne : ¬ (("BadRows" : Str) = "") := by decide +kernel
end
/-! a truth -/
theorem truth_ok {w : World} (b : Bool) : s__law_is_truth [.bl b, .bl b] w = .ok (.bl true) w := by
  unfold s__law_is_truth m__law_is_truth runB
  cases b <;> simp [sIsB]
end VS

set_option Elab.async false
set_option linter.all false
set_option maxRecDepth 100000
set_option maxHeartbeats 4000000
namespace VS
open PySem PySem.Spec PyProof.Rows L2
mutual
def vxB : T → Bool
  | .non => true
  | .bl _ => true
  | .int _ => true
  | .str x => PyData.canLay0 (.str x)
  | .dct _ _ => true
  | .tup ts => decide (ts.length ≤ 60) && vxBs ts
  | .lst ts => vxBs ts
  | _ => false
def vxBs : List T → Bool
  | [] => true
  | t :: ts => vxB t && vxBs ts
end
mutual
theorem vx_of : ∀ {t : T}, vxB t = true → Vx t
  | .non, _ => .non
  | .bl b, _ => .bl b
  | .int i, _ => .int i
  | .str x, h => .str x (by unfold vxB at h; exact h)
  | .dct ks ts, _ => .dct ks ts
  | .tup ts, h => by
    unfold vxB at h
    rw [Bool.and_eq_true, decide_eq_true_eq] at h
    exact .tup ts h.1 (vxs_of h.2)
  | .lst ts, h => by
    unfold vxB at h
    exact .lst ts (vxs_of h)
  | .ty _, h => by unfold vxB at h; cases h
  | .frz _, h => by unfold vxB at h; cases h
  | .rng _, h => by unfold vxB at h; cases h
  | .glb _, h => by unfold vxB at h; cases h
  | .exc _ _ _, h => by unfold vxB at h; cases h
  | .cell _, h => by unfold vxB at h; cases h
theorem vxs_of : ∀ {ts : List T}, vxBs ts = true → ∀ u ∈ ts, Vx u
  | [], _, u, hu => nomatch hu
  | t :: ts, h, u, hu => by
    unfold vxBs at h
    rw [Bool.and_eq_true] at h
    rcases List.mem_cons.mp hu with e | hu'
    · rw [e]; exact vx_of h.1
    · exact vxs_of h.2 u hu'
end
def badL : List T := [.non, .int 5, .str "rows", .dct [] [], .lst [.tup []], .lst [.tup [.int 1], .tup [.int 1, .int 2]], .lst [.tup [.int 0, .int (-1)]], .lst [.lst [.int 0, .int 1]], .lst [.tup [.int 0, .bl true]], .lst [.tup [.int 0, .int 1], .non], .lst [.tup [.int 0, .int 0, .int 0, .int 0, .int 0, .int 0, .int 0]], .tup [.tup [.int 0, .int 1], .tup [.int 0, .str "1"]], .lst [.tup [.int 1000000000000000000, .int 0]], .tup [.int 1, .int 2]]
def fewB : T → Bool
  | .lst ts => decide (ts.length ≤ 60)
  | _ => true
theorem badL_all : badL.all (fun t => vxB t && (badR t && fewB t)) = true := by decide +kernel
theorem badL_in {t : T} (h : t ∈ badL) : Vx t ∧ badR t = true ∧ ∀ ts, t = .lst ts → ts.length ≤ 60 := by
  have := List.all_eq_true.mp badL_all t h
  rw [Bool.and_eq_true, Bool.and_eq_true] at this
  refine ⟨vx_of this.1, this.2.1, fun ts e => ?_⟩
  subst e
  have := this.2.2
  simpa [fewB] using this
section
variable {w : World} {r : Rng}
theorem mul7 : sMulT (.tup [.int 0]) (.int 7) w = .ok (.tup [.int 0, .int 0, .int 0, .int 0, .int 0, .int 0, .int 0]) w := rfl
theorem bad_rows_ok (s : RS w r) (o : Ok 1 r) : ∃ (t : T) (r' : Rng) (w' : World), s__law_ln_bad_rows [.cell 1] w = .ok t w' ∧ t ∈ badL ∧ Adv 1 r r' ∧ RS w' r' ∧ Lk w w' := by
  obtain ⟨t, r', w', e, ht, a, s', l⟩ := pick_st (ts := badL) s (by decide) (by decide) o
  refine ⟨t, r', w', ?_, ht, a, s', l⟩
  unfold badL at e
  have p18 := pow18 (w := w)
  have m7 := mul7 (w := w)
  unfold s__law_ln_bad_rows m__law_ln_bad_rows runB
  simp [mC0, p18, m7, ile, sCat, e]
end
end VS

set_option Elab.async false
set_option linter.all false
set_option maxRecDepth 100000
set_option maxHeartbeats 4000000
namespace VS
open PySem PySem.Spec PyProof.Rows L2
/-! joined, common -/
abbrev natI (l : List Nat) : List Int := l.map fun (i : Nat) => (i : Int)
/-- a greatest one, a least one -/
def PickF (F : List Int → Option Int) (R : Nat → Nat → Prop) : Prop := ∀ l : List Nat, l ≠ [] → ∃ x : Nat, F (natI l) = some (x : Int) ∧ x ∈ l ∧ ∀ y ∈ l, R y x
theorem pick_max : PickF fMax (· ≤ ·) := fun l hl => by
  cases l with
  | nil => exact absurd rfl hl
  | cons n ns =>
    obtain ⟨h1, h2, h3⟩ := maxI_spec (natI ns) (n : Int)
    obtain ⟨x, hx, hm⟩ : ∃ x : Nat, maxI (n : Int) (natI ns) = (x : Int) ∧ x ∈ n :: ns := by
      rcases h1 with h1 | h1
      · exact ⟨n, h1, .head _⟩
      · obtain ⟨x, hx, e⟩ := List.mem_map.mp h1
        exact ⟨x, e.symm, .tail _ hx⟩
    rw [hx] at h2 h3
    refine ⟨x, congrArg some hx, hm, fun y hy => ?_⟩
    show y ≤ x
    rcases List.mem_cons.mp hy with rfl | hy
    · omega
    · have := h3 (y : Int) (List.mem_map.mpr ⟨y, hy, rfl⟩)
      omega
theorem pick_min : PickF fMin (fun y x => x ≤ y) := fun l hl => by
  cases l with
  | nil => exact absurd rfl hl
  | cons n ns =>
    obtain ⟨h1, h2, h3⟩ := minI_spec (natI ns) (n : Int)
    obtain ⟨x, hx, hm⟩ : ∃ x : Nat, minI (n : Int) (natI ns) = (x : Int) ∧ x ∈ n :: ns := by
      rcases h1 with h1 | h1
      · exact ⟨n, h1, .head _⟩
      · obtain ⟨x, hx, e⟩ := List.mem_map.mp h1
        exact ⟨x, e.symm, .tail _ hx⟩
    rw [hx] at h2 h3
    refine ⟨x, congrArg some hx, hm, fun y hy => ?_⟩
    show x ≤ y
    rcases List.mem_cons.mp hy with rfl | hy
    · omega
    · have := h3 (y : Int) (List.mem_map.mpr ⟨y, hy, rfl⟩)
      omega
/-- a list or tuple of rows with as many items -/
structure GoodR (rv : T) (rs : List (List Nat)) (m : Nat) : Prop where
  at_ : rv = .tup (rs.map rwT) ∨ rv = .lst (rs.map rwT)
  len : rs.length ≤ 60
  row : ∀ r ∈ rs, RowN r
  same : ∀ r ∈ rs, r.length = m
/-- row by row the greatest, the least -/
structure Far (R : Nat → Nat → Prop) (rs : List (List Nat)) (m : Nat) (mo : List Nat) : Prop where
  len : mo.length = m
  at_ : ∀ (i x : Nat), mo[i]? = some x → (∃ r ∈ rs, r[i]? = some x) ∧ ∀ r ∈ rs, ∀ y : Nat, r[i]? = some y → R y x
noncomputable def jn (F : List Int → Option Int) : MS := (mSeq (mDrop (mDef 1 s__check_some_rows (mCons (mVar 0) mNil)))
 (mRet (mCall sTup (mCons (mVal (mComp [1] (mZipS (mVar 0)) (mgName 1) mYes (mCall (sIntsQ F) (mCons (mVar 1) mNil)))) mNil))))
theorem jn_max : m_joined = jn fMax := rfl
theorem jn_min : m_common = jn fMin := rfl
theorem tups_rows : ∀ rs : List (List Nat), tupsT (rs.map rwT) = some (rs.map fun r => r.map fun (i : Nat) => T.int (i : Int))
  | [] => rfl
  | r :: rs => by
    have ih := tups_rows rs
    show (tupsT (rs.map rwT)).map _ = _
    rw [ih]
    rfl
theorem cols_rows {rs : List (List Nat)} {m : Nat} (hne : rs ≠ []) (hl : rs.length ≤ 60) (hs : ∀ r ∈ rs, r.length = m) : colsT (rs.map rwT) = some ((List.range m).map (colT (rs.map fun r => r.map fun (i : Nat) => T.int (i : Int)))) := by
  unfold colsT
  rw [tups_rows]
  cases rs with
  | nil => exact absurd rfl hne
  | cons r rs =>
    simp only [List.map_cons]
    have h0 : r.length = m := hs r (.head _)
    have c : (∀ q ∈ (r.map fun (i : Nat) => T.int (i : Int)) :: rs.map (fun r => r.map fun (i : Nat) => T.int (i : Int)), q.length = (r.map fun (i : Nat) => T.int (i : Int)).length) ∧ ((r.map fun (i : Nat) => T.int (i : Int)) :: rs.map (fun r => r.map fun (i : Nat) => T.int (i : Int))).length ≤ 1000 := by
      refine ⟨fun q hq => ?_, by simp at hl ⊢; omega⟩
      have hq' : q ∈ (r :: rs).map fun r => r.map fun (i : Nat) => T.int (i : Int) := hq
      obtain ⟨p, hp, rfl⟩ := List.mem_map.mp hq'
      rw [List.length_map, List.length_map, h0]
      exact hs p hp
    rw [if_pos c, List.length_map, h0]
/-- the items at one place -/
def colN (rs : List (List Nat)) (i : Nat) : List Nat := rs.map fun r => r.getD i 0
theorem col_ints {rs : List (List Nat)} {m i : Nat} (hi : i < m) (hs : ∀ r ∈ rs, r.length = m) : colT (rs.map fun r => r.map fun (i : Nat) => T.int (i : Int)) i = .tup ((natI (colN rs i)).map T.int) := by
  unfold colT colN natI
  rw [List.map_map, List.map_map, List.map_map]
  congr 1
  refine List.map_congr_left fun r hr => ?_
  have := hs r hr
  show (r.map fun (i : Nat) => T.int (i : Int)).getD i .non = _
  rw [List.getD_eq_getElem?_getD, List.getElem?_map, List.getElem?_eq_getElem (by omega)]
  simp [List.getD_eq_getElem?_getD, List.getElem?_eq_getElem (show i < r.length by omega)]
theorem intsT_ints : ∀ ns : List Int, intsT (ns.map T.int) = some ns
  | [] => rfl
  | n :: ns => by
    have ih := intsT_ints ns
    rw [List.map_cons]
    unfold intsT
    rw [ih]
    rfl
section
variable {w : World} {rv t : T} {rs : List (List Nat)} {m : Nat} {F : List Int → Option Int} {R : Nat → Nat → Prop}
theorem vx_row (r : List Nat) (h : r.length ≤ 60) : Vx (rwT r) := .tup _ (by rw [List.length_map]; exact h) fun u hu => by
  obtain ⟨i, _, rfl⟩ := List.mem_map.mp hu
  exact .int _
theorem alike_rows (h1 : ∀ r ∈ rs, RowN r) (h2 : ∀ r ∈ rs, r.length = m) : alikeB (rs.map rwT) = true := by
  unfold alikeB
  rw [Bool.and_eq_true]
  refine ⟨List.all_eq_true.mpr fun u hu => ?_, List.all_eq_true.mpr fun u hu => ?_⟩
  · obtain ⟨r, hr, rfl⟩ := List.mem_map.mp hu
    exact isRow_rw (h1 r hr)
  · obtain ⟨r, hr, rfl⟩ := List.mem_map.mp hu
    refine decide_eq_true ?_
    cases rs with
    | nil => cases hr
    | cons a rs =>
      show lenT (rwT r) = lenT (rwT a)
      simp [lenT, rwT, h2 r hr, h2 a (.head _)]
theorem check_rows_ok (g : GoodR rv rs m) : s_check_rows [rv] w = .ok .non w := by
  have ha := alike_rows g.row g.same
  have hv : ∀ u ∈ rs.map rwT, Vx u := fun u hu => by
    obtain ⟨r, hr, rfl⟩ := List.mem_map.mp hu
    exact vx_row r (by have := (g.row r hr).l6; omega)
  have hl : (rs.map rwT).length ≤ 60 := by rw [List.length_map]; exact g.len
  have at_ := g.at_
  generalize rs.map rwT = ts at ha hv hl at_
  have e2 : s_is_list [rv] w = .ok (.bl true) w ∧ s_are_alike_rows [rv] w = .ok (.bl true) w := by
    rcases at_ with rfl | rfl
    · refine ⟨?_, ?_⟩
      · unfold s_is_list m_is_list runB
        simp [sIsi, kindT, kinds, isiB, tysT, ile]
      · have := alike_ok (w := w) (t := .tup ts) (ts := ts) (oc := none) rfl kept_none hv hl (fun u hu => sIx_tup hu (by decide))
        rwa [ha] at this
    · refine ⟨?_, ?_⟩
      · unfold s_is_list m_is_list runB
        simp [sIsi, kindT, kinds, isiB, tysT, ile]
      · have := alike_ok (w := w) (t := .lst ts) (ts := ts) (oc := none) rfl kept_none hv hl (fun u hu => sIx_lst hu (by decide))
        rwa [ha] at this
  unfold s_check_rows m_check_rows runB
  simp [e2.1, e2.2]
theorem tru_tup {ts : List T} : sTru (.tup ts) w = .ok (!ts.isEmpty) w := by cases ts <;> rfl
theorem tru_lst {ts : List T} : sTru (.lst ts) w = .ok (!ts.isEmpty) w := by cases ts <;> rfl
theorem check_some_ok (g : GoodR rv rs m) (hne : rs ≠ []) : s__check_some_rows [rv] w = .ok .non w := by
  have e1 := check_rows_ok (w := w) g
  have e2 : sTru rv w = .ok true w := by
    rcases g.at_ with rfl | rfl
    · rw [tru_tup]
      cases rs with
      | nil => exact absurd rfl hne
      | cons a r => rfl
    · rw [tru_lst]
      cases rs with
      | nil => exact absurd rfl hne
      | cons a r => rfl
  unfold s__check_some_rows m__check_some_rows runB
  simp [e1, e2]
def gF (F : List Int → Option Int) (l : List Nat) : Nat := ((F (natI l)).getD 0).toNat
theorem gF_of (hF : PickF F R) {l : List Nat} (hl : l ≠ []) : F (natI l) = some (gF F l : Int) ∧ gF F l ∈ l ∧ ∀ y ∈ l, R y (gF F l) := by
  obtain ⟨x, h1, h2, h3⟩ := hF l hl
  have e : gF F l = x := by
    unfold gF
    rw [h1]
    simp
  rw [e]
  exact ⟨h1, h2, h3⟩
theorem jn_ok (hF : PickF F R) (g : GoodR rv rs m) (hne : rs ≠ []) (hm : m ≤ 6) : ∃ mo : List Nat, runB 2 (jn F) [rv] w = .ok (rwT mo) w ∧ Far R rs m mo := by
  have e1 := check_some_ok (w := w) g hne
  have ec := cols_rows hne g.len g.same
  have hcol : ∀ i, colN rs i ≠ [] := fun i e => by
    unfold colN at e
    exact hne (List.map_eq_nil_iff.mp e)
  have sq : seq? w rv = some (rs.map rwT) := by rcases g.at_ with rfl | rfl <;> rfl
  have c1 := compL_map (w := w) (all := (List.range m).map (colT (rs.map fun r => r.map fun (i : Nat) => T.int (i : Int)))) (g := mgName 1) (c := mYes) (e := mCall (sIntsQ F) (mCons (mVar 1) mNil)) (ρ0 := [some rv, none])
    (fun u => match u with
      | .tup ts => match intsT ts with
        | some ns => .int ((F ns).getD 0)
        | none => .non
      | _ => .non) (by rw [List.length_map, List.length_range]; omega) (fun u hu => by
    obtain ⟨i, hi, rfl⟩ := List.mem_map.mp hu
    have hi := List.mem_range.mp hi
    rw [col_ints hi g.same]
    obtain ⟨g1, _, _⟩ := gF_of hF (hcol i)
    refine ⟨[some rv, some (.tup ((natI (colN rs i)).map T.int))], rfl, rfl, ?_⟩
    have hi2 := intsT_ints (natI (colN rs i))
    generalize (natI (colN rs i)).map T.int = ts at hi2
    generalize natI (colN rs i) = ns at hi2 g1
    simp [sIntsQ, seq?, hi2, g1])
  have c2 : ((List.range m).map (colT (rs.map fun r => r.map fun (i : Nat) => T.int (i : Int)))).map (fun u => match u with
      | .tup ts => match intsT ts with
        | some ns => .int ((F ns).getD 0)
        | none => .non
      | _ => .non) = ((List.range m).map fun i => gF F (colN rs i)).map fun (i : Nat) => T.int (i : Int) := by
    rw [List.map_map, List.map_map]
    refine List.map_congr_left fun i hi => ?_
    have hi := List.mem_range.mp hi
    show (match colT (rs.map fun r => r.map fun (i : Nat) => T.int (i : Int)) i with
      | .tup ts => match intsT ts with
        | some ns => T.int ((F ns).getD 0)
        | none => .non
      | _ => .non) = T.int (gF F (colN rs i) : Int)
    rw [col_ints hi g.same]
    simp only [intsT_ints]
    rw [(gF_of hF (hcol i)).1]
    rfl
  rw [c2] at c1
  refine ⟨(List.range m).map fun i => gF F (colN rs i), ?_, by simp, fun i x hx => ?_⟩
  · generalize (List.range m).map (colT (rs.map fun r => r.map fun (i : Nat) => T.int (i : Int))) = all at c1 ec
    unfold rwT
    generalize (((List.range m).map fun i => gF F (colN rs i)).map fun (i : Nat) => T.int (i : Int)) = out at c1 ⊢
    generalize rs.map rwT = ts at ec sq
    unfold jn runB
    simp [e1, mZipS, sq, ec, wipeE, c1]
  · rw [List.getElem?_map] at hx
    by_cases hi : i < m
    · rw [List.getElem?_range hi] at hx
      cases hx
      obtain ⟨_, h2, h3⟩ := gF_of hF (hcol i)
      have hat : ∀ r ∈ rs, r[i]? = some (r.getD i 0) := fun r hr => by
        rw [List.getD_eq_getElem?_getD, List.getElem?_eq_getElem (by have := g.same r hr; omega)]
        rfl
      refine ⟨?_, fun r hr y hy => ?_⟩
      · obtain ⟨r, hr, e⟩ := List.mem_map.mp h2
        exact ⟨r, hr, by rw [hat r hr, e]⟩
      · have e := hat r hr
        rw [hy] at e
        have e' : y = r.getD i 0 := Option.some.inj e
        rw [e']
        exact h3 _ (List.mem_map.mpr ⟨r, hr, rfl⟩)
    · rw [List.getElem?_eq_none (by rw [List.length_range]; omega)] at hx
      cases hx
theorem joined_ok (g : GoodR rv rs m) (hne : rs ≠ []) (hm : m ≤ 6) : ∃ mo : List Nat, s_joined [rv] w = .ok (rwT mo) w ∧ Far (· ≤ ·) rs m mo := jn_ok pick_max g hne hm
theorem common_ok (g : GoodR rv rs m) (hne : rs ≠ []) (hm : m ≤ 6) : ∃ mo : List Nat, s_common [rv] w = .ok (rwT mo) w ∧ Far (fun y x => x ≤ y) rs m mo := jn_ok pick_min g hne hm
end
end VS

set_option Elab.async false
set_option linter.all false
set_option maxRecDepth 100000
set_option maxHeartbeats 4000000
namespace VS
open PySem PySem.Spec PyProof.Rows L2
/-! drawn rows -/
abbrev bigN : Nat := 1000000000000000000
noncomputable def row_e : ME := (mIf (mTru (mVar 3)) (mOp2 sSub (mOp2 sSub (mOp2 sPow (mC (.int 10)) (mC (.int 18))) (mC (.int 1))) (mDef 2 s__law_draw (mCons (mVar 0) (mCons (mVar 2) mNil)))) (mDef 2 s__law_draw (mCons (mVar 0) (mCons (mVar 2) mNil))))
noncomputable def near_e : ME := (mCall sMax2 (mCons (mC (.int 0)) (mCons (mCall sMin2 (mCons (mOp2 sSub (mOp2 sPow (mC (.int 10)) (mC (.int 18))) (mC (.int 1))) (mCons (mOp2 sSub (mOp2 sAdd (mVar 2) (mDef 2 s__law_draw (mCons (mVar 0) (mCons (mC (.int 3)) mNil)))) (mC (.int 1))) mNil))) mNil)))
theorem row_parts : m__law_ln_row = (mSeq (mAsg (mOp2 sEq (mDef 2 s__law_draw (mCons (mVar 0) (mCons (mC (.int 12)) mNil))) (mC (.int 0))) (mgName 3))
 (mRet (mCall sTup (mCons (mVal (mComp [4] (mRange1 (mCons (mVar 1) mNil)) (mgName 4) mYes row_e)) mNil)))) := rfl
theorem near_parts : m__law_ln_near = (mRet (mCall sTup (mCons (mVal (mComp [2] (mItems (mVar 1)) (mgName 2) mYes near_e)) mNil))) := rfl
section
variable {w : World} {r : Rng} {m most : Nat} {all : List T} {mi : Int} {ρ0 : Env} {e : ME} {i : Nat} {b : Bool}
theorem comp_nat (s : RS w r) (o : Ok all.length r) (hl : all.length ≤ 60) (he : ∀ t ∈ all, ∀ (w : World) (r : Rng), RS w r → Ok 1 r → ∃ (k : Nat) (r' : Rng) (w' : World), e (ρ0.set i (some t)) w = .ok (.int (k : Int)) w' ∧ k < bigN ∧ Adv 1 r r' ∧ RS w' r' ∧ Lk w w') :
    ∃ (q : List Nat) (r' : Rng) (w' : World), compL (mgName i) mYes e none all ρ0 all [] w = .ok (q.map fun (i : Nat) => T.int (i : Int)) w' ∧ q.length = all.length ∧ (∀ x ∈ q, x < bigN) ∧ Adv all.length r r' ∧ RS w' r' ∧ Lk w w' := by
  obtain ⟨out, w', e1, q, r', rfl, h1, h2, h3, h4, h5⟩ := compL_run (w := w) (g := mgName i) (c := mYes) (e := e) (all := all) (ρ0 := ρ0)
    (P := fun j out w' => ∃ (q : List Nat) (r' : Rng), out = (q.map fun (i : Nat) => T.int (i : Int)) ∧ q.length = j ∧ (∀ x ∈ q, x < bigN) ∧ Adv j r r' ∧ RS w' r' ∧ Lk w w') ⟨[], r, rfl, rfl, by simp, by simpa using Adv.refl, s, Lk.refl⟩ (fun j t out w1 ht p => by
      obtain ⟨q, r1, rfl, h1, h2, h3, h4, h5⟩ := p
      have hi := (List.getElem?_eq_some_iff.mp ht).1
      obtain ⟨v, r2, w2, e2, hv, a2, s2, l2⟩ := he t (List.mem_of_getElem? ht) w1 r1 h4 (o.on h3 1 (by omega))
      refine ⟨_, _, mgName_, .inl ⟨w1, .int v, w2, mYes_, e2, by rw [List.length_map]; omega, q ++ [v], r2, by simp, by simp; omega, fun x hx => ?_, (h3.trans a2).mono (by push_cast; omega), s2, h5.trans l2⟩⟩
      rcases List.mem_append.mp hx with hx | hx
      · exact h2 x hx
      · rw [List.mem_singleton.mp hx]; exact hv)
  exact ⟨q, r', w', e1, h1, h2, h3, h4, h5⟩
theorem row_e_ok (s : RS w r) (h0 : 0 < most) (hm : most ≤ 1000) (o : Ok 1 r) {t : Option T} : ∃ (k : Nat) (r' : Rng) (w' : World), row_e [some (.cell 1), some (.int mi), some (.int (most : Int)), some (.bl b), t] w = .ok (.int (k : Int)) w' ∧ k < bigN ∧ Adv 1 r r' ∧ RS w' r' ∧ Lk w w' := by
  obtain ⟨v, r2, w2, e2, hv, a2, s2, l2⟩ := drawN_st (n := most) s h0 (by omega) o
  cases b with
  | true =>
    obtain ⟨k, hk⟩ : ∃ k : Nat, (999999999999999999 : Int) - (v : Int) = (k : Int) := ⟨999999999999999999 - v, by omega⟩
    refine ⟨k, r2, w2, ?_, by show k < 1000000000000000000; omega, a2, s2, l2⟩
    rw [← hk]
    generalize (v : Int) = y at e2 ⊢
    simp [row_e, pow18, e2]
  | false =>
    refine ⟨v, r2, w2, ?_, by show v < 1000000000000000000; omega, a2, s2, l2⟩
    generalize (v : Int) = y at e2 ⊢
    simp [row_e, e2]
theorem row_ok (hM : ∀ w', sRange1 [.int mi] w' = .ok (all, none) w') (lm : all.length = m) (lm8 : m ≤ 8) (s : RS w r) (h0 : 0 < most) (hmo : most ≤ 1000) (o : Ok 9 r) :
    ∃ (q : List Nat) (r' : Rng) (w' : World), s__law_ln_row [.cell 1, .int mi, .int (most : Int)] w = .ok (rwT q) w' ∧ q.length = m ∧ (∀ x ∈ q, x < bigN) ∧ Adv 9 r r' ∧ RS w' r' ∧ Lk w w' := by
  obtain ⟨y, r1, w1, e1, y0, y12, A1, s1, l1⟩ := draw_st (n := 12) s (by decide) (by decide) (o.on Adv.refl 1 (by decide))
  obtain ⟨q, r2, w2, e2, h1, h2, A2, s2, l2⟩ := comp_nat (e := row_e) (i := 4) (ρ0 := [some (.cell 1), some (.int mi), some (.int (most : Int)), some (.bl (decide (y = 0))), none]) (all := all) s1 (o.on A1 all.length (by omega)) (by omega) (fun t ht w r s o => row_e_ok s h0 hmo o)
  refine ⟨q, r2, w2, ?_, by rw [h1, lm], h2, (A1.trans A2).mono (by omega), s2, l1.trans l2⟩
  unfold s__law_ln_row rwT
  rw [row_parts]
  generalize (q.map fun (i : Nat) => T.int (i : Int)) = out at e2 ⊢
  generalize (most : Int) = ms at e2 ⊢
  unfold runB
  simp [e1, hM, wipeE, e2]
theorem near_e_ok (s : RS w r) (o : Ok 1 r) {rv : T} {x : Nat} (hx : x < bigN) : ∃ (k : Nat) (r' : Rng) (w' : World), near_e [some (.cell 1), some rv, some (.int (x : Int))] w = .ok (.int (k : Int)) w' ∧ k < bigN ∧ Adv 1 r r' ∧ RS w' r' ∧ Lk w w' := by
  obtain ⟨v, r2, w2, e2, v0, v3, a2, s2, l2⟩ := draw_st (n := 3) s (by decide) (by decide) o
  have hx' : (x : Int) < 1000000000000000000 := by have h : x < 1000000000000000000 := hx; omega
  have hx0 : 0 ≤ (x : Int) := by omega
  generalize (x : Int) = y at hx' hx0 ⊢
  obtain ⟨z, hz⟩ : ∃ z : Int, z = if y + v - 1 < 999999999999999999 then y + v - 1 else 999999999999999999 := ⟨_, rfl⟩
  obtain ⟨k, hk⟩ : ∃ k : Nat, (if z > 0 then z else 0) = (k : Int) := ⟨(if z > 0 then z else 0).toNat, by split <;> omega⟩
  have hb : z ≤ 999999999999999999 := by rw [hz]; split <;> omega
  have e3 : ∀ v' : World, sMin2 [.int 999999999999999999, .int (y + v - 1)] v' = .ok (.int z) v' := fun v' => by rw [sMin2_, ← hz]
  have e4 : ∀ v' : World, sMax2 [.int 0, .int z] v' = .ok (.int (k : Int)) v' := fun v' => by rw [sMax2_, hk]
  refine ⟨k, r2, w2, ?_, by show k < 1000000000000000000; split at hk <;> omega, a2, s2, l2⟩
  generalize (k : Int) = k1 at e4 ⊢
  simp [near_e, pow18, e2, -sMin2_, -sMax2_, e3, e4]
theorem near_ok (s : RS w r) {p : List Nat} (hp : p.length ≤ 8) (hb : ∀ x ∈ p, x < bigN) (o : Ok 8 r) :
    ∃ (q : List Nat) (r' : Rng) (w' : World), s__law_ln_near [.cell 1, rwT p] w = .ok (rwT q) w' ∧ q.length = p.length ∧ (∀ x ∈ q, x < bigN) ∧ Adv 8 r r' ∧ RS w' r' ∧ Lk w w' := by
  have hlen : (p.map fun (i : Nat) => T.int (i : Int)).length = p.length := List.length_map ..
  obtain ⟨q, r2, w2, e2, h1, h2, A2, s2, l2⟩ := comp_nat (e := near_e) (i := 2) (ρ0 := [some (.cell 1), some (rwT p), none]) (all := p.map fun (i : Nat) => T.int (i : Int)) s (o.on Adv.refl _ (by rw [hlen]; omega)) (by rw [hlen]; omega) (fun t ht w r s o => by
    obtain ⟨x, hx, rfl⟩ := List.mem_map.mp ht
    exact near_e_ok s o (hb x hx))
  rw [hlen] at h1 A2
  refine ⟨q, r2, w2, ?_, h1, h2, A2.mono (by omega), s2, l2⟩
  unfold s__law_ln_near
  rw [near_parts]
  unfold rwT at e2 ⊢
  generalize (q.map fun (i : Nat) => T.int (i : Int)) = out at e2 ⊢
  generalize (p.map fun (i : Nat) => T.int (i : Int)) = ts at e2 ⊢
  unfold runB
  simp [wipeE, e2]
end
end VS

set_option Elab.async false
set_option linter.all false
set_option maxRecDepth 100000
set_option maxHeartbeats 4000000
namespace VS
open PySem PySem.Spec PyProof.Rows L2
noncomputable def rs_b : MS := (mSeq (mAsg (mDef 2 s__law_draw (mCons (mVar 0) (mCons (mC (.int 5)) mNil))) (mgName 6))
 (mIfS (mOr (mTest (mOp2 sEq (mVar 4) (mVal (mLst mNil)))) (mTest (mOp2 sLt (mVar 6) (mC (.int 3)))))
 (mDrop (mMeth sAppend (mVar 4) (mCons (mDef 3 s__law_ln_row (mCons (mVar 0) (mCons (mVar 1) (mCons (mVar 3) mNil)))) mNil)))
 (mSeq (mAsg (mDef 2 s__law_pick (mCons (mVar 0) (mCons (mVar 4) mNil))) (mgName 7))
 (mDrop (mMeth sAppend (mVar 4) (mCons (mIf (mTest (mOp2 sEq (mVar 6) (mC (.int 3)))) (mDef 2 s__law_ln_near (mCons (mVar 0) (mCons (mVar 7) mNil))) (mVar 7)) mNil))))))
theorem rs_parts : m__law_ln_rows = (mSeq (mAsg (mCell (mLst mNil)) (mgName 4)) (mSeq (mFor (mRange1 (mCons (mVar 2) mNil)) (mgName 5) rs_b) (mRet (mVar 4)))) := rfl
section
variable {w w0 : World} {r : Rng} {m most i : Nat} {all allC : List T} {mi ci : Int} {rs : List (List Nat)} {a5 a6 a7 : Option T}
structure Dr (w0 w : World) (m : Nat) (rs : List (List Nat)) : Prop where
  ln : w.length = w0.length + 1
  at_ : w[w0.length]? = some (.lst (rs.map rwT))
  same : ∀ k, 2 ≤ k → k < w0.length → w[k]? = w0[k]?
  row : ∀ q ∈ rs, q.length = m ∧ ∀ x ∈ q, x < bigN
theorem rs_len (h : RS w r) : 2 ≤ w.length := by
  obtain ⟨rest, rfl⟩ := h
  show 2 ≤ rest.length + 2
  omega
theorem rs_set {k : Nat} {c : Cell} (h : RS w r) (hk : 2 ≤ k) : RS (w.set k c) r := rs_of h (List.getElem?_set_ne (by omega)) (List.getElem?_set_ne (by omega))
theorem rs_app {c : Cell} (h : RS w r) : RS (w ++ [c]) r := by
  obtain ⟨rest, rfl⟩ := h
  exact ⟨rest ++ [c], rfl⟩
theorem eq_nil {k : Nat} {ts : List T} (hk : w[k]? = some (.lst ts)) (h : ∀ t ∈ ts, PlainT 50 t) : sEq (.cell k) (.lst []) w = .ok (.bl (decide (ts = []))) w := by
  have h := ne_nil hk h
  unfold sNe at h
  unfold sEq
  cases q : eqT w (.cell k) (.lst []) with
  | none => rw [q] at h; cases h
  | some b =>
    rw [q] at h
    simp at h
    cases b <;> simp_all
theorem Dr.push {w' : World} {q : List Nat} (L : Dr w0 w m rs) (h2 : 2 ≤ w0.length) (l : Lk w w') (hq : q.length = m ∧ ∀ x ∈ q, x < bigN) : Dr w0 (w'.set w0.length (.lst (rs.map rwT ++ [rwT q]))) m (rs ++ [q]) := by
  have lt : w0.length < w'.length := by rw [l.len, L.ln]; omega
  refine ⟨by rw [List.length_set, l.len, L.ln], by rw [List.getElem?_set_self lt, List.map_append]; rfl, fun k hk hk2 => ?_, fun p hp => ?_⟩
  · rw [List.getElem?_set_ne (by omega), l.cell k hk]
    exact L.same k hk hk2
  · rcases List.mem_append.mp hp with hp | hp
    · exact L.row p hp
    · rw [List.mem_singleton.mp hp]; exact hq
abbrev Er (mi ci : Int) (most : Nat) (n : Nat) (a5 a6 a7 : Option T) : Env := [some (.cell 1), some (.int mi), some (.int ci), some (.int (most : Int)), some (.cell n), a5, a6, a7]
theorem rs_step (hM : ∀ w', sRange1 [.int mi] w' = .ok (all, none) w') (lm : all.length = m) (lm8 : m ≤ 8) (h0 : 0 < most) (hmo : most ≤ 1000) (s : RS w r) (L : Dr w0 w m rs) (h2 : 2 ≤ w0.length) (hl : rs.length ≤ 50) (o : Ok 10 r) :
    ∃ (q : List Nat) (y6 y7 : Option T) (r' : Rng) (w' : World), rs_b (Er mi ci most w0.length a5 a6 a7) w = .ok (Er mi ci most w0.length a5 y6 y7, .nx) w' ∧ Dr w0 w' m (rs ++ [q]) ∧ Adv 10 r r' ∧ RS w' r' := by
  obtain ⟨y, r1, w1, e1, y0, y5, A1, s1, l1⟩ := draw_st (n := 5) s (by decide) (by decide) (o.on Adv.refl 1 (by decide))
  have at1 : w1[w0.length]? = some (.lst (rs.map rwT)) := by rw [l1.cell _ h2]; exact L.at_
  have e2 := eq_nil (w := w1) at1 (fun t ht => by
    obtain ⟨q, _, rfl⟩ := List.mem_map.mp ht
    exact plain_mono (row_plain q) (by decide))
  have hnil : decide (rs.map rwT = []) = decide (rs = []) := decide_eq_decide.mpr (by simp)
  rw [hnil] at e2
  have el := lst_cell at1
  by_cases hc : rs = [] ∨ y < 3
  · obtain ⟨q, r2, w2, e3, h1, h3, A2, s2, l2⟩ := row_ok hM lm lm8 s1 h0 hmo (o.on A1 9 (by decide))
    have at2 : w2[w0.length]? = some (.lst (rs.map rwT)) := by rw [l2.cell _ h2]; exact at1
    have e4 := append_cell (t := rwT q) at2 (by rw [List.length_map]; omega)
    refine ⟨q, some (.int y), a7, r2, _, ?_, L.push h2 (l1.trans l2) ⟨h1, h3⟩, (A1.trans A2).mono (by decide), rs_set s2 h2⟩
    generalize w2.set w0.length (.lst (rs.map rwT ++ [rwT q])) = w3 at e4 ⊢
    generalize rwT q = v at e3 e4
    by_cases hr : rs = []
    · rw [decide_eq_true hr] at e2
      simp [rs_b, e1, e2, el, e3, e4]
    · have hy : y < 3 := hc.resolve_left hr
      rw [decide_eq_false hr] at e2
      simp [rs_b, e1, e2, hy, el, e3, e4]
  · have hr : ¬ rs = [] := fun h => hc (.inl h)
    have hy : ¬ y < 3 := fun h => hc (.inr h)
    rw [decide_eq_false hr] at e2
    obtain ⟨t, r2, w2, e3, ht, A2, s2, l2⟩ := pickC_st s1 h2 at1 (by rw [List.length_map]; exact List.length_pos_iff.mpr hr) (by rw [List.length_map]; omega) (o.on A1 1 (by decide))
    obtain ⟨p, hp, rfl⟩ := List.mem_map.mp ht
    obtain ⟨g1, g2⟩ := L.row p hp
    have at2 : w2[w0.length]? = some (.lst (rs.map rwT)) := by rw [l2.cell _ h2]; exact at1
    have el2 := lst_cell at2
    by_cases h3 : y = 3
    · obtain ⟨q, r3, w3, e4, k1, k2, A3, s3, l3⟩ := near_ok s2 (p := p) (by omega) g2 (o.on (A1.trans A2) 8 (by decide))
      have at3 : w3[w0.length]? = some (.lst (rs.map rwT)) := by rw [l3.cell _ h2]; exact at2
      have e5 := append_cell (t := rwT q) at3 (by rw [List.length_map]; omega)
      refine ⟨q, some (.int y), some (rwT p), r3, _, ?_, L.push h2 ((l1.trans l2).trans l3) ⟨by omega, k2⟩, ((A1.trans A2).trans A3).mono (by decide), rs_set s3 h2⟩
      generalize w3.set w0.length (.lst (rs.map rwT ++ [rwT q])) = w4 at e5 ⊢
      generalize rwT q = v at e4 e5
      generalize rwT p = u at e3 e4 ⊢
      subst h3
      simp [rs_b, e1, e2, e3, el2, e4, e5]
    · have e5 := append_cell (t := rwT p) at2 (by rw [List.length_map]; omega)
      refine ⟨p, some (.int y), some (rwT p), r2, _, ?_, L.push h2 (l1.trans l2) ⟨g1, g2⟩, (A1.trans A2).mono (by decide), rs_set s2 h2⟩
      generalize w2.set w0.length (.lst (rs.map rwT ++ [rwT p])) = w4 at e5 ⊢
      generalize rwT p = u at e3 e5 ⊢
      simp [rs_b, e1, e2, hy, e3, el2, h3, e5]
theorem rows_ok (hM : ∀ w', sRange1 [.int mi] w' = .ok (all, none) w') (hC : ∀ w', sRange1 [.int ci] w' = .ok (allC, none) w') (lm : all.length = m) (lm8 : m ≤ 8) (lc : allC.length ≤ 9) (h0 : 0 < most) (hmo : most ≤ 1000) (s : RS w r) (o : Ok 90 r) :
    ∃ (rs : List (List Nat)) (r' : Rng) (w' : World), s__law_ln_rows [.cell 1, .int mi, .int ci, .int (most : Int)] w = .ok (.lst (rs.map rwT)) w' ∧ rs.length = allC.length ∧ (∀ q ∈ rs, q.length = m ∧ ∀ x ∈ q, x < bigN) ∧ Adv 90 r r' ∧ RS w' r' ∧ Lk w w' := by
  have h2 := rs_len s
  have k1 : (mAsg (mCell (mLst mNil)) (mgName 4)) [some (.cell 1), some (.int mi), some (.int ci), some (.int (most : Int)), none, none, none, none] w = .ok (Er mi ci most w.length none none none, .nx) (w ++ [.lst []]) := by simp
  have e0 : (mFor (mRange1 (mCons (mVar 2) mNil)) (mgName 5) rs_b) (Er mi ci most w.length none none none) (w ++ [.lst []]) = forL (mgName 5) rs_b none allC allC (Er mi ci most w.length none none none) (w ++ [.lst []]) := by
    have := hC (w ++ [.lst []])
    generalize w ++ [Cell.lst []] = w1 at this ⊢
    simp [this]
  obtain ⟨ρ', w1, e1, rs, y5, y6, y7, r1, rfl, L1, hl, s1, A1⟩ := forL_run (w := w ++ [.lst []]) (g := mgName 5) (b := rs_b) (all := allC) (ρ := Er mi ci most w.length none none none)
    (P := fun i ρ w' => ∃ (rs : List (List Nat)) (y5 y6 y7 : Option T) (r' : Rng), ρ = Er mi ci most w.length y5 y6 y7 ∧ Dr w w' m rs ∧ rs.length = i ∧ RS w' r' ∧ Adv (10 * i) r r') ⟨[], none, none, none, r, rfl, ⟨by simp, by simp, fun k _ hk => List.getElem?_append_left hk, (fun q hq => nomatch hq)⟩, rfl, rs_app s, by simpa using Adv.refl⟩ (fun i t ρ w' ht p => by
      obtain ⟨rs, y5, y6, y7, r', rfl, L, hl, s', A⟩ := p
      have hi := (List.getElem?_eq_some_iff.mp ht).1
      obtain ⟨q, z6, z7, r2, w2, e2, L2, A2, s2⟩ := rs_step (mi := mi) (ci := ci) (a5 := some t) (a6 := y6) (a7 := y7) hM lm lm8 h0 hmo s' L h2 (by omega) (o.on A 10 (by omega))
      refine ⟨_, w2, ?_, rs ++ [q], some t, z6, z7, r2, rfl, L2, by rw [List.length_append]; simp; omega, s2, (A.trans A2).mono (by push_cast; omega)⟩
      rw [mgName_, bind_ok']
      exact e2)
  have er : runB 8 m__law_ln_rows [.cell 1, .int mi, .int ci, .int (most : Int)] w = .ok (.cell w.length) w1 := by
    rw [rs_parts]
    exact run_ret (n := 8) (ds := [.cell 1, .int mi, .int ci, .int (most : Int)]) (ρ' := Er mi ci most w.length y5 y6 y7) ((seq_nx k1).trans ((seq_nx (e0.trans e1)).trans (by simp)))
  obtain ⟨w2, e3, s3, l3⟩ := gc_cells (k := 2) (ts := rs.map rwT) s s1 (by rw [L1.ln]; omega) L1.same er (Nat.le_refl _) L1.at_ (fun t ht => by
    obtain ⟨q, _, rfl⟩ := List.mem_map.mp ht
    exact row_plain q)
  exact ⟨rs, r1, w2, e3, hl, L1.row, A1.mono (by omega), s3, l3⟩
end
end VS

set_option Elab.async false
set_option linter.all false
set_option maxRecDepth 100000
set_option maxHeartbeats 4000000
namespace VS
open PySem PySem.Spec PyProof.Rows L2
theorem Far.above {rs : List (List Nat)} {m : Nat} {mo row : List Nat} (f : Far (· ≤ ·) rs m mo) (hs : ∀ r ∈ rs, r.length = m) : leB mo row = rs.all fun r => leB r row := by
  rw [Bool.eq_iff_iff, List.all_eq_true]
  constructor
  · intro h r hr
    refine leB_of fun k x y hx hy => ?_
    have hk := (List.getElem?_eq_some_iff.mp hx).1
    have hkm : k < mo.length := by have := f.len; have := hs r hr; omega
    have hz : mo[k]? = some mo[k] := List.getElem?_eq_getElem hkm
    exact Nat.le_trans ((f.at_ k _ hz).2 r hr x hx) (leB_to h k _ y hz hy)
  · intro h
    refine leB_of fun k x y hx hy => ?_
    obtain ⟨⟨r, hr, hrk⟩, _⟩ := f.at_ k x hx
    exact leB_to (h r hr) k x y hrk hy
theorem Far.below {rs : List (List Nat)} {m : Nat} {mo row : List Nat} (f : Far (fun y x => x ≤ y) rs m mo) (hs : ∀ r ∈ rs, r.length = m) : leB row mo = rs.all fun r => leB row r := by
  rw [Bool.eq_iff_iff, List.all_eq_true]
  constructor
  · intro h r hr
    refine leB_of fun k x y hx hy => ?_
    have hk := (List.getElem?_eq_some_iff.mp hy).1
    have hkm : k < mo.length := by have := f.len; have := hs r hr; omega
    have hz : mo[k]? = some mo[k] := List.getElem?_eq_getElem hkm
    exact Nat.le_trans (leB_to h k x _ hx hz) ((f.at_ k _ hz).2 r hr y hy)
  · intro h
    refine leB_of fun k x y hx hy => ?_
    obtain ⟨⟨r, hr, hrk⟩, _⟩ := f.at_ k y hy
    exact leB_to (h r hr) k x y hx hrk
theorem Far.one {R : Nat → Nat → Prop} {p mo : List Nat} {m : Nat} (f : Far R [p] m mo) (hp : p.length = m) : mo = p := by
  refine List.ext_getElem? fun i => ?_
  by_cases hi : i < m
  · have hz : mo[i]? = some (mo[i]'(by have := f.len; omega)) := List.getElem?_eq_getElem (by have := f.len; omega)
    obtain ⟨⟨r, hr, h⟩, _⟩ := f.at_ i _ hz
    rw [List.mem_singleton.mp hr] at h
    rw [hz, h]
  · rw [List.getElem?_eq_none (by have := f.len; omega), List.getElem?_eq_none (by omega)]
theorem Far.rowN {R : Nat → Nat → Prop} {rs : List (List Nat)} {mo : List Nat} {m : Nat} (f : Far R rs m mo) (h : ∀ r ∈ rs, RowN r) (h1 : 1 ≤ m) (h6 : m ≤ 6) : RowN mo := by
  refine ⟨by rw [f.len]; exact h1, by rw [f.len]; exact h6, fun x hx => ?_⟩
  obtain ⟨i, hi, e⟩ := List.getElem_of_mem hx
  obtain ⟨⟨r, hr, hrk⟩, _⟩ := f.at_ i x (by rw [List.getElem?_eq_getElem hi, e])
  exact (h r hr).b x (List.mem_of_getElem? hrk)
section
variable {w : World} {a b rv t : T} {rs : List (List Nat)} {p q : List Nat} {m : Nat} {F : List Int → Option Int}
theorem rowOf_rw (h : RowN p) : rowOf p.length (rwT p) = true := by
  simp only [rowOf, rwT, List.length_map, decide_true, Bool.true_and]
  refine List.all_eq_true.mpr fun t ht => ?_
  obtain ⟨x, hx, rfl⟩ := List.mem_map.mp ht
  have := h.b x hx
  simp [cnt]
  omega
theorem is_below_ok (hp : RowN p) (hq : RowN q) (hl : p.length = q.length) : s_is_below [rwT p, rwT q] w = .ok (.bl (leB p q)) w := by
  have e1 := is_row_ok (w := w) (vx_row p (by have := hp.l6; omega))
  rw [isRow_rw hp] at e1
  have e2 := rowOf_ok (w := w) (vx_row q (by have := hq.l6; omega)) p.length
  rw [hl, rowOf_rw hq, ← hl] at e2
  have e3 := below_ok (w := w) (r := p) (q := q) (by have := hp.l6; omega)
  have el : sLen [rwT p] w = .ok (.int (p.length : Int)) w := by simp [rwT]
  unfold s_is_below m_is_below runB
  generalize rwT p = u at e1 e2 e3 el
  generalize rwT q = v at e2 e3
  generalize (p.length : Int) = z at e2 el
  simp [e1, el, e2, e3]
theorem is_below_bad1 (h : Vx a) (hb : isRow a = false) : s_is_below [a, b] w = .ex (.exc "BadRow" [] []) [] w := by
  have e1 := is_row_ok (w := w) h
  rw [hb] at e1
  unfold s_is_below m_is_below runB
  simp [e1, mRaise]
theorem is_below_bad2 (hp : RowN p) (h : Vx b) (hb : rowOf p.length b = false) : s_is_below [rwT p, b] w = .ex (.exc "BadRow" [] []) [] w := by
  have e1 := is_row_ok (w := w) (vx_row p (by have := hp.l6; omega))
  rw [isRow_rw hp] at e1
  have e2 := rowOf_ok (w := w) h p.length
  rw [hb] at e2
  have el : sLen [rwT p] w = .ok (.int (p.length : Int)) w := by simp [rwT]
  unfold s_is_below m_is_below runB
  generalize rwT p = u at e1 el
  generalize (p.length : Int) = z at e2 el
  simp [e1, el, e2, mRaise]
/-- what is no list of rows, or holds none -/
structure BadW (t : T) : Prop where
  vx : Vx t
  few : ∀ ts, t = .lst ts → ts.length ≤ 60
  bad : badR t = true ∨ t = .lst [] ∨ t = .tup []
theorem jn_bad (h : BadW t) : runB 2 (jn F) [t] w = .ex (.exc "BadRows" [] []) [] w := by
  have e : s__check_some_rows [t] w = .ex (.exc "BadRows" [] []) [] w := by
    rcases h.bad with hb | rfl | rfl
    · have e1 := rows_bad (w := w) h.vx h.few hb
      unfold s__check_some_rows m__check_some_rows runB
      simp [e1]
    · have e1 := check_rows_ok (w := w) (rv := .lst []) (rs := []) (m := 0) ⟨.inr rfl, by simp, (fun r hr => nomatch hr), (fun r hr => nomatch hr)⟩
      unfold s__check_some_rows m__check_some_rows runB
      simp [e1, tru_lst, mRaise]
    · have e1 := check_rows_ok (w := w) (rv := .tup []) (rs := []) (m := 0) ⟨.inl rfl, by simp, (fun r hr => nomatch hr), (fun r hr => nomatch hr)⟩
      unfold s__check_some_rows m__check_some_rows runB
      simp [e1, tru_tup, mRaise]
  unfold jn runB
  simp [e]
theorem joined_bad (h : BadW t) : s_joined [t] w = .ex (.exc "BadRows" [] []) [] w := jn_bad (F := fMax) h
theorem common_bad (h : BadW t) : s_common [t] w = .ex (.exc "BadRows" [] []) [] w := jn_bad (F := fMin) h
/-- rows and a longer one -/
theorem bad_long (hne : rs ≠ []) (h1 : ∀ r ∈ rs, r.length = m) (hq : q.length ≠ m) (hq6 : q.length ≤ 60) (h6 : m ≤ 60) (hl : rs.length ≤ 50) : BadW (.lst (rs.map rwT ++ [rwT q])) := by
  refine ⟨.lst _ fun u hu => ?_, fun ts e => ?_, .inl ?_⟩
  · rcases List.mem_append.mp hu with hu | hu
    · obtain ⟨r, hr, rfl⟩ := List.mem_map.mp hu
      exact vx_row r (by have := h1 r hr; omega)
    · rw [List.mem_singleton.mp hu]; exact vx_row q hq6
  · cases e
    simp
    omega
  · cases rs with
    | nil => exact absurd rfl hne
    | cons a rs =>
      have hf : alikeB ((a :: rs).map rwT ++ [rwT q]) = false := by
        rw [Bool.eq_false_iff]
        intro h
        unfold alikeB at h
        rw [Bool.and_eq_true] at h
        have := List.all_eq_true.mp h.2 (rwT q) (by simp)
        have hd : firstL ((a :: rs).map rwT ++ [rwT q]) = a.length := by simp [firstL, lenT, rwT]
        rw [decide_eq_true_eq, hd] at this
        have hh := h1 a (.head _)
        simp [lenT, rwT] at this
        omega
      rw [List.map_cons, List.cons_append] at hf ⊢
      simp [badR, isLst, hf]
theorem bad_head (hne : rs ≠ []) (h1 : ∀ r ∈ rs, r.length = m) (h6 : m ≤ 60) (hv : Vx b) (hb : rowOf m b = false) (hl : rs.length ≤ 50) : BadW (.lst (b :: rs.map rwT)) := by
  refine ⟨.lst _ fun u hu => ?_, fun ts e => ?_, .inl ?_⟩
  · rcases List.mem_cons.mp hu with rfl | hu
    · exact hv
    · obtain ⟨r, hr, rfl⟩ := List.mem_map.mp hu
      exact vx_row r (by have := h1 r hr; omega)
  · cases e
    simp
    omega
  · have hf : alikeB (b :: rs.map rwT) = false := by
      rw [Bool.eq_false_iff]
      intro h
      unfold alikeB at h
      rw [Bool.and_eq_true] at h
      cases rs with
      | nil => exact absurd rfl hne
      | cons a rs =>
        have h2 := List.all_eq_true.mp h.2 (rwT a) (by simp)
        have h3 := List.all_eq_true.mp h.1 b (.head _)
        obtain ⟨p, hp, rfl⟩ := isRow_of h3
        have hd : firstL (rwT p :: (a :: rs).map rwT) = p.length := by simp [firstL, lenT, rwT]
        rw [decide_eq_true_eq, hd] at h2
        have hh := h1 a (.head _)
        have e : p.length = m := by
          simp [lenT, rwT] at h2
          omega
        rw [← e, rowOf_rw hp] at hb
        cases hb
    simp [badR, isLst, hf]
theorem badL_W (h : t ∈ badL) : BadW t := by
  obtain ⟨h1, h2, h3⟩ := badL_in h
  exact ⟨h1, h3, .inl h2⟩
/-- no row -/
def NoRow (t : T) : Prop := Vx t ∧ isRow t = false
theorem rowOf_no (h1 : 1 ≤ m) (h6 : m ≤ 6) (h : isRow t = false) : rowOf m t = false := by
  cases t with
  | tup ts =>
    rw [Bool.eq_false_iff]
    intro g
    simp only [rowOf, Bool.and_eq_true, decide_eq_true_eq] at g
    obtain ⟨g1, g2⟩ := g
    have : isRow (.tup ts) = true := by
      simp only [isRow, Bool.and_eq_true, decide_eq_true_eq]
      exact ⟨by omega, by omega, g2⟩
    rw [this] at h
    cases h
  | _ => rfl
end
end VS

set_option Elab.async false
set_option linter.all false
set_option maxRecDepth 100000
set_option maxHeartbeats 4000000
namespace VS
open PySem PySem.Spec PyProof.Rows L2
noncomputable def p_law1 : MS := (mAsg (mDef 1 s__law_begun (mCons (mVar 0) mNil)) (mgName 1))
noncomputable def p_law2b1 : MS := (mAsg (mOp2 sAdd (mC (.int 1)) (mDef 2 s__law_draw (mCons (mVar 1) (mCons (mC (.int 6)) mNil)))) (mgName 3))
noncomputable def p_law2b2 : MS := (mAsg (mDef 4 s__law_ln_rows (mCons (mVar 1) (mCons (mVar 3) (mCons (mOp2 sAdd (mC (.int 1)) (mDef 2 s__law_draw (mCons (mVar 1) (mCons (mC (.int 7)) mNil)))) (mCons (mOp2 sAdd (mC (.int 1)) (mDef 2 s__law_draw (mCons (mVar 1) (mCons (mC (.int 4)) mNil)))) mNil))))) (mgName 4))
noncomputable def p_law2b3 : MS := (mAsg (mIf (mTest (mOp2 sEq (mDef 2 s__law_draw (mCons (mVar 1) (mCons (mC (.int 2)) mNil))) (mC (.int 0)))) (mVal (mCallF sList (mCons (mVar 4) mNil))) (mCall sTup (mCons (mVar 4) mNil))) (mgName 5))
noncomputable def p_law2b4 : MS := (mAsg (mTup (mCons (mDefP 1 0 1 [0] s_joined mNil (mCons (mVar 5) mNil)) (mCons (mDefP 1 0 1 [0] s_common mNil (mCons (mVar 5) mNil)) mNil))) (mgTup 2 (mgCons (mgName 12) (mgCons (mgName 13) mgNil))))
noncomputable def p_law2b5 : MS := (mIfS (mOr (mTest (mOp2 sNe (mCall sShow (mCons (mVal (mCallF sList (mCons (mVar 5) mNil))) mNil)) (mCall sShow (mCons (mVar 4) mNil)))) (mOr (mNot (mTru (mDef 1 s__law_ln_is_row (mCons (mVar 12) mNil)))) (mNot (mTru (mDef 1 s__law_ln_is_row (mCons (mVar 13) mNil)))))) (mRet (mC (.bl false))) mSkip)
noncomputable def p_law2b6 : MS := (mIfS (mOr (mTest (mOp2 sNe (mCall sLen (mCons (mVar 12) mNil)) (mVar 3))) (mTest (mOp2 sNe (mCall sLen (mCons (mVar 13) mNil)) (mVar 3)))) (mRet (mC (.bl false))) mSkip)
noncomputable def p_law2b7 : MS := (mAsg (mVal (mOp2F sCat (mVal (mLst (mCons (mDef 2 s__law_ln_near (mCons (mVar 1) (mCons (mVar 12) mNil))) (mCons (mDef 2 s__law_ln_near (mCons (mVar 1) (mCons (mVar 13) mNil))) (mCons (mVar 12) (mCons (mVar 13) mNil)))))) (mVar 4))) (mgName 6))
noncomputable def p_law2b8 : MS := (mAsg (mVal (mOp2F sCat (mVar 6) (mVal (mLst (mCons (mDef 3 s__law_ln_row (mCons (mVar 1) (mCons (mVar 3) (mCons (mC (.int 4)) mNil)))) (mCons (mOp2 sMulT (mTup (mCons (mC (.int 0)) mNil)) (mVar 3)) (mCons (mOp2 sMulT (mTup (mCons (mOp2 sSub (mOp2 sPow (mC (.int 10)) (mC (.int 18))) (mC (.int 1))) mNil)) (mVar 3)) mNil))))))) (mgName 6))
noncomputable def p_law2b9b1 : MS := (mAsg (mOp2 sEq (mVal (mComp [16] (mItems (mVar 4)) (mgName 16) (mNot (mTru (mDef 2 s__law_ln_under (mCons (mVar 16) (mCons (mVar 7) mNil))))) (mC (.int 1)))) (mVal (mLst mNil))) (mgName 14))
noncomputable def p_law2b9b2 : MS := (mAsg (mOp2 sEq (mVal (mComp [16] (mItems (mVar 4)) (mgName 16) (mNot (mTru (mDef 2 s__law_ln_under (mCons (mVar 7) (mCons (mVar 16) mNil))))) (mC (.int 1)))) (mVal (mLst mNil))) (mgName 15))
noncomputable def p_law2b9b3 : MS := (mIfS (mOr (mTest (mOp2 sNe (mDef 2 s__law_ln_under (mCons (mVar 12) (mCons (mVar 7) mNil))) (mVar 14))) (mTest (mOp2 sNe (mDef 2 s__law_ln_under (mCons (mVar 7) (mCons (mVar 13) mNil))) (mVar 15)))) (mRet (mC (.bl false))) mSkip)
noncomputable def p_law2b9b4 : MS := (mAsg (mDef 2 s__law_pick (mCons (mVar 1) (mCons (mVar 6) mNil))) (mgName 16))
noncomputable def p_law2b9b5 : MS := (mIfS (mNot (mTru (mDef 2 s__law_is_truth (mCons (mDefP 2 0 2 [0, 1] s_is_below mNil (mCons (mVar 7) (mCons (mVar 16) mNil))) (mCons (mDef 2 s__law_ln_under (mCons (mVar 7) (mCons (mVar 16) mNil))) mNil))))) (mRet (mC (.bl false))) mSkip)
noncomputable def p_law2b9b : MS := (mSeq p_law2b9b1 (mSeq p_law2b9b2 (mSeq p_law2b9b3 (mSeq p_law2b9b4 p_law2b9b5))))
noncomputable def p_law2b9 : MS := mFor (mItems (mVar 6)) (mgName 7) p_law2b9b
noncomputable def p_law2b10 : MS := (mIfS (mOr (mTest (mOp2 sNe (mCall sShow (mCons (mDef 1 s_joined (mCons (mVal (mLst (mCons (mVar 12) mNil))) mNil)) mNil)) (mCall sShow (mCons (mVar 12) mNil)))) (mTest (mOp2 sNe (mCall sShow (mCons (mDef 1 s_common (mCons (mTup (mCons (mVar 13) mNil)) mNil)) mNil)) (mCall sShow (mCons (mVar 13) mNil))))) (mRet (mC (.bl false))) mSkip)
noncomputable def p_law2b11 : MS := (mAsg (mVal (mLst (mCons (mC .non) (mCons (mC (.int 3)) (mCons (mTup mNil) (mCons (mVal (mOp2F sRep (mVal (mLst (mCons (mC (.int 0)) mNil))) (mVar 3))) (mCons (mOp2 sMulT (mTup (mCons (mOp1 sNeg (mC (.int 1))) mNil)) (mVar 3)) (mCons (mOp2 sMulT (mTup (mCons (mC (.bl true)) mNil)) (mVar 3)) (mCons (mOp2 sMulT (mTup (mCons (mC (.int 0)) mNil)) (mC (.int 7))) (mCons (mOp2 sMulT (mTup (mCons (mOp2 sPow (mC (.int 10)) (mC (.int 18))) mNil)) (mVar 3)) (mCons (mC (.str "0")) mNil))))))))))) (mgName 8))
noncomputable def p_law2b12 : MS := (mAsg (mDef 2 s__law_pick (mCons (mVar 1) (mCons (mVar 8) mNil))) (mgName 9))
noncomputable def p_law2b13 : MS := (mIfS (mNot (mTru (mCall (sIsX isTab) (mCons (mCaught caughtL (mDef 2 s_is_below (mCons (mVar 9) (mCons (mC .non) mNil)))) (mCons (mC (.glb "BadRow")) mNil))))) (mRet (mC (.bl false))) mSkip)
noncomputable def p_law2b14 : MS := (mAsg (mDef 2 s__law_pick (mCons (mVar 1) (mCons (mVal (mLst (mCons (mVar 9) (mCons (mOp2 sAdd (mVar 12) (mTup (mCons (mC (.int 0)) mNil))) (mCons (mSlT (mVar 12) (mPart (mC (.int 1))) mNoPart) mNil))))) mNil))) (mgName 9))
noncomputable def p_law2b15 : MS := (mIfS (mNot (mTru (mCall (sIsX isTab) (mCons (mCaught caughtL (mDef 2 s_is_below (mCons (mVar 12) (mCons (mVar 9) mNil)))) (mCons (mC (.glb "BadRow")) mNil))))) (mRet (mC (.bl false))) mSkip)
noncomputable def p_law2b16 : MS := (mAsg (mDef 2 s__law_pick (mCons (mVar 1) (mCons (mVal (mLst (mCons (mDef 1 s__law_ln_bad_rows (mCons (mVar 1) mNil)) (mCons (mVal (mLst mNil)) (mCons (mTup mNil) (mCons (mVal (mOp2F sCat (mVar 4) (mVal (mLst (mCons (mOp2 sAdd (mVar 12) (mTup (mCons (mC (.int 0)) mNil))) mNil))))) (mCons (mVal (mOp2F sCat (mVal (mLst (mCons (mVar 9) mNil))) (mVar 4))) mNil))))))) mNil))) (mgName 10))
noncomputable def p_law2b17bz : MS := (mIfS (mNot (mTru (mCall (sIsX isTab) (mCons (mCaught caughtL (mDefT 11 [ ("joined" , s_joined) , ("common" , s_common) ] 1 (mCons (mVar 10) mNil))) (mCons (mC (.glb "BadRows")) mNil))))) (mRet (mC (.bl false))) mSkip)
noncomputable def p_law2b17b : MS := p_law2b17bz
noncomputable def p_law2b17 : MS := mFor (mItems (mVal (mLst (mCons (mC (.glb "joined")) (mCons (mC (.glb "common")) mNil))))) (mgName 11) p_law2b17b
noncomputable def p_law2b : MS := (mSeq p_law2b1 (mSeq p_law2b2 (mSeq p_law2b3 (mSeq p_law2b4 (mSeq p_law2b5 (mSeq p_law2b6 (mSeq p_law2b7 (mSeq p_law2b8 (mSeq p_law2b9 (mSeq p_law2b10 (mSeq p_law2b11 (mSeq p_law2b12 (mSeq p_law2b13 (mSeq p_law2b14 (mSeq p_law2b15 (mSeq p_law2b16 p_law2b17))))))))))))))))
noncomputable def p_law2 : MS := mFor (mRange1 (mCons (mOp2 sAdd (mC (.int 1)) (mCall sMin2 (mCons (mCall sLen (mCons (mVar 0) mNil)) (mCons (mC (.int 5)) mNil)))) mNil)) (mgName 2) p_law2b
noncomputable def p_law3 : MS := (mRet (mC (.bl true)))
theorem law_parts : m_law = (mSeq p_law1 (mSeq p_law2 p_law3)) := rfl

theorem rgT_len (i : Int) (n : Nat) : (rgT i n).length = n := by simp [rgT]
section
variable {w : World} {r : Rng} {rs os : List (List Nat)} {sc lap t : T} {m : Nat} {mi : Int} {mo le q : List Nat} {a3 a4 a5 a6 a7 a8 a9 a10 a11 a12 a13 a14 a15 a16 : Option T} {hv : T}
abbrev Gk (sc lap : T) (a3 a4 a5 a6 a7 a8 a9 a10 a11 a12 a13 a14 a15 a16 : Option T) : Env := [some sc, some (.cell 1), some lap, a3, a4, a5, a6, a7, a8, a9, a10, a11, a12, a13, a14, a15, a16]
/-- how many, told as Python tells it -/
structure Mn (mi : Int) (m : Nat) (all : List T) : Prop where
  rg : ∀ w' : World, sRange1 [.int mi] w' = .ok (all, none) w'
  len : all.length = m
  eq : mi = (m : Int)
  lo : 1 ≤ m
  hi : m ≤ 6
theorem b1_ok (s : RS w r) (o : Ok 1 r) : ∃ (mi : Int) (m : Nat) (all : List T) (r' : Rng) (w' : World), p_law2b1 (Gk sc lap a3 a4 a5 a6 a7 a8 a9 a10 a11 a12 a13 a14 a15 a16) w = .ok (Gk sc lap (some (.int mi)) a4 a5 a6 a7 a8 a9 a10 a11 a12 a13 a14 a15 a16, .nx) w' ∧ Mn mi m all ∧ Adv 1 r r' ∧ RS w' r' := by
  obtain ⟨y1, r1, w1, e1, p0, p1, A1, s1, l1⟩ := draw_st (n := 6) s (by decide) (by decide) o
  refine ⟨1 + y1, (1 + y1).toNat, rgT 0 (1 + y1).toNat, r1, w1, ?_, ⟨fun w' => sRange1_ (by omega) (by omega), rgT_len _ _, by omega, by omega, by omega⟩, A1, s1⟩
  simp [p_law2b1, e1]
theorem b2_ok {all : List T} (M : Mn mi m all) (s : RS w r) (o : Ok 92 r) : ∃ (rs : List (List Nat)) (r' : Rng) (w' : World), p_law2b2 (Gk sc lap (some (.int mi)) a4 a5 a6 a7 a8 a9 a10 a11 a12 a13 a14 a15 a16) w = .ok (Gk sc lap (some (.int mi)) (some (.lst (rs.map rwT))) a5 a6 a7 a8 a9 a10 a11 a12 a13 a14 a15 a16, .nx) w' ∧ rs ≠ [] ∧ rs.length ≤ 9 ∧ (∀ x ∈ rs, RowN x) ∧ (∀ x ∈ rs, x.length = m) ∧ Adv 92 r r' ∧ RS w' r' := by
  obtain ⟨y2, r2, w2, e2, q0, q1, A2, s2, l2⟩ := draw_st (n := 7) s (by decide) (by decide) (o.on Adv.refl 1 (by decide))
  obtain ⟨y3, r3, w3, e3, u0, u1, A3, s3, l3⟩ := draw_st (n := 4) s2 (by decide) (by decide) (o.on A2 1 (by decide))
  have hC : ∀ w', sRange1 [.int (1 + y2)] w' = .ok (rgT 0 (1 + y2).toNat, none) w' := fun w' => sRange1_ (by omega) (by omega)
  have lC : (rgT 0 (1 + y2).toNat).length ≤ 9 ∧ 1 ≤ (rgT 0 (1 + y2).toNat).length := by rw [rgT_len]; omega
  generalize rgT 0 (1 + y2).toNat = allC at hC lC
  have hy : ∃ y : Nat, 1 + y3 = (y : Int) ∧ 1 ≤ y ∧ y ≤ 4 := ⟨(1 + y3).toNat, by omega, by omega, by omega⟩
  obtain ⟨y, hy, hy2, hy4⟩ := hy
  obtain ⟨rs, r4, w4, e4, h1, h2, A4, s4, l4⟩ := rows_ok (most := y) M.rg hC M.len (by have := M.hi; omega) lC.1 (by omega) (by omega) s3 (o.on (A2.trans A3) 90 (by decide))
  rw [← hy] at e4
  refine ⟨rs, r4, w4, ?_, fun e => ?_, by omega, fun x hx => ?_, fun x hx => (h2 x hx).1, ((A2.trans A3).trans A4).mono (by decide), s4⟩
  · generalize rs.map rwT = ts at e4 ⊢
    simp [p_law2b2, e2, e3, e4]
  · rw [e] at h1
    simp at h1
    omega
  · obtain ⟨g1, g2⟩ := h2 x hx
    have := M.lo
    have := M.hi
    exact ⟨by omega, by omega, g2⟩
theorem b3_ok (s : RS w r) (o : Ok 1 r) (hr : ∀ x ∈ rs, RowN x) (hm : ∀ x ∈ rs, x.length = m) (hl : rs.length ≤ 9) : ∃ (hv : T) (r' : Rng) (w' : World), p_law2b3 (Gk sc lap a3 (some (.lst (rs.map rwT))) a5 a6 a7 a8 a9 a10 a11 a12 a13 a14 a15 a16) w = .ok (Gk sc lap a3 (some (.lst (rs.map rwT))) (some hv) a6 a7 a8 a9 a10 a11 a12 a13 a14 a15 a16, .nx) w' ∧ GoodR hv rs m ∧ Adv 1 r r' ∧ RS w' r' := by
  obtain ⟨y, r1, w1, e1, p0, p1, A1, s1, l1⟩ := draw_st (n := 2) s (by decide) (by decide) o
  by_cases hy : y = 0
  · refine ⟨.lst (rs.map rwT), r1, w1, ?_, ⟨.inr rfl, by omega, hr, hm⟩, A1, s1⟩
    generalize rs.map rwT = ts
    simp [p_law2b3, e1, hy]
  · refine ⟨.tup (rs.map rwT), r1, w1, ?_, ⟨.inl rfl, by omega, hr, hm⟩, A1, s1⟩
    generalize rs.map rwT = ts
    simp [p_law2b3, e1, hy]
theorem b4_ok (g : GoodR hv rs m) (hne : rs ≠ []) (h6 : m ≤ 6) : ∃ mo le : List Nat, p_law2b4 (Gk sc lap a3 a4 (some hv) a6 a7 a8 a9 a10 a11 a12 a13 a14 a15 a16) w = .ok (Gk sc lap a3 a4 (some hv) a6 a7 a8 a9 a10 a11 (some (rwT mo)) (some (rwT le)) a14 a15 a16, .nx) w ∧ Far (· ≤ ·) rs m mo ∧ Far (fun y x => x ≤ y) rs m le := by
  obtain ⟨mo, e1, f1⟩ := joined_ok (w := w) g hne h6
  obtain ⟨le, e2, f2⟩ := common_ok (w := w) g hne h6
  refine ⟨mo, le, ?_, f1, f2⟩
  have hp : prm [0] [hv] = [hv] := rfl
  generalize rwT mo = u at e1 ⊢
  generalize rwT le = v at e2 ⊢
  simp [p_law2b4, mDefP, hp, e1, e2, ile]
end
end VS

set_option Elab.async false
set_option linter.all false
set_option maxRecDepth 100000
set_option maxHeartbeats 4000000
namespace VS
open PySem PySem.Spec PyProof.Rows L2
/-! ### what repr shows -/
def txt (t : T) : Str := match pd [] t with
  | some d => d.shown
  | none => ""
/-- data that can be shown, of depth k, its text within L -/
def ShB (L k : Nat) (t : T) : Prop := ∃ d, (∀ w, pd w t = some d) ∧ d.showable = true ∧ d.hasDict = false ∧ d.depth ≤ k ∧ d.shown.length ≤ L ∧ PyData.strOk d.shown = true
def ShBs (L k : Nat) (ts : List T) : Prop := ∃ ds, (∀ w, pds w ts = some ds) ∧ PyData.showableAll ds = true ∧ PyData.hasDictAll ds = false ∧ PyData.depthAll ds ≤ k ∧ piled (PyData.shownAll ds) ≤ ts.length * (L + 2) ∧ ∀ x ∈ PyData.shownAll ds, PyData.strOk x = true
theorem shB_mono {L k M l : Nat} {t : T} (h : ShB L k t) (a : L ≤ M) (b : k ≤ l) : ShB M l t := by
  obtain ⟨d, h1, h2, h3, h4, h5, h6⟩ := h
  exact ⟨d, h1, h2, h3, by omega, by omega, h6⟩
theorem shBs_of {L k : Nat} : ∀ {ts : List T}, (∀ t ∈ ts, ShB L k t) → ShBs L k ts
  | [], _ => ⟨[], fun w => by simp [pds], by simp [PyData.showableAll], by simp [PyData.hasDictAll], by simp [PyData.depthAll], by simp [PyData.shownAll, piled], by simp [PyData.shownAll]⟩
  | t :: ts, h => by
    obtain ⟨d, h1, h2, h3, h4, h5, h6⟩ := h t (.head _)
    obtain ⟨ds, g1, g2, g3, g4, g5, g6⟩ := shBs_of fun s hs => h s (.tail _ hs)
    have e : PyData.shownAll (d :: ds) = d.shown :: PyData.shownAll ds := by simp [PyData.shownAll]
    refine ⟨d :: ds, fun w => by simp [pds, h1 w, g1 w], by simp [PyData.showableAll, h2, g2], by simp [PyData.hasDictAll, h3, g3], by simp [PyData.depthAll]; omega, ?_, ?_⟩
    · rw [e, piled_cons, List.length_cons, Nat.succ_mul]; omega
    · rw [e]
      intro x hx
      rcases List.mem_cons.mp hx with rfl | hx
      · exact h6
      · exact g6 x hx
theorem shB_tup {L k : Nat} {ts : List T} (h : ∀ t ∈ ts, ShB L k t) : ShB (ts.length * (L + 2) + 3) (k + 1) (.tup ts) := by
  obtain ⟨ds, g1, g2, g3, g4, g5, g6⟩ := shBs_of h
  refine ⟨.tuple ds, fun w => by simp [pd, g1 w], by simp [PyData.showable, g2], by simp [PyData.hasDict, g3], by simp [PyData.depth]; omega, ?_, ok_tuple g6⟩
  have := tuple_shown ds
  omega
theorem shB_int {i : Int} (h : i.natAbs < 10 ^ 19) : ShB 20 0 (.int i) := ⟨.int i, fun w => by simp [pd], int_showable h, by simp [PyData.hasDict], by simp [PyData.depth], int_shown h, ok_int⟩
theorem shB_non : ShB 20 0 .non := ⟨.none, fun w => by simp [pd], rfl, rfl, by simp [PyData.depth], by decide +kernel, by decide +kernel⟩
theorem shB_str {x : Str} (h : (PyData.str x).shown.length ≤ 20) (g : PyData.strOk (PyData.str x).shown = true) : ShB 20 0 (.str x) := ⟨.str x, fun w => by simp [pd], rfl, rfl, by simp [PyData.depth], h, g⟩
/-- what can be shown -/
def Sh (t : T) : Prop := ShB 16000000 50 t
section
variable {w : World} {t u : T} {x y : Str}
theorem Sh.show (h : Sh t) : sShow [t] w = .ok (.str (txt t)) w := by
  obtain ⟨d, h1, h2, h3, h4, h5, h6⟩ := h
  rw [sShow_ (h1 w) ⟨h2, h3, h4, by rw [sizeLine_eq]; omega⟩]
  unfold txt
  rw [h1 []]
theorem Sh.ok (h : Sh t) : PyData.strOk (txt t) = true := by
  obtain ⟨d, h1, h2, h3, h4, h5, h6⟩ := h
  unfold txt
  rw [h1 []]
  exact h6
theorem shaped_ok (h : PyData.strOk x = true) : SeqAt.shaped (.str x) = true := by
  unfold SeqAt.shaped
  have : PyData.canLay0 (.str x) = true := h
  rw [this]
  simp [PyData.depth]
theorem eqT_strs (h : PyData.strOk x = true) (g : PyData.strOk y = true) : eqT w (.str x) (.str y) = some (decide (x = y)) := by
  rw [eqT_of (d := .str x) (e := .str y) (by simp [pd]) (by simp [pd]) (shaped_ok h) (shaped_ok g)]
  simp [PyData.eqv]
  try rfl
theorem sEq_strs (h : PyData.strOk x = true) (g : PyData.strOk y = true) : sEq (.str x) (.str y) w = .ok (.bl (decide (x = y))) w := by simp [sEq, eqT_strs h g]
theorem sNe_strs (h : PyData.strOk x = true) (g : PyData.strOk y = true) : sNe (.str x) (.str y) w = .ok (.bl (!decide (x = y))) w := by simp [sNe, eqT_strs h g]
end
/-! lists -/
theorem textFrom_le : ∀ (ts : List Str) (k : Nat) (acc : Str), (textFrom k acc ts).length ≤ acc.length + piled ts
  | [], k, acc => by show acc.length ≤ _; omega
  | t :: r, k, acc => by
    have ih := textFrom_le r (k + 1) (acc ++ (if k > 0 then ", " else "" : String) ++ t)
    show (textFrom (k + 1) (acc ++ (if k > 0 then ", " else "" : String) ++ t) r).length ≤ _
    rw [strLen_append, strLen_append] at ih
    have e : (((if k > 0 then ", " else "" : String) : Str)).length ≤ 2 := by split <;> decide
    rw [piled_cons]
    omega
theorem textFrom_ok : ∀ (ts : List Str) (k : Nat) (acc : Str), PyData.strOk acc = true → (∀ t ∈ ts, PyData.strOk t = true) → PyData.strOk (textFrom k acc ts) = true
  | [], k, acc, h, _ => h
  | t :: r, k, acc, h, g => by
    show PyData.strOk (textFrom (k + 1) (acc ++ (if k > 0 then ", " else "" : String) ++ t) r) = true
    refine textFrom_ok r (k + 1) _ (ok_app (ok_app h ?_) (g t (.head _))) fun u hu => g u (.tail _ hu)
    split <;> decide +kernel
theorem shB_lst {L k : Nat} {ts : List T} (h : ∀ t ∈ ts, ShB L k t) : ShB (ts.length * (L + 2) + 3) (k + 1) (.lst ts) := by
  obtain ⟨ds, g1, g2, g3, g4, g5, g6⟩ := shBs_of h
  have e : (PyData.list ds).shown = listText (PyData.shownAll ds) := by simp [PyData.shown]
  refine ⟨.list ds, fun w => by simp [pd, g1 w], by simp [PyData.showable, g2], by simp [PyData.hasDict, g3], by simp [PyData.depth]; omega, ?_, ?_⟩
  · rw [e]
    unfold listText
    rw [strLen_append]
    have := textFrom_le (PyData.shownAll ds) 0 "["
    have e1 : ((("[" : String) : Str)).length = 1 := rfl
    have e2 : ((("]" : String) : Str)).length = 1 := rfl
    omega
  · rw [e]
    unfold listText
    exact ok_app (textFrom_ok _ 0 _ (by decide +kernel) g6) (by decide +kernel)
theorem shB_row {p : List Nat} (h : RowN p) : ShB 200 1 (rwT p) := by
  have z := shB_tup (L := 20) (k := 0) (ts := p.map fun (i : Nat) => T.int (i : Int)) (fun t ht => by
    obtain ⟨x, hx, rfl⟩ := List.mem_map.mp ht
    have := h.b x hx
    exact shB_int (by show (x : Int).natAbs < _; rw [Int.natAbs_natCast]; omega))
  refine shB_mono z ?_ (Nat.le_refl _)
  rw [List.length_map]
  have := h.l6
  omega
theorem sh_row {p : List Nat} (h : RowN p) : Sh (rwT p) := shB_mono (shB_row h) (by decide) (by decide)
theorem sh_rows {rs : List (List Nat)} (h : ∀ p ∈ rs, RowN p) (hl : rs.length ≤ 60) : Sh (.lst (rs.map rwT)) := by
  have z := shB_lst (L := 200) (k := 1) (ts := rs.map rwT) (fun t ht => by
    obtain ⟨p, hp, rfl⟩ := List.mem_map.mp ht
    exact shB_row (h p hp))
  refine shB_mono z ?_ (by decide)
  rw [List.length_map]
  omega
section
variable {w : World} {r : Rng} {rs os : List (List Nat)} {sc lap t : T} {m : Nat} {mi : Int} {mo le q : List Nat} {a3 a4 a5 a6 a7 a8 a9 a10 a11 a12 a13 a14 a15 a16 : Option T} {hv : T} {all : List T}
theorem b5_ok (g : GoodR hv rs m) (hmo : RowN mo) (hle : RowN le) : p_law2b5 (Gk sc lap a3 (some (.lst (rs.map rwT))) (some hv) a6 a7 a8 a9 a10 a11 (some (rwT mo)) (some (rwT le)) a14 a15 a16) w = .ok (Gk sc lap a3 (some (.lst (rs.map rwT))) (some hv) a6 a7 a8 a9 a10 a11 (some (rwT mo)) (some (rwT le)) a14 a15 a16, .nx) w := by
  have hs := sh_rows g.row g.len
  have e1 := hs.show (w := w)
  have e2 := sNe_str (w := w) hs.ok
  have e3 : ∀ v : World, sList [hv] v = .ok (rs.map rwT) v := fun v => by rcases g.at_ with rfl | rfl <;> rfl
  have e4 := law_row_ok (w := w) (vx_row mo (by have := hmo.l6; omega))
  rw [isRow_rw hmo] at e4
  have e5 := law_row_ok (w := w) (vx_row le (by have := hle.l6; omega))
  rw [isRow_rw hle] at e5
  generalize txt (.lst (rs.map rwT)) = x at e1 e2
  generalize rs.map rwT = ts at e1 e3
  generalize rwT mo = u at e4
  generalize rwT le = v at e5
  simp [p_law2b5, e3, e1, e2, e4, e5]
theorem b6_ok (M : Mn mi m all) (hmo : mo.length = m) (hle : le.length = m) : p_law2b6 (Gk sc lap (some (.int mi)) a4 a5 a6 a7 a8 a9 a10 a11 (some (rwT mo)) (some (rwT le)) a14 a15 a16) w = .ok (Gk sc lap (some (.int mi)) a4 a5 a6 a7 a8 a9 a10 a11 (some (rwT mo)) (some (rwT le)) a14 a15 a16, .nx) w := by
  have e1 : ∀ v : World, sLen [rwT mo] v = .ok (.int mi) v := fun v => by simp [rwT, hmo, M.eq]
  have e2 : ∀ v : World, sLen [rwT le] v = .ok (.int mi) v := fun v => by simp [rwT, hle, M.eq]
  generalize rwT mo = u at e1
  generalize rwT le = v at e2
  simp [p_law2b6, e1, e2]
theorem mulT1 (hm : mi = (m : Int)) (h6 : m ≤ 6) : sMulT (.tup [t]) (.int mi) w = .ok (.tup (List.replicate m t)) w := by
  have c : ([t] : List T) ≠ [] ∧ 0 ≤ mi ∧ mi ≤ 1000 ∧ ([t] : List T).length ≤ 1000 := ⟨by simp, by omega, by omega, by simp⟩
  have e : mi.toNat = m := by omega
  simp only [sMulT]
  rw [if_pos c, e]
  congr 2
  simp
theorem rw_rep (x : Nat) : T.tup (List.replicate m (.int (x : Int))) = rwT (List.replicate m x) := by simp [rwT]
theorem cat_lst {xs ys : List T} (h : xs.length + ys.length ≤ 16777216) : sCat (.lst xs) (.lst ys) w = .ok (xs ++ ys) w := by
  have : xs.length + ys.length ≤ sizeLine := by rw [sizeLine_eq]; exact h
  simp [sCat, this]
theorem b7_ok (s : RS w r) (o : Ok 16 r) (hmo : RowN mo) (hle : RowN le) (hl : rs.length ≤ 9) : ∃ (p q : List Nat) (r' : Rng) (w' : World), p_law2b7 (Gk sc lap a3 (some (.lst (rs.map rwT))) a5 a6 a7 a8 a9 a10 a11 (some (rwT mo)) (some (rwT le)) a14 a15 a16) w = .ok (Gk sc lap a3 (some (.lst (rs.map rwT))) a5 (some (.lst (([p, q, mo, le] ++ rs).map rwT))) a7 a8 a9 a10 a11 (some (rwT mo)) (some (rwT le)) a14 a15 a16, .nx) w' ∧ (p.length = mo.length ∧ ∀ x ∈ p, x < bigN) ∧ (q.length = le.length ∧ ∀ x ∈ q, x < bigN) ∧ Adv 16 r r' ∧ RS w' r' := by
  obtain ⟨p, r1, w1, e1, h1, h2, A1, s1, l1⟩ := near_ok s (p := mo) (by have := hmo.l6; omega) hmo.b (o.on Adv.refl 8 (by decide))
  obtain ⟨q, r2, w2, e2, g1, g2, A2, s2, l2⟩ := near_ok s1 (p := le) (by have := hle.l6; omega) hle.b (o.on A1 8 (by decide))
  have e3 : sCat (.lst [rwT p, rwT q, rwT mo, rwT le]) (.lst (rs.map rwT)) w2 = .ok (([p, q, mo, le] ++ rs).map rwT) w2 := by
    rw [cat_lst (by simp; omega)]
    rfl
  refine ⟨p, q, r2, w2, ?_, ⟨h1, h2⟩, ⟨g1, g2⟩, (A1.trans A2).mono (by decide), s2⟩
  generalize ([p, q, mo, le] ++ rs).map rwT = out at e3 ⊢
  generalize rs.map rwT = ts at e3 ⊢
  generalize rwT mo = u1 at e1 e3 ⊢
  generalize rwT le = u2 at e2 e3 ⊢
  generalize rwT p = u3 at e1 e3
  generalize rwT q = u4 at e2 e3
  simp [p_law2b7, e1, e2, e3, ile]
theorem b8_ok (M : Mn mi m all) (s : RS w r) (o : Ok 9 r) (hl : os.length ≤ 20) : ∃ (p : List Nat) (r' : Rng) (w' : World), p_law2b8 (Gk sc lap (some (.int mi)) a4 a5 (some (.lst (os.map rwT))) a7 a8 a9 a10 a11 a12 a13 a14 a15 a16) w = .ok (Gk sc lap (some (.int mi)) a4 a5 (some (.lst ((os ++ [p, List.replicate m 0, List.replicate m 999999999999999999]).map rwT))) a7 a8 a9 a10 a11 a12 a13 a14 a15 a16, .nx) w' ∧ (p.length = m ∧ ∀ x ∈ p, x < bigN) ∧ Adv 9 r r' ∧ RS w' r' := by
  obtain ⟨p, r1, w1, e1, h1, h2, A1, s1, l1⟩ := row_ok (most := 4) M.rg M.len (by have := M.hi; omega) s (by decide) (by decide) o
  have e2 : ∀ v : World, sMulT (.tup [.int 0]) (.int mi) v = .ok (rwT (List.replicate m 0)) v := fun v => by rw [mulT1 M.eq M.hi]; exact congrArg (fun t => R.ok t v) (rw_rep 0)
  have e3 : ∀ v : World, sMulT (.tup [.int 999999999999999999]) (.int mi) v = .ok (rwT (List.replicate m 999999999999999999)) v := fun v => by rw [mulT1 M.eq M.hi]; exact congrArg (fun t => R.ok t v) (rw_rep 999999999999999999)
  have e1' : s__law_ln_row [.cell 1, .int mi, .int 4] w = .ok (rwT p) w1 := e1
  have e4 : sCat (.lst (os.map rwT)) (.lst [rwT p, rwT (List.replicate m 0), rwT (List.replicate m 999999999999999999)]) w1 = .ok ((os ++ [p, List.replicate m 0, List.replicate m 999999999999999999]).map rwT) w1 := by
    rw [cat_lst (by simp; omega), List.map_append]
    rfl
  refine ⟨p, r1, w1, ?_, ⟨h1, h2⟩, A1, s1⟩
  generalize (os ++ [p, List.replicate m 0, List.replicate m 999999999999999999]).map rwT = out at e4 ⊢
  generalize os.map rwT = ts at e4 ⊢
  generalize rwT p = u1 at e1' e4
  generalize rwT (List.replicate m 0) = u2 at e2 e4
  generalize rwT (List.replicate m 999999999999999999) = u3 at e3 e4
  simp [p_law2b8, e1', pow18, e2, e3, e4, ile]
end
end VS

set_option Elab.async false
set_option linter.all false
set_option maxRecDepth 100000
set_option maxHeartbeats 4000000
namespace VS
open PySem PySem.Spec PyProof.Rows L2
section
variable {w : World} {r : Rng} {rs os : List (List Nat)} {sc lap t u : T} {m : Nat} {mi : Int} {mo le q p : List Nat} {a3 a4 a5 a6 a7 a8 a9 a10 a11 a12 a13 a14 a15 a16 : Option T} {hv : T} {all : List T} {b : Bool}
theorem sNe_bl : sNe (.bl b) (.bl b) w = .ok (.bl false) w := by
  have e : eqT w (.bl b) (.bl b) = some true := by
    rw [eqT_of (d := .bool b) (e := .bool b) (by simp [pd]) (by simp [pd]) rfl rfl]
    cases b <;> rfl
  simp [sNe, e]
theorem all_cnt (p : List Nat → Bool) (rs : List (List Nat)) : decide ((((rs.map rwT).filter fun u => !p (rowU u)).map fun _ => (1 : Int)) = []) = rs.all p := by
  rw [Bool.eq_iff_iff, decide_eq_true_eq, List.map_eq_nil_iff, List.filter_eq_nil_iff, List.all_eq_true]
  constructor
  · intro g x hx
    have := g (rwT x) (List.mem_map_of_mem hx)
    rw [rowU_rw] at this
    simpa using this
  · intro g u hu
    obtain ⟨x, hx, rfl⟩ := List.mem_map.mp hu
    rw [rowU_rw, g x hx]
    simp
theorem b91_ok (hr : ∀ x ∈ rs, RowN x) (hl : rs.length ≤ 9) : p_law2b9b1 (Gk sc lap a3 (some (.lst (rs.map rwT))) a5 a6 (some (rwT q)) a8 a9 a10 a11 a12 a13 a14 a15 a16) w = .ok (Gk sc lap a3 (some (.lst (rs.map rwT))) a5 a6 (some (rwT q)) a8 a9 a10 a11 a12 a13 (some (.bl (rs.all fun x => leB x q))) a15 a16, .nx) w := by
  have c1 := compL_filter (w := w) (all := rs.map rwT) (g := mgName 16) (c := (mNot (mTru (mDef 2 s__law_ln_under (mCons (mVar 16) (mCons (mVar 7) mNil)))))) (e := mC (.int 1)) (ρ0 := Gk sc lap a3 (some (.lst (rs.map rwT))) a5 a6 (some (rwT q)) a8 a9 a10 a11 a12 a13 a14 a15 none) (fun u => !leB (rowU u) q) (fun _ => .int 1) (by rw [List.length_map]; omega) (fun u hu => by
    obtain ⟨x, hx, rfl⟩ := List.mem_map.mp hu
    have e := under_ok (w := w) (r := x) (q := q) (by have := (hr x hx).l6; omega)
    rw [rowU_rw]
    refine ⟨Gk sc lap a3 (some (.lst (rs.map rwT))) a5 a6 (some (rwT q)) a8 a9 a10 a11 a12 a13 a14 a15 (some (rwT x)), rfl, ?_, fun _ => rfl⟩
    generalize rwT x = v at e
    generalize rwT q = v2 at e
    simp [e])
  have c2 : (((rs.map rwT).filter fun u => !leB (rowU u) q).map fun _ => T.int 1) = (((rs.map rwT).filter fun u => !leB (rowU u) q).map fun _ => (1 : Int)).map .int := by rw [List.map_map]; rfl
  rw [c2] at c1
  have c3 := eq_ints (w := w) (ns := ((rs.map rwT).filter fun u => !leB (rowU u) q).map fun _ => (1 : Int))
  rw [all_cnt (fun x => leB x q) rs] at c3
  generalize ((rs.map rwT).filter fun u => !leB (rowU u) q).map (fun _ => (1 : Int)) = ns at c1 c3
  generalize rs.all (fun x => leB x q) = bb at c3 ⊢
  generalize rs.map rwT = ts at c1 ⊢
  generalize rwT q = v at c1 ⊢
  simp [p_law2b9b1, wipeE, c1, c3]
theorem b92_ok (hq : q.length ≤ 60) (hl : rs.length ≤ 9) : p_law2b9b2 (Gk sc lap a3 (some (.lst (rs.map rwT))) a5 a6 (some (rwT q)) a8 a9 a10 a11 a12 a13 a14 a15 a16) w = .ok (Gk sc lap a3 (some (.lst (rs.map rwT))) a5 a6 (some (rwT q)) a8 a9 a10 a11 a12 a13 a14 (some (.bl (rs.all fun x => leB q x))) a16, .nx) w := by
  have c1 := compL_filter (w := w) (all := rs.map rwT) (g := mgName 16) (c := (mNot (mTru (mDef 2 s__law_ln_under (mCons (mVar 7) (mCons (mVar 16) mNil)))))) (e := mC (.int 1)) (ρ0 := Gk sc lap a3 (some (.lst (rs.map rwT))) a5 a6 (some (rwT q)) a8 a9 a10 a11 a12 a13 a14 a15 none) (fun u => !leB q (rowU u)) (fun _ => .int 1) (by rw [List.length_map]; omega) (fun u hu => by
    obtain ⟨x, hx, rfl⟩ := List.mem_map.mp hu
    have e := under_ok (w := w) (r := q) (q := x) hq
    rw [rowU_rw]
    refine ⟨Gk sc lap a3 (some (.lst (rs.map rwT))) a5 a6 (some (rwT q)) a8 a9 a10 a11 a12 a13 a14 a15 (some (rwT x)), rfl, ?_, fun _ => rfl⟩
    generalize rwT x = v at e
    generalize rwT q = v2 at e
    simp [e])
  have c2 : (((rs.map rwT).filter fun u => !leB q (rowU u)).map fun _ => T.int 1) = (((rs.map rwT).filter fun u => !leB q (rowU u)).map fun _ => (1 : Int)).map .int := by rw [List.map_map]; rfl
  rw [c2] at c1
  have c3 := eq_ints (w := w) (ns := ((rs.map rwT).filter fun u => !leB q (rowU u)).map fun _ => (1 : Int))
  rw [all_cnt (fun x => leB q x) rs] at c3
  generalize ((rs.map rwT).filter fun u => !leB q (rowU u)).map (fun _ => (1 : Int)) = ns at c1 c3
  generalize rs.all (fun x => leB q x) = bb at c3 ⊢
  generalize rs.map rwT = ts at c1 ⊢
  generalize rwT q = v at c1 ⊢
  simp [p_law2b9b2, wipeE, c1, c3]
theorem b93_ok (hmo : RowN mo) (hq : q.length ≤ 60) {ba bb : Bool} (h1 : leB mo q = ba) (h2 : leB q le = bb) : p_law2b9b3 (Gk sc lap a3 a4 a5 a6 (some (rwT q)) a8 a9 a10 a11 (some (rwT mo)) (some (rwT le)) (some (.bl ba)) (some (.bl bb)) a16) w = .ok (Gk sc lap a3 a4 a5 a6 (some (rwT q)) a8 a9 a10 a11 (some (rwT mo)) (some (rwT le)) (some (.bl ba)) (some (.bl bb)) a16, .nx) w := by
  have e1 := under_ok (w := w) (r := mo) (q := q) (by have := hmo.l6; omega)
  have e2 := under_ok (w := w) (r := q) (q := le) hq
  rw [h1] at e1
  rw [h2] at e2
  have e3 := sNe_bl (w := w) (b := ba)
  have e4 := sNe_bl (w := w) (b := bb)
  generalize rwT mo = v1 at e1 ⊢
  generalize rwT le = v2 at e2 ⊢
  generalize rwT q = v3 at e1 e2 ⊢
  simp [p_law2b9b3, e1, e2, e3, e4]
theorem b94_ok (s : RS w r) (o : Ok 1 r) (hne : os ≠ []) (hl : os.length ≤ 60) : ∃ (p : List Nat) (r' : Rng) (w' : World), p_law2b9b4 (Gk sc lap a3 a4 a5 (some (.lst (os.map rwT))) a7 a8 a9 a10 a11 a12 a13 a14 a15 a16) w = .ok (Gk sc lap a3 a4 a5 (some (.lst (os.map rwT))) a7 a8 a9 a10 a11 a12 a13 a14 a15 (some (rwT p)), .nx) w' ∧ p ∈ os ∧ Adv 1 r r' ∧ RS w' r' := by
  obtain ⟨t, r1, w1, e1, ht, A1, s1, l1⟩ := pick_st (ts := os.map rwT) s (by rw [List.length_map]; exact List.length_pos_iff.mpr hne) (by rw [List.length_map]; omega) o
  obtain ⟨p, hp, rfl⟩ := List.mem_map.mp ht
  refine ⟨p, r1, w1, ?_, hp, A1, s1⟩
  generalize rwT p = v at e1 ⊢
  generalize os.map rwT = ts at e1 ⊢
  simp [p_law2b9b4, e1]
theorem b95_ok (hq : RowN q) (hp : RowN p) (hl : q.length = p.length) : p_law2b9b5 (Gk sc lap a3 a4 a5 a6 (some (rwT q)) a8 a9 a10 a11 a12 a13 a14 a15 (some (rwT p))) w = .ok (Gk sc lap a3 a4 a5 a6 (some (rwT q)) a8 a9 a10 a11 a12 a13 a14 a15 (some (rwT p)), .nx) w := by
  have e1 := is_below_ok (w := w) hq hp hl
  have e2 := under_ok (w := w) (r := q) (q := p) (by have := hq.l6; omega)
  have e3 := truth_ok (w := w) (leB q p)
  have hpr : ∀ x y : T, prm [0, 1] [x, y] = [x, y] := fun _ _ => rfl
  generalize leB q p = bb at e1 e2 e3
  generalize rwT q = v at e1 e2 ⊢
  generalize rwT p = v2 at e1 e2 ⊢
  simp [p_law2b9b5, mDefP, hpr, e1, e2, e3]
theorem b9_ok (s : RS w r) (o : Ok 25 r) (hr : ∀ x ∈ rs, RowN x) (hm : ∀ x ∈ rs, x.length = m) (hl : rs.length ≤ 9) (hos : ∀ x ∈ os, RowN x ∧ x.length = m) (lo : os.length ≤ 25) (f1 : Far (· ≤ ·) rs m mo) (f2 : Far (fun y x => x ≤ y) rs m le) (hmo : RowN mo) :
    ∃ (y7 y14 y15 y16 : Option T) (r' : Rng) (w' : World), p_law2b9 (Gk sc lap a3 (some (.lst (rs.map rwT))) a5 (some (.lst (os.map rwT))) a7 a8 a9 a10 a11 (some (rwT mo)) (some (rwT le)) a14 a15 a16) w = .ok (Gk sc lap a3 (some (.lst (rs.map rwT))) a5 (some (.lst (os.map rwT))) y7 a8 a9 a10 a11 (some (rwT mo)) (some (rwT le)) y14 y15 y16, .nx) w' ∧ Adv 25 r r' ∧ RS w' r' := by
  have e0 : p_law2b9 (Gk sc lap a3 (some (.lst (rs.map rwT))) a5 (some (.lst (os.map rwT))) a7 a8 a9 a10 a11 (some (rwT mo)) (some (rwT le)) a14 a15 a16) w = forL (mgName 7) p_law2b9b none (os.map rwT) (os.map rwT) (Gk sc lap a3 (some (.lst (rs.map rwT))) a5 (some (.lst (os.map rwT))) a7 a8 a9 a10 a11 (some (rwT mo)) (some (rwT le)) a14 a15 a16) w := by
    generalize os.map rwT = ts
    generalize rs.map rwT = ts2
    simp [p_law2b9]
  obtain ⟨ρ', w2, e3, y7, y14, y15, y16, r2, rfl, s2, A2⟩ := forL_run (w := w) (g := mgName 7) (b := p_law2b9b) (all := os.map rwT) (ρ := Gk sc lap a3 (some (.lst (rs.map rwT))) a5 (some (.lst (os.map rwT))) a7 a8 a9 a10 a11 (some (rwT mo)) (some (rwT le)) a14 a15 a16)
    (P := fun i ρ w' => ∃ (y7 y14 y15 y16 : Option T) (r' : Rng), ρ = Gk sc lap a3 (some (.lst (rs.map rwT))) a5 (some (.lst (os.map rwT))) y7 a8 a9 a10 a11 (some (rwT mo)) (some (rwT le)) y14 y15 y16 ∧ RS w' r' ∧ Adv i r r') ⟨a7, a14, a15, a16, r, rfl, s, by simpa using Adv.refl⟩ (fun i t ρ w' hi p => by
      obtain ⟨y7, y14, y15, y16, r', rfl, s', A⟩ := p
      have hi' := (List.getElem?_eq_some_iff.mp hi).1
      rw [List.length_map] at hi'
      obtain ⟨q, hq, rfl⟩ := List.mem_map.mp (List.mem_of_getElem? hi)
      obtain ⟨q1, q2⟩ := hos q hq
      have q60 : q.length ≤ 60 := by have := q1.l6; omega
      obtain ⟨p, r3, w3, e4, hp, A3, s3⟩ := b94_ok (os := os) (sc := sc) (lap := lap) (a3 := a3) (a4 := some (.lst (rs.map rwT))) (a5 := a5) (a7 := some (rwT q)) (a8 := a8) (a9 := a9) (a10 := a10) (a11 := a11) (a12 := some (rwT mo)) (a13 := some (rwT le)) (a14 := some (.bl (rs.all fun x => leB x q))) (a15 := some (.bl (rs.all fun x => leB q x))) (a16 := y16) s' (o.on A 1 (by omega)) (fun e => by rw [e] at hq; cases hq) (by omega)
      obtain ⟨p1, p2⟩ := hos p hp
      refine ⟨_, w3, ?_, some (rwT q), some (.bl (rs.all fun x => leB x q)), some (.bl (rs.all fun x => leB q x)), some (rwT p), r3, rfl, s3, (A.trans A3).mono (by push_cast; omega)⟩
      rw [mgName_, bind_ok']
      unfold p_law2b9b
      refine (seq_nx (b91_ok hr hl)).trans ?_
      refine (seq_nx (b92_ok q60 hl)).trans ?_
      refine (seq_nx (b93_ok hmo q60 (f1.above hm) (f2.below hm))).trans ?_
      refine (seq_nx e4).trans ?_
      exact b95_ok q1 p1 (by omega))
  rw [List.length_map] at A2
  exact ⟨y7, y14, y15, y16, r2, w2, e0.trans e3, A2.mono (by omega), s2⟩
end
end VS

set_option Elab.async false
set_option linter.all false
set_option maxRecDepth 100000
set_option maxHeartbeats 4000000
namespace VS
open PySem PySem.Spec PyProof.Rows L2
section
variable {w : World} {r : Rng} {rs os : List (List Nat)} {sc lap t u bad wv : T} {m : Nat} {mi : Int} {mo le q p : List Nat} {a3 a4 a5 a6 a7 a8 a9 a10 a11 a12 a13 a14 a15 a16 : Option T} {hv : T} {all : List T} {b : Bool}
theorem b10_ok (hmo : RowN mo) (hle : RowN le) : p_law2b10 (Gk sc lap a3 a4 a5 a6 a7 a8 a9 a10 a11 (some (rwT mo)) (some (rwT le)) a14 a15 a16) w = .ok (Gk sc lap a3 a4 a5 a6 a7 a8 a9 a10 a11 (some (rwT mo)) (some (rwT le)) a14 a15 a16, .nx) w := by
  obtain ⟨x, e1, f1⟩ := joined_ok (w := w) (rv := .lst [rwT mo]) (rs := [mo]) (m := mo.length) ⟨.inr rfl, by simp, fun r hr => by rw [List.mem_singleton.mp hr]; exact hmo, fun r hr => by rw [List.mem_singleton.mp hr]⟩ (by simp) hmo.l6
  obtain ⟨y, e2, f2⟩ := common_ok (w := w) (rv := .tup [rwT le]) (rs := [le]) (m := le.length) ⟨.inl rfl, by simp, fun r hr => by rw [List.mem_singleton.mp hr]; exact hle, fun r hr => by rw [List.mem_singleton.mp hr]⟩ (by simp) hle.l6
  have hx := f1.one rfl
  have hy := f2.one rfl
  subst hx
  subst hy
  have s1 := (sh_row hmo).show (w := w)
  have s2 := (sh_row hle).show (w := w)
  have n1 := sNe_str (w := w) (sh_row hmo).ok
  have n2 := sNe_str (w := w) (sh_row hle).ok
  generalize txt (rwT x) = z1 at s1 n1
  generalize txt (rwT y) = z2 at s2 n2
  generalize rwT x = v1 at e1 s1 ⊢
  generalize rwT y = v2 at e2 s2 ⊢
  simp [p_law2b10, e1, e2, s1, s2, n1, n2, ile]
def someL (m : Nat) : List T := [.non, .int 3, .tup [], .lst (List.replicate m (.int 0)), .tup (List.replicate m (.int (-1))), .tup (List.replicate m (.bl true)), .tup [.int 0, .int 0, .int 0, .int 0, .int 0, .int 0, .int 0], .tup (List.replicate m (.int 1000000000000000000)), .str "0"]
theorem norow_rep {x : T} (h1 : 1 ≤ m) (h6 : m ≤ 6) (hv : Vx x) (hc : cnt x = false) : NoRow (.tup (List.replicate m x)) := by
  refine ⟨.tup _ (by simp; omega) fun u hu => by rw [List.eq_of_mem_replicate hu]; exact hv, ?_⟩
  rw [Bool.eq_false_iff]
  intro g
  simp only [isRow, Bool.and_eq_true] at g
  have := List.all_eq_true.mp g.2.2 x (List.mem_replicate.mpr ⟨by omega, rfl⟩)
  rw [hc] at this
  cases this
theorem lay_0 : PyData.canLay0 (.str "0") = true := by decide +kernel
theorem some_no (h1 : 1 ≤ m) (h6 : m ≤ 6) (h : t ∈ someL m) : NoRow t := by
  simp only [someL, List.mem_cons, List.not_mem_nil, or_false] at h
  rcases h with rfl | rfl | rfl | rfl | rfl | rfl | rfl | rfl | rfl
  · exact ⟨.non, rfl⟩
  · exact ⟨.int _, rfl⟩
  · exact ⟨.tup _ (by simp) (fun u hu => nomatch hu), rfl⟩
  · exact ⟨.lst _ fun u hu => by rw [List.eq_of_mem_replicate hu]; exact .int _, rfl⟩
  · exact norow_rep h1 h6 (.int _) rfl
  · exact norow_rep h1 h6 (.bl _) rfl
  · exact ⟨vx_of (by decide +kernel), rfl⟩
  · exact norow_rep h1 h6 (.int _) (by decide +kernel)
  · exact ⟨.str _ lay_0, rfl⟩
theorem repL (hm : mi = (m : Int)) (h6 : m ≤ 6) : sRep (.lst [t]) (.int mi) w = .ok (List.replicate m t) w := by
  have e : mi.toNat = m := by omega
  have c : -(2 ^ 63) ≤ mi ∧ mi < 2 ^ 63 ∧ ([t] : List T).length * mi.toNat ≤ sizeLine := ⟨by omega, by omega, by rw [e, sizeLine_eq]; simp; omega⟩
  simp only [sRep, lst_lst]
  rw [if_pos c, e]
  congr 1
  simp
theorem b11_ok (M : Mn mi m all) : p_law2b11 (Gk sc lap (some (.int mi)) a4 a5 a6 a7 a8 a9 a10 a11 a12 a13 a14 a15 a16) w = .ok (Gk sc lap (some (.int mi)) a4 a5 a6 a7 (some (.lst (someL m))) a9 a10 a11 a12 a13 a14 a15 a16, .nx) w := by
  have e1 := repL (w := w) (t := .int 0) M.eq M.hi
  have e2 : ∀ (v : World) (t : T), sMulT (.tup [t]) (.int mi) v = .ok (.tup (List.replicate m t)) v := fun v t => mulT1 M.eq M.hi
  have m7 := mul7 (w := w)
  unfold someL
  simp [p_law2b11, e1, e2, m7, pow18, ile]
theorem b12_ok (s : RS w r) (o : Ok 1 r) (h1 : 1 ≤ m) (h6 : m ≤ 6) : ∃ (bad : T) (r' : Rng) (w' : World), p_law2b12 (Gk sc lap a3 a4 a5 a6 a7 (some (.lst (someL m))) a9 a10 a11 a12 a13 a14 a15 a16) w = .ok (Gk sc lap a3 a4 a5 a6 a7 (some (.lst (someL m))) (some bad) a10 a11 a12 a13 a14 a15 a16, .nx) w' ∧ NoRow bad ∧ Adv 1 r r' ∧ RS w' r' := by
  obtain ⟨bad, r1, w1, e1, ht, A1, s1, l1⟩ := pick_st (ts := someL m) s (by simp [someL]) (by simp [someL]) o
  refine ⟨bad, r1, w1, ?_, some_no h1 h6 ht, A1, s1⟩
  generalize someL m = ts at e1 ⊢
  simp [p_law2b12, e1]
theorem br1_in : ("BadRow" : Str) ∈ caughtL := by decide +kernel
theorem br1_tab : lookB isTab "BadRow" "BadRow" = some true := by decide +kernel
theorem br1_ne : ¬ (("BadRow" : Str) = "") := by decide +kernel
theorem b13_ok (h : NoRow bad) : p_law2b13 (Gk sc lap a3 a4 a5 a6 a7 a8 (some bad) a10 a11 a12 a13 a14 a15 a16) w = .ok (Gk sc lap a3 a4 a5 a6 a7 a8 (some bad) a10 a11 a12 a13 a14 a15 a16, .nx) w := by
  have e := is_below_bad1 (w := w) (b := .non) h.1 h.2
  refine guard_ok (caught_ex (ρ' := Gk sc lap a3 a4 a5 a6 a7 a8 (some bad) a10 a11 a12 a13 a14 a15 a16) ?_ br1_in) (isx_of br1_tab br1_ne)
  simp [e]
theorem row_vx {p : List Nat} (h : p.length ≤ 60) : Vx (rwT p) := vx_row p h
theorem rowOf_len {p : List Nat} (h : p.length ≠ m) : rowOf m (rwT p) = false := by
  simp [rowOf, rwT, h]
theorem b14_ok (s : RS w r) (o : Ok 1 r) (hmo : RowN mo) (h : NoRow bad) : ∃ (bad2 : T) (r' : Rng) (w' : World), p_law2b14 (Gk sc lap a3 a4 a5 a6 a7 a8 (some bad) a10 a11 (some (rwT mo)) a13 a14 a15 a16) w = .ok (Gk sc lap a3 a4 a5 a6 a7 a8 (some bad2) a10 a11 (some (rwT mo)) a13 a14 a15 a16, .nx) w' ∧ Vx bad2 ∧ rowOf mo.length bad2 = false ∧ Adv 1 r r' ∧ RS w' r' := by
  obtain ⟨t, r1, w1, e1, ht, A1, s1, l1⟩ := pick_st (ts := [bad, rwT (mo ++ [0]), rwT mo.tail]) s (by simp) (by simp) o
  have e2 : ∀ v : World, sAdd (rwT mo) (.tup [.int 0]) v = .ok (rwT (mo ++ [0])) v := fun v => by
    have c : (mo.map fun (i : Nat) => T.int (i : Int)).length + 1 ≤ sizeLine := by rw [List.length_map, sizeLine_eq]; have := hmo.l6; omega
    have e : rwT (mo ++ [0]) = .tup ((mo.map fun (i : Nat) => T.int (i : Int)) ++ [.int 0]) := by simp [rwT]
    rw [e]
    show sAdd (.tup (mo.map fun (i : Nat) => T.int (i : Int))) (.tup [.int 0]) v = _
    generalize (mo.map fun (i : Nat) => T.int (i : Int)) = ts at c
    simp [sAdd, c]
  have e3 : cutT (mo.map fun (i : Nat) => T.int (i : Int)) (some 1) none = mo.tail.map fun (i : Nat) => T.int (i : Int) := by
    unfold cutT
    rw [HT.sIx_none, show (some (1 : Int)) = some ((1 : Nat) : Int) from rfl, HT.sIx_nat]
    cases mo with
    | nil => rfl
    | cons a r =>
      simp
      exact List.take_of_length_le (by simp)
  have l6 := hmo.l6
  have l1' := hmo.l1
  refine ⟨t, r1, w1, ?_, ?_, ?_, A1, s1⟩
  · generalize rwT (mo ++ [0]) = v1 at e1 e2
    rw [show rwT mo.tail = T.tup (mo.tail.map fun (i : Nat) => T.int (i : Int)) from rfl] at e1
    rw [show rwT mo = T.tup (mo.map fun (i : Nat) => T.int (i : Int)) from rfl] at e2 ⊢
    generalize (mo.tail.map fun (i : Nat) => T.int (i : Int)) = ts2 at e1 e3
    generalize (mo.map fun (i : Nat) => T.int (i : Int)) = ts at e2 e3 ⊢
    simp [p_law2b14, e2, e3, e1, ile]
  · simp only [List.mem_cons, List.not_mem_nil, or_false] at ht
    rcases ht with rfl | rfl | rfl
    · exact h.1
    · exact row_vx (by simp; omega)
    · exact row_vx (by simp; omega)
  · simp only [List.mem_cons, List.not_mem_nil, or_false] at ht
    rcases ht with rfl | rfl | rfl
    · exact rowOf_no hmo.l1 hmo.l6 h.2
    · exact rowOf_len (by simp)
    · exact rowOf_len (by simp; omega)
theorem b15_ok (hmo : RowN mo) (hv : Vx bad) (hb : rowOf mo.length bad = false) : p_law2b15 (Gk sc lap a3 a4 a5 a6 a7 a8 (some bad) a10 a11 (some (rwT mo)) a13 a14 a15 a16) w = .ok (Gk sc lap a3 a4 a5 a6 a7 a8 (some bad) a10 a11 (some (rwT mo)) a13 a14 a15 a16, .nx) w := by
  have e := is_below_bad2 (w := w) hmo hv hb
  refine guard_ok (caught_ex (ρ' := Gk sc lap a3 a4 a5 a6 a7 a8 (some bad) a10 a11 (some (rwT mo)) a13 a14 a15 a16) ?_ br1_in) (isx_of br1_tab br1_ne)
  generalize rwT mo = v at e ⊢
  simp [e]
end
end VS

set_option Elab.async false
set_option linter.all false
set_option maxRecDepth 100000
set_option maxHeartbeats 4000000
namespace VS
open PySem PySem.Spec PyProof.Rows L2
section
variable {w : World} {r : Rng} {rs os : List (List Nat)} {sc lap t u bad wv : T} {m : Nat} {mi : Int} {mo le q p : List Nat} {a3 a4 a5 a6 a7 a8 a9 a10 a11 a12 a13 a14 a15 a16 : Option T} {hv : T} {all : List T} {b : Bool}
theorem b16_ok (s : RS w r) (o : Ok 2 r) (hne : rs ≠ []) (hr : ∀ x ∈ rs, x.length = m) (hl : rs.length ≤ 9) (hmo : RowN mo) (hm : mo.length = m) (hv : Vx bad) (hb : rowOf m bad = false) :
    ∃ (wv : T) (r' : Rng) (w' : World), p_law2b16 (Gk sc lap a3 (some (.lst (rs.map rwT))) a5 a6 a7 a8 (some bad) a10 a11 (some (rwT mo)) a13 a14 a15 a16) w = .ok (Gk sc lap a3 (some (.lst (rs.map rwT))) a5 a6 a7 a8 (some bad) (some wv) a11 (some (rwT mo)) a13 a14 a15 a16, .nx) w' ∧ BadW wv ∧ Adv 2 r r' ∧ RS w' r' := by
  obtain ⟨bl, r1, w1, e1, h1, A1, s1, l1⟩ := bad_rows_ok s (o.on Adv.refl 1 (by decide))
  obtain ⟨t, r2, w2, e2, ht, A2, s2, l2⟩ := pick_st (ts := [bl, .lst [], .tup [], .lst (rs.map rwT ++ [rwT (mo ++ [0])]), .lst (bad :: rs.map rwT)]) s1 (by simp) (by simp) (o.on A1 1 (by decide))
  have e3 : ∀ v : World, sAdd (rwT mo) (.tup [.int 0]) v = .ok (rwT (mo ++ [0])) v := fun v => by
    have c : (mo.map fun (i : Nat) => T.int (i : Int)).length + 1 ≤ sizeLine := by rw [List.length_map, sizeLine_eq]; have := hmo.l6; omega
    have e : rwT (mo ++ [0]) = .tup ((mo.map fun (i : Nat) => T.int (i : Int)) ++ [.int 0]) := by simp [rwT]
    rw [e]
    show sAdd (.tup (mo.map fun (i : Nat) => T.int (i : Int))) (.tup [.int 0]) v = _
    generalize (mo.map fun (i : Nat) => T.int (i : Int)) = ts at c
    simp [sAdd, c]
  have e4 : ∀ v : World, sCat (.lst (rs.map rwT)) (.lst [rwT (mo ++ [0])]) v = .ok (rs.map rwT ++ [rwT (mo ++ [0])]) v := fun v => cat_lst (by simp; omega)
  have e5 : ∀ v : World, sCat (.lst [bad]) (.lst (rs.map rwT)) v = .ok (bad :: rs.map rwT) v := fun v => by
    rw [cat_lst (by simp; omega)]
    rfl
  have h6 := hmo.l6
  refine ⟨t, r2, w2, ?_, ?_, (A1.trans A2).mono (by decide), s2⟩
  · generalize rs.map rwT ++ [rwT (mo ++ [0])] = v3 at e2 e4
    generalize bad :: rs.map rwT = v4 at e2 e5
    generalize rwT (mo ++ [0]) = v1 at e3 e4
    generalize rs.map rwT = ts at e4 e5 ⊢
    generalize rwT mo = v2 at e3 ⊢
    simp [p_law2b16, e1, e3, e4, e5, e2, ile]
  · simp only [List.mem_cons, List.not_mem_nil, or_false] at ht
    rcases ht with rfl | rfl | rfl | rfl | rfl
    · exact badL_W h1
    · exact ⟨.lst _ (fun u hu => nomatch hu), (fun ts e => by cases e; simp), .inr (.inl rfl)⟩
    · exact ⟨.tup _ (by simp) (fun u hu => nomatch hu), (fun ts e => by cases e), .inr (.inr rfl)⟩
    · exact bad_long hne hr (by simp; omega) (by simp; omega) (by omega) (by omega)
    · exact bad_head hne hr (by omega) hv hb (by omega)
theorem b17b_ok (h : BadW wv) {x : Str} (hx : x = "joined" ∨ x = "common") : p_law2b17b (Gk sc lap a3 a4 a5 a6 a7 a8 a9 (some wv) (some (.glb x)) a12 a13 a14 a15 a16) w = .ok (Gk sc lap a3 a4 a5 a6 a7 a8 a9 (some wv) (some (.glb x)) a12 a13 a14 a15 a16, .nx) w := by
  have e1 := joined_bad (w := w) h
  have e2 := common_bad (w := w) h
  refine guard_ok (caught_ex (ρ' := Gk sc lap a3 a4 a5 a6 a7 a8 a9 (some wv) (some (.glb x)) a12 a13 a14 a15 a16) ?_ br_in) (isx_of br_tab br_ne)
  have n1 : (("common" : Str) == "joined") = false := by decide +kernel
  rcases hx with rfl | rfl
  · simp [mDefT, e1]
  · simp [mDefT, List.lookup_cons, n1, e2]
theorem b17_ok (h : BadW wv) : ∃ y11 : Option T, p_law2b17 (Gk sc lap a3 a4 a5 a6 a7 a8 a9 (some wv) a11 a12 a13 a14 a15 a16) w = .ok (Gk sc lap a3 a4 a5 a6 a7 a8 a9 (some wv) y11 a12 a13 a14 a15 a16, .nx) w := by
  have e0 : p_law2b17 (Gk sc lap a3 a4 a5 a6 a7 a8 a9 (some wv) a11 a12 a13 a14 a15 a16) w = forL (mgName 11) p_law2b17b none [.glb "joined", .glb "common"] [.glb "joined", .glb "common"] (Gk sc lap a3 a4 a5 a6 a7 a8 a9 (some wv) a11 a12 a13 a14 a15 a16) w := by
    simp [p_law2b17, ile]
  obtain ⟨ρ', w2, e3, y11, rfl, rfl⟩ := forL_run (w := w) (g := mgName 11) (b := p_law2b17b) (all := [.glb "joined", .glb "common"]) (ρ := Gk sc lap a3 a4 a5 a6 a7 a8 a9 (some wv) a11 a12 a13 a14 a15 a16)
    (P := fun i ρ w' => ∃ y11 : Option T, ρ = Gk sc lap a3 a4 a5 a6 a7 a8 a9 (some wv) y11 a12 a13 a14 a15 a16 ∧ w' = w) ⟨a11, rfl, rfl⟩ (fun i t ρ w' hi p => by
      obtain ⟨y11, rfl, rfl⟩ := p
      have ht := List.mem_of_getElem? hi
      simp only [List.mem_cons, List.not_mem_nil, or_false] at ht
      have hx : ∃ x : Str, t = .glb x ∧ (x = "joined" ∨ x = "common") := by
        rcases ht with rfl | rfl
        · exact ⟨_, rfl, .inl rfl⟩
        · exact ⟨_, rfl, .inr rfl⟩
      obtain ⟨x, rfl, hx⟩ := hx
      refine ⟨_, _, ?_, some (.glb x), rfl, rfl⟩
      rw [mgName_, bind_ok']
      exact b17b_ok h hx)
  exact ⟨y11, e0.trans e3⟩
theorem lap_ok (s : RS w r) (o : Ok 200 r) : ∃ (z : List (Option T)) (r' : Rng) (w' : World), z.length = 14 ∧ p_law2b [some sc, some (.cell 1), some lap, a3, a4, a5, a6, a7, a8, a9, a10, a11, a12, a13, a14, a15, a16] w = .ok (some sc :: some (.cell 1) :: some lap :: z, .nx) w' ∧ Adv 200 r r' ∧ RS w' r' := by
  obtain ⟨mi, m, all, r1, w1, k1, M, A1, s1⟩ := b1_ok (sc := sc) (lap := lap) (a3 := a3) (a4 := a4) (a5 := a5) (a6 := a6) (a7 := a7) (a8 := a8) (a9 := a9) (a10 := a10) (a11 := a11) (a12 := a12) (a13 := a13) (a14 := a14) (a15 := a15) (a16 := a16) s (o.on Adv.refl 1 (by decide))
  obtain ⟨rs, r2, w2, k2, hne, hl, hr, hm, A2, s2⟩ := b2_ok (sc := sc) (lap := lap) (a4 := a4) (a5 := a5) (a6 := a6) (a7 := a7) (a8 := a8) (a9 := a9) (a10 := a10) (a11 := a11) (a12 := a12) (a13 := a13) (a14 := a14) (a15 := a15) (a16 := a16) M s1 (o.on A1 92 (by decide))
  have AA2 := A1.trans A2
  obtain ⟨hv, r3, w3, k3, g, A3, s3⟩ := b3_ok (sc := sc) (lap := lap) (a3 := some (.int mi)) (a5 := a5) (a6 := a6) (a7 := a7) (a8 := a8) (a9 := a9) (a10 := a10) (a11 := a11) (a12 := a12) (a13 := a13) (a14 := a14) (a15 := a15) (a16 := a16) s2 (o.on AA2 1 (by decide)) hr hm hl
  have AA3 := AA2.trans A3
  obtain ⟨mo, le, k4, f1, f2⟩ := b4_ok (w := w3) (sc := sc) (lap := lap) (a3 := some (.int mi)) (a4 := some (.lst (rs.map rwT))) (a6 := a6) (a7 := a7) (a8 := a8) (a9 := a9) (a10 := a10) (a11 := a11) (a12 := a12) (a13 := a13) (a14 := a14) (a15 := a15) (a16 := a16) g hne M.hi
  have hmo := f1.rowN hr M.lo M.hi
  have hle := f2.rowN hr M.lo M.hi
  have k5 := b5_ok (w := w3) (sc := sc) (lap := lap) (a3 := some (.int mi)) (a6 := a6) (a7 := a7) (a8 := a8) (a9 := a9) (a10 := a10) (a11 := a11) (a14 := a14) (a15 := a15) (a16 := a16) g hmo hle
  have k6 := b6_ok (w := w3) (sc := sc) (lap := lap) (a4 := some (.lst (rs.map rwT))) (a5 := some hv) (a6 := a6) (a7 := a7) (a8 := a8) (a9 := a9) (a10 := a10) (a11 := a11) (a14 := a14) (a15 := a15) (a16 := a16) M f1.len f2.len
  obtain ⟨p, q, r7, w7, k7, hp, hq, A7, s7⟩ := b7_ok (sc := sc) (lap := lap) (a3 := some (.int mi)) (a5 := some hv) (a6 := a6) (a7 := a7) (a8 := a8) (a9 := a9) (a10 := a10) (a11 := a11) (a14 := a14) (a15 := a15) (a16 := a16) s3 (o.on AA3 16 (by decide)) hmo hle hl
  have AA7 := AA3.trans A7
  obtain ⟨p8, r8, w8, k8, hp8, A8, s8⟩ := b8_ok (os := [p, q, mo, le] ++ rs) (sc := sc) (lap := lap) (a4 := some (.lst (rs.map rwT))) (a5 := some hv) (a7 := a7) (a8 := a8) (a9 := a9) (a10 := a10) (a11 := a11) (a12 := some (rwT mo)) (a13 := some (rwT le)) (a14 := a14) (a15 := a15) (a16 := a16) M s7 (o.on AA7 9 (by decide)) (by simp; omega)
  have AA8 := AA7.trans A8
  have m1 := M.lo
  have m6 := M.hi
  have l1 := f1.len
  have l2 := f2.len
  have rowOk : ∀ x : List Nat, x.length = m → (∀ z ∈ x, z < bigN) → RowN x ∧ x.length = m := fun x h1 h2 => ⟨⟨by omega, by omega, h2⟩, h1⟩
  have hos : ∀ x ∈ ([p, q, mo, le] ++ rs) ++ [p8, List.replicate m 0, List.replicate m 999999999999999999], RowN x ∧ x.length = m := fun x hx => by
    simp only [List.mem_append, List.mem_cons, List.not_mem_nil, or_false] at hx
    rcases hx with ((rfl | rfl | rfl | rfl) | hx) | (rfl | rfl | rfl)
    · exact rowOk _ (by omega) hp.2
    · exact rowOk _ (by omega) hq.2
    · exact ⟨hmo, l1⟩
    · exact ⟨hle, l2⟩
    · exact ⟨hr x hx, hm x hx⟩
    · exact rowOk _ hp8.1 hp8.2
    · exact rowOk _ (by simp) fun z hz => by rw [List.eq_of_mem_replicate hz]; decide
    · exact rowOk _ (by simp) fun z hz => by rw [List.eq_of_mem_replicate hz]; decide
  have los : (([p, q, mo, le] ++ rs) ++ [p8, List.replicate m 0, List.replicate m 999999999999999999]).length ≤ 25 := by simp; omega
  generalize ([p, q, mo, le] ++ rs) ++ [p8, List.replicate m 0, List.replicate m 999999999999999999] = os at k8 hos los
  obtain ⟨y7, y14, y15, y16, r9, w9, k9, A9, s9⟩ := b9_ok (sc := sc) (lap := lap) (a3 := some (.int mi)) (a5 := some hv) (a7 := a7) (a8 := a8) (a9 := a9) (a10 := a10) (a11 := a11) (a14 := a14) (a15 := a15) (a16 := a16) s8 (o.on AA8 25 (by decide)) hr hm hl hos los f1 f2 hmo
  have AA9 := AA8.trans A9
  have k10 := b10_ok (w := w9) (sc := sc) (lap := lap) (a3 := some (.int mi)) (a4 := some (.lst (rs.map rwT))) (a5 := some hv) (a6 := some (.lst (os.map rwT))) (a7 := y7) (a8 := a8) (a9 := a9) (a10 := a10) (a11 := a11) (a14 := y14) (a15 := y15) (a16 := y16) hmo hle
  have k11 := b11_ok (w := w9) (sc := sc) (lap := lap) (a4 := some (.lst (rs.map rwT))) (a5 := some hv) (a6 := some (.lst (os.map rwT))) (a7 := y7) (a8 := a8) (a9 := a9) (a10 := a10) (a11 := a11) (a12 := some (rwT mo)) (a13 := some (rwT le)) (a14 := y14) (a15 := y15) (a16 := y16) M
  obtain ⟨bad, r12, w12, k12, hbad, A12, s12⟩ := b12_ok (sc := sc) (lap := lap) (a3 := some (.int mi)) (a4 := some (.lst (rs.map rwT))) (a5 := some hv) (a6 := some (.lst (os.map rwT))) (a7 := y7) (a9 := a9) (a10 := a10) (a11 := a11) (a12 := some (rwT mo)) (a13 := some (rwT le)) (a14 := y14) (a15 := y15) (a16 := y16) s9 (o.on AA9 1 (by decide)) m1 m6
  have AA12 := AA9.trans A12
  obtain ⟨bad2, r14, w14, k14, hv2, hb2, A14, s14⟩ := b14_ok (sc := sc) (lap := lap) (a3 := some (.int mi)) (a4 := some (.lst (rs.map rwT))) (a5 := some hv) (a6 := some (.lst (os.map rwT))) (a7 := y7) (a8 := some (.lst (someL m))) (a10 := a10) (a11 := a11) (a13 := some (rwT le)) (a14 := y14) (a15 := y15) (a16 := y16) s12 (o.on AA12 1 (by decide)) hmo hbad
  have AA14 := AA12.trans A14
  obtain ⟨wv, r16, w16, k16, hw, A16, s16⟩ := b16_ok (sc := sc) (lap := lap) (a3 := some (.int mi)) (a5 := some hv) (a6 := some (.lst (os.map rwT))) (a7 := y7) (a8 := some (.lst (someL m))) (a10 := a10) (a11 := a11) (a13 := some (rwT le)) (a14 := y14) (a15 := y15) (a16 := y16) s14 (o.on AA14 2 (by decide)) hne hm hl hmo l1 hv2 (by rw [← l1]; exact hb2)
  obtain ⟨y11, k17⟩ := b17_ok (w := w16) (sc := sc) (lap := lap) (a3 := some (.int mi)) (a4 := some (.lst (rs.map rwT))) (a5 := some hv) (a6 := some (.lst (os.map rwT))) (a7 := y7) (a8 := some (.lst (someL m))) (a9 := some bad2) (a11 := a11) (a12 := some (rwT mo)) (a13 := some (rwT le)) (a14 := y14) (a15 := y15) (a16 := y16) hw
  refine ⟨[some (.int mi), some (.lst (rs.map rwT)), some hv, some (.lst (os.map rwT)), y7, some (.lst (someL m)), some bad2, some wv, y11, some (rwT mo), some (rwT le), y14, y15, y16], r16, w16, rfl, ?_, (AA14.trans A16).mono (by decide), s16⟩
  unfold p_law2b
  refine (seq_nx k1).trans ?_
  refine (seq_nx k2).trans ?_
  refine (seq_nx k3).trans ?_
  refine (seq_nx k4).trans ?_
  refine (seq_nx k5).trans ?_
  refine (seq_nx k6).trans ?_
  refine (seq_nx k7).trans ?_
  refine (seq_nx k8).trans ?_
  refine (seq_nx k9).trans ?_
  refine (seq_nx k10).trans ?_
  refine (seq_nx k11).trans ?_
  refine (seq_nx k12).trans ?_
  refine (seq_nx (b13_ok hbad)).trans ?_
  refine (seq_nx k14).trans ?_
  refine (seq_nx (b15_ok hmo hv2 hb2)).trans ?_
  refine (seq_nx k16).trans ?_
  exact k17
end
section
variable {w rest : World} {r : Rng} {ns : List Int}
theorem p18 : sPow (.int 10) (.int 18) w = .ok (.int 1000000000000000000) w := pow18
theorem begun_ok (hl : ns.length ≤ 63) : ∃ r, s__law_begun [.frz (ns.map T.int)] [] = .ok (.cell 1) (WD r []) ∧ r.turn = 0 := by
  obtain ⟨out, w', e1, rfl, gs, rfl, hgl⟩ := compL_run (w := []) (P := fun i out w' => w' = ([] : World) ∧ ∃ gs : List Int, out = gs.map T.int ∧ gs.length ≤ i) (all := ns.map T.int) (g := mgName 2) (c := mTest (mOp2 sGe (mCall sAbs (mCons (mVar 2) mNil)) (mOp2 sPow (mC (.int 10)) (mC (.int 18))))) (e := mOp2 sSub (mCall sAbs (mCons (mVar 2) mNil)) (mOp2 sPow (mC (.int 10)) (mC (.int 18)))) (ρ0 := [some (.frz (ns.map T.int)), none, none]) ⟨rfl, [], rfl, by simp⟩ (fun i t out w ht p => by
    obtain ⟨rfl, gs, rfl, hg⟩ := p
    obtain ⟨v, rfl, hi⟩ := ints_at ht
    have hi' : i < ns.length := (List.getElem?_eq_some_iff.mp hi).1
    refine ⟨[some (.frz (ns.map T.int)), none, some (.int v)], [], by simp, ?_⟩
    by_cases hv : 1000000000000000000 ≤ (if v < 0 then -v else v)
    · refine .inl ⟨[], .int ((if v < 0 then -v else v) - 1000000000000000000), [], by simp [p18, hv], by simp [p18], by simp; omega, rfl, gs ++ [(if v < 0 then -v else v) - 1000000000000000000], by simp, by simp; omega⟩
    · exact .inr ⟨[], by simp [p18]; omega, rfl, gs, rfl, by omega⟩)
  obtain ⟨out2, w2, e2, rfl, cs, rfl, _⟩ := compL_run (w := [Cell.lst (gs.map T.int)]) (P := fun i out w' => w' = [Cell.lst (gs.map T.int)] ∧ ∃ cs : List Int, out = cs.map T.int ∧ cs.length = i) (all := ns.map T.int) (g := mgName 2) (c := mYes) (e := mCall sAbs (mCons (mVar 2) mNil)) (ρ0 := [some (.frz (ns.map T.int)), some (.cell 0), none]) ⟨rfl, [], rfl, rfl⟩ (fun i t out w ht p => by
    obtain ⟨rfl, cs, rfl, hc⟩ := p
    obtain ⟨v, rfl, hi⟩ := ints_at ht
    have hi' : i < ns.length := (List.getElem?_eq_some_iff.mp hi).1
    exact ⟨[some (.frz (ns.map T.int)), some (.cell 0), some (.int v)], [Cell.lst (gs.map T.int)], by simp, .inl ⟨[Cell.lst (gs.map T.int)], .int (if v < 0 then -v else v), [Cell.lst (gs.map T.int)], rfl, by simp, by simp; omega, rfl, cs ++ [if v < 0 then -v else v], by simp, by simp; omega⟩⟩)
  refine ⟨⟨gs, cs, 0, 0⟩, ?_, rfl⟩
  unfold s__law_begun m__law_begun runB
  have hnd : ([kG, kC, kL, kT] : List Key).Nodup := by decide +kernel
  simp [wipeE, e1, e2, keyT, hnd]
  rfl
end
section
variable {w : World} {r : Rng} {sc : T} {y2 y3 y4 y5 y6 y7 y8 y9 y10 y11 y12 y13 y14 y15 y16 : Option T}
theorem law2_run {E : Env} {ts all : List T} (h0 : ∀ w', mVar 0 E w' = .ok (.frz ts) w') (e3 : sRange1 [.int (1 + (if 5 < (ts.length : Int) then 5 else (ts.length : Int)))] w = .ok (all, none) w) : p_law2 E w = forL (mgName 2) p_law2b none all all E w := by
  simp [p_law2, h0, e3]
theorem laps_ok {all : List T} (hall : all.length ≤ 6) (s : RS w r) (o : Ok 1200 r) : ∃ (z : List (Option T)) (w' : World), forL (mgName 2) p_law2b none all all [some sc, some (.cell 1), y2, y3, y4, y5, y6, y7, y8, y9, y10, y11, y12, y13, y14, y15, y16] w = .ok (z, .nx) w' := by
  obtain ⟨ρ', w', e, _⟩ := forL_run (w := w) (g := mgName 2) (b := p_law2b) (all := all) (ρ := [some sc, some (.cell 1), y2, y3, y4, y5, y6, y7, y8, y9, y10, y11, y12, y13, y14, y15, y16])
    (P := fun i ρ w' => ∃ (z2 : Option T) (z : List (Option T)) (r' : Rng), ρ = some sc :: some (.cell 1) :: z2 :: z ∧ z.length = 14 ∧ Adv (200 * i) r r' ∧ RS w' r') ⟨y2, _, r, rfl, rfl, by simpa using Adv.refl, s⟩ (fun i t ρ w ht p => by
      obtain ⟨z2, z, r1, rfl, hz, a1, s1⟩ := p
      have hi : i < 6 := by have := (List.getElem?_eq_some_iff.mp ht).1; omega
      match z, hz with
      | [y3, y4, y5, y6, y7, y8, y9, y10, y11, y12, y13, y14, y15, y16], _ =>
        obtain ⟨z', r2, w2, hz', e, a2, s2⟩ := lap_ok (sc := sc) (lap := t) (a3 := y3) (a4 := y4) (a5 := y5) (a6 := y6) (a7 := y7) (a8 := y8) (a9 := y9) (a10 := y10) (a11 := y11) (a12 := y12) (a13 := y13) (a14 := y14) (a15 := y15) (a16 := y16) s1 (o.on a1 200 (by omega))
        exact ⟨_, w2, e, some t, z', r2, rfl, hz', (a1.trans a2).mono (by push_cast; omega), s2⟩)
  exact ⟨ρ', w', e⟩
end
theorem law_true : ∀ ns : List Int, ns.length ≤ 63 → ∃ w', runB N_law.length m_law [.frz (ns.map T.int)] [] = .ok (.bl true) w' := fun ns hl => by
  obtain ⟨r0, e0, ht⟩ := begun_ok hl
  have o0 : Ok 1200 r0 := ⟨by omega, by omega⟩
  have k1 : p_law1 [some (.frz (ns.map T.int)), none, none, none, none, none, none, none, none, none, none, none, none, none, none, none, none] [] = .ok ([some (.frz (ns.map T.int)), some (.cell 1), none, none, none, none, none, none, none, none, none, none, none, none, none, none, none], .nx) (WD r0 []) := by
    simp [p_law1, e0]
  have hx : ∃ x : Int, x = 1 + (if 5 < ((ns.map T.int).length : Int) then 5 else ((ns.map T.int).length : Int)) ∧ 0 ≤ x ∧ x ≤ 6 := ⟨_, rfl, by split <;> omega, by split <;> omega⟩
  obtain ⟨x, hx, x0, x5⟩ := hx
  have e3 := sRange1_ (w := WD r0 []) (n := x) x0 (by omega)
  have hal : (rgT 0 x.toNat).length ≤ 6 := by rw [rgT_len]; omega
  generalize rgT 0 x.toNat = all at e3 hal
  rw [hx] at e3
  obtain ⟨z, w', e4⟩ := laps_ok (sc := .frz (ns.map T.int)) (y2 := none) (y3 := none) (y4 := none) (y5 := none) (y6 := none) (y7 := none) (y8 := none) (y9 := none) (y10 := none) (y11 := none) (y12 := none) (y13 := none) (y14 := none) (y15 := none) (y16 := none) hal ⟨[], rfl⟩ o0
  have k2 := (law2_run (E := [some (.frz (ns.map T.int)), some (.cell 1), none, none, none, none, none, none, none, none, none, none, none, none, none, none, none]) (fun _ => rfl) e3).trans e4
  have k3 : p_law3 z w' = .ok (z, .ret (.bl true)) w' := by simp [p_law3]
  refine ⟨w', ?_⟩
  rw [law_parts]
  refine run_ret (n := 17) (ds := [.frz (ns.map T.int)]) (ρ' := z) ?_
  refine (seq_nx k1).trans ?_
  exact (seq_nx k2).trans k3
end VS

set_option Elab.async false
set_option linter.all false
set_option maxRecDepth 100000
set_option maxHeartbeats 4000000
namespace VS
open PySem PySem.Spec PyProof.Rows L2
theorem top_all {P : Program} {w : PySem.World} {K : PySem.W.Frag} {h : Heap} {mg : Str → Option Value} {fa : Addr} (X : K.In h) (G : h.Ns mainGlobals mg) (hfa : mg "law" = some (.ref fa)) {d_is_number : Value} (a_is_number : At K "is_number" t_is_number d_is_number) {d_is_count : Value} (a_is_count : At K "is_count" t_is_count d_is_count) {d_is_list : Value} (a_is_list : At K "is_list" t_is_list d_is_list) {d_is_tuple_of : Value} (a_is_tuple_of : At K "is_tuple_of" t_is_tuple_of d_is_tuple_of) {d_is_row_for : Value} (a_is_row_for : At K "is_row_for" t_is_row_for d_is_row_for) {d_below : Value} (a_below : At K "below" t_below d_below) {d_is_row : Value} (a_is_row : At K "is_row" t_is_row d_is_row) {d_are_alike_rows : Value} (a_are_alike_rows : At K "are_alike_rows" t_are_alike_rows d_are_alike_rows) {d_check_rows : Value} (a_check_rows : At K "check_rows" t_check_rows d_check_rows) {d_is_below : Value} (a_is_below : At K "is_below" t_is_below d_is_below) {d__check_some_rows : Value} (a__check_some_rows : At K "_check_some_rows" t__check_some_rows d__check_some_rows) {d_joined : Value} (a_joined : At K "joined" t_joined d_joined) {d_common : Value} (a_common : At K "common" t_common d_common) {d__law_begun : Value} (a__law_begun : At K "_law_begun" t__law_begun d__law_begun) {d__law_blended : Value} (a__law_blended : At K "_law_blended" t__law_blended d__law_blended) {d__law_draw : Value} (a__law_draw : At K "_law_draw" t__law_draw d__law_draw) {d__law_pick : Value} (a__law_pick : At K "_law_pick" t__law_pick d__law_pick) {d__law_is_truth : Value} (a__law_is_truth : At K "_law_is_truth" t__law_is_truth d__law_is_truth) {d__law_is_whole : Value} (a__law_is_whole : At K "_law_is_whole" t__law_is_whole d__law_is_whole) {d__law_ln_under : Value} (a__law_ln_under : At K "_law_ln_under" t__law_ln_under d__law_ln_under) {d__law_ln_row : Value} (a__law_ln_row : At K "_law_ln_row" t__law_ln_row d__law_ln_row) {d__law_ln_near : Value} (a__law_ln_near : At K "_law_ln_near" t__law_ln_near d__law_ln_near) {d__law_ln_rows : Value} (a__law_ln_rows : At K "_law_ln_rows" t__law_ln_rows d__law_ln_rows) {d__law_ln_is_row : Value} (a__law_ln_is_row : At K "_law_ln_is_row" t__law_ln_is_row d__law_ln_is_row) {d__law_ln_bad_rows : Value} (a__law_ln_bad_rows : At K "_law_ln_bad_rows" t__law_ln_bad_rows d__law_ln_bad_rows) {d_law : Value} (a_law : At K "law" t_law d_law) {d__law_caught : Value} (a__law_caught : At K "_law_caught" t__law_caught d__law_caught) (n_bool : PySem.W.nsIn K mainGlobals "bool" = some none) (n_isinstance : PySem.W.nsIn K mainGlobals "isinstance" = some none) (n_int : PySem.W.nsIn K mainGlobals "int" = some none) (n_tuple : PySem.W.nsIn K mainGlobals "tuple" = some none) (n_list : PySem.W.nsIn K mainGlobals "list" = some none) (n_len : PySem.W.nsIn K mainGlobals "len" = some none) (n_all : PySem.W.nsIn K mainGlobals "all" = some none) (n_zip : PySem.W.nsIn K mainGlobals "zip" = some none) (n_max : PySem.W.nsIn K mainGlobals "max" = some none) (n_min : PySem.W.nsIn K mainGlobals "min" = some none) (n_abs : PySem.W.nsIn K mainGlobals "abs" = some none) (n_range : PySem.W.nsIn K mainGlobals "range" = some none) (n_repr : PySem.W.nsIn K mainGlobals "repr" = some none) {k_GREATEST : Tok} (g_GREATEST : PySem.W.nsIn K mainGlobals "GREATEST" = some (some (.int 999999999999999999 k_GREATEST))) {k_MOST_HANDS : Tok} (g_MOST_HANDS : PySem.W.nsIn K mainGlobals "MOST_HANDS" = some (some (.int 6 k_MOST_HANDS))) {C_BadRow : Addr} (q_BadRow : ClsAt K "BadRow" C_BadRow) {C_BadRows : Addr} (q_BadRows : ClsAt K "BadRows" C_BadRows) {C_SeenError : Addr} (q_SeenError : ClsAt K "SeenError" C_SeenError) (x_BadRow : PySem.W.excIn K C_BadRow [.type "ValueError", .type "Exception", .type "BaseException", .type "object"] "ValueError.__new__" = true) (x_BadRows : PySem.W.excIn K C_BadRows [.type "ValueError", .type "Exception", .type "BaseException", .type "object"] "ValueError.__new__" = true) (og : ObjG K) (s_BadRow_BadRow : PySem.W.subIn K (.ref C_BadRow) (.ref C_BadRow) = some true) (s_BadRow_BadRows : PySem.W.subIn K (.ref C_BadRow) (.ref C_BadRows) = some false) (s_BadRows_BadRow : PySem.W.subIn K (.ref C_BadRows) (.ref C_BadRow) = some false) (s_BadRows_BadRows : PySem.W.subIn K (.ref C_BadRows) (.ref C_BadRows) = some true) (s__BadRow : PySem.W.subIn K (.type "NoneType") (.ref C_BadRow) = some false) (s__BadRows : PySem.W.subIn K (.type "NoneType") (.ref C_BadRows) = some false) (u_BadRow : PySem.W.subIn K (.ref C_BadRow) (.ref C_SeenError) = some true) (u_BadRows : PySem.W.subIn K (.ref C_BadRows) (.ref C_SeenError) = some true) (Z : ZT) (zw : Z.2 = w) (cs : List (Addr × Addr)) {c_law P_law : Addr} (ec_law : d_law = .ref c_law) (hc_law : (c_law, P_law) ∈ cs) (hz_law : (P_law, (envOfC "law" (defScope t_law) 0 0 .none).qual ++ "<lambda>") ∈ Z.1) (hu_law : ∀ p ∈ Z.1, p.1 = P_law → p.2 = (envOfC "law" (defScope t_law) 0 0 .none).qual ++ "<lambda>") :
    ∃ fd : FuncData, (∀ (s : Shared) (u : Value), BindsTo s fd ⟨[u], []⟩ [("script", u)]) ∧ ∀ base : Heap, K.In base → base.Ns mainGlobals mg → (∀ p ∈ cs, LamX.TabB base mg p.1 p.2) → FnG P w K mg base 11 fa fd ["script"] (spL K Z) := by
  have z : Zs K mg := ⟨PySem.W.mg_none_of X G n_bool,
    PySem.W.mg_none_of X G n_isinstance,
    PySem.W.mg_none_of X G n_int,
    PySem.W.mg_none_of X G n_tuple,
    PySem.W.mg_none_of X G n_list,
    PySem.W.mg_none_of X G n_len,
    PySem.W.mg_none_of X G n_all,
    PySem.W.mg_none_of X G n_zip,
    PySem.W.mg_none_of X G n_max,
    PySem.W.mg_none_of X G n_min,
    PySem.W.mg_none_of X G n_abs,
    PySem.W.mg_none_of X G n_range,
    PySem.W.mg_none_of X G n_repr,
    ⟨_, PySem.W.mg_of X G g_GREATEST⟩,
    ⟨_, PySem.W.mg_of X G g_MOST_HANDS⟩,
    q_BadRow.err X G x_BadRow,
    q_BadRows.err X G x_BadRows,
    q_BadRow.glb X G,
    q_BadRows.glb X G,
    a_common.glb X G,
    a_joined.glb X G,
    isTab_cons og q_BadRow q_BadRow s_BadRow_BadRow (isTab_cons og q_BadRow q_BadRows s_BadRow_BadRows (isTab_cons og q_BadRows q_BadRow s_BadRows_BadRow (isTab_cons og q_BadRows q_BadRows s_BadRows_BadRows (isTab_none q_BadRow s__BadRow (isTab_none q_BadRows s__BadRows (isTab_nil)))))),
    caughtD_mk a__law_caught X G caught_t q_SeenError (List.forall_mem_cons.mpr ⟨q_BadRow.caught q_SeenError u_BadRow, List.forall_mem_cons.mpr ⟨q_BadRows.caught q_SeenError u_BadRows, (fun _ z => nomatch z)⟩⟩) (fun _ _ _ _ _ _ us hl => match us, hl with | [_], _ => rfl)⟩
  refine At.lawG a_law X G hfa sc_law (fun _ _ _ _ _ _ _ => rfl) (fun base => ∀ p ∈ cs, LamX.TabB base mg p.1 p.2) (fun base _ _ TB => ?_) law_true
  have LT_law : LamAt Z base mg d_law ((envOfC "law" (defScope t_law) 0 0 .none).qual ++ "<lambda>") := ⟨_, _, ec_law, TB _ hc_law, hz_law, hu_law⟩
  have D_is_number : Df P w K Z mg base 1 "is_number" ["value"] s_is_number := (At.df a_is_number X G sc_is_number (fun _ _ _ _ _ _ us hl => match us, hl with | [_], _ => rfl) (b_is_number z))
  have D_is_count : Df P w K Z mg base 2 "is_count" ["value"] s_is_count := (At.df a_is_count X G sc_is_count (fun _ _ _ _ _ _ us hl => match us, hl with | [_], _ => rfl) (b_is_count z D_is_number))
  have D_is_list : Df P w K Z mg base 1 "is_list" ["value"] s_is_list := (At.df a_is_list X G sc_is_list (fun _ _ _ _ _ _ us hl => match us, hl with | [_], _ => rfl) (b_is_list z))
  have D_is_tuple_of : Df P w K Z mg base 1 "is_tuple_of" ["value", "many"] s_is_tuple_of := (At.df a_is_tuple_of X G sc_is_tuple_of (fun _ _ _ _ _ _ us hl => match us, hl with | [_, _], _ => rfl) (b_is_tuple_of z))
  have D_is_row_for : Df P w K Z mg base 3 "is_row_for" ["value", "hands"] s_is_row_for := (At.df a_is_row_for X G sc_is_row_for (fun _ _ _ _ _ _ us hl => match us, hl with | [_, _], _ => rfl) (b_is_row_for z D_is_count D_is_tuple_of))
  have D_below : Df P w K Z mg base 1 "below" ["one", "other"] s_below := (At.df a_below X G sc_below (fun _ _ _ _ _ _ us hl => match us, hl with | [_, _], _ => rfl) (b_below z))
  have D_is_row : Df P w K Z mg base 4 "is_row" ["value"] s_is_row := (At.df a_is_row X G sc_is_row (fun _ _ _ _ _ _ us hl => match us, hl with | [_], _ => rfl) (b_is_row z D_is_row_for))
  have D_are_alike_rows : Df P w K Z mg base 5 "are_alike_rows" ["values"] s_are_alike_rows := (At.df a_are_alike_rows X G sc_are_alike_rows (fun _ _ _ _ _ _ us hl => match us, hl with | [_], _ => rfl) (b_are_alike_rows z D_is_row))
  have D_check_rows : Df P w K Z mg base 6 "check_rows" ["rows"] s_check_rows := (At.df a_check_rows X G sc_check_rows (fun _ _ _ _ _ _ us hl => match us, hl with | [_], _ => rfl) (b_check_rows z D_are_alike_rows D_is_list))
  have D_is_below : Df P w K Z mg base 5 "is_below" ["one", "other"] s_is_below := (At.df a_is_below X G sc_is_below (fun _ _ _ _ _ _ us hl => match us, hl with | [_, _], _ => rfl) (b_is_below z D_is_row D_is_row_for D_below))
  have PD_is_below_0 : DfP P w K Z mg base 5 "is_below" 2 0 ["one", "other"] [0, 1] s_is_below := (At.dfP (ps := ["one", "other"]) (ks := ["one", "other"]) a_is_below X G sc_is_below (by exact fun h => nomatch h) (fun _ _ _ _ _ _ us ws h1 h2 => match us, ws, h1, h2 with | [], [_, _], _, _ => rfl) (b_is_below z D_is_row D_is_row_for D_below))
  have D__check_some_rows : Df P w K Z mg base 7 "_check_some_rows" ["rows"] s__check_some_rows := (At.df a__check_some_rows X G sc__check_some_rows (fun _ _ _ _ _ _ us hl => match us, hl with | [_], _ => rfl) (b__check_some_rows z D_check_rows))
  have D_joined : Df P w K Z mg base 8 "joined" ["rows"] s_joined := (At.df a_joined X G sc_joined (fun _ _ _ _ _ _ us hl => match us, hl with | [_], _ => rfl) (b_joined z D__check_some_rows))
  have PD_joined_0 : DfP P w K Z mg base 8 "joined" 1 0 ["rows"] [0] s_joined := (At.dfP (ps := ["rows"]) (ks := ["rows"]) a_joined X G sc_joined (by exact fun h => nomatch h) (fun _ _ _ _ _ _ us ws h1 h2 => match us, ws, h1, h2 with | [], [_], _, _ => rfl) (b_joined z D__check_some_rows))
  have D_common : Df P w K Z mg base 8 "common" ["rows"] s_common := (At.df a_common X G sc_common (fun _ _ _ _ _ _ us hl => match us, hl with | [_], _ => rfl) (b_common z D__check_some_rows))
  have PD_common_0 : DfP P w K Z mg base 8 "common" 1 0 ["rows"] [0] s_common := (At.dfP (ps := ["rows"]) (ks := ["rows"]) a_common X G sc_common (by exact fun h => nomatch h) (fun _ _ _ _ _ _ us ws h1 h2 => match us, ws, h1, h2 with | [], [_], _, _ => rfl) (b_common z D__check_some_rows))
  have D__law_begun : Df P w K Z mg base 1 "_law_begun" ["script"] s__law_begun := (At.df a__law_begun X G sc__law_begun (fun _ _ _ _ _ _ us hl => match us, hl with | [_], _ => rfl) (b__law_begun z))
  have D__law_blended : Df P w K Z mg base 1 "_law_blended" ["state"] s__law_blended := (At.df a__law_blended X G sc__law_blended (fun _ _ _ _ _ _ us hl => match us, hl with | [_], _ => rfl) (b__law_blended z))
  have D__law_draw : Df P w K Z mg base 2 "_law_draw" ["state", "size_here"] s__law_draw := (At.df a__law_draw X G sc__law_draw (fun _ _ _ _ _ _ us hl => match us, hl with | [_, _], _ => rfl) (b__law_draw z D__law_blended))
  have D__law_pick : Df P w K Z mg base 3 "_law_pick" ["state", "several"] s__law_pick := (At.df a__law_pick X G sc__law_pick (fun _ _ _ _ _ _ us hl => match us, hl with | [_, _], _ => rfl) (b__law_pick z D__law_draw))
  have D__law_is_truth : Df P w K Z mg base 1 "_law_is_truth" ["found", "due"] s__law_is_truth := (At.df a__law_is_truth X G sc__law_is_truth (fun _ _ _ _ _ _ us hl => match us, hl with | [_, _], _ => rfl) (b__law_is_truth z))
  have D__law_is_whole : Df P w K Z mg base 1 "_law_is_whole" ["item"] s__law_is_whole := (At.df a__law_is_whole X G sc__law_is_whole (fun _ _ _ _ _ _ us hl => match us, hl with | [_], _ => rfl) (b__law_is_whole z))
  have D__law_ln_under : Df P w K Z mg base 1 "_law_ln_under" ["one", "other"] s__law_ln_under := (At.df a__law_ln_under X G sc__law_ln_under (fun _ _ _ _ _ _ us hl => match us, hl with | [_, _], _ => rfl) (b__law_ln_under z))
  have D__law_ln_row : Df P w K Z mg base 3 "_law_ln_row" ["state", "many", "most"] s__law_ln_row := (At.df a__law_ln_row X G sc__law_ln_row (fun _ _ _ _ _ _ us hl => match us, hl with | [_, _, _], _ => rfl) (b__law_ln_row z D__law_draw))
  have D__law_ln_near : Df P w K Z mg base 3 "_law_ln_near" ["state", "row"] s__law_ln_near := (At.df a__law_ln_near X G sc__law_ln_near (fun _ _ _ _ _ _ us hl => match us, hl with | [_, _], _ => rfl) (b__law_ln_near z D__law_draw))
  have D__law_ln_rows : Df P w K Z mg base 4 "_law_ln_rows" ["state", "many", "count", "most"] s__law_ln_rows := df_gc (At.df a__law_ln_rows X G sc__law_ln_rows (fun _ _ _ _ _ _ us hl => match us, hl with | [_, _, _, _], _ => rfl) (b__law_ln_rows z D__law_draw D__law_ln_row D__law_pick D__law_ln_near))
  have D__law_ln_is_row : Df P w K Z mg base 2 "_law_ln_is_row" ["item"] s__law_ln_is_row := (At.df a__law_ln_is_row X G sc__law_ln_is_row (fun _ _ _ _ _ _ us hl => match us, hl with | [_], _ => rfl) (b__law_ln_is_row z D__law_is_whole))
  have D__law_ln_bad_rows : Df P w K Z mg base 4 "_law_ln_bad_rows" ["state"] s__law_ln_bad_rows := (At.df a__law_ln_bad_rows X G sc__law_ln_bad_rows (fun _ _ _ _ _ _ us hl => match us, hl with | [_], _ => rfl) (b__law_ln_bad_rows z D__law_pick))
  exact b_law z LT_law D__law_begun D__law_draw D__law_ln_rows D_common D_joined D__law_ln_is_row D__law_ln_near D__law_ln_row D__law_ln_under D__law_pick D_is_below D__law_is_truth D__law_ln_bad_rows PD_common_0 PD_joined_0 PD_is_below_0
end VS
open PySem PySem.W PyProof.Rows
set_option maxHeartbeats 0 in
theorem PySem.Challenge.cw_seenatonce_k10_rows_below_joined_common_holds : PySem.Challenge.rw_seenatonce_k10_rows_below_joined_common.Holds := by
  w_on; o_law; k_head; (case hw => w_witness2)
  k_fill
  refine VS.walk_ofG (l := PySem.Challenge.rw_seenatonce_k10_rows_below_joined_common) (n := 63) (k := 11) (x := "script") rfl (by decide) rfl ⟨rfl, by decide, by decide⟩ (fun w h Y => by first | exact PySem.W.kIn_of Y | exact PySem.W.km_in_of Y) ?F
  case F =>
    intro w mg mb fa h lo mean KX T hmg
    refine' VS.lawAt_ofG [(?c_law, ?P_law, (PyProof.Rows.envOfC "law" (L2.defScope VS.t_law) 0 0 .none).qual ++ "<lambda>")] (List.forall_mem_cons.mpr ⟨?tab_law, fun _ z => nomatch z⟩) ?top
    (case tab_law => (refine' VS.At.tab (x := "law") (st := VS.t_law) (VS.at_mk ?h1 ?h2 ?h3 ?h4) KX T ?h5 ?h6 ?h7 ?h8; (case h1 => k_is); (case h2 => k_is); (case h3 => k_is); (case h4 => k_is); (case h5 => k_is); (case h6 => rfl); (case h7 => kernel_rfl); (case h8 => kernel_rfl)))
    refine' VS.top_all KX T.g hmg ?a_is_number ?a_is_count ?a_is_list ?a_is_tuple_of ?a_is_row_for ?a_below ?a_is_row ?a_are_alike_rows ?a_check_rows ?a_is_below ?a__check_some_rows ?a_joined ?a_common ?a__law_begun ?a__law_blended ?a__law_draw ?a__law_pick ?a__law_is_truth ?a__law_is_whole ?a__law_ln_under ?a__law_ln_row ?a__law_ln_near ?a__law_ln_rows ?a__law_ln_is_row ?a__law_ln_bad_rows ?a_law ?a__law_caught ?n_bool ?n_isinstance ?n_int ?n_tuple ?n_list ?n_len ?n_all ?n_zip ?n_max ?n_min ?n_abs ?n_range ?n_repr ?g_GREATEST ?g_MOST_HANDS ?q_BadRow ?q_BadRows ?q_SeenError ?x_BadRow ?x_BadRows ?og ?s_BadRow_BadRow ?s_BadRow_BadRows ?s_BadRows_BadRow ?s_BadRows_BadRows ?s__BadRow ?s__BadRows ?u_BadRow ?u_BadRows _ ?zw _ ?ec_law (List.mem_map.mpr ⟨(_, _, _), List.mem_cons_self, rfl⟩) (List.mem_map.mpr ⟨(_, _, _), List.mem_cons_self, rfl⟩) ?hu_law
    (case zw => rfl)
    (case a_is_number => (refine' VS.at_mk ?h1 ?h2 ?h3 ?h4; (case h1 => k_is); (case h2 => k_is); (case h3 => k_is); (case h4 => k_is)))
    (case a_is_count => (refine' VS.at_mk ?h1 ?h2 ?h3 ?h4; (case h1 => k_is); (case h2 => k_is); (case h3 => k_is); (case h4 => k_is)))
    (case a_is_list => (refine' VS.at_mk ?h1 ?h2 ?h3 ?h4; (case h1 => k_is); (case h2 => k_is); (case h3 => k_is); (case h4 => k_is)))
    (case a_is_tuple_of => (refine' VS.at_mk ?h1 ?h2 ?h3 ?h4; (case h1 => k_is); (case h2 => k_is); (case h3 => k_is); (case h4 => k_is)))
    (case a_is_row_for => (refine' VS.at_mk ?h1 ?h2 ?h3 ?h4; (case h1 => k_is); (case h2 => k_is); (case h3 => k_is); (case h4 => k_is)))
    (case a_below => (refine' VS.at_mk ?h1 ?h2 ?h3 ?h4; (case h1 => k_is); (case h2 => k_is); (case h3 => k_is); (case h4 => k_is)))
    (case a_is_row => (refine' VS.at_mk ?h1 ?h2 ?h3 ?h4; (case h1 => k_is); (case h2 => k_is); (case h3 => k_is); (case h4 => k_is)))
    (case a_are_alike_rows => (refine' VS.at_mk ?h1 ?h2 ?h3 ?h4; (case h1 => k_is); (case h2 => k_is); (case h3 => k_is); (case h4 => k_is)))
    (case a_check_rows => (refine' VS.at_mk ?h1 ?h2 ?h3 ?h4; (case h1 => k_is); (case h2 => k_is); (case h3 => k_is); (case h4 => k_is)))
    (case a_is_below => (refine' VS.at_mk ?h1 ?h2 ?h3 ?h4; (case h1 => k_is); (case h2 => k_is); (case h3 => k_is); (case h4 => k_is)))
    (case a__check_some_rows => (refine' VS.at_mk ?h1 ?h2 ?h3 ?h4; (case h1 => k_is); (case h2 => k_is); (case h3 => k_is); (case h4 => k_is)))
    (case a_joined => (refine' VS.at_mk ?h1 ?h2 ?h3 ?h4; (case h1 => k_is); (case h2 => k_is); (case h3 => k_is); (case h4 => k_is)))
    (case a_common => (refine' VS.at_mk ?h1 ?h2 ?h3 ?h4; (case h1 => k_is); (case h2 => k_is); (case h3 => k_is); (case h4 => k_is)))
    (case a__law_begun => (refine' VS.at_mk ?h1 ?h2 ?h3 ?h4; (case h1 => k_is); (case h2 => k_is); (case h3 => k_is); (case h4 => k_is)))
    (case a__law_blended => (refine' VS.at_mk ?h1 ?h2 ?h3 ?h4; (case h1 => k_is); (case h2 => k_is); (case h3 => k_is); (case h4 => k_is)))
    (case a__law_draw => (refine' VS.at_mk ?h1 ?h2 ?h3 ?h4; (case h1 => k_is); (case h2 => k_is); (case h3 => k_is); (case h4 => k_is)))
    (case a__law_pick => (refine' VS.at_mk ?h1 ?h2 ?h3 ?h4; (case h1 => k_is); (case h2 => k_is); (case h3 => k_is); (case h4 => k_is)))
    (case a__law_is_truth => (refine' VS.at_mk ?h1 ?h2 ?h3 ?h4; (case h1 => k_is); (case h2 => k_is); (case h3 => k_is); (case h4 => k_is)))
    (case a__law_is_whole => (refine' VS.at_mk ?h1 ?h2 ?h3 ?h4; (case h1 => k_is); (case h2 => k_is); (case h3 => k_is); (case h4 => k_is)))
    (case a__law_ln_under => (refine' VS.at_mk ?h1 ?h2 ?h3 ?h4; (case h1 => k_is); (case h2 => k_is); (case h3 => k_is); (case h4 => k_is)))
    (case a__law_ln_row => (refine' VS.at_mk ?h1 ?h2 ?h3 ?h4; (case h1 => k_is); (case h2 => k_is); (case h3 => k_is); (case h4 => k_is)))
    (case a__law_ln_near => (refine' VS.at_mk ?h1 ?h2 ?h3 ?h4; (case h1 => k_is); (case h2 => k_is); (case h3 => k_is); (case h4 => k_is)))
    (case a__law_ln_rows => (refine' VS.at_mk ?h1 ?h2 ?h3 ?h4; (case h1 => k_is); (case h2 => k_is); (case h3 => k_is); (case h4 => k_is)))
    (case a__law_ln_is_row => (refine' VS.at_mk ?h1 ?h2 ?h3 ?h4; (case h1 => k_is); (case h2 => k_is); (case h3 => k_is); (case h4 => k_is)))
    (case a__law_ln_bad_rows => (refine' VS.at_mk ?h1 ?h2 ?h3 ?h4; (case h1 => k_is); (case h2 => k_is); (case h3 => k_is); (case h4 => k_is)))
    (case a_law => (refine' VS.at_mk ?h1 ?h2 ?h3 ?h4; (case h1 => k_is); (case h2 => k_is); (case h3 => k_is); (case h4 => k_is)))
    (case a__law_caught => (refine' VS.at_mk ?h1 ?h2 ?h3 ?h4; (case h1 => k_is); (case h2 => k_is); (case h3 => k_is); (case h4 => k_is)))
    (case n_bool => k_is)
    (case n_isinstance => k_is)
    (case n_int => k_is)
    (case n_tuple => k_is)
    (case n_list => k_is)
    (case n_len => k_is)
    (case n_all => k_is)
    (case n_zip => k_is)
    (case n_max => k_is)
    (case n_min => k_is)
    (case n_abs => k_is)
    (case n_range => k_is)
    (case n_repr => k_is)
    (case g_GREATEST => k_is)
    (case g_MOST_HANDS => k_is)
    (case q_BadRow => (refine' ⟨?h1, ?h2, ?h3, ?h4, ?h5, ?h6, ?h7, ?h8, ?h9, ?h10, ?h11⟩; (case h1 => k_is); (case h2 => k_is); (case h3 => k_is); (case h4 => k_is); (case h5 => k_is); (case h6 => k_is); (case h7 => k_is); (case h8 => k_is); (case h9 => k_is); (case h10 => k_is); (case h11 => k_is)))
    (case q_BadRows => (refine' ⟨?h1, ?h2, ?h3, ?h4, ?h5, ?h6, ?h7, ?h8, ?h9, ?h10, ?h11⟩; (case h1 => k_is); (case h2 => k_is); (case h3 => k_is); (case h4 => k_is); (case h5 => k_is); (case h6 => k_is); (case h7 => k_is); (case h8 => k_is); (case h9 => k_is); (case h10 => k_is); (case h11 => k_is)))
    (case q_SeenError => (refine' ⟨?h1, ?h2, ?h3, ?h4, ?h5, ?h6, ?h7, ?h8, ?h9, ?h10, ?h11⟩; (case h1 => k_is); (case h2 => k_is); (case h3 => k_is); (case h4 => k_is); (case h5 => k_is); (case h6 => k_is); (case h7 => k_is); (case h8 => k_is); (case h9 => k_is); (case h10 => k_is); (case h11 => k_is)))
    (case x_BadRow => k_exc)
    (case x_BadRows => k_exc)
    (case og => (refine' ⟨?h1, ?h2⟩; (case h1 => k_is); (case h2 => k_is)))
    (case s_BadRow_BadRow => k_is)
    (case s_BadRow_BadRows => k_is)
    (case s_BadRows_BadRow => k_is)
    (case s_BadRows_BadRows => k_is)
    (case s__BadRow => k_is)
    (case s__BadRows => k_is)
    (case u_BadRow => k_is)
    (case u_BadRows => k_is)
    (case ec_law => rfl)
    (case hu_law => (intro p hp; obtain ⟨t, ht, rfl⟩ := List.mem_map.mp hp; simp only [List.mem_cons, List.not_mem_nil, or_false] at ht; rcases ht with rfl <;> first | (intro e; exact absurd e (by decide)) | (intro _; rfl)))
