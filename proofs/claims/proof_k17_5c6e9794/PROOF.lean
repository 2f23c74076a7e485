import PyProof.Rows.All
import Wide.All
import OpenK.AllK
import Wide.FinOn
import HandS.ForMost
import HandS.ForExc
import HandS.TupAny
import HandS.TupMul
import HandS.Rev
import HandS.TryMany
import HandS.Zip
import HandS.Deep
import KE.KDictKeyed
import HandS.IsInst
import KE.GoesMore
import HandS.CallSlots
import HandS.Defaults
import HandS.DictComp
import KE.KSortTupG
import KE.SortData
import HandS.Sort
import KE.KDictList
import KE.KDictCopyH
import HandS.ExcInit
import HandS.ExcIs
import HandS.ExcField
import HandS.Conv
import HandS.TupSets
import PySem.Challenge.RW_nearercamps_k17_camps_by_hand_and_what_i
set_option Elab.async false
set_option linter.all false
set_option maxRecDepth 100000
namespace Nc
open PySem PySem.Spec PyProof.Rows L2

/-- the written part, and the world (of which the hashes hang) -/
structure KW where
  k : PySem.W.Frag
  w : World
abbrev kwOf (X : Cx) : KW := ⟨X.K, X.w⟩

/-! ## data -/
inductive D where
  | non | bl (b : Bool) | int (i : Int) | str (s : Str) | tup (ds : List D) | cell (n : Nat)

/-- what a cell holds -/
inductive Cell where
  | lst (ds : List D)
  | dict (kvs : List (NestedKey × D × D))

abbrev AH := List (Nat × Cell)
def AH.get (n : Nat) : AH → Option Cell
  | [] => none
  | (m, c) :: r => bif Nat.beq m n then some c else AH.get n r
def AH.new : AH → Nat
  | [] => 0
  | (m, _) :: _ => m + 1
def AH.put (n : Nat) (c : Cell) : AH → AH
  | [] => []
  | (m, c') :: r => bif Nat.beq m n then (m, c) :: r else (m, c') :: AH.put n c r
def AH.add (c : Cell) (h : AH) : AH := (h.new, c) :: h

theorem AH.get_add (c : Cell) (h : AH) (n : Nat) : AH.get n (AH.add c h) = if AH.new h = n then some c else AH.get n h := by
  show (bif Nat.beq (AH.new h) n then some c else AH.get n h) = _
  by_cases e : AH.new h = n
  · subst e; simp
  · rw [if_neg e]
    have : Nat.beq (AH.new h) n = false := by
      cases q : Nat.beq (AH.new h) n
      · rfl
      · exact absurd (Nat.eq_of_beq_eq_true q) e
    rw [this]; rfl
theorem AH.get_put (n : Nat) (c : Cell) : ∀ (h : AH) (m : Nat), AH.get m (AH.put n c h) = if m = n then (AH.get n h).map (fun _ => c) else AH.get m h
  | [], m => by simp [AH.put, AH.get]
  | (k, c') :: r, m => by
    unfold AH.put
    cases q : Nat.beq k n with
    | true =>
      have e := Nat.eq_of_beq_eq_true q
      subst e
      simp only [cond_true]
      by_cases hm : m = k
      · subst hm; simp [AH.get]
      · have : Nat.beq k m = false := by
          cases q : Nat.beq k m
          · rfl
          · exact absurd (Nat.eq_of_beq_eq_true q).symm hm
        rw [if_neg hm]; simp [AH.get, this]
    | false =>
      have hkn : k ≠ n := fun e => by subst e; simp at q
      simp only [cond_false]
      have ih := AH.get_put n c r m
      by_cases hm : m = n
      · subst hm
        rw [if_pos rfl] at ih ⊢
        simp [AH.get, q, ih]
      · rw [if_neg hm] at ih ⊢
        show (bif Nat.beq k m then some c' else AH.get m (AH.put n c r)) = (bif Nat.beq k m then some c' else AH.get m r)
        rw [ih]

/-! ## keys of dicts -/
mutual
def toNK : D → Option NestedKey
  | .non => some .none
  | .bl b => some (.num (if b then 1 else 0))
  | .int i => some (.num i)
  | .str s => some (.text s)
  | .tup ds => match toNKs ds with
    | some ks => some (.tup ks)
    | none => none
  | .cell _ => none
def toNKs : List D → Option (List NestedKey)
  | [] => some []
  | d :: r => match toNK d with
    | some k => match toNKs r with
      | some ks => some (k :: ks)
      | none => none
    | none => none
end
/-- a dict's own object: its entries by the keys' values, where the keys stand, the values -/
def DNφ (w : World) (L : List (NestedKey × Addr × V)) (a : Addr) (h : Heap) : Prop := ∃ xs : List (NestedKey × Addr × Value), Paired (fun (p : NestedKey × Addr × V) (q : NestedKey × Addr × Value) => p.1 = q.1 ∧ p.2.1 = q.2.1 ∧ RelV p.2.2 q.2.2) L xs ∧
  ∃ o es ep, h.get? a = some o ∧ o.ExactDict ∧ o.data = .dict es ep ∧ es.toList = xs.map (fun x => (⟨x.1.hash w, .ref x.2.1, x.2.2⟩ : DictEntry)) ∧ (xs.map (·.1)).Nodup
def DN (w : World) (L : List (NestedKey × Addr × V)) (a : Addr) : HO := .ext (DNφ w L a)

/-! ## what data stands for -/
abbrev Rho := Nat → Option Addr
section
variable (K : KW)
mutual
def Rp (ρ : Rho) (H : Hp) : D → V → Prop
  | .non, v => v = .non
  | .bl b, v => v = .bl b
  | .int i, v => v = .int i
  | .str s, v => v = .str s
  | .tup ds, v => ∃ a xs, v = .ref a ∧ SqT K.k H a xs ∧ Rps ρ H ds xs
  | .cell n, v => ∃ a, v = .ref a ∧ ρ n = some a
def Rps (ρ : Rho) (H : Hp) : List D → List V → Prop
  | [], xs => xs = []
  | d :: ds, xs => ∃ x r, xs = x :: r ∧ Rp ρ H d x ∧ Rps ρ H ds r
end
/-- an entry's key by value, the key, what stands there -/
def DEnt (ρ : Rho) (H : Hp) (p : NestedKey × D × D) (q : NestedKey × Addr × V) : Prop := p.1 = q.1 ∧ toNK p.2.1 = some p.1 ∧ NestedKey.depth p.1 ≤ 8 ∧ Rp K ρ H p.2.1 (.ref q.2.1) ∧ Rp K ρ H p.2.2 q.2.2
def CellR (ρ : Rho) (H : Hp) (a : Addr) : Cell → Prop
  | .lst ds => ∃ xs, H a = some (.lst xs) ∧ Rps K ρ H ds xs
  | .dict kvs => ∃ L, H a = some (DN K.w L a) ∧ (a == sysModules) = false ∧ Paired (DEnt K ρ H) kvs L

structure HR (ρ : Rho) (H : Hp) (h : AH) : Prop where
  inj : ∀ n m a, ρ n = some a → ρ m = some a → n = m
  top : ∀ n, h.new ≤ n → ρ n = none
  live : ∀ n a, ρ n = some a → Mut (H a)
  at_ : ∀ n c, h.get n = some c → ∃ a, ρ n = some a ∧ CellR K ρ H a c
end
structure Grow (ρ ρ' : Rho) (H H' : Hp) : Prop where
  rho : ∀ n a, ρ n = some a → ρ' n = some a
  new : ∀ n a, ρ' n = some a → ρ n = none → H a = none
  keep : ∀ a o, H a = some o → (∀ n, ρ n ≠ some a) → H' a = some o
theorem Grow.refl (ρ : Rho) (H : Hp) : Grow ρ ρ H H := ⟨fun _ _ h => h, fun _ _ h h' => (by rw [h] at h'; cases h'), fun _ _ h _ => h⟩
theorem Grow.trans {ρ ρ1 ρ2 : Rho} {H H1 H2 : Hp} (l : ∀ n a, ρ1 n = some a → Mut (H1 a)) (g : Grow ρ ρ1 H H1) (g' : Grow ρ1 ρ2 H1 H2) : Grow ρ ρ2 H H2 := by
  refine ⟨fun n a h => g'.rho n a (g.rho n a h), fun n a h2 h0 => ?_, fun a o h hn => ?_⟩
  · cases q : ρ1 n with
    | some b =>
      have := g'.rho n b q
      rw [h2] at this; cases this
      exact g.new n _ q h0
    | none =>
      have z := g'.new n a h2 q
      cases e : H a with
      | none => rfl
      | some o =>
        by_cases hm : ∃ m, ρ m = some a
        · obtain ⟨m, hm⟩ := hm
          have := l m a (g.rho m a hm)
          rw [z] at this; exact this.elim
        · have := g.keep a o e fun m hm' => hm ⟨m, hm'⟩
          rw [z] at this; cases this
  · refine g'.keep a o (g.keep a o h hn) fun m hm => ?_
    cases q : ρ m with
    | some b =>
      have := g.rho m b q
      rw [hm] at this; cases this
      exact hn m q
    | none =>
      have := g.new m a hm q
      rw [h] at this; cases this
section
variable {K : KW} {ρ ρ' : Rho} {H H' : Hp} {h : AH}
theorem not_tup (l : ∀ n a, ρ n = some a → Mut (H a)) {a : Addr} {xs : List V} (r : Rd H a (.tup xs)) : ∀ n, ρ n ≠ some a := fun n e => by
  have := l n a e
  rcases r with r | ⟨o, r⟩ <;> (rw [r] at this; exact this)
theorem sqT_grow (l : ∀ n a, ρ n = some a → Mut (H a)) (g : Grow ρ ρ' H H') {a : Addr} {xs : List V} (s : SqT K.k H a xs) : SqT K.k H' a xs := by
  rcases s with s | s
  · have nt := not_tup l s
    rcases s with s | ⟨o, s⟩
    · exact .inl (.inl (g.keep _ _ s nt))
    · exact .inl (.inr ⟨o, g.keep _ _ s nt⟩)
  · exact .inr s
mutual
theorem Rp.grow (l : ∀ n a, ρ n = some a → Mut (H a)) (g : Grow ρ ρ' H H') : ∀ (d : D) {v : V}, Rp K ρ H d v → Rp K ρ' H' d v
  | .non, _, r => by unfold Rp at *; exact r
  | .bl _, _, r => by unfold Rp at *; exact r
  | .int _, _, r => by unfold Rp at *; exact r
  | .str _, _, r => by unfold Rp at *; exact r
  | .tup ds, _, r => by
    unfold Rp at *
    obtain ⟨a, xs, e, s, q⟩ := r
    exact ⟨a, xs, e, sqT_grow l g s, Rps.grow l g ds q⟩
  | .cell n, _, r => by
    unfold Rp at *
    obtain ⟨a, e, q⟩ := r
    exact ⟨a, e, g.rho n a q⟩
theorem Rps.grow (l : ∀ n a, ρ n = some a → Mut (H a)) (g : Grow ρ ρ' H H') : ∀ (ds : List D) {vs : List V}, Rps K ρ H ds vs → Rps K ρ' H' ds vs
  | [], _, r => by unfold Rps at *; exact r
  | d :: ds, _, r => by
    unfold Rps at *
    obtain ⟨x, q, e, r1, r2⟩ := r
    exact ⟨x, q, e, Rp.grow l g d r1, Rps.grow l g ds r2⟩
end
/-- the names stay, the tuples stay -/
structure Ext (K : KW) (ρ ρ' : Rho) (H H' : Hp) : Prop where
  rho : ∀ n a, ρ n = some a → ρ' n = some a
  tup : ∀ a xs, SqT K.k H a xs → SqT K.k H' a xs
theorem Ext.refl : Ext K ρ ρ H H := ⟨fun _ _ h => h, fun _ _ h => h⟩
theorem Ext.trans {ρ2 : Rho} {H2 : Hp} (a : Ext K ρ ρ' H H') (b : Ext K ρ' ρ2 H' H2) : Ext K ρ ρ2 H H2 := ⟨fun n x h => b.rho n x (a.rho n x h), fun x xs h => b.tup x xs (a.tup x xs h)⟩
theorem Grow.ext (l : ∀ n a, ρ n = some a → Mut (H a)) (g : Grow ρ ρ' H H') : Ext K ρ ρ' H H' := ⟨g.rho, fun _ _ s => sqT_grow l g s⟩
mutual
theorem Rp.ext (g : Ext K ρ ρ' H H') : ∀ (d : D) {v : V}, Rp K ρ H d v → Rp K ρ' H' d v
  | .non, _, r => by unfold Rp at *; exact r
  | .bl _, _, r => by unfold Rp at *; exact r
  | .int _, _, r => by unfold Rp at *; exact r
  | .str _, _, r => by unfold Rp at *; exact r
  | .tup ds, _, r => by
    unfold Rp at *
    obtain ⟨a, xs, e, s, q⟩ := r
    exact ⟨a, xs, e, g.tup a xs s, Rps.ext g ds q⟩
  | .cell n, _, r => by
    unfold Rp at *
    obtain ⟨a, e, q⟩ := r
    exact ⟨a, e, g.rho n a q⟩
theorem Rps.ext (g : Ext K ρ ρ' H H') : ∀ (ds : List D) {vs : List V}, Rps K ρ H ds vs → Rps K ρ' H' ds vs
  | [], _, r => by unfold Rps at *; exact r
  | d :: ds, _, r => by
    unfold Rps at *
    obtain ⟨x, q, e, r1, r2⟩ := r
    exact ⟨x, q, e, Rp.ext g d r1, Rps.ext g ds r2⟩
end
theorem Paired.imp2 {α β : Type} {F G : α → β → Prop} (f : ∀ a b, F a b → G a b) : ∀ {l₁ : List α} {l₂ : List β}, Paired F l₁ l₂ → Paired G l₁ l₂
  | _, _, .nil => .nil
  | _, _, .cons r t => .cons (f _ _ r) (Paired.imp2 f t)
theorem CellR.ext {a : Addr} {c : Cell} (g : Ext K ρ ρ' H H') (e : H' a = H a) (q : CellR K ρ H a c) : CellR K ρ' H' a c := by
  cases c with
  | lst ds =>
    obtain ⟨xs, e1, r⟩ := q
    exact ⟨xs, e.trans e1, Rps.ext g ds r⟩
  | dict kvs =>
    obtain ⟨L, e1, e2, r⟩ := q
    exact ⟨L, e.trans e1, e2, Paired.imp2 (fun a b h => ⟨h.1, h.2.1, h.2.2.1, Rp.ext g _ h.2.2.2.1, Rp.ext g _ h.2.2.2.2⟩) r⟩
theorem Rps.nil_iff {vs : List V} : Rps K ρ H [] vs ↔ vs = [] := by unfold Rps; exact Iff.rfl
theorem Rps.cons_iff {d : D} {ds : List D} {vs : List V} : Rps K ρ H (d :: ds) vs ↔ ∃ x r, vs = x :: r ∧ Rp K ρ H d x ∧ Rps K ρ H ds r := by
  constructor
  · intro h; unfold Rps at h; exact h
  · intro h; unfold Rps; exact h
theorem Rps.cons {d : D} {ds : List D} {v : V} {vs : List V} (r : Rp K ρ H d v) (q : Rps K ρ H ds vs) : Rps K ρ H (d :: ds) (v :: vs) := by
  unfold Rps; exact ⟨v, vs, rfl, r, q⟩
theorem Rps.length : ∀ {ds : List D} {vs : List V}, Rps K ρ H ds vs → ds.length = vs.length
  | [], _, r => by rw [Rps.nil_iff] at r; subst r; rfl
  | d :: ds, _, r => by
    obtain ⟨x, q, rfl, _, r2⟩ := Rps.cons_iff.mp r
    simp [Rps.length r2]
theorem Rps.append : ∀ {ds es : List D} {vs us : List V}, Rps K ρ H ds vs → Rps K ρ H es us → Rps K ρ H (ds ++ es) (vs ++ us)
  | [], _, _, _, r, q => by rw [Rps.nil_iff] at r; subst r; exact q
  | d :: ds, _, _, _, r, q => by
    obtain ⟨x, t, rfl, r1, r2⟩ := Rps.cons_iff.mp r
    exact Rps.cons r1 (Rps.append r2 q)
theorem Rps.get : ∀ {ds : List D} {vs : List V} {i : Nat} {d : D}, Rps K ρ H ds vs → ds[i]? = some d → ∃ v, vs[i]? = some v ∧ Rp K ρ H d v
  | [], _, _, _, _, e => by simp at e
  | d :: ds, _, 0, _, r, e => by
    obtain ⟨x, t, rfl, r1, r2⟩ := Rps.cons_iff.mp r
    simp at e; subst e; exact ⟨x, rfl, r1⟩
  | d :: ds, _, i + 1, _, r, e => by
    obtain ⟨x, t, rfl, r1, r2⟩ := Rps.cons_iff.mp r
    obtain ⟨v, e1, r3⟩ := Rps.get (i := i) r2 (by simpa using e)
    exact ⟨v, by simpa using e1, r3⟩
/-- a new object that is no cell -/
theorem grow_upd (l : ∀ n a, ρ n = some a → Mut (H a)) {p : Addr} {o : HO} (np : H p = none) : Grow ρ ρ H (upd H p o) :=
  ⟨fun _ _ h => h, fun _ _ h h' => (by rw [h] at h'; cases h'), fun a o h _ => by rw [upd_ne (ne_of_none h np)]; exact h⟩
theorem HR.upd (hr : HR K ρ H h) {p : Addr} {o : HO} (np : H p = none) : HR K ρ (upd H p o) h := by
  have g := grow_upd (o := o) hr.live np
  have ne : ∀ n a, ρ n = some a → a ≠ p := fun n a e z => by
    subst z
    have := hr.live n a e
    rw [np] at this; exact this
  refine ⟨hr.inj, hr.top, fun n a e => ?_, fun n c e => ?_⟩
  · rw [upd_ne (ne n a e)]; exact hr.live n a e
  · obtain ⟨a, e1, q⟩ := hr.at_ n c e
    exact ⟨a, e1, q.ext (g.ext hr.live) (upd_ne (ne n a e1))⟩
/-- a new list -/
def rhoAdd (ρ : Rho) (n : Nat) (a : Addr) : Rho := fun m => if m = n then some a else ρ m
theorem grow_add (hr : HR K ρ H h) {p : Addr} {o : HO} (np : H p = none) : Grow ρ (rhoAdd ρ h.new p) H (L2.upd H p o) := by
  refine ⟨fun n a e => ?_, fun n a e e0 => ?_, fun a o h _ => by rw [upd_ne (ne_of_none h np)]; exact h⟩
  · unfold rhoAdd
    by_cases q : n = h.new
    · subst q; rw [hr.top _ (Nat.le_refl _)] at e; cases e
    · rw [if_neg q]; exact e
  · unfold rhoAdd at e
    by_cases q : n = h.new
    · rw [if_pos q] at e; cases e; exact np
    · rw [if_neg q, e0] at e; cases e
theorem HR.addC (hr : HR K ρ H h) {p : Addr} {o : HO} {c : Cell} (np : H p = none) (mu : Mut (some o)) (q : CellR K (rhoAdd ρ h.new p) (L2.upd H p o) p c) :
    HR K (rhoAdd ρ h.new p) (L2.upd H p o) (h.add c) := by
  have g := grow_add (o := o) hr np
  have ne : ∀ n a, ρ n = some a → a ≠ p := fun n a e z => by
    subst z
    have := hr.live n a e
    rw [np] at this; exact this
  refine ⟨fun n m a e1 e2 => ?_, fun n hn => ?_, fun n a e => ?_, fun n c' e => ?_⟩
  · unfold rhoAdd at e1 e2
    by_cases q1 : n = h.new <;> by_cases q2 : m = h.new
    · rw [q1, q2]
    · rw [if_pos q1] at e1; rw [if_neg q2] at e2; cases e1; exact absurd rfl (ne _ _ e2)
    · rw [if_neg q1] at e1; rw [if_pos q2] at e2; cases e2; exact absurd rfl (ne _ _ e1)
    · rw [if_neg q1] at e1; rw [if_neg q2] at e2; exact hr.inj _ _ _ e1 e2
  · have : (h.add c).new = h.new + 1 := rfl
    rw [this] at hn
    unfold rhoAdd
    rw [if_neg (by omega)]
    exact hr.top n (by omega)
  · unfold rhoAdd at e
    by_cases q : n = h.new
    · rw [if_pos q] at e; cases e; rw [upd_same]; exact mu
    · rw [if_neg q] at e; rw [upd_ne (ne _ _ e)]; exact hr.live n a e
  · rw [AH.get_add] at e
    by_cases z : h.new = n
    · rw [if_pos z] at e; cases e
      refine ⟨p, ?_, q⟩
      unfold rhoAdd; rw [if_pos z.symm]
    · rw [if_neg z] at e
      obtain ⟨a, e1, qq⟩ := hr.at_ n c' e
      refine ⟨a, ?_, qq.ext (g.ext hr.live) (upd_ne (ne _ _ e1))⟩
      unfold rhoAdd; rw [if_neg (Ne.symm z)]; exact e1
theorem HR.add (hr : HR K ρ H h) {p : Addr} {xs : List V} {ds : List D} (np : H p = none) (r : Rps K ρ H ds xs) :
    HR K (rhoAdd ρ h.new p) (L2.upd H p (.lst xs)) (h.add (.lst ds)) :=
  hr.addC np trivial ⟨xs, upd_same, Rps.grow hr.live (grow_add hr np) ds r⟩
theorem rhoAdd_same {n : Nat} {a : Addr} : rhoAdd ρ n a n = some a := by unfold rhoAdd; rw [if_pos rfl]
/-- a list is changed -/
theorem grow_put (l : ∀ n a, ρ n = some a → Mut (H a)) {n : Nat} {a : Addr} {o : HO} (e : ρ n = some a) : Grow ρ ρ H (L2.upd H a o) :=
  ⟨fun _ _ h => h, fun _ _ h h' => (by rw [h] at h'; cases h'), fun b o h hn => by rw [upd_ne (fun z => hn n (by rw [z]; exact e))]; exact h⟩
theorem put_new (n : Nat) (c : Cell) : ∀ h : AH, (h.put n c).new = h.new := fun h => by
  cases h with
  | nil => rfl
  | cons p r =>
    obtain ⟨m, c'⟩ := p
    unfold AH.put
    cases Nat.beq m n <;> rfl
theorem HR.putC (hr : HR K ρ H h) {n : Nat} {a : Addr} {c0 c : Cell} {o : HO} (e : ρ n = some a) (e0 : h.get n = some c0) (mu : Mut (some o)) (q : CellR K ρ (L2.upd H a o) a c) :
    HR K ρ (L2.upd H a o) (h.put n c) := by
  have g := grow_put (o := o) hr.live e
  refine ⟨hr.inj, fun m hm => hr.top m (by rw [put_new] at hm; exact hm), fun m b em => ?_, fun m c' em => ?_⟩
  · by_cases q : b = a
    · subst q; rw [upd_same]; exact mu
    · rw [upd_ne q]; exact hr.live m b em
  · rw [AH.get_put] at em
    by_cases z : m = n
    · subst z
      rw [if_pos rfl, e0] at em; cases em
      exact ⟨a, e, q⟩
    · rw [if_neg z] at em
      obtain ⟨b, e1, qq⟩ := hr.at_ m c' em
      have nb : b ≠ a := fun y => by subst y; exact z (hr.inj _ _ _ e1 e)
      exact ⟨b, e1, qq.ext (g.ext hr.live) (upd_ne nb)⟩
theorem HR.put (hr : HR K ρ H h) {n : Nat} {a : Addr} {c0 : Cell} {xs : List V} {ds : List D} (e : ρ n = some a) (e0 : h.get n = some c0) (r : Rps K ρ H ds xs) :
    HR K ρ (L2.upd H a (.lst xs)) (h.put n (.lst ds)) :=
  hr.putC e e0 trivial ⟨xs, upd_same, Rps.grow hr.live (grow_put hr.live e) ds r⟩
end

/-! ## slots -/
abbrev DSt := List (Option D)
structure StR (K : KW) (ρ : Rho) (H : Hp) (σ : L2.St) (s : DSt) : Prop where
  len : σ.length = s.length
  at_ : ∀ (i : Nat) (d : D), s[i]? = some (some d) → ∃ v, σ[i]? = some (some v) ∧ Rp K ρ H d v
theorem StR.grow {K : KW} {ρ ρ' : Rho} {H H' : Hp} {σ : L2.St} {s : DSt} (l : ∀ n a, ρ n = some a → Mut (H a)) (g : Grow ρ ρ' H H') (r : StR K ρ H σ s) : StR K ρ' H' σ s :=
  ⟨r.len, fun i d e => let ⟨v, e1, q⟩ := r.at_ i d e; ⟨v, e1, Rp.grow l g d q⟩⟩
theorem StR.set {K : KW} {ρ : Rho} {H : Hp} {σ : L2.St} {s : DSt} {i : Nat} {d : D} {v : V} (r : StR K ρ H σ s) (q : Rp K ρ H d v) : StR K ρ H (σ.set i (some v)) (s.set i (some d)) := by
  refine ⟨by simp [r.len], fun j e h => ?_⟩
  by_cases z : j = i
  · subst z
    rw [List.getElem?_set] at h
    simp only [if_true] at h
    split at h
    · rename_i hl
      cases h
      refine ⟨v, ?_, q⟩
      rw [List.getElem?_set_self (by rw [r.len]; exact hl)]
    · cases h
  · rw [List.getElem?_set_ne (Ne.symm z)] at h
    obtain ⟨u, e1, q1⟩ := r.at_ j e h
    exact ⟨u, by rw [List.getElem?_set_ne (Ne.symm z)]; exact e1, q1⟩

/-! ## results -/
/-- an exception of the program's own: which class, its one attribute -/
structure Xn where
  cls : Nat
  arg : Option D
inductive R (α : Type) where
  | ok (a : α) (h : AH) | ex (e : Xn) (h : AH) | no
def R.bind {α β : Type} (r : R α) (f : α → AH → R β) : R β := match r with
  | .ok a h => f a h
  | .ex e h => .ex e h
  | .no => .no
/-- where the classes of exceptions stand, and what their own dict holds -/
structure XT where
  cls : Nat → Option Value
  fld : Nat → Option Str
def XR (K : KW) (T : XT) (ρ : Rho) (H : Hp) (e : Xn) (c : Value) (d : Option Addr) : Prop :=
  T.cls e.cls = some c ∧ match T.fld e.cls, e.arg with
    | some f, some x => ∃ a v, d = some a ∧ H a = some (.xd [(f, v)]) ∧ Rp K ρ H x v
    | none, none => d = none
    | _, _ => False
/-- what is wanted of an exception, by data -/
def PostX (K : KW) (T : XT) (E : XK) (ρ : Rho) (H : Hp) (e : Xn) (h : AH) : Prop :=
  ∀ ρ' H' c d, Grow ρ ρ' H H' → HR K ρ' H' h → XR K T ρ' H' e c d → E c d H'
def Post {α : Type} (K : KW) (T : XT) (E : XK) (ρ : Rho) (H : Hp) (r : R α) (q : α → AH → Rho → Hp → Prop) : Prop := match r with
  | .ok a h => ∀ ρ' H', Grow ρ ρ' H H' → HR K ρ' H' h → q a h ρ' H'
  | .ex e h => PostX K T E ρ H e h
  | .no => False
theorem Post.bind {α β : Type} {K : KW} {T : XT} {E : XK} {ρ : Rho} {H : Hp} {r : R α} {f : α → AH → R β} {q : β → AH → Rho → Hp → Prop} (p : Post K T E ρ H (r.bind f) q) :
    Post K T E ρ H r fun a h ρ' H' => Post K T E ρ' H' (f a h) q := by
  cases r with
  | no => exact p
  | ex e h => exact p
  | ok a h =>
    intro ρ1 H1 g1 hr1
    have p : Post K T E ρ H (f a h) q := p
    show Post K T E ρ1 H1 (f a h) q
    generalize f a h = z at p ⊢
    cases z with
    | no => exact p
    | ex e h' => exact fun ρ2 H2 c d g2 hr2 x => p ρ2 H2 c d (g1.trans hr1.live g2) hr2 x
    | ok b h' => exact fun ρ2 H2 g2 hr2 => p ρ2 H2 (g1.trans hr1.live g2) hr2
theorem Post.mono {α : Type} {K : KW} {T : XT} {E : XK} {ρ : Rho} {H : Hp} {r : R α} {q q' : α → AH → Rho → Hp → Prop} (p : Post K T E ρ H r q)
    (m : ∀ a h ρ' H', r = .ok a h → Grow ρ ρ' H H' → HR K ρ' H' h → q a h ρ' H' → q' a h ρ' H') : Post K T E ρ H r q' := by
  cases r with
  | no => exact p
  | ex e h => exact p
  | ok a h => exact fun ρ1 H1 g1 hr1 => m a h ρ1 H1 rfl g1 hr1 (p ρ1 H1 g1 hr1)
end Nc
namespace Nc
open PySem PySem.Spec PyProof.Rows L2

abbrev DE := DSt → AH → R D
/-- the wish about exceptions, at these slots -/
def at_ (W : WX) (σ : L2.St) : XK := fun c d H => W c d σ H
abbrev DB := DSt → AH → R Bool
abbrev DA := DSt → AH → R (List D)
def tD (K : KW) (T : XT) (W : WX) (f : DE) : TE := fun σ H Q => ∃ ρ s h, StR K ρ H σ s ∧ HR K ρ H h ∧ Post K T (at_ W σ) ρ H (f s h) fun d _ ρ' H' => ∀ v, Rp K ρ' H' d v → Q v H'
def tDB (K : KW) (T : XT) (W : WX) (f : DB) : TT := fun σ H Q => ∃ ρ s h, StR K ρ H σ s ∧ HR K ρ H h ∧ Post K T (at_ W σ) ρ H (f s h) fun b _ _ H' => Q b H'
def tDA (K : KW) (T : XT) (W : WX) (f : DA) : TA := fun σ H Q => ∃ ρ s h, StR K ρ H σ s ∧ HR K ρ H h ∧ Post K T (at_ W σ) ρ H (f s h) fun ds _ ρ' H' => ∀ vs, Rps K ρ' H' ds vs → Q vs H'

theorem PE.imp {X : Cx} {e : Expr} {t t' : TE} (h : PE X e t) (m : ∀ σ H Q, t' σ H Q → t σ H Q) : PE X e t' := ⟨fun pins s σ H Q I q => h.run pins s σ H Q I (m σ H Q q)⟩
theorem PT.imp {X : Cx} {e : Expr} {t t' : TT} (h : PT X e t) (m : ∀ σ H Q, t' σ H Q → t σ H Q) : PT X e t' := ⟨fun pins s σ H Q I q => h.run pins s σ H Q I (m σ H Q q)⟩
theorem PW.imp {X : Cx} {e : Expr} {t t' : TT} (h : PW X e t) (m : ∀ σ H Q, t' σ H Q → t σ H Q) : PW X e t' := ⟨fun wh pins s σ H Q I q => h.run wh pins s σ H Q I (m σ H Q q)⟩
theorem PA.imp {X : Cx} {e : List Expr} {t t' : TA} (h : PA X e t) (m : ∀ σ H Q, t' σ H Q → t σ H Q) : PA X e t' := ⟨fun pos pins s σ H Q I q => h.run pos pins s σ H Q I (m σ H Q q)⟩
theorem PS.imp {X : Cx} {e : Stmt} {t t' : TS} (h : PS X e t) (m : ∀ D σ H, t' D σ H → t D σ H) : PS X e t' := ⟨fun pins s σ H Q I q => h.run pins s σ H Q I (m Q σ H q)⟩
theorem PSs.imp {X : Cx} {e : List Stmt} {t t' : TS} (h : PSs X e t) (m : ∀ D σ H, t' D σ H → t D σ H) : PSs X e t' := ⟨fun pins s σ H Q I q => h.run pins s σ H Q I (m Q σ H q)⟩

structure SE (X : Cx) (T : XT) (W : WX) (e : Expr) (f : DE) : Prop where
  p : PE X e (tD (kwOf X) T W f)
structure ST (X : Cx) (T : XT) (W : WX) (e : Expr) (f : DB) : Prop where
  p : PT X e (tDB (kwOf X) T W f)
structure SW (X : Cx) (T : XT) (W : WX) (e : Expr) (f : DB) : Prop where
  p : PW X e (tDB (kwOf X) T W f)
structure SA (X : Cx) (T : XT) (W : WX) (es : List Expr) (f : DA) : Prop where
  p : PA X es (tDA (kwOf X) T W f)

section
variable {K : KW} {T : XT} {E : XK} {W : WX} {ρ : Rho} {H : Hp} {h : AH} {σ : L2.St} {s : DSt}
/-- what follows, from the heap as it stands -/
theorem Post.here {α : Type} {a : α} {q : α → AH → Rho → Hp → Prop} (p : Post K T E ρ H (.ok a h) q) (hr : HR K ρ H h) : q a h ρ H := p ρ H (Grow.refl ρ H) hr
theorem tD_bind {β : Type} {f : DE} {g : D → AH → R β} {q : β → AH → Rho → Hp → Prop} {Q : VK} (st : StR K ρ H σ s) (hr : HR K ρ H h) (p : Post K T (at_ W σ) ρ H ((f s h).bind g) q)
    (k : ∀ d h1 ρ1 H1 v, Grow ρ ρ1 H H1 → HR K ρ1 H1 h1 → StR K ρ1 H1 σ s → Rp K ρ1 H1 d v → Post K T (at_ W σ) ρ1 H1 (g d h1) q → Q v H1) : tD K T W f σ H Q :=
  ⟨ρ, s, h, st, hr, p.bind.mono fun a h1 ρ1 H1 _ gr hr1 pq v rv => k a h1 ρ1 H1 v gr hr1 (st.grow hr.live gr) rv pq⟩
theorem tDB_bind {β : Type} {f : DB} {g : Bool → AH → R β} {q : β → AH → Rho → Hp → Prop} {Q : Bool → Hp → Prop} (st : StR K ρ H σ s) (hr : HR K ρ H h) (p : Post K T (at_ W σ) ρ H ((f s h).bind g) q)
    (k : ∀ d h1 ρ1 H1, Grow ρ ρ1 H H1 → HR K ρ1 H1 h1 → StR K ρ1 H1 σ s → Post K T (at_ W σ) ρ1 H1 (g d h1) q → Q d H1) : tDB K T W f σ H Q :=
  ⟨ρ, s, h, st, hr, p.bind.mono fun a h1 ρ1 H1 _ gr hr1 pq => k a h1 ρ1 H1 gr hr1 (st.grow hr.live gr) pq⟩
theorem tDA_bind {β : Type} {f : DA} {g : List D → AH → R β} {q : β → AH → Rho → Hp → Prop} {Q : List V → Hp → Prop} (st : StR K ρ H σ s) (hr : HR K ρ H h) (p : Post K T (at_ W σ) ρ H ((f s h).bind g) q)
    (k : ∀ d h1 ρ1 H1 v, Grow ρ ρ1 H H1 → HR K ρ1 H1 h1 → StR K ρ1 H1 σ s → Rps K ρ1 H1 d v → Post K T (at_ W σ) ρ1 H1 (g d h1) q → Q v H1) : tDA K T W f σ H Q :=
  ⟨ρ, s, h, st, hr, p.bind.mono fun a h1 ρ1 H1 _ gr hr1 pq v rv => k a h1 ρ1 H1 v gr hr1 (st.grow hr.live gr) rv pq⟩
theorem rp_int {i : Int} {v : V} : Rp K ρ H (.int i) v ↔ v = .int i := by unfold Rp; exact Iff.rfl
theorem rp_bl {i : Bool} {v : V} : Rp K ρ H (.bl i) v ↔ v = .bl i := by unfold Rp; exact Iff.rfl
theorem rp_non {v : V} : Rp K ρ H .non v ↔ v = .non := by unfold Rp; exact Iff.rfl
theorem rp_str {i : Str} {v : V} : Rp K ρ H (.str i) v ↔ v = .str i := by unfold Rp; exact Iff.rfl
theorem rp_tup {ds : List D} {v : V} : Rp K ρ H (.tup ds) v ↔ ∃ a xs, v = .ref a ∧ SqT K.k H a xs ∧ Rps K ρ H ds xs := by
  constructor
  · intro h; unfold Rp at h; exact h
  · intro h; unfold Rp; exact h
theorem rp_cell {n : Nat} {v : V} : Rp K ρ H (.cell n) v ↔ ∃ a, v = .ref a ∧ ρ n = some a := by unfold Rp; exact Iff.rfl
end

section
variable {X : Cx} {T : XT} {W : WX} {pos : Pos} {a b e : Expr} {f g : DE}

/-! ### names, constants -/
def dVar (i : Nat) : DE := fun s h => match s[i]? with
  | some (some d) => .ok d h
  | _ => .no
theorem se_of {i : Nat} (p : PE X e (tVar i)) : SE X T W e (dVar i) := ⟨PE.imp p fun σ H Q ⟨ρ, s, h, st, hr, q⟩ => by
  unfold dVar at q
  split at q
  · rename_i d hd
    obtain ⟨v, e1, r⟩ := st.at_ _ _ hd
    exact ⟨v, e1, q.here hr v r⟩
  · exact q.elim⟩
theorem sv (i : Nat) {x : Str} {pos : Pos} (hN : X.N[i]? = some x := by rfl) (hv : Vis X.env.scope x := by first | exact Or.inl rfl | exact Or.inr (Or.inl rfl) | exact Or.inr (Or.inr rfl)) (hd : (x == ("__debug__" : Str)) = false := by decide)
    (hcd : (x == ("__classdict__" : Str)) = false := by decide) : SE X T W (.Name x pos) (dVar i) := se_of (pe_var hN hv hd hcd)
def dC (d : D) : DE := fun _ h => .ok d h
theorem se_int {i j pos} : SE X T W (.Constant (.int i) j pos) (dC (.int i)) := ⟨PE.imp pe_int fun σ H Q ⟨ρ, s, h, st, hr, q⟩ => q.here hr _ (rp_int.mpr rfl)⟩
theorem se_bl {i j pos} : SE X T W (.Constant (.bool i) j pos) (dC (.bl i)) := ⟨PE.imp pe_bl fun σ H Q ⟨ρ, s, h, st, hr, q⟩ => q.here hr _ (rp_bl.mpr rfl)⟩
theorem se_str {i j pos} : SE X T W (.Constant (.str i) j pos) (dC (.str i)) := ⟨PE.imp pe_str fun σ H Q ⟨ρ, s, h, st, hr, q⟩ => q.here hr _ (rp_str.mpr rfl)⟩
theorem se_non {j pos} : SE X T W (.Constant .none j pos) (dC .non) := ⟨PE.imp pe_non fun σ H Q ⟨ρ, s, h, st, hr, q⟩ => q.here hr _ (rp_non.mpr rfl)⟩

/-! ### arguments, displays -/
def dNil : DA := fun _ h => .ok [] h
def dCons (f : DE) (g : DA) : DA := fun s h => (f s h).bind fun d h1 => (g s h1).bind fun ds h2 => .ok (d :: ds) h2
theorem sa_nil : SA X T W [] dNil := ⟨PA.imp pa_nil fun σ H Q ⟨ρ, s, h, st, hr, q⟩ => q.here hr [] (Rps.nil_iff.mpr rfl)⟩
theorem sa_cons {es : List Expr} {g : DA} (ha : SE X T W e f) (hs : SA X T W es g) (he : starEach (e :: es) X.env = (false, eval e X.env) :: starEach es X.env := by rfl) : SA X T W (e :: es) (dCons f g) :=
  ⟨PA.imp (pa_cons ha.p hs.p he) fun σ H Q ⟨ρ, s, h, st, hr, q⟩ => tD_bind st hr q fun d h1 ρ1 H1 v g1 hr1 st1 r1 q1 =>
    tDA_bind st1 hr1 q1 fun ds h2 ρ2 H2 vs g2 hr2 st2 r2 q2 => q2.here hr2 _ (Rps.cons (Rp.grow hr1.live g2 d r1) r2)⟩
def lim : Nat := 1000000
theorem lim_ok {n : Nat} (h : Nat.ble n lim = true) : n ≤ sizeLine := by
  have h := Nat.le_of_ble_eq_true h
  have : lim ≤ sizeLine := by rw [sizeLine_eq]; decide
  omega
theorem lim_lt {n : Nat} (h : Nat.ble n lim = true) : n < sizeLine := by
  have h := Nat.le_of_ble_eq_true h
  have : lim < sizeLine := by rw [sizeLine_eq]; decide
  omega
/-- a check ahead -/
def chk {α : Type} (b : Bool) (r : R α) : R α := match b with
  | true => r
  | false => .no
theorem Post.chk {α : Type} {K : KW} {E : XK} {ρ : Rho} {H : Hp} {b : Bool} {r : R α} {q : α → AH → Rho → Hp → Prop} (p : Post K T E ρ H (Nc.chk b r) q) : b = true ∧ Post K T E ρ H r q := by
  cases b with
  | true => exact ⟨rfl, p⟩
  | false => exact p.elim
def mkL (ds : List D) (h : AH) : R D := chk (Nat.ble ds.length lim) (.ok (.cell h.new) (h.add (.lst ds)))
def mkT (ds : List D) (h : AH) : R D := chk (Nat.ble ds.length lim) (.ok (.tup ds) h)
section
variable {K : KW} {E : XK} {ρ : Rho} {H : Hp} {h : AH} {ds : List D} {vs : List V} {Q : VK}
theorem mkL_ok (hr : HR K ρ H h) (r : Rps K ρ H ds vs) (p : Post K T E ρ H (mkL ds h) fun d _ ρ' H' => ∀ v, Rp K ρ' H' d v → Q v H') : vs.length ≤ sizeLine ∧ ∀ p, H p = none → Q (.ref p) (upd H p (.lst vs)) := by
  obtain ⟨c, q⟩ := p.chk
  refine ⟨by rw [← r.length]; exact lim_ok c, fun p np => ?_⟩
  exact q _ _ (grow_add hr np) (hr.add np r) _ (rp_cell.mpr ⟨p, rfl, rhoAdd_same⟩)
theorem mkT_ok (hr : HR K ρ H h) (r : Rps K ρ H ds vs) (p : Post K T E ρ H (mkT ds h) fun d _ ρ' H' => ∀ v, Rp K ρ' H' d v → Q v H') : vs.length ≤ sizeLine ∧ ∀ p, H p = none → Q (.ref p) (upd H p (.tup vs)) := by
  obtain ⟨c, q⟩ := p.chk
  refine ⟨by rw [← r.length]; exact lim_ok c, fun p np => ?_⟩
  exact q _ _ (grow_upd hr.live np) (hr.upd np) _ (rp_tup.mpr ⟨p, vs, rfl, .inl (.inl upd_same), Rps.grow hr.live (grow_upd hr.live np) ds r⟩)
end
def dTup (f : DA) : DE := fun s h => (f s h).bind mkT
def dLst (f : DA) : DE := fun s h => (f s h).bind mkL
theorem se_tup {es : List Expr} {f : DA} {k} (ha : SA X T W es f) : SE X T W (.Tuple es k pos) (dTup f) :=
  ⟨PE.imp (pe_tup ha.p) fun σ H Q ⟨ρ, s, h, st, hr, q⟩ => tDA_bind st hr q fun ds h1 ρ1 H1 v g1 hr1 st1 r1 q1 => mkT_ok hr1 r1 q1⟩
theorem se_lst {es : List Expr} {f : DA} (ha : SA X T W es f) : SE X T W (.List es pos) (dLst f) :=
  ⟨PE.imp (pe_lst ha.p) fun σ H Q ⟨ρ, s, h, st, hr, q⟩ => tDA_bind st hr q fun ds h1 ρ1 H1 v g1 hr1 st1 r1 q1 => mkL_ok hr1 r1 q1⟩

/-! ### operators by values -/
abbrev P1 (K : KW) (T : XT) (E : XK) (ρ : Rho) (H : Hp) (r : R D) (Q : VK) : Prop := Post K T E ρ H r fun d _ ρ' H' => ∀ v, Rp K ρ' H' d v → Q v H'
def O2 (K : KW) (T : XT) (r : R2) (o : D → D → AH → R D) : Prop :=
  ∀ (E : XK) ρ H h x y v u Q, HR K ρ H h → Rp K ρ H x v → Rp K ρ H y u → P1 K T E ρ H (o x y h) Q → r v u H Q
def dOp (o : D → D → AH → R D) (f g : DE) : DE := fun s h => (f s h).bind fun x h1 => (g s h1).bind fun y h2 => o x y h2
theorem op_imp {r : R2} {o : D → D → AH → R D} (ho : O2 (kwOf X) T r o) : ∀ σ H Q, tD (kwOf X) T W (dOp o f g) σ H Q → tOp r (tD (kwOf X) T W f) (tD (kwOf X) T W g) σ H Q := fun σ H Q ⟨ρ, s, h, st, hr, q⟩ =>
  tD_bind st hr q fun x h1 ρ1 H1 v g1 hr1 st1 r1 q1 => tD_bind st1 hr1 q1 fun y h2 ρ2 H2 u g2 hr2 st2 r2 q2 => ho _ ρ2 H2 h2 x y v u Q hr2 (Rp.grow hr1.live g2 x r1) r2 q2
theorem se_op {op : Operator} {r : R2} {o : D → D → AH → R D} (hp : OpR X (binaryOp op) r) (ho : O2 (kwOf X) T r o) (ha : SE X T W a f) (hb : SE X T W b g) : SE X T W (.BinOp a op b pos) (dOp o f g) :=
  ⟨PE.imp (pe_op hp ha.p hb.p) (op_imp ho)⟩
theorem se_cmp {op : CmpOp} {r : R2} {o : D → D → AH → R D} (hp : OpR X (compareOp op) r) (ho : O2 (kwOf X) T r o) (ha : SE X T W a f) (hb : SE X T W b g) (hm : behindInMarks op b = false) : SE X T W (.Compare a [op] [b] pos) (dOp o f g) :=
  ⟨PE.imp (pe_cmpR hp ha.p hb.p hm) (op_imp ho)⟩
/-- a value as a truth value: bools alone -/
def toB : D → AH → R Bool
  | .bl b, h => .ok b h
  | _, _ => .no
def dTest (f : DE) : DB := fun s h => (f s h).bind toB
theorem toB_ok {K : KW} {E : XK} {ρ : Rho} {H : Hp} {h : AH} {d : D} {v : V} {q : Bool → AH → Rho → Hp → Prop} (hr : HR K ρ H h) (r : Rp K ρ H d v) (p : Post K T E ρ H (toB d h) q) : ∃ k, v = .bl k ∧ q k h ρ H := by
  cases d with
  | bl b => exact ⟨b, rp_bl.mp r, p.here hr⟩
  | _ => exact p.elim
theorem test_imp {t : TE} {f : DE} (h : ∀ σ H Q, tD (kwOf X) T W f σ H Q → t σ H Q) : ∀ σ H Q, tDB (kwOf X) T W (dTest f) σ H Q → tTest t σ H Q := fun σ H Q ⟨ρ, s, hh, st, hr, q⟩ =>
  h σ H _ (tD_bind st hr q fun x h1 ρ1 H1 v g1 hr1 st1 r1 q1 => toB_ok hr1 r1 q1)
theorem st_cmp {op : CmpOp} {r : R2} {o : D → D → AH → R D} (hp : OpR X (compareOp op) r) (ho : O2 (kwOf X) T r o) (ha : SE X T W a f) (hb : SE X T W b g) (hm : behindInMarks op b = false) : ST X T W (.Compare a [op] [b] pos) (dTest (dOp o f g)) :=
  ⟨PT.imp (pt_cmpR hp ha.p hb.p hm) (test_imp (op_imp ho))⟩
theorem st_val (ha : SE X T W e f) (he : ∀ whole, isTrue e X.env whole = (do let v ← whole; standAt e.pos; holding [v] (truthy v)) := by intro _; rfl) : ST X T W e (dTest f) :=
  ⟨PT.imp (pt_val ha.p he) fun σ H Q ⟨ρ, s, hh, st, hr, q⟩ => tD_bind st hr q fun x h1 ρ1 H1 v g1 hr1 st1 r1 q1 => toB_ok hr1 r1 q1⟩
/-- a < b < c -/
def dChain (o o' : D → D → AH → R D) (f g k : DE) : DE := fun s h => (f s h).bind fun x h1 => (g s h1).bind fun y h2 => (o x y h2).bind fun z h3 => (toB z h3).bind fun b h4 => match b with
  | true => (k s h4).bind fun w h5 => o' y w h5
  | false => .ok (.bl false) h4
theorem chain_imp {r r' : R2} {o o' : D → D → AH → R D} {k : DE} (ho : O2 (kwOf X) T r o) (ho' : O2 (kwOf X) T r' o') : ∀ σ H Q, tD (kwOf X) T W (dChain o o' f g k) σ H Q → tChain r r' (tD (kwOf X) T W f) (tD (kwOf X) T W g) (tD (kwOf X) T W k) σ H Q := fun σ H Q ⟨ρ, s, h, st, hr, q⟩ =>
  tD_bind st hr q fun x h1 ρ1 H1 v g1 hr1 st1 r1 q1 => tD_bind st1 hr1 q1 fun y h2 ρ2 H2 u g2 hr2 st2 r2 q2 =>
    ho _ ρ2 H2 h2 x y v u _ hr2 (Rp.grow hr1.live g2 x r1) r2 (q2.bind.mono fun z h3 ρ3 H3 _ g3 hr3 q3 w rw' => by
      obtain ⟨k', e1, q4⟩ := toB_ok hr3 rw' q3.bind
      refine ⟨k', e1, ?_⟩
      cases k' with
      | true => 
        rw [if_pos rfl]
        exact tD_bind (st2.grow hr2.live g3) hr3 q4 fun w2 h5 ρ5 H5 v5 g5 hr5 st5 r5 q5 => ho' _ ρ5 H5 h5 y w2 u v5 Q hr5 (Rp.grow hr3.live g5 y (Rp.grow hr2.live g3 y r2)) r5 q5
      | false =>
        rw [if_neg (by decide)]
        exact q4.here hr3 _ (rp_bl.mpr rfl))
theorem se_chain {op op' : CmpOp} {c : Expr} {k : DE} {r r' : R2} {o o' : D → D → AH → R D} (hp : OpR X (compareOp op) r) (ho : O2 (kwOf X) T r o) (hp' : OpR X (compareOp op') r') (ho' : O2 (kwOf X) T r' o') (ha : SE X T W a f) (hb : SE X T W b g) (hc : SE X T W c k)
    (hm : lastMarks [op, op'] [b, c] = false := by with_unfolding_all rfl) : SE X T W (.Compare a [op, op'] [b, c] pos) (dChain o o' f g k) := ⟨PE.imp (pe_chain hp hp' ha.p hb.p hc.p hm) (chain_imp ho ho')⟩
theorem st_chain {op op' : CmpOp} {c : Expr} {k : DE} {r r' : R2} {o o' : D → D → AH → R D} (hp : OpR X (compareOp op) r) (ho : O2 (kwOf X) T r o) (hp' : OpR X (compareOp op') r') (ho' : O2 (kwOf X) T r' o') (ha : SE X T W a f) (hb : SE X T W b g) (hc : SE X T W c k)
    (hm : lastMarks [op, op'] [b, c] = false := by with_unfolding_all rfl) : ST X T W (.Compare a [op, op'] [b, c] pos) (dTest (dChain o o' f g k)) := ⟨PT.imp (pt_chain hp hp' ha.p hb.p hc.p hm) (test_imp (chain_imp ho ho'))⟩

/-! ### and, or, not, if else -/
def dAnd (f g : DB) : DB := fun s h => (f s h).bind fun b h1 => match b with
  | true => g s h1
  | false => .ok false h1
def dOr (f g : DB) : DB := fun s h => (f s h).bind fun b h1 => match b with
  | true => .ok true h1
  | false => g s h1
def dNot (f : DB) : DB := fun s h => (f s h).bind fun b h1 => .ok (!b) h1
def dIf (c : DB) (f g : DE) : DE := fun s h => (c s h).bind fun b h1 => match b with
  | true => f s h1
  | false => g s h1
variable {rest : List Expr} {fb gb : DB}
theorem sw_and1 (ha : ST X T W a fb) : SW X T W (.BoolOp .And [a] pos) fb := ⟨PW.imp (pw_and1 ha.p) fun _ _ _ q => q⟩
theorem sw_or1 (ha : ST X T W a fb) : SW X T W (.BoolOp .Or [a] pos) fb := ⟨PW.imp (pw_or1 ha.p) fun _ _ _ q => q⟩
theorem sw_and (ha : ST X T W a fb) (hb : SW X T W (.BoolOp .And (b :: rest) pos) gb) : SW X T W (.BoolOp .And (a :: b :: rest) pos) (dAnd fb gb) :=
  ⟨PW.imp (pw_and ha.p hb.p) fun σ H Q ⟨ρ, s, h, st, hr, q⟩ => tDB_bind st hr q fun c h1 ρ1 H1 g1 hr1 st1 q1 => by
    cases c with
    | true => rw [if_pos rfl]; exact ⟨ρ1, s, h1, st1, hr1, q1⟩
    | false => rw [if_neg (by decide)]; exact q1.here hr1⟩
theorem sw_or (ha : ST X T W a fb) (hb : SW X T W (.BoolOp .Or (b :: rest) pos) gb) : SW X T W (.BoolOp .Or (a :: b :: rest) pos) (dOr fb gb) :=
  ⟨PW.imp (pw_or ha.p hb.p) fun σ H Q ⟨ρ, s, h, st, hr, q⟩ => tDB_bind st hr q fun c h1 ρ1 H1 g1 hr1 st1 q1 => by
    cases c with
    | true => rw [if_pos rfl]; exact q1.here hr1
    | false => rw [if_neg (by decide)]; exact ⟨ρ1, s, h1, st1, hr1, q1⟩⟩
theorem SW.st (h : SW X T W e fb) : ST X T W e fb := ⟨h.p.pt⟩
theorem st_not (ha : ST X T W a fb) : ST X T W (.UnaryOp .Not a pos) (dNot fb) :=
  ⟨PT.imp (pt_not ha.p) fun σ H Q ⟨ρ, s, h, st, hr, q⟩ => tDB_bind st hr q fun c h1 ρ1 H1 g1 hr1 st1 q1 => q1.here hr1⟩
/-- as values -/
def dAndV (f g : DE) : DE := fun s h => (f s h).bind fun x h1 => (toB x h1).bind fun b h2 => match b with
  | true => g s h2
  | false => .ok (.bl false) h2
def dOrV (f g : DE) : DE := fun s h => (f s h).bind fun x h1 => (toB x h1).bind fun b h2 => match b with
  | true => .ok (.bl true) h2
  | false => g s h2
def dNotV (f : DE) : DE := fun s h => (f s h).bind fun x h1 => (toB x h1).bind fun b h2 => .ok (.bl (!b)) h2
theorem se_one {op} (h : SE X T W a f) : SE X T W (.BoolOp op [a] pos) f := ⟨PE.imp (pe_one h.p) fun _ _ _ q => q⟩
theorem se_and (ha : SE X T W a f) (hb : SE X T W (.BoolOp .And (b :: rest) pos) g) : SE X T W (.BoolOp .And (a :: b :: rest) pos) (dAndV f g) :=
  ⟨PE.imp (pe_and ha.p hb.p) fun σ H Q ⟨ρ, s, h, st, hr, q⟩ => tD_bind st hr q fun x h1 ρ1 H1 v g1 hr1 st1 r1 q1 => by
    obtain ⟨c, e1, q2⟩ := toB_ok hr1 r1 q1.bind
    refine ⟨c, e1, ?_⟩
    cases c with
    | true => rw [if_pos rfl]; exact ⟨ρ1, s, h1, st1, hr1, q2⟩
    | false => rw [if_neg (by decide)]; exact q2.here hr1 _ (rp_bl.mpr rfl)⟩
theorem se_or (ha : SE X T W a f) (hb : SE X T W (.BoolOp .Or (b :: rest) pos) g) : SE X T W (.BoolOp .Or (a :: b :: rest) pos) (dOrV f g) :=
  ⟨PE.imp (pe_or ha.p hb.p) fun σ H Q ⟨ρ, s, h, st, hr, q⟩ => tD_bind st hr q fun x h1 ρ1 H1 v g1 hr1 st1 r1 q1 => by
    obtain ⟨c, e1, q2⟩ := toB_ok hr1 r1 q1.bind
    refine ⟨c, e1, ?_⟩
    cases c with
    | true => rw [if_pos rfl]; exact q2.here hr1 _ (rp_bl.mpr rfl)
    | false => rw [if_neg (by decide)]; exact ⟨ρ1, s, h1, st1, hr1, q2⟩⟩
theorem se_not (ha : SE X T W a f) : SE X T W (.UnaryOp .Not a pos) (dNotV f) :=
  ⟨PE.imp (pe_not ha.p) fun σ H Q ⟨ρ, s, h, st, hr, q⟩ => tD_bind st hr q fun x h1 ρ1 H1 v g1 hr1 st1 r1 q1 => by
    obtain ⟨c, e1, q2⟩ := toB_ok hr1 r1 q1.bind
    exact ⟨c, e1, q2.here hr1 _ (rp_bl.mpr rfl)⟩⟩
theorem se_if {c : Expr} (hc : ST X T W c fb) (ha : SE X T W a f) (hb : SE X T W b g) : SE X T W (.IfExp c a b pos) (dIf fb f g) :=
  ⟨PE.imp (pe_ifExp hc.p ha.p hb.p) fun σ H Q ⟨ρ, s, h, st, hr, q⟩ => tDB_bind st hr q fun d h1 ρ1 H1 g1 hr1 st1 q1 => by
    cases d with
    | true => rw [if_pos rfl]; exact ⟨ρ1, s, h1, st1, hr1, q1⟩
    | false => rw [if_neg (by decide)]; exact ⟨ρ1, s, h1, st1, hr1, q1⟩⟩

/-! ### calls of built-ins by values -/
def OC (K : KW) (T : XT) (r : List V → Hp → VK → Prop) (o : List D → AH → R D) : Prop := ∀ (E : XK) ρ H h ds vs Q, HR K ρ H h → Rps K ρ H ds vs → P1 K T E ρ H (o ds h) Q → r vs H Q
def dCall (o : List D → AH → R D) (f : DA) : DE := fun s h => (f s h).bind o
theorem call_imp {r : List V → Hp → VK → Prop} {o : List D → AH → R D} {f : DA} (ho : OC (kwOf X) T r o) : ∀ σ H Q, tD (kwOf X) T W (dCall o f) σ H Q → tCB r (tDA (kwOf X) T W f) σ H Q := fun σ H Q ⟨ρ, s, h, st, hr, q⟩ =>
  tDA_bind st hr q fun ds h1 ρ1 H1 v g1 hr1 st1 r1 q1 => ho _ ρ1 H1 h1 ds v Q hr1 r1 q1
theorem se_callB {x : Str} {p : Pos} {es : List Expr} {id : String} {r : List V → Hp → VK → Prop} {o : List D → AH → R D} {f : DA} (hc : CallR X (.builtin id) r) (ho : OC (kwOf X) T r o) (hg : Gl X x) (hm : X.mg x = none) (hv : bootBuiltins x = some (.builtin id)) (ha : SA X T W (e :: es) f) (hn : x ≠ "__name__" := by decide) (hdb : (x == ("__debug__" : Str)) = false := by decide)
    (he : starEach (e :: es) X.env = (false, eval e X.env) :: starEach es X.env := by rfl) (hpl : (backTo pos (starEach es X.env)).any (·.1) = false := by rfl) : SE X T W (.Call (.Name x p) (e :: es) [] pos) (dCall o f) :=
  ⟨PE.imp (pe_callB hc hg hm hv ha.p hn hdb he hpl) (call_imp ho)⟩
theorem se_callTy {x : Str} {p : Pos} {es : List Expr} {id : String} {r : List V → Hp → VK → Prop} {o : List D → AH → R D} {f : DA} (hc : CallR X (.type id) r) (ho : OC (kwOf X) T r o) (hg : Gl X x) (hm : X.mg x = none) (hv : bootBuiltins x = some (.type id)) (ha : SA X T W (e :: es) f) (hn : x ≠ "__name__" := by decide) (hdb : (x == ("__debug__" : Str)) = false := by decide)
    (he : starEach (e :: es) X.env = (false, eval e X.env) :: starEach es X.env := by rfl) (hpl : (backTo pos (starEach es X.env)).any (·.1) = false := by rfl) : SE X T W (.Call (.Name x p) (e :: es) [] pos) (dCall o f) :=
  ⟨PE.imp (pe_callTy hc hg hm hv ha.p hn hdb he hpl) (call_imp ho)⟩
/-! ### subscripts -/
theorem se_ix {r : R2} {o : D → D → AH → R D} (hp : IxR X r) (ho : O2 (kwOf X) T r o) (ha : SE X T W a f) (hb : SE X T W b g) (hs : PlainIx b) : SE X T W (.Subscript a b pos) (dOp o f g) :=
  ⟨PE.imp (pe_ix hp ha.p hb.p hs) (op_imp ho)⟩
end
end Nc
namespace Nc
open PySem PySem.Spec PyProof.Rows L2

section
variable {K : KW} {T : XT} {E : XK}

theorem O2.or {r r' : R2} {o : D → D → AH → R D} {sel : D → D → Bool} (h : ∀ (E : XK) ρ H h x y v u Q, sel x y = true → HR K ρ H h → Rp K ρ H x v → Rp K ρ H y u → P1 K T E ρ H (o x y h) Q → r v u H Q)
    (h' : ∀ (E : XK) ρ H h x y v u Q, sel x y = false → HR K ρ H h → Rp K ρ H x v → Rp K ρ H y u → P1 K T E ρ H (o x y h) Q → r' v u H Q) : O2 K T (fun x y H Q => r x y H Q ∨ r' x y H Q) o := fun E ρ H hh x y v u Q hr rx ry p => by
  cases e : sel x y with
  | true => exact .inl (h E ρ H hh x y v u Q e hr rx ry p)
  | false => exact .inr (h' E ρ H hh x y v u Q e hr rx ry p)

/-- the list in a cell -/
def lstAt (n : Nat) (h : AH) : Option (List D) := match AH.get n h with
  | some (.lst ds) => some ds
  | _ => none
theorem lstAt_ok {ρ : Rho} {H : Hp} {h : AH} {n : Nat} {ds : List D} (hr : HR K ρ H h) (e : lstAt n h = some ds) : ∃ a xs, ρ n = some a ∧ H a = some (.lst xs) ∧ Rps K ρ H ds xs ∧ AH.get n h = some (.lst ds) := by
  unfold lstAt at e
  cases q : AH.get n h with
  | none => rw [q] at e; cases e
  | some c =>
    cases c with
    | lst es =>
      rw [q] at e; cases e
      obtain ⟨a, e1, xs, e2, r⟩ := hr.at_ n _ q
      exact ⟨a, xs, e1, e2, r, rfl⟩
    | dict _ => rw [q] at e; cases e
/-- the items of a list or a tuple -/
def seqOf (d : D) (h : AH) : Option (List D) := match d with
  | .tup ds => some ds
  | .cell n => lstAt n h
  | _ => none
theorem seqOf_ok {ρ : Rho} {H : Hp} {h : AH} {d : D} {v : V} {ds : List D} (hr : HR K ρ H h) (r : Rp K ρ H d v) (e : seqOf d h = some ds) :
    ∃ a xs, v = .ref a ∧ Rps K ρ H ds xs ∧ ((SqT K.k H a xs ∧ d = .tup ds) ∨ (H a = some (.lst xs) ∧ ∃ n, d = .cell n ∧ ρ n = some a ∧ AH.get n h = some (.lst ds))) := by
  cases d with
  | tup es =>
    cases e
    obtain ⟨a, xs, e1, s, q⟩ := rp_tup.mp r
    exact ⟨a, xs, e1, q, .inl ⟨s, rfl⟩⟩
  | cell n =>
    obtain ⟨a, xs, e1, e2, q, g⟩ := lstAt_ok hr e
    obtain ⟨b, e3, e4⟩ := rp_cell.mp r
    rw [e1] at e4; cases e4
    exact ⟨a, xs, e3, q, .inr ⟨e2, n, rfl, e1, g⟩⟩
  | _ => cases e
/-- with it, or not at all -/
def withS {α β : Type} (o : Option α) (k : α → R β) : R β := match o with
  | some a => k a
  | none => .no
theorem Post.withS {α β : Type} {ρ : Rho} {H : Hp} {o : Option α} {k : α → R β} {q : β → AH → Rho → Hp → Prop} (p : Post K T E ρ H (Nc.withS o k) q) : ∃ a, o = some a ∧ Post K T E ρ H (k a) q := by
  cases o with
  | some a => exact ⟨a, rfl, p⟩
  | none => exact p.elim

/-! ### + - * -/
def dAdd : D → D → AH → R D
  | .int i, .int j, h => .ok (.int (i + j)) h
  | .tup xs, .tup ys, h => mkT (xs ++ ys) h
  | .cell m, .cell n, h => withS (lstAt m h) fun xs => withS (lstAt n h) fun ys => mkL (xs ++ ys) h
  | _, _, _ => .no
theorem rps_nil {ρ : Rho} {H : Hp} {ds : List D} {xs : List V} (r : Rps K ρ H ds xs) : ds = [] ↔ xs = [] := by
  have := r.length
  constructor
  · intro e; subst e; exact List.length_eq_zero_iff.mp this.symm
  · intro e; subst e; exact List.length_eq_zero_iff.mp this
theorem o_add : O2 K T (fun x y H Q => rI0 (fun i j => .int (i + j)) x y H Q ∨ (rCat x y H Q ∨ rCatA K.k x y H Q)) dAdd := fun E ρ H h x y v u Q hr rx ry p => by
  cases x with
  | int i =>
    cases y with
    | int j => exact .inl ⟨i, j, rp_int.mp rx, rp_int.mp ry, p.here hr _ (rp_int.mpr rfl)⟩
    | _ => exact p.elim
  | tup xs =>
    cases y with
    | tup ys =>
      obtain ⟨a, vs, e1, s1, r1⟩ := rp_tup.mp rx
      obtain ⟨b, us, e2, s2, r2⟩ := rp_tup.mp ry
      have p' : P1 K T E ρ H (mkT (xs ++ ys) h) Q := p
      have m := mkT_ok hr (r1.append r2) p'
      refine .inr (.inr ⟨a, b, vs, us, e1, e2, s1, s2, by simpa using m.1, fun z => ?_, fun _ z => ?_, fun _ _ => m.2⟩)
      · obtain ⟨c, q⟩ := p'.chk
        have z2 := (rps_nil r1).mpr z
        subst z2
        exact q.here hr _ (rp_tup.mpr ⟨b, us, rfl, s2, r2⟩)
      · obtain ⟨c, q⟩ := p'.chk
        have z2 := (rps_nil r2).mpr z
        subst z2
        rw [List.append_nil] at q
        exact q.here hr _ (rp_tup.mpr ⟨a, vs, rfl, s1, r1⟩)
    | _ => exact p.elim
  | cell m =>
    cases y with
    | cell n =>
      obtain ⟨a, e1, e1'⟩ := rp_cell.mp rx
      obtain ⟨b, e2, e2'⟩ := rp_cell.mp ry
      obtain ⟨xs, g1, p⟩ := Post.withS (k := fun xs => withS (lstAt n h) fun ys => mkL (xs ++ ys) h) p
      obtain ⟨ys, g2, p⟩ := p.withS
      obtain ⟨a', vs, f1, f2, r1, _⟩ := lstAt_ok hr g1
      obtain ⟨b', us, f3, f4, r2, _⟩ := lstAt_ok hr g2
      rw [e1'] at f1; cases f1
      rw [e2'] at f3; cases f3
      have m := mkL_ok hr (r1.append r2) p
      exact .inr (.inl ⟨a, b, vs, us, e1, e2, f2, f4, by simpa using m.1, m.2⟩)
    | _ => exact p.elim
  | _ => exact p.elim
def dSub : D → D → AH → R D
  | .int i, .int j, h => .ok (.int (i - j)) h
  | _, _, _ => .no
theorem o_sub : O2 K T (rI0 fun i j => .int (i - j)) dSub := fun E ρ H h x y v u Q hr rx ry p => by
  cases x <;> first | exact p.elim | skip
  cases y <;> first | exact p.elim | skip
  exact ⟨_, _, rp_int.mp rx, rp_int.mp ry, p.here hr _ (rp_int.mpr rfl)⟩
def small64 (i : Int) : Bool := Nat.ble i.natAbs 1152921504606846976
theorem small64_ok {i : Int} (h : small64 i = true) : -(2 ^ 64) < i ∧ i < 2 ^ 64 := by
  have := Nat.le_of_ble_eq_true h
  have e : (2 : Int) ^ 64 = 18446744073709551616 := by decide
  omega
def repD (k : Nat) (ds : List D) : List D := match k with
  | 0 => []
  | k + 1 => ds ++ repD k ds
theorem repD_ok {ρ : Rho} {H : Hp} {ds : List D} {xs : List V} (r : Rps K ρ H ds xs) : ∀ k, Rps K ρ H (repD k ds) (List.replicate k xs).flatten
  | 0 => Rps.nil_iff.mpr rfl
  | k + 1 => by
    rw [List.replicate_succ, List.flatten_cons]
    exact r.append (repD_ok r k)
def dMul : D → D → AH → R D
  | .int i, .int j, h => chk (small64 i || small64 j) (.ok (.int (i * j)) h)
  | .cell n, .int k, h => withS (lstAt n h) fun xs => chk (Nat.ble k.natAbs 1000) (mkL (repD k.toNat xs) h)
  | .tup xs, .int k, h => chk (Nat.ble 1 xs.length && (Nat.ble 2 k.toNat && (Nat.ble k.natAbs 1000 && Nat.ble xs.length 1000))) (mkT (repD k.toNat xs) h)
  | _, _, _ => .no
theorem o_mul : O2 K T (fun x y H Q => rI CMul (fun i j => .int (i * j)) x y H Q ∨ (rRep x y H Q ∨ rRepT K.k x y H Q)) dMul := fun E ρ H h x y v u Q hr rx ry p => by
  cases x with
  | int i =>
    cases y with
    | int j =>
      obtain ⟨c, q⟩ := Post.chk p
      refine .inl ⟨i, j, rp_int.mp rx, rp_int.mp ry, ?_, q.here hr _ (rp_int.mpr rfl)⟩
      rcases Bool.or_eq_true_iff.mp c with c | c
      · exact .inl (small64_ok c)
      · exact .inr (small64_ok c)
    | _ => exact p.elim
  | cell n =>
    cases y with
    | int k =>
      obtain ⟨a, e1, e1'⟩ := rp_cell.mp rx
      obtain ⟨xs, g1, p⟩ := Post.withS p
      obtain ⟨c, p⟩ := p.chk
      obtain ⟨a', vs, f1, f2, r1, _⟩ := lstAt_ok hr g1
      rw [e1'] at f1; cases f1
      have m := mkL_ok hr (repD_ok r1 k.toNat) p
      have c := Nat.le_of_ble_eq_true c
      refine .inr (.inl ⟨a, k, vs, e1, rp_int.mp ry, f2, by omega, by omega, ?_, m.2⟩)
      have e := m.1
      rw [List.length_flatten, List.map_replicate, List.sum_replicate_nat] at e
      rw [Nat.mul_comm]; exact e
    | _ => exact p.elim
  | tup xs =>
    cases y with
    | int k =>
      obtain ⟨a, vs, e1, s1, r1⟩ := rp_tup.mp rx
      obtain ⟨c, p⟩ := Post.chk p
      simp only [Bool.and_eq_true] at c
      obtain ⟨c1, c2, c3, c4⟩ := c
      have c1 := Nat.le_of_ble_eq_true c1
      have c2 := Nat.le_of_ble_eq_true c2
      have c3 := Nat.le_of_ble_eq_true c3
      have c4 := Nat.le_of_ble_eq_true c4
      have m := mkT_ok hr (repD_ok r1 k.toNat) p
      have l := r1.length
      refine .inr (.inr ⟨a, k, vs, e1, rp_int.mp ry, s1, fun z => ?_, by omega, by omega, by omega, m.2⟩)
      rw [z] at l; simp at l; subst l; simp at c1
    | _ => exact p.elim
  | _ => exact p.elim

/-! ### < <= > >= -/
def intsD : List D → Option (List Int)
  | [] => some []
  | .int i :: r => match intsD r with
    | some is => some (i :: is)
    | none => none
  | _ => none
theorem intsD_ok {ρ : Rho} {H : Hp} : ∀ {ds : List D} {is : List Int} {vs : List V}, intsD ds = some is → Rps K ρ H ds vs → vs = is.map V.int
  | [], _, _, e, r => by cases e; exact Rps.nil_iff.mp r
  | .int i :: ds, is, vs, e, r => by
    obtain ⟨x, q, rfl, r1, r2⟩ := Rps.cons_iff.mp r
    unfold intsD at e
    cases z : intsD ds with
    | none => rw [z] at e; cases e
    | some js =>
      rw [z] at e; cases e
      rw [rp_int.mp r1, intsD_ok z r2]; rfl
  | .non :: _, _, _, e, _ => by cases e
  | .bl _ :: _, _, _, e, _ => by cases e
  | .str _ :: _, _, _, e, _ => by cases e
  | .tup _ :: _, _, _, e, _ => by cases e
  | .cell _ :: _, _, _, e, _ => by cases e
def ltI (i j : Int) : Bool := decide (i < j)
def leI (i j : Int) : Bool := decide (i ≤ j)
def dLt : D → D → AH → R D
  | .int i, .int j, h => .ok (.bl (ltI i j)) h
  | .tup xs, .tup ys, h => withS (intsD xs) fun is => withS (intsD ys) fun js => .ok (.bl (HT.lexLt is js)) h
  | _, _, _ => .no
theorem o_lt : O2 K T (fun x y H Q => rI0 (fun i j => .bl (decide (i < j))) x y H Q ∨ rLtT K.k x y H Q) dLt := fun E ρ H h x y v u Q hr rx ry p => by
  cases x with
  | int i =>
    cases y with
    | int j => exact .inl ⟨i, j, rp_int.mp rx, rp_int.mp ry, p.here hr _ (rp_bl.mpr rfl)⟩
    | _ => exact p.elim
  | tup xs =>
    cases y with
    | tup ys =>
      obtain ⟨a, vs, e1, s1, r1⟩ := rp_tup.mp rx
      obtain ⟨b, us, e2, s2, r2⟩ := rp_tup.mp ry
      obtain ⟨is, g1, p⟩ := Post.withS (k := fun is => withS (intsD ys) fun js => (R.ok (D.bl (HT.lexLt is js)) h : R D)) p
      obtain ⟨js, g2, p⟩ := p.withS
      have := intsD_ok g1 r1; subst this
      have := intsD_ok g2 r2; subst this
      exact .inr ⟨a, b, is, js, e1, e2, s1, s2, p.here hr _ (rp_bl.mpr rfl)⟩
    | _ => exact p.elim
  | _ => exact p.elim
def dInts (g : Int → Int → Bool) : D → D → AH → R D
  | .int i, .int j, h => .ok (.bl (g i j)) h
  | _, _, _ => .no
theorem o_ints {g : Int → Int → Bool} : O2 K T (rI0 fun i j => .bl (g i j)) (dInts g) := fun E ρ H h x y v u Q hr rx ry p => by
  cases x <;> first | exact p.elim | skip
  cases y <;> first | exact p.elim | skip
  exact ⟨_, _, rp_int.mp rx, rp_int.mp ry, p.here hr _ (rp_bl.mpr rfl)⟩

/-! ### == != in -/
def pds (f : D → Option PyData) : List D → Option (List PyData)
  | [] => some []
  | d :: r => match f d with
    | some p => match pds f r with
      | some ps => some (p :: ps)
      | none => none
    | none => none
def toPD (h : AH) : Nat → D → Option PyData
  | 0, _ => none
  | k + 1, d => match d with
    | .non => some .none
    | .bl b => some (.bool b)
    | .int i => some (.int i)
    | .str s => some (.str s)
    | .tup ds => match pds (toPD h k) ds with
      | some ps => some (.tuple ps)
      | none => none
    | .cell n => match lstAt n h with
      | some ds => match pds (toPD h k) ds with
        | some ps => some (.list ps)
        | none => none
      | none => none
theorem pds_ok {ρ : Rho} {H : Hp} {f : D → Option PyData} (hf : ∀ d p v, f d = some p → Rp K ρ H d v → Dp K.k H v p) : ∀ {ds : List D} {ps : List PyData} {vs : List V}, pds f ds = some ps → Rps K ρ H ds vs → DpAll K.k H vs ps
  | [], _, _, e, r => by cases e; rw [Rps.nil_iff.mp r]; exact .nil
  | d :: ds, ps, vs, e, r => by
    obtain ⟨x, q, rfl, r1, r2⟩ := Rps.cons_iff.mp r
    unfold pds at e
    cases z : f d with
    | none => rw [z] at e; cases e
    | some p =>
      cases z2 : pds f ds with
      | none => rw [z, z2] at e; cases e
      | some qs =>
        rw [z, z2] at e; cases e
        exact .cons (hf _ _ _ z r1) (pds_ok hf z2 r2)
theorem toPD_ok {ρ : Rho} {H : Hp} {h : AH} (hr : HR K ρ H h) : ∀ (k : Nat) (d : D) (p : PyData) (v : V), toPD h k d = some p → Rp K ρ H d v → Dp K.k H v p
  | 0, _, _, _, e, _ => by cases e
  | k + 1, d, p, v, e, r => by
    unfold toPD at e
    cases d with
    | non => cases e; rw [rp_non.mp r]; exact .non
    | bl b => cases e; rw [rp_bl.mp r]; exact .bl b
    | int i => cases e; rw [rp_int.mp r]; exact .int i
    | str s => cases e; rw [rp_str.mp r]; exact .str s
    | tup ds =>
      obtain ⟨a, xs, rfl, s, q⟩ := rp_tup.mp r
      cases z : pds (toPD h k) ds with
      | none => simp only [z] at e; cases e
      | some ps =>
        simp only [z] at e; cases e
        exact .tup s (pds_ok (toPD_ok hr k) z q)
    | cell n =>
      obtain ⟨a, rfl, e1⟩ := rp_cell.mp r
      cases y : lstAt n h with
      | none => simp only [y] at e; cases e
      | some ds =>
        cases z : pds (toPD h k) ds with
        | none => simp only [y, z] at e; cases e
        | some ps =>
          simp only [y, z] at e; cases e
          obtain ⟨b, xs, f1, f2, q, _⟩ := lstAt_ok hr y
          rw [e1] at f1; cases f1
          exact .lst (.inl (.inl f2)) (pds_ok (toPD_ok hr k) z q)
def eqD (x y : D) (h : AH) : Option Bool := match toPD h 12 x, toPD h 12 y with
  | some p, some q => match SeqAt.shaped p && SeqAt.shaped q with
    | true => some (PyData.eqv p q)
    | false => none
  | _, _ => none
def dEq (x y : D) (h : AH) : R D := withS (eqD x y h) fun b => .ok (.bl b) h
def dNe (x y : D) (h : AH) : R D := withS (eqD x y h) fun b => .ok (.bl (!b)) h
theorem eqD_ok {ρ : Rho} {H : Hp} {h : AH} {x y : D} {v u : V} {b : Bool} (hr : HR K ρ H h) (rx : Rp K ρ H x v) (ry : Rp K ρ H y u) (e : eqD x y h = some b) :
    ∃ p q, Dp K.k H v p ∧ Dp K.k H u q ∧ SeqAt.shaped p = true ∧ SeqAt.shaped q = true ∧ PyData.eqv p q = b := by
  unfold eqD at e
  cases z : toPD h 12 x with
  | none => simp only [z] at e; cases e
  | some p =>
    cases z2 : toPD h 12 y with
    | none => simp only [z, z2] at e; cases e
    | some q =>
      simp only [z, z2] at e
      cases c : SeqAt.shaped p && SeqAt.shaped q with
      | false => rw [c] at e; cases e
      | true =>
        rw [c] at e; cases e
        obtain ⟨c1, c2⟩ := Bool.and_eq_true_iff.mp c
        exact ⟨p, q, toPD_ok hr _ _ _ _ z rx, toPD_ok hr _ _ _ _ z2 ry, c1, c2, rfl⟩
theorem o_eq : O2 K T (rEqD K.k) dEq := fun E ρ H h x y v u Q hr rx ry p => by
  obtain ⟨b, e, p⟩ := Post.withS p
  obtain ⟨d, e', h1, h2, h3, h4, h5⟩ := eqD_ok hr rx ry e
  exact ⟨d, e', h1, h2, h3, h4, by rw [h5]; exact p.here hr _ (rp_bl.mpr rfl)⟩
theorem o_ne : O2 K T (rNeD K.k) dNe := fun E ρ H h x y v u Q hr rx ry p => by
  obtain ⟨b, e, p⟩ := Post.withS p
  obtain ⟨d, e', h1, h2, h3, h4, h5⟩ := eqD_ok hr rx ry e
  exact ⟨d, e', h1, h2, h3, h4, by rw [h5]; exact p.here hr _ (rp_bl.mpr rfl)⟩
/-- flat things -/
def toV : D → Option V
  | .non => some .non
  | .bl b => some (.bl b)
  | .int i => some (.int i)
  | .str s => some (.str s)
  | _ => none
def toVs : List D → Option (List V)
  | [] => some []
  | d :: r => match toV d with
    | some v => match toVs r with
      | some vs => some (v :: vs)
      | none => none
    | none => none
theorem toV_ok {ρ : Rho} {H : Hp} {d : D} {v u : V} (e : toV d = some v) (r : Rp K ρ H d u) : u = v ∧ flatV v = true := by
  cases d <;> (first | cases e | skip) <;> first | exact ⟨rp_non.mp r, rfl⟩ | exact ⟨rp_bl.mp r, rfl⟩ | exact ⟨rp_int.mp r, rfl⟩ | exact ⟨rp_str.mp r, rfl⟩
theorem toVs_ok {ρ : Rho} {H : Hp} : ∀ {ds : List D} {vs us : List V}, toVs ds = some vs → Rps K ρ H ds us → us = vs ∧ vs.all flatV = true
  | [], _, _, e, r => by cases e; exact ⟨Rps.nil_iff.mp r, rfl⟩
  | d :: ds, vs, us, e, r => by
    obtain ⟨x, q, rfl, r1, r2⟩ := Rps.cons_iff.mp r
    unfold toVs at e
    cases z : toV d with
    | none => rw [z] at e; cases e
    | some v =>
      cases z2 : toVs ds with
      | none => rw [z, z2] at e; cases e
      | some ws =>
        rw [z, z2] at e; cases e
        obtain ⟨e1, f1⟩ := toV_ok z r1
        obtain ⟨e2, f2⟩ := toVs_ok z2 r2
        exact ⟨by rw [e1, e2], by rw [List.all_cons, f1, f2]; rfl⟩
def anyEq (p : PyData) : List PyData → Bool
  | [] => false
  | q :: r => match PyData.eqv q p with
    | true => true
    | false => anyEq p r
theorem anyEq_ok (p : PyData) : ∀ qs : List PyData, anyEq p qs = qs.any fun z => PyData.eqv z p
  | [] => rfl
  | q :: r => by
    unfold anyEq
    rw [List.any_cons]
    cases PyData.eqv q p with
    | true => rfl
    | false => exact anyEq_ok p r
def inFlat (x y : D) (h : AH) : Option Bool := match toV x, seqOf y h with
  | some v, some ds => match toVs ds with
    | some vs => some (inV v vs)
    | none => none
  | _, _ => none
def inDeep (x y : D) (h : AH) : Option Bool := match toPD h 12 x, toPD h 12 y with
  | some p, some (.list qs) => match SeqAt.shaped p && SeqAt.shaped (.list qs) with
    | true => some (anyEq p qs)
    | false => none
  | _, _ => none
def inD (x y : D) (h : AH) : Option Bool := match inFlat x y h with
  | some b => some b
  | none => inDeep x y h
theorem inFlat_ok {ρ : Rho} {H : Hp} {h : AH} {x y : D} {v u : V} {b : Bool} {neg : Bool} {Q : VK} (hr : HR K ρ H h) (rx : Rp K ρ H x v) (ry : Rp K ρ H y u) (e : inFlat x y h = some b) (q : Q (.bl (if neg then !b else b)) H) : rIn K.k neg v u H Q := by
  unfold inFlat at e
  cases z : toV x with
  | none => simp only [z] at e; cases e
  | some w =>
    cases z2 : seqOf y h with
    | none => simp only [z, z2] at e; cases e
    | some ds =>
      cases z3 : toVs ds with
      | none => simp only [z, z2, z3] at e; cases e
      | some vs =>
        simp only [z, z2, z3] at e; cases e
        obtain ⟨e1, f1⟩ := toV_ok z rx
        subst e1
        obtain ⟨a, xs, e2, r2, s⟩ := seqOf_ok hr ry z2
        obtain ⟨e3, f3⟩ := toVs_ok z3 r2
        subst e3
        refine ⟨a, xs, e2, ?_, f1, f3, q⟩
        rcases s with ⟨s, _⟩ | ⟨s, _⟩
        · exact .inr s
        · exact .inl (.inl (.inl s))
theorem inDeep_ok {ρ : Rho} {H : Hp} {h : AH} {x y : D} {v u : V} {b : Bool} (hr : HR K ρ H h) (rx : Rp K ρ H x v) (ry : Rp K ρ H y u) (e : inDeep x y h = some b) :
    ∃ d ds, Dp K.k H v d ∧ Dp K.k H u (.list ds) ∧ SeqAt.shaped d = true ∧ SeqAt.shaped (.list ds) = true ∧ (ds.any fun z => PyData.eqv z d) = b := by
  unfold inDeep at e
  cases z : toPD h 12 x with
  | none => simp only [z] at e; cases e
  | some p =>
    cases z2 : toPD h 12 y with
    | none => simp only [z, z2] at e; cases e
    | some q =>
      cases q with
      | list qs =>
        simp only [z, z2] at e
        cases c : SeqAt.shaped p && SeqAt.shaped (.list qs) with
        | false => rw [c] at e; cases e
        | true =>
          rw [c] at e; cases e
          obtain ⟨c1, c2⟩ := Bool.and_eq_true_iff.mp c
          exact ⟨p, qs, toPD_ok hr _ _ _ _ z rx, toPD_ok hr _ _ _ _ z2 ry, c1, c2, (anyEq_ok p qs).symm⟩
      | _ => simp only [z, z2] at e; cases e
def dIn (x y : D) (h : AH) : R D := withS (inD x y h) fun b => .ok (.bl b) h
def dNotIn (x y : D) (h : AH) : R D := withS (inD x y h) fun b => .ok (.bl (!b)) h
theorem o_in : O2 K T (fun x y H Q => rIn K.k false x y H Q ∨ rInD K.k x y H Q) dIn := fun E ρ H h x y v u Q hr rx ry p => by
  obtain ⟨b, e, p⟩ := Post.withS p
  unfold inD at e
  cases z : inFlat x y h with
  | some c => rw [z] at e; cases e; exact .inl (inFlat_ok hr rx ry z (p.here hr _ (rp_bl.mpr rfl)))
  | none =>
    rw [z] at e
    obtain ⟨d, ds, h1, h2, h3, h4, h5⟩ := inDeep_ok hr rx ry e
    exact .inr ⟨d, ds, h1, h2, h3, h4, by rw [h5]; exact p.here hr _ (rp_bl.mpr rfl)⟩
theorem o_notIn : O2 K T (fun x y H Q => rIn K.k true x y H Q ∨ rNotInD K.k x y H Q) dNotIn := fun E ρ H h x y v u Q hr rx ry p => by
  obtain ⟨b, e, p⟩ := Post.withS p
  unfold inD at e
  cases z : inFlat x y h with
  | some c => rw [z] at e; cases e; exact .inl (inFlat_ok hr rx ry z (p.here hr _ (rp_bl.mpr rfl)))
  | none =>
    rw [z] at e
    obtain ⟨d, ds, h1, h2, h3, h4, h5⟩ := inDeep_ok hr rx ry e
    exact .inr ⟨d, ds, h1, h2, h3, h4, by rw [h5]; exact p.here hr _ (rp_bl.mpr rfl)⟩
/-- is None -/
def isN : D → Bool
  | .non => true
  | _ => false
def dIsN (x y : D) (h : AH) : R D := chk (isN y) (.ok (.bl (isN x)) h)
def dNotN (x y : D) (h : AH) : R D := chk (isN y) (.ok (.bl (!isN x)) h)
theorem isN_ok {ρ : Rho} {H : Hp} {x : D} {v : V} (r : Rp K ρ H x v) : decide (v = .non) = isN x := by
  cases x with
  | non => rw [rp_non.mp r]; rfl
  | bl b => rw [rp_bl.mp r]; rfl
  | int b => rw [rp_int.mp r]; rfl
  | str b => rw [rp_str.mp r]; rfl
  | tup ds => obtain ⟨a, xs, rfl, _⟩ := rp_tup.mp r; rfl
  | cell n => obtain ⟨a, rfl, _⟩ := rp_cell.mp r; rfl
theorem isN_non {ρ : Rho} {H : Hp} {x : D} {v : V} (r : Rp K ρ H x v) (e : isN x = true) : v = .non := by
  cases x <;> first | exact rp_non.mp r | cases e
theorem o_isN : O2 K T (fun x y H Q => y = .non ∧ Q (.bl (decide (x = .non))) H) dIsN := fun E ρ H h x y v u Q hr rx ry p => by
  obtain ⟨c, p⟩ := Post.chk p
  exact ⟨isN_non ry c, by rw [isN_ok rx]; exact p.here hr _ (rp_bl.mpr rfl)⟩
theorem o_notN : O2 K T (fun x y H Q => y = .non ∧ Q (.bl (!decide (x = .non))) H) dNotN := fun E ρ H h x y v u Q hr rx ry p => by
  obtain ⟨c, p⟩ := Post.chk p
  exact ⟨isN_non ry c, by rw [isN_ok rx]; exact p.here hr _ (rp_bl.mpr rfl)⟩

/-! ### items, slices -/
def atD (ds : List D) (i : Int) : Option D := match ixN ds.length i with
  | some j => ds[j]?
  | none => none
theorem atD_ok {ρ : Rho} {H : Hp} {ds : List D} {xs : List V} {i : Int} {d : D} (r : Rps K ρ H ds xs) (e : atD ds i = some d) : ∃ v, atI xs i = some v ∧ Rp K ρ H d v := by
  unfold atD at e
  unfold atI
  rw [← r.length]
  cases z : ixN ds.length i with
  | none => rw [z] at e; cases e
  | some j => rw [z] at e; exact r.get e
def dIx (x y : D) (h : AH) : R D := match y with
  | .int i => withS (seqOf x h) fun ds => withS (atD ds i) fun d => .ok d h
  | _ => .no
theorem o_ix : O2 K T (fun x y H Q => rIxL K.k x y H Q ∨ rIxT K.k x y H Q) dIx := fun E ρ H h x y v u Q hr rx ry p => by
  cases y with
  | int i =>
    obtain ⟨ds, e1, p⟩ := Post.withS p
    obtain ⟨d, e2, p⟩ := p.withS
    obtain ⟨a, xs, e3, r, s⟩ := seqOf_ok hr rx e1
    obtain ⟨w, e4, rw'⟩ := atD_ok r e2
    rcases s with ⟨s, _⟩ | ⟨s, _⟩
    · exact .inr ⟨a, xs, i, w, e3, rp_int.mp ry, s, e4, p.here hr _ rw'⟩
    · exact .inl ⟨a, xs, i, w, e3, rp_int.mp ry, .inl (.inl s), e4, p.here hr _ rw'⟩
  | _ => exact p.elim
def cutD (ds : List D) (lo hi : Option Int) : List D := (ds.drop (HT.sIx ds.length 0 lo)).take (HT.sIx ds.length ds.length hi - HT.sIx ds.length 0 lo)
theorem Rps.drop {ρ : Rho} {H : Hp} : ∀ {ds : List D} {vs : List V} (n : Nat), Rps K ρ H ds vs → Rps K ρ H (ds.drop n) (vs.drop n)
  | _, _, 0, r => r
  | [], _, n + 1, r => by rw [Rps.nil_iff] at r; subst r; simp; exact Rps.nil_iff.mpr rfl
  | d :: ds, _, n + 1, r => by
    obtain ⟨x, q, rfl, r1, r2⟩ := Rps.cons_iff.mp r
    exact Rps.drop n r2
theorem Rps.take {ρ : Rho} {H : Hp} : ∀ {ds : List D} {vs : List V} (n : Nat), Rps K ρ H ds vs → Rps K ρ H (ds.take n) (vs.take n)
  | _, _, 0, r => by simp; exact Rps.nil_iff.mpr rfl
  | [], _, n + 1, r => by rw [Rps.nil_iff] at r; subst r; simp; exact Rps.nil_iff.mpr rfl
  | d :: ds, _, n + 1, r => by
    obtain ⟨x, q, rfl, r1, r2⟩ := Rps.cons_iff.mp r
    exact Rps.cons r1 (Rps.take n r2)
theorem cutD_ok {ρ : Rho} {H : Hp} {ds : List D} {xs : List V} (r : Rps K ρ H ds xs) (lo hi : Option Int) : Rps K ρ H (cutD ds lo hi) (cutV xs lo hi) := by
  unfold cutD cutV
  rw [r.length]
  exact (r.drop _).take _
end
end Nc
namespace Nc
open PySem PySem.Spec PyProof.Rows L2

inductive RS where
  | nx (s : DSt) (h : AH) | rt (d : D) (h : AH) | bk (s : DSt) (h : AH) | ct (s : DSt) (h : AH) | ex (e : Xn) (s : DSt) (h : AH) | no
abbrev DS := DSt → AH → RS
def PostS (K : KW) (T : XT) (W : WX) (ρ : Rho) (H : Hp) (r : RS) (D : Ends) : Prop := match r with
  | .nx s h => ∀ ρ' H' σ', Grow ρ ρ' H H' → HR K ρ' H' h → StR K ρ' H' σ' s → D.nx σ' H'
  | .rt d h => ∀ ρ' H' v, Grow ρ ρ' H H' → HR K ρ' H' h → Rp K ρ' H' d v → D.rt v H'
  | .bk s h => ∀ ρ' H' σ', Grow ρ ρ' H H' → HR K ρ' H' h → StR K ρ' H' σ' s → D.bk σ' H'
  | .ct s h => ∀ ρ' H' σ', Grow ρ ρ' H H' → HR K ρ' H' h → StR K ρ' H' σ' s → D.ct σ' H'
  | .ex e s h => ∀ ρ' H' σ' c d, Grow ρ ρ' H H' → HR K ρ' H' h → StR K ρ' H' σ' s → XR K T ρ' H' e c d → W c d σ' H'
  | .no => False
def tS (K : KW) (T : XT) (W : WX) (g : DS) : TS := fun D σ H => ∃ ρ s h, StR K ρ H σ s ∧ HR K ρ H h ∧ PostS K T W ρ H (g s h) D
structure SS (X : Cx) (T : XT) (W : WX) (st : Stmt) (g : DS) : Prop where
  p : PS X st (tS (kwOf X) T W g)
structure SSs (X : Cx) (T : XT) (W : WX) (st : List Stmt) (g : DS) : Prop where
  p : PSs X st (tS (kwOf X) T W g)
/-- an expression's result, then a statement's -/
def bindS {α : Type} (r : R α) (s : DSt) (k : α → AH → RS) : RS := match r with
  | .ok a h => k a h
  | .ex e h => .ex e s h
  | .no => .no
section
variable {K : KW} {T : XT} {W : WX} {ρ ρ' : Rho} {H H' : Hp} {h : AH} {σ : L2.St} {s : DSt} {Z : Ends}
theorem PostS.grow {r : RS} (l : ∀ n a, ρ' n = some a → Mut (H' a)) (g : Grow ρ ρ' H H') (p : PostS K T W ρ H r Z) : PostS K T W ρ' H' r Z := by
  cases r with
  | nx s h => exact fun ρ2 H2 σ2 g2 hr2 st2 => p ρ2 H2 σ2 (g.trans l g2) hr2 st2
  | rt d h => exact fun ρ2 H2 v g2 hr2 r2 => p ρ2 H2 v (g.trans l g2) hr2 r2
  | bk s h => exact fun ρ2 H2 σ2 g2 hr2 st2 => p ρ2 H2 σ2 (g.trans l g2) hr2 st2
  | ct s h => exact fun ρ2 H2 σ2 g2 hr2 st2 => p ρ2 H2 σ2 (g.trans l g2) hr2 st2
  | ex e s h => exact fun ρ2 H2 σ2 c d g2 hr2 st2 x => p ρ2 H2 σ2 c d (g.trans l g2) hr2 st2 x
  | no => exact p
theorem PostS.bind {α : Type} {r : R α} {k : α → AH → RS} (hr : HR K ρ H h) (st : StR K ρ H σ s) (p : PostS K T W ρ H (bindS r s k) Z) : Post K T (at_ W σ) ρ H r fun a h1 ρ1 H1 => PostS K T W ρ1 H1 (k a h1) Z := by
  cases r with
  | ok a h1 => exact fun ρ1 H1 g1 hr1 => PostS.grow hr1.live g1 p
  | ex e h1 => exact fun ρ1 H1 c d g1 hr1 x => p ρ1 H1 σ c d g1 hr1 (st.grow hr.live g1) x
  | no => exact p
theorem tD_bindS {f : DE} {k : D → AH → RS} {Q : VK} (st : StR K ρ H σ s) (hr : HR K ρ H h) (p : PostS K T W ρ H (bindS (f s h) s k) Z)
    (m : ∀ d h1 ρ1 H1 v, Grow ρ ρ1 H H1 → HR K ρ1 H1 h1 → StR K ρ1 H1 σ s → Rp K ρ1 H1 d v → PostS K T W ρ1 H1 (k d h1) Z → Q v H1) : tD K T W f σ H Q :=
  ⟨ρ, s, h, st, hr, (PostS.bind hr st p).mono fun a h1 ρ1 H1 _ gr hr1 pq v rv => m a h1 ρ1 H1 v gr hr1 (st.grow hr.live gr) rv pq⟩
theorem tDB_bindS {f : DB} {k : Bool → AH → RS} {Q : Bool → Hp → Prop} (st : StR K ρ H σ s) (hr : HR K ρ H h) (p : PostS K T W ρ H (bindS (f s h) s k) Z)
    (m : ∀ d h1 ρ1 H1, Grow ρ ρ1 H H1 → HR K ρ1 H1 h1 → StR K ρ1 H1 σ s → PostS K T W ρ1 H1 (k d h1) Z → Q d H1) : tDB K T W f σ H Q :=
  ⟨ρ, s, h, st, hr, (PostS.bind hr st p).mono fun a h1 ρ1 H1 _ gr hr1 pq => m a h1 ρ1 H1 gr hr1 (st.grow hr.live gr) pq⟩
theorem PostS.here {s : DSt} (p : PostS K T W ρ H (.nx s h) Z) (hr : HR K ρ H h) (st : StR K ρ H σ s) : Z.nx σ H := p ρ H σ (Grow.refl ρ H) hr st
end

section
variable {X : Cx} {T : XT} {W : WX} {pos : Pos} {e : Expr} {f : DE} {g g2 : DS} {st : Stmt} {rest : List Stmt}
def gNil : DS := fun s h => .nx s h
def gSeq (g1 g2 : DS) : DS := fun s h => match g1 s h with
  | .nx s1 h1 => g2 s1 h1
  | .rt d h1 => .rt d h1
  | .bk s1 h1 => .bk s1 h1
  | .ct s1 h1 => .ct s1 h1
  | .ex e s1 h1 => .ex e s1 h1
  | .no => .no
theorem ss_nil : SSs X T W [] gNil := ⟨PSs.imp pss_nil fun D σ H ⟨ρ, s, h, st, hr, q⟩ => PostS.here q hr st⟩
theorem ss_cons (h1 : SS X T W st g) (h2 : SSs X T W rest g2) : SSs X T W (st :: rest) (gSeq g g2) :=
  ⟨PSs.imp (pss_cons h1.p h2.p) fun D σ H ⟨ρ, s, h, st, hr, q⟩ => ⟨ρ, s, h, st, hr, by
    unfold gSeq at q
    cases z : g s h with
    | nx s1 h1 => rw [z] at q; exact fun ρ1 H1 σ1 g1 hr1 st1 => ⟨ρ1, s1, h1, st1, hr1, PostS.grow hr1.live g1 q⟩
    | rt d h1 => rw [z] at q; exact q
    | bk s1 h1 => rw [z] at q; exact q
    | ct s1 h1 => rw [z] at q; exact q
    | ex e s1 h1 => rw [z] at q; exact q
    | no => rw [z] at q; exact q⟩⟩
theorem ss_one (h1 : SS X T W st g) : SSs X T W [st] g := ⟨PSs.imp (pss_one h1.p) fun _ _ _ q => q⟩
def gPass : DS := fun s h => .nx s h
def gBreak : DS := fun s h => .bk s h
def gCont : DS := fun s h => .ct s h
theorem s_pass : SS X T W (.Pass pos) gPass := ⟨PS.imp ps_pass fun D σ H ⟨ρ, s, h, st, hr, q⟩ => PostS.here q hr st⟩
theorem s_break : SS X T W (.Break pos) gBreak := ⟨PS.imp ps_break fun D σ H ⟨ρ, s, h, st, hr, q⟩ => q ρ H σ (Grow.refl ρ H) hr st⟩
theorem s_cont : SS X T W (.Continue pos) gCont := ⟨PS.imp ps_continue fun D σ H ⟨ρ, s, h, st, hr, q⟩ => q ρ H σ (Grow.refl ρ H) hr st⟩
def gExpr (f : DE) : DS := fun s h => bindS (f s h) s fun _ h1 => .nx s h1
theorem s_expr (he : SE X T W e f) (hs : swapsWith e none pos.line X.env = pure false := by rfl) : SS X T W (.Expr e pos) (gExpr f) :=
  ⟨PS.imp (ps_expr he.p hs) fun D σ H ⟨ρ, s, h, st, hr, q⟩ => tD_bindS st hr q fun d h1 ρ1 H1 v g1 hr1 st1 r1 q1 => PostS.here q1 hr1 st1⟩
def gRet (f : DE) : DS := fun s h => bindS (f s h) s fun d h1 => .rt d h1
theorem s_ret (he : SE X T W e f) : SS X T W (.Return (some e) pos) (gRet f) :=
  ⟨PS.imp (ps_ret he.p) fun D σ H ⟨ρ, s, h, st, hr, q⟩ => tD_bindS st hr q fun d h1 ρ1 H1 v g1 hr1 st1 r1 q1 => q1 ρ1 H1 v (Grow.refl _ _) hr1 r1⟩
def gIf (c : DB) (g1 g2 : DS) : DS := fun s h => bindS (c s h) s fun b h1 => match b with
  | true => g1 s h1
  | false => g2 s h1
theorem s_if {c : Expr} {a b : List Stmt} {fc : DB} (hc : ST X T W c fc) (ha : SSs X T W a g) (hb : SSs X T W b g2) : SS X T W (.If c a b pos) (gIf fc g g2) :=
  ⟨PS.imp (ps_if hc.p ha.p hb.p) fun D σ H ⟨ρ, s, h, st, hr, q⟩ => tDB_bindS st hr q fun d h1 ρ1 H1 g1 hr1 st1 q1 => by
    cases d with
    | true => rw [if_pos rfl]; exact ⟨ρ1, s, h1, st1, hr1, q1⟩
    | false => rw [if_neg (by decide)]; exact ⟨ρ1, s, h1, st1, hr1, q1⟩⟩

/-! ### targets -/
abbrev DG := D → DSt → AH → Option (DSt × AH)
def Only (ws : List Nat) (σ σ' : L2.St) : Prop := ∀ vs : List Nat, (∀ i ∈ ws, i ∈ vs) → wipe σ' vs = wipe σ vs
def PostG (K : KW) (ρ : Rho) (H : Hp) (r : Option (DSt × AH)) (q : AH → DSt → Rho → L2.St → Hp → Prop) : Prop := match r with
  | some p => ∀ ρ' H' σ', Grow ρ ρ' H H' → HR K ρ' H' p.2 → StR K ρ' H' σ' p.1 → q p.2 p.1 ρ' σ' H'
  | none => False
def tG (K : KW) (ws : List Nat) (g : DG) : TG := fun v σ H Q => ∃ ρ s h d, StR K ρ H σ s ∧ HR K ρ H h ∧ Rp K ρ H d v ∧ PostG K ρ H (g d s h) fun _ _ _ σ' H' => Only ws σ σ' → Q σ' H'
abbrev DGs := List D → DSt → AH → Option (DSt × AH)
def tGs (K : KW) (ws : List Nat) (g : DGs) : TGs := fun vs σ H Q => ∃ ρ s h ds, StR K ρ H σ s ∧ HR K ρ H h ∧ Rps K ρ H ds vs ∧ PostG K ρ H (g ds s h) fun _ _ _ σ' H' => Only ws σ σ' → Q σ' H'
structure SG (X : Cx) (e : Expr) (ws : List Nat) (g : DG) : Prop where
  p : PG X e (tG (kwOf X) ws g)
structure SGs (X : Cx) (es : List Expr) (ws : List Nat) (g : DGs) : Prop where
  p : PGs X es (tGs (kwOf X) ws g)
theorem PG.imp {X : Cx} {e : Expr} {t t' : TG} (h : PG X e t) (m : ∀ v σ H Q, t' v σ H Q → t v σ H Q) : PG X e t' := ⟨fun pins s σ H v u Q I r q => h.run pins s σ H v u Q I r (m v σ H Q q)⟩
theorem PGs.imp {X : Cx} {e : List Expr} {t t' : TGs} (h : PGs X e t) (m : ∀ v σ H Q, t' v σ H Q → t v σ H Q) : PGs X e t' := ⟨fun pins s σ H v u Q I r q => h.run pins s σ H v u Q I r (m v σ H Q q)⟩
theorem PG.or {X : Cx} {e : Expr} {t t' : TG} (h : PG X e t) (h' : PG X e t') : PG X e (fun v σ H Q => t v σ H Q ∨ t' v σ H Q) := ⟨fun pins s σ H v u Q I r q => q.elim (h.run pins s σ H v u Q I r) (h'.run pins s σ H v u Q I r)⟩
theorem wipe_set (σ : L2.St) (x : Option V) {i : Nat} : ∀ {vs : List Nat}, i ∈ vs → wipe (σ.set i x) vs = wipe σ vs
  | v :: vs, hm => by
    unfold wipe
    by_cases e : i ∈ vs
    · rw [wipe_set σ x e]
    · have hv : i = v := by rcases List.mem_cons.mp hm with z | z; exact z; exact absurd z e
      subst hv
      have : ∀ (τ : L2.St) (us : List Nat), wipe (τ.set i x) us = (wipe τ us).set i x ∨ wipe (τ.set i x) us = wipe τ us := fun τ us => by
        induction us with
        | nil => exact .inl rfl
        | cons u us ih =>
          unfold wipe
          rcases ih with ih | ih
          · by_cases hu : u = i
            · subst hu; rw [ih]; right; rw [List.set_set]
            · rw [ih]; left; rw [List.set_comm _ _ (Ne.symm hu)]
          · rw [ih]; exact .inr rfl
      rcases this σ vs with z | z
      · rw [z, List.set_set]
      · rw [z]
theorem only_refl {ws : List Nat} {σ : L2.St} : Only ws σ σ := fun _ _ => rfl
def gN (i : Nat) : DG := fun d s h => some (s.set i (some d), h)
theorem sg_name {i : Nat} {x : Str} (hN : X.N.Nodup) (hi : X.N[i]? = some x) (hx : Loc X.env.scope x) (hf : X.fn x = true ∨ X.env.scope.names.lookup x = some .local := by first | exact .inl rfl | exact .inr rfl | assumption) : SG X (.Name x pos) [i] (gN i) :=
  ⟨PG.imp (pg_name hN hi hx hf) fun v σ H Q ⟨ρ, s, h, d, st, hr, r, q⟩ => q ρ H _ (Grow.refl _ _) hr (st.set r) fun vs hv => wipe_set σ _ (hv i List.mem_cons_self)⟩
def gsNil : DGs := fun ds s h => match ds with
  | [] => some (s, h)
  | _ => none
def gsCons (g : DG) (gs : DGs) : DGs := fun ds s h => match ds with
  | [] => none
  | d :: r => match g d s h with
    | some p => gs r p.1 p.2
    | none => none
theorem sgs_nil : SGs X [] [] gsNil := ⟨PGs.imp pgs_nil fun v σ H Q ⟨ρ, s, h, ds, st, hr, r, q⟩ => by
  cases ds with
  | nil => exact ⟨Rps.nil_iff.mp r, q ρ H σ (Grow.refl _ _) hr st only_refl⟩
  | cons d r => exact q.elim⟩
theorem sgs_cons {es : List Expr} {ws us : List Nat} {g : DG} {gs : DGs} (h1 : SG X e ws g) (h2 : SGs X es us gs) (hs : (assignEach (e :: es) X.env).map (·.2) = assign e X.env :: (assignEach es X.env).map (·.2) := by rfl) : SGs X (e :: es) (ws ++ us) (gsCons g gs) :=
  ⟨PGs.imp (pgs_cons h1.p h2.p hs) fun vs σ H Q ⟨ρ, s, h, ds, st, hr, r, q⟩ => by
    cases ds with
    | nil => exact q.elim
    | cons d ds =>
      obtain ⟨v, vr, e1, r1, r2⟩ := Rps.cons_iff.mp r
      refine ⟨v, vr, e1, ρ, s, h, d, st, hr, r1, ?_⟩
      unfold gsCons at q
      cases z : g d s h with
      | none => simp only [z] at q; exact q.elim
      | some p =>
        simp only [z] at q
        intro ρ1 H1 σ1 g1 hr1 st1 o1
        refine ⟨ρ1, p.1, p.2, ds, st1, hr1, Rps.grow hr.live g1 ds r2, ?_⟩
        cases z2 : gs ds p.1 p.2 with
        | none => rw [z2] at q; exact q.elim
        | some p2 =>
          rw [z2] at q
          exact fun ρ2 H2 σ2 g2 hr2 st2 o2 => q ρ2 H2 σ2 (g1.trans hr1.live g2) hr2 st2 fun us' hv => (o2 us' fun i hi => hv i (List.mem_append_right _ hi)).trans (o1 us' fun i hi => hv i (List.mem_append_left _ hi))⟩
def gTupD (n : Nat) (gs : DGs) : DG := fun d s h => match seqOf d h with
  | some ds => match Nat.beq ds.length n with
    | true => gs ds s h
    | false => none
  | none => none
theorem sg_tup {es : List Expr} {k : Nat} {n : Nat} {ws : List Nat} {gs : DGs} (hc : X.calm = true) (h : SGs X es ws gs) (hn : (assignEach es X.env).length = n := by rfl) (hst : (assignEach es X.env).findIdx? (·.1) = none := by rfl) : SG X (.Tuple es k pos) ws (gTupD n gs) :=
  ⟨PG.imp (PG.or (pg_tup hc h.p hn hst) (pg_lst hc h.p hn hst)) fun v σ H Q ⟨ρ, s, h, d, st, hr, r, q⟩ => by
    unfold gTupD at q
    cases z : seqOf d h with
    | none => simp only [z] at q; exact q.elim
    | some ds =>
      simp only [z] at q
      cases c : Nat.beq ds.length n with
      | false => simp only [c] at q; exact q.elim
      | true =>
        simp only [c] at q
        obtain ⟨a, xs, e1, rs, sq⟩ := seqOf_ok hr r z
        have hl : xs.length = n := by rw [← rs.length]; exact Nat.eq_of_beq_eq_true c
        rcases sq with ⟨sq, _⟩ | ⟨sq, _⟩
        · exact .inl ⟨a, xs, e1, sq, hl, ρ, s, h, ds, st, hr, rs, q⟩
        · exact .inr ⟨a, xs, e1, .inl (.inl sq), hl, ρ, s, h, ds, st, hr, rs, q⟩⟩
def ofG (r : Option (DSt × AH)) : RS := match r with
  | some p => .nx p.1 p.2
  | none => .no
theorem ofG_ok {K : KW} {ρ : Rho} {H : Hp} {σ : L2.St} {s : DSt} {h : AH} {d : D} {v : V} {g : DG} {ws : List Nat} {Ds : Ends} (st : StR K ρ H σ s) (hr : HR K ρ H h) (r : Rp K ρ H d v) (p : PostS K T W ρ H (ofG (g d s h)) Ds) : tG K ws g v σ H Ds.nx := by
  refine ⟨ρ, s, h, d, st, hr, r, ?_⟩
  cases z : g d s h with
  | none => rw [z] at p; exact p.elim
  | some q => rw [z] at p; exact fun ρ1 H1 σ1 g1 hr1 st1 _ => p ρ1 H1 σ1 g1 hr1 st1
def gAsg (f : DE) (g : DG) : DS := fun s h => bindS (f s h) s fun d h1 => ofG (g d s h1)
theorem s_asg {tg : Expr} {ws : List Nat} {g : DG} (he : SE X T W e f) (hg : SG X tg ws g) (hs : swapsWithSole [tg] e pos.line X.env = pure false := by rfl) (hw : swappedStores [tg] e X.env = pure none := by rfl)
    (h1 : (assignEach [tg] X.env).map (·.2) = [assign tg X.env] := by rfl) : SS X T W (.Assign [tg] e pos) (gAsg f g) :=
  ⟨PS.imp (ps_asg he.p hg.p hs hw h1) fun D σ H ⟨ρ, s, h, st, hr, q⟩ => tD_bindS st hr q fun d h1 ρ1 H1 v g1 hr1 st1 r1 q1 => ofG_ok st1 hr1 r1 q1⟩
theorem s_set {i : Nat} {x : Str} {pos' : Pos} (hN : X.N.Nodup) (hi : X.N[i]? = some x) (hx : Loc X.env.scope x) (he : SE X T W e f) (hs : swapsWith e (some (.Name x pos')) pos.line X.env = pure false := by rfl) (hf : X.fn x = true ∨ X.env.scope.names.lookup x = some .local := by first | exact .inl rfl | exact .inr rfl | assumption) :
    SS X T W (.Assign [.Name x pos'] e pos) (gAsg f (gN i)) :=
  ⟨PS.imp (ps_set hN hi hx he.p hs hf) fun D σ H ⟨ρ, s, h, st, hr, q⟩ => tD_bindS st hr q fun d h1 ρ1 H1 v g1 hr1 st1 r1 q1 => q1 ρ1 H1 _ (Grow.refl _ _) hr1 (st1.set r1)⟩
/-- a, b = x, y by plain local names -/
def gPar (i j : Nat) (fa : DA) : DS := fun s h => bindS (fa s h) s fun ds h1 => match ds with
  | [x, y] => .nx ((s.set i (some x)).set j (some y)) h1
  | _ => .no
theorem tDA_bindS {K : KW} {ρ : Rho} {H : Hp} {h : AH} {σ : L2.St} {s : DSt} {Z : Ends} {f : DA} {k : List D → AH → RS} {Q : List V → Hp → Prop} (st : StR K ρ H σ s) (hr : HR K ρ H h) (p : PostS K T W ρ H (bindS (f s h) s k) Z)
    (m : ∀ d h1 ρ1 H1 v, Grow ρ ρ1 H H1 → HR K ρ1 H1 h1 → StR K ρ1 H1 σ s → Rps K ρ1 H1 d v → PostS K T W ρ1 H1 (k d h1) Z → Q v H1) : tDA K T W f σ H Q :=
  ⟨ρ, s, h, st, hr, (PostS.bind hr st p).mono fun a h1 ρ1 H1 _ gr hr1 pq v rv => m a h1 ρ1 H1 v gr hr1 (st.grow hr.live gr) rv pq⟩
theorem s_par {i j : Nat} {x y : Str} {a b : Expr} {fa : DA} {px py pt : Pos} {kt k2 pt2} (hc : X.calm = true) (hN : X.N.Nodup) (hi : X.N[i]? = some x) (hj : X.N[j]? = some y) (hij : i ≠ j)
    (hx : X.env.scope.names.lookup x = some .local) (hy : X.env.scope.names.lookup y = some .local) (ha : SA X T W [a, b] fa)
    (hw : swappedStores [.Tuple [.Name x px, .Name y py] kt pt] (.Tuple [a, b] k2 pt2) X.env = pure (some [x, y]))
    (hs : swapsWithSole [.Tuple [.Name x px, .Name y py] kt pt] (.Tuple [a, b] k2 pt2) pos.line X.env = pure false := by rfl) :
    SS X T W (.Assign [.Tuple [.Name x px, .Name y py] kt pt] (.Tuple [a, b] k2 pt2) pos) (gPar i j fa) :=
  ⟨PS.imp (ps_par hc hN hi hj hij hx hy ha.p hw hs) fun D σ H ⟨ρ, s, h, st, hr, q⟩ => tDA_bindS st hr q fun ds h1 ρ1 H1 vs g1 hr1 st1 r1 q1 => by
    match ds, q1, r1 with
    | [x, y], q1, r1 =>
      obtain ⟨v, r, rfl, rx, r1⟩ := Rps.cons_iff.mp r1
      obtain ⟨w, r, rfl, ry, r1⟩ := Rps.cons_iff.mp r1
      have := Rps.nil_iff.mp r1; subst this
      exact ⟨v, w, rfl, q1 ρ1 H1 _ (Grow.refl _ _) hr1 ((st1.set rx).set ry)⟩
    | [], q1, _ => exact q1.elim
    | [_], q1, _ => exact q1.elim
    | _ :: _ :: _ :: _, q1, _ => exact q1.elim⟩
/-- name op= e: the same values as name op e -/
def OI (K : KW) (T : XT) (r : TIp) (o : D → D → AH → R D) : Prop := ∀ (E : XK) ρ H h x y v u Q, HR K ρ H h → Rp K ρ H x v → Rp K ρ H y u → P1 K T E ρ H (o x y h) Q → r v u H Q
def gAug (i : Nat) (f : DE) (o : D → D → AH → R D) : DS := fun s h => match s[i]? with
  | some (some x) => bindS (f s h) s fun y h1 => bindS (o x y h1) s fun z h2 => .nx (s.set i (some z)) h2
  | _ => .no
theorem s_aug {i : Nat} {x : Str} {op : Operator} {ti : TIp} {o : D → D → AH → R D} {pos' : Pos} (hN : X.N.Nodup) (hi : X.N[i]? = some x) (hx : Loc X.env.scope x) (he : SE X T W e f) (ho : PIp X op ti) (oi : OI (kwOf X) T ti o) (hf : X.fn x = true ∨ X.env.scope.names.lookup x = some .local := by first | exact .inl rfl | exact .inr rfl | assumption) :
    SS X T W (.AugAssign (.Name x pos') op e pos) (gAug i f o) :=
  ⟨PS.imp (ps_aug hN hi hx he.p ho hf) fun D σ H ⟨ρ, s, h, st, hr, q⟩ => by
    unfold gAug at q
    split at q
    · rename_i d hd
      obtain ⟨v, e1, r⟩ := st.at_ _ _ hd
      refine ⟨v, e1, tD_bindS st hr q fun y h1 ρ1 H1 u g1 hr1 st1 r1 q1 => ?_⟩
      exact oi _ ρ1 H1 h1 d y v u _ hr1 (Rp.grow hr.live g1 d r) r1 ((PostS.bind hr1 st1 q1).mono fun z h2 ρ2 H2 _ g2 hr2 q2 w rw' => q2 ρ2 H2 _ (Grow.refl _ _) hr2 ((st1.grow hr1.live g2).set rw'))
    · exact q.elim⟩

/-! ### while -/
def gWhile (c : DB) (g : DS) : Nat → DS
  | 0 => fun _ _ => .no
  | k + 1 => fun s h => bindS (c s h) s fun b h1 => match b with
    | false => .nx s h1
    | true => match g s h1 with
      | .nx s2 h2 => gWhile c g k s2 h2
      | .ct s2 h2 => gWhile c g k s2 h2
      | .bk s2 h2 => .nx s2 h2
      | .rt d h2 => .rt d h2
      | .ex e s2 h2 => .ex e s2 h2
      | .no => .no
theorem s_while {c : Expr} {body : List Stmt} {fc : DB} (n : Nat) (hp : PassesOwn (model X.prog X.w) X.A X.env X.xe) (hc : ST X T W c fc) (hb : SSs X T W body g) : SS X T W (.While c body [] pos) (gWhile fc g n) :=
  ⟨PS.imp (ps_while hp hc.p hb.p) fun D σ H ⟨ρ, s, h, st, hr, q⟩ => by
    refine ⟨fun m σ H => ∃ ρ s h, StR (kwOf X) ρ H σ s ∧ HR (kwOf X) ρ H h ∧ PostS (kwOf X) T W ρ H (gWhile fc g m s h) D, ⟨n, ρ, s, h, st, hr, q⟩, ?_⟩
    rintro m σ H ⟨ρ, s, h, st, hr, q⟩
    cases m with
    | zero => exact q.elim
    | succ k =>
      unfold gWhile at q
      refine tDB_bindS st hr q fun b h1 ρ1 H1 g1 hr1 st1 q1 => ?_
      cases b with
      | false => rw [if_neg (by decide)]; exact PostS.here q1 hr1 st1
      | true =>
        rw [if_pos rfl]
        refine ⟨fun σ' H' => ∃ ρ s h, StR (kwOf X) ρ H' σ' s ∧ HR (kwOf X) ρ H' h ∧ PostS (kwOf X) T W ρ H' (gWhile fc g k s h) D, fun σ' H' hN => ⟨k, Nat.lt_succ_self k, hN⟩, ρ1, s, h1, st1, hr1, ?_⟩
        cases z : g s h1 with
        | nx s2 h2 => simp only [z] at q1; exact fun ρ2 H2 σ2 g2 hr2 st2 => ⟨ρ2, s2, h2, st2, hr2, PostS.grow hr2.live g2 q1⟩
        | ct s2 h2 => simp only [z] at q1; exact fun ρ2 H2 σ2 g2 hr2 st2 => ⟨ρ2, s2, h2, st2, hr2, PostS.grow hr2.live g2 q1⟩
        | bk s2 h2 => simp only [z] at q1; exact q1
        | rt d h2 => simp only [z] at q1; exact q1
        | ex e s2 h2 => simp only [z] at q1; exact q1
        | no => simp only [z] at q1; exact q1⟩
end
end Nc
namespace Nc
open PySem PySem.Spec PyProof.Rows L2

/-! enumerate over a tuple -/
theorem newEnumT (t : Addr) (items : Array Value) (n : Nat) (dd : Option Addr) (ss : Array (Option Value)) :
    Meets (Builtin.«enumerate.__new__» ⟨[.type "enumerate", .ref t], []⟩) (fun _ R s => s.heap.get? t = some ⟨.type "tuple", dd, .seq items n, ss⟩ ∧
      R (.ok (.ret (.ref (s.heap.push ⟨.type "tuple_iterator", none, .fields #[.ref t, .int 0 0], #[]⟩).objs.size)))
        { s with heap := (s.heap.push ⟨.type "tuple_iterator", none, .fields #[.ref t, .int 0 0], #[]⟩).push ⟨.type "enumerate", none, .fields #[.none, .bool false, .ref s.heap.objs.size, rawInt 0, .none, .none], #[]⟩ }) :=
  .of_wp fun prog w A R s hyp => by
    obtain ⟨hp, gn, dr, tk, os⟩ := s; obtain ⟨ht, hyp⟩ := hyp
    have sub := sub_enumerate
    have hT : Heap.IsTuple (Shared.heap ⟨hp, gn, dr, tk, os⟩) t items := ⟨_, ht, rfl, n, rfl⟩
    wp_walk using AutoSeq1.wpAny_loadPart' ht
    refine wpAny_stack_any fun stk => wpAny_pure ?_
    split
    · rename_i cc _ _ _ _ _
      cases (cc == Value.type "enumerate") <;>
      · wp_walk using AutoSeq1.wpAny_loadPart' ht, wpAny_pyIter_tuple hT
        exact ⟨_, rfl, hyp⟩
    · wp_walk using AutoSeq1.wpAny_loadPart' ht, wpAny_pyIter_tuple hT
      exact ⟨_, rfl, hyp⟩
theorem callEnumT {prog : Program} {w : World} {A : Around} {E : Value → Shared → Prop} {s : Shared} {t : Addr} {items : Array Value} {Q : Value → Shared → Prop} (hT : s.heap.IsTuple t items)
    (k : ∀ h', IsEnum h' (s.heap.objs.size + 1) s.heap.objs.size 0 .none → h'.IsTupleIter s.heap.objs.size t 0 → (∀ b o, s.heap.get? b = some o → h'.get? b = some o) → Q (.ref (s.heap.objs.size + 1)) { s with heap := h' }) :
    wpAny (model prog w) A (call (.type "enumerate") [.ref t]) Q E s := by
  obtain ⟨⟨c, dd, dt, ss⟩, ht, hc, n, hd⟩ := hT
  replace hc : c = .type "tuple" := hc
  replace hd : dt = .seq items n := hd
  subst hc; subst hd
  refine callType_new F.called_enumerate (by decide) (F.typeCall_enumerate_1 _) (F.newCall_enumerate_1 _) (fun ob => F.args_object_init_2 ob _) F.entry_enumerate_new (newEnumT t items n dd ss) ⟨ht, ?_⟩
  have sz : (s.heap.push ⟨.type "tuple_iterator", none, .fields #[.ref t, .int 0 0], #[]⟩).objs.size = s.heap.objs.size + 1 := Heap.size_push ..
  show _ ∧ _
  rw [sz]
  have en : IsEnum ((s.heap.push ⟨.type "tuple_iterator", none, .fields #[.ref t, .int 0 0], #[]⟩).push ⟨.type "enumerate", none, .fields #[.none, .bool false, .ref s.heap.objs.size, rawInt 0, .none, .none], #[]⟩) (s.heap.objs.size + 1) s.heap.objs.size 0 .none := by
    have z := Heap.get?_push_size (s.heap.push ⟨.type "tuple_iterator", none, .fields #[.ref t, .int 0 0], #[]⟩) (o := ⟨.type "enumerate", none, .fields #[.none, .bool false, .ref s.heap.objs.size, rawInt 0, .none, .none], #[]⟩) rfl
    rw [sz] at z; exact z
  exact ⟨⟨_, en, rfl⟩, k _ en ⟨_, Heap.get?_push_of_some _ (Heap.get?_push_size _ rfl), rfl, rfl⟩ fun b o x => Heap.get?_push_of_some _ (Heap.get?_push_of_some _ x)⟩

/-- the tuple at a, each item in a new pair -/
def IteT (K : PySem.W.Frag) (a : Addr) : It where
  go := fun i H => ∃ (xs : List V) (x : V), SqT K H a xs ∧ xs[i]? = some x
  yld := fun i H v H' => ∃ T x, v = .ref T ∧ H T = none ∧ H' = upd H T (.tup [.int (i : Nat), x]) ∧ ∀ xs, SqT K H a xs → xs[i]? = some x
  stop := fun i H => ∃ xs : List V, SqT K H a xs ∧ xs.length ≤ i
theorem turnEnumT {P : Program} {w : World} {K : PySem.W.Frag} {els : List Expr} {kk : Nat} {tp : Pos} (a en it : Addr) :
    Turn P w K (.Tuple els kk tp) (IteT K a) [en, it] en (fun i h => (∃ old, IsEnum h en it ((i : Nat) : Int) old) ∧ h.IsTupleIter it a i ∧ en ≠ it) where
  mem := List.mem_cons_self
  obj := fun i h stt b hb => by
    obtain ⟨⟨old, he⟩, ⟨o, ho, hc, hd⟩, _⟩ := stt
    rcases (by simpa using hb : b = en ∨ b = it) with z | z
    · subst z; exact ⟨_, he, fun v q => nomatch q⟩
    · subst z; exact ⟨o, ho, fun v q => by rw [hd] at q; cases q⟩
  keep := fun i h h' stt k => ⟨stt.1.imp fun old he => k en (by simp) _ he, stt.2.1.at fun o q => k it (by simp) o q, stt.2.2⟩
  item := by
    intro X e1 e2 e3 hc i pins s σ H E I hf stt hg
    subst e1 e2 e3
    obtain ⟨⟨old, he⟩, hit, hne⟩ := stt
    obtain ⟨xs, x, hq, hx⟩ := hg
    obtain ⟨its, rv, p, hz⟩ := I.tuple hq
    have p' : s.heap.IsTuple a its.toArray := p
    obtain ⟨u, hu, ru⟩ := rv.get hx
    have l1 : en < s.heap.objs.size := Heap.lt_size he
    have l2 : it < s.heap.objs.size := by obtain ⟨_, q, _⟩ := hit; exact Heap.lt_size q
    have na : a ≠ it := fun z => by
      obtain ⟨o1, q1, c1, _⟩ := hit
      obtain ⟨o2, q2, c2, _⟩ := p'
      rw [z, q1] at q2; cases q2
      rw [c1] at c2; exact absurd (Value.type.inj c2) (by decide)
    have ne : a ≠ en := fun z => by
      obtain ⟨o2, q2, c2, _⟩ := p'
      rw [z, he] at q2; cases q2
      exact absurd (Value.type.inj c2) (by decide)
    have hi : i < its.toArray.size := by
      have := rv.length
      obtain ⟨lt, _⟩ := List.getElem?_eq_some_iff.mp hu
      simpa using lt
    refine wpAny_pyNext_enum_itemD (Draws.tuple (A := X.A.in1) (I.ok.hd hc) it a na its.toArray) he ⟨hit, p'⟩ hi hne (by simp [hne, Ne.symm ne]) fun y h' tk hy ho st' hT _ hk => ?_
    have ey : y = u := by
      have : its[i]? = some y := by simpa using hy
      rw [hu] at this; exact (Option.some.inj this).symm
    subst ey
    refine ⟨_, rfl, wpAny_letOwnedTupleGo_enum (s := { s with heap := h', toks := tk + 1 }) ho fun h'' he' sb => ?_⟩
    have hT2 := (sb.2 _ (Nat.ne_of_gt l1)).trans hT
    have nw : ObjOk X.prog X.w (upd H s.heap.objs.size (.tup [.int (i : Nat), x])) h'' s.heap.objs.size (.tup [.int (i : Nat), x]) :=
      ⟨by show 2 ≤ sizeLine; decide, [.int i tk, y], .cons ⟨_, rfl⟩ (.cons ru .nil), ⟨_, hT2, rfl, _, rfl⟩⟩
    have I1 : Inv X pins σ (upd H s.heap.objs.size (.tup [.int (i : Nat), x])) { s with heap := h'', toks := tk + 1 } :=
      I.turnedNew (ch := [en, it]) (fun b ob hb q => (sb.2 b (fun z => hb (by simp [z]))).trans (hk b ob (fun z => hb (by simp [z])) (fun z => hb (by simp [z])) q)) hf (Nat.le_refl _) nw
    refine ⟨.ref s.heap.objs.size, _, I1, rfl, ⟨_, x, rfl, I.hok.fresh (Nat.le_refl _), rfl, fun ys hy => by rw [I.tuple_inj hy hq]; exact hx⟩, ⟨⟨y, ?_⟩, st'.1.at fun o q => (sb.2 it (Ne.symm hne)).trans q, hne⟩, fun b hb => ?_⟩
    · rw [show ((i + 1 : Nat) : Int) = (i : Int) + 1 by omega]; exact he'
    · have lb : b < s.heap.objs.size := by
        rcases (by simpa using hb : b = en ∨ b = it) with z | z
        · subst z; exact l1
        · subst z; exact l2
      rw [upd_ne (Nat.ne_of_lt lb)]
      exact (hf b hb).1
  done := by
    intro X e1 e2 e3 hc i pins s σ H E I hf stt hg
    subst e1 e2 e3
    obtain ⟨⟨old, he⟩, hit, hne⟩ := stt
    obtain ⟨xs, hq, hx⟩ := hg
    obtain ⟨its, rv, p, hz⟩ := I.tuple hq
    have p' : s.heap.IsTuple a its.toArray := p
    have na : a ≠ it := fun z => by
      obtain ⟨o1, q1, c1, _⟩ := hit
      obtain ⟨o2, q2, c2, _⟩ := p'
      rw [z, q1] at q2; cases q2
      rw [c1] at c2; exact absurd (Value.type.inj c2) (by decide)
    obtain ⟨f0, f1, f2, f3, f4, f5⟩ := hf it (by simp)
    have hl := rv.length
    unfold pyNext
    refine wpAny_bind (wpAny_attempt (wpAny_callSpecial?_slot (name := Str.ofString "__next__") ⟨_, he, rfl⟩ F.slot_enumerate_next (wpAny_call_entry F.slot_enumerate_next ⟨_, he, rfl⟩ F.entry_enumerate_next ?_ (F.args_enumerate_next_1 _))))
    show wpAny _ _ (field (.ref en) 2 >>= _) _ _ _
    refine wpAny_bind (wpAny_field he rfl (x := .ref it) rfl ?_)
    refine wpAny_bind (wpAny_nextOf_tuple_end (I.ok.hd hc) hit p' (by simp; omega) fun h' ex eb hx' => ?_)
    obtain ⟨o, ho, hc'⟩ := hx'
    refine wpAny_bind (wpAny_isInstance (T := "StopIteration") (b := true) ⟨o, ho, hc'⟩ isSubtype_stop (wpAny_pure ?_))
    exact ⟨rfl, I.turned (t' := s.toks) (fun b o hb q => eb b o hb q) f0 f1 f3 f4 f5⟩
  self := fun A i s Q E stt h => let ⟨⟨_, he⟩, _⟩ := stt; wpAny_pyIter_enum he h
end Nc
namespace Nc
open PySem PySem.Spec PyProof.Rows L2

/-! ## what is walked -/
inductive ItD where
  | seq (d : D) | rng (lo : Int) (n : Nat) | enum (d : D) | zip (d e : D)
/-- the i-th item; none none: at the end -/
def itemAt (it : ItD) (i : Nat) (h : AH) : Option (Option D) := match it with
  | .seq d => match seqOf d h with
    | some ds => some ds[i]?
    | none => none
  | .rng lo n => match Nat.blt i n with
    | true => some (some (.int (lo + i)))
    | false => some none
  | .enum d => match seqOf d h with
    | some ds => match ds[i]? with
      | some x => some (some (.tup [.int i, x]))
      | none => some none
    | none => none
  | .zip d e => match seqOf d h, seqOf e h with
    | some ds, some es => match ds[i]?, es[i]? with
      | some x, some y => some (some (.tup [x, y]))
      | _, _ => some none
    | _, _ => none
def ItOk (K : KW) (ρ' : Rho) (H' : Hp) (h' : AH) (J : It) (i : Nat) : Option (Option D) → Prop
  | some none => J.stop i H'
  | some (some d) => J.go i H' ∧ ∀ x H'', J.yld i H' x H'' → ∃ ρ'', Grow ρ' ρ'' H' H'' ∧ HR K ρ'' H'' h' ∧ Rp K ρ'' H'' d x
  | none => True
def ItR (K : KW) (ρ : Rho) (H : Hp) (it : ItD) (J : It) : Prop := ∀ ρ' H' h', Ext K ρ ρ' H H' → HR K ρ' H' h' → ∀ i, ItOk K ρ' H' h' J i (itemAt it i h')
abbrev DI := DSt → AH → R ItD
def tI (K : KW) (T : XT) (W : WX) (f : DI) : TI := fun σ H Q => ∃ ρ s h, StR K ρ H σ s ∧ HR K ρ H h ∧ Post K T (at_ W σ) ρ H (f s h) fun it _ ρ' H' => ∀ J, ItR K ρ' H' it J → Q J H'
structure SI (X : Cx) (T : XT) (W : WX) (tg e : Expr) (f : DI) : Prop where
  p : PI X tg e (tI (kwOf X) T W f)
theorem PI.imp {X : Cx} {tg e : Expr} {t t' : TI} (h : PI X tg e t) (m : ∀ σ H Q, t' σ H Q → t σ H Q) : PI X tg e t' := ⟨fun pins s σ H Q I q => h.run pins s σ H Q I (m σ H Q q)⟩
theorem PI.or {X : Cx} {tg e : Expr} {t t' : TI} (h : PI X tg e t) (h' : PI X tg e t') : PI X tg e (fun σ H Q => t σ H Q ∨ t' σ H Q) := ⟨fun pins s σ H Q I q => q.elim (h.run pins s σ H Q I) (h'.run pins s σ H Q I)⟩
section
variable {K : KW} {ρ : Rho} {H : Hp} {a b : Addr}
theorem itR_tup {ds : List D} {xs : List V} (s : SqT K.k H a xs) (r : Rps K ρ H ds xs) : ItR K ρ H (.seq (.tup ds)) (Itt K.k a) := fun ρ' H' h' g hr i => by
  have s' := g.tup a xs s
  have r' := Rps.ext g ds r
  cases z : ds[i]? with
  | none =>
    rw [show itemAt (.seq (.tup ds)) i h' = some none by simp [itemAt, seqOf, z]]
    exact ⟨xs, s', by rw [← r'.length]; exact List.getElem?_eq_none_iff.mp z⟩
  | some d =>
    obtain ⟨v, e, q⟩ := r'.get z
    rw [show itemAt (.seq (.tup ds)) i h' = some (some d) by simp [itemAt, seqOf, z]]
    refine ⟨⟨xs, v, s', e⟩, fun x H'' y => ?_⟩
    obtain ⟨rfl, y⟩ := y
    have := y xs s'
    rw [e] at this; cases this
    exact ⟨ρ', Grow.refl _ _, hr, q⟩
theorem itR_cell {n : Nat} (e : ρ n = some a) : ItR K ρ H (.seq (.cell n)) (Itl K.k a) := fun ρ' H' h' g hr i => by
  have e' := g.rho _ _ e
  cases q : lstAt n h' with
  | none => rw [show itemAt (.seq (.cell n)) i h' = none by simp [itemAt, seqOf, q]]; trivial
  | some ds =>
    obtain ⟨b, xs, e1, e2, r, _⟩ := lstAt_ok hr q
    rw [e'] at e1; cases e1
    cases z : ds[i]? with
    | none =>
      rw [show itemAt (.seq (.cell n)) i h' = some none by simp [itemAt, seqOf, q, z]]
      exact ⟨xs, .inl (.inl e2), by rw [← r.length]; exact List.getElem?_eq_none_iff.mp z⟩
    | some d =>
      rw [show itemAt (.seq (.cell n)) i h' = some (some d) by simp [itemAt, seqOf, q, z]]
      obtain ⟨v, e3, q⟩ := r.get z
      refine ⟨⟨xs, v, .inl (.inl e2), e3⟩, fun x H'' y => ?_⟩
      obtain ⟨rfl, y⟩ := y
      have := y xs (.inl (.inl e2))
      rw [e3] at this; cases this
      exact ⟨ρ', Grow.refl _ _, hr, q⟩
theorem itR_rng {lo : Int} {n : Nat} : ItR K ρ H (.rng lo n) (Itr lo n) := fun ρ' H' h' g hr i => by
  cases z : Nat.blt i n with
  | true =>
    rw [show itemAt (.rng lo n) i h' = some (some (.int (lo + i))) by simp only [itemAt, z]]
    have : i < n := by simpa [Nat.blt_eq] using z
    refine ⟨this, fun x H'' y => ?_⟩
    obtain ⟨rfl, rfl⟩ := y
    exact ⟨ρ', Grow.refl _ _, hr, rp_int.mpr rfl⟩
  | false =>
    rw [show itemAt (.rng lo n) i h' = some none by simp only [itemAt, z]]
    have : ¬ i < n := fun q => by rw [← Nat.blt_eq] at q; rw [z] at q; cases q
    show n ≤ i
    omega
/-- a new pair for a turn -/
theorem pair_new {ρ' : Rho} {H' : Hp} {h' : AH} {d e : D} {v u : V} {p : Addr} (hr : HR K ρ' H' h') (np : H' p = none) (r : Rp K ρ' H' d v) (q : Rp K ρ' H' e u) :
    ∃ ρ'', Grow ρ' ρ'' H' (upd H' p (.tup [v, u])) ∧ HR K ρ'' (upd H' p (.tup [v, u])) h' ∧ Rp K ρ'' (upd H' p (.tup [v, u])) (.tup [d, e]) (.ref p) := by
  have g := grow_upd (o := .tup [v, u]) hr.live np
  refine ⟨ρ', g, hr.upd np, rp_tup.mpr ⟨p, _, rfl, .inl (.inl upd_same), ?_⟩⟩
  exact Rps.cons (Rp.grow hr.live g _ r) (Rps.cons (Rp.grow hr.live g _ q) (Rps.nil_iff.mpr rfl))
theorem itR_enumT {ds : List D} {xs : List V} (s : SqT K.k H a xs) (r : Rps K ρ H ds xs) : ItR K ρ H (.enum (.tup ds)) (IteT K.k a) := fun ρ' H' h' g hr i => by
  have s' := g.tup a xs s
  have r' := Rps.ext g ds r
  cases z : ds[i]? with
  | none =>
    rw [show itemAt (.enum (.tup ds)) i h' = some none by simp [itemAt, seqOf, z]]
    exact ⟨xs, s', by rw [← r'.length]; exact List.getElem?_eq_none_iff.mp z⟩
  | some d =>
    obtain ⟨v, e, q⟩ := r'.get z
    rw [show itemAt (.enum (.tup ds)) i h' = some (some (.tup [.int i, d])) by simp [itemAt, seqOf, z]]
    refine ⟨⟨xs, v, s', e⟩, fun x H'' y => ?_⟩
    obtain ⟨p, w, rfl, np, rfl, y⟩ := y
    have := y xs s'
    rw [e] at this; cases this
    exact pair_new hr np (rp_int.mpr rfl) q
theorem itR_enumL {n : Nat} (e : ρ n = some a) : ItR K ρ H (.enum (.cell n)) (Ite K.k a) := fun ρ' H' h' g hr i => by
  have e' := g.rho _ _ e
  cases q : lstAt n h' with
  | none => rw [show itemAt (.enum (.cell n)) i h' = none by simp [itemAt, seqOf, q]]; trivial
  | some ds =>
    obtain ⟨b, xs, e1, e2, r, _⟩ := lstAt_ok hr q
    rw [e'] at e1; cases e1
    cases z : ds[i]? with
    | none =>
      rw [show itemAt (.enum (.cell n)) i h' = some none by simp [itemAt, seqOf, q, z]]
      exact ⟨xs, .inl (.inl e2), by rw [← r.length]; exact List.getElem?_eq_none_iff.mp z⟩
    | some d =>
      rw [show itemAt (.enum (.cell n)) i h' = some (some (.tup [.int i, d])) by simp [itemAt, seqOf, q, z]]
      obtain ⟨v, e3, q⟩ := r.get z
      refine ⟨⟨xs, v, .inl (.inl e2), e3⟩, fun x H'' y => ?_⟩
      obtain ⟨p, w, rfl, np, rfl, y⟩ := y
      have := y xs (.inl (.inl e2))
      rw [e3] at this; cases this
      exact pair_new hr np (rp_int.mpr rfl) q
theorem itR_zipT {ds es : List D} {xs ys : List V} (s : SqT K.k H a xs) (r : Rps K ρ H ds xs) (s2 : SqT K.k H b ys) (r2 : Rps K ρ H es ys) : ItR K ρ H (.zip (.tup ds) (.tup es)) (RZ.ItzT K.k a b) := fun ρ' H' h' g hr i => by
  have s' := g.tup a xs s
  have r' := Rps.ext g ds r
  have s2' := g.tup b ys s2
  have r2' := Rps.ext g es r2
  cases z : ds[i]? with
  | none =>
    rw [show itemAt (.zip (.tup ds) (.tup es)) i h' = some none by simp [itemAt, seqOf, z]]
    exact ⟨xs, ys, s', s2', .inl (by rw [← r'.length]; exact List.getElem?_eq_none_iff.mp z)⟩
  | some d =>
    cases z2 : es[i]? with
    | none =>
      rw [show itemAt (.zip (.tup ds) (.tup es)) i h' = some none by simp [itemAt, seqOf, z, z2]]
      exact ⟨xs, ys, s', s2', .inr (by rw [← r2'.length]; exact List.getElem?_eq_none_iff.mp z2)⟩
    | some c =>
      rw [show itemAt (.zip (.tup ds) (.tup es)) i h' = some (some (.tup [d, c])) by simp [itemAt, seqOf, z, z2]]
      obtain ⟨v, e, q⟩ := r'.get z
      obtain ⟨u, e2, q2⟩ := r2'.get z2
      refine ⟨⟨xs, ys, v, u, s', s2', e, e2⟩, fun x H'' y => ?_⟩
      obtain ⟨p, w, w2, rfl, np, rfl, y, y2⟩ := y
      have := y xs s'
      rw [e] at this; cases this
      have := y2 ys s2'
      rw [e2] at this; cases this
      exact pair_new hr np q q2
theorem itR_zipL {m n : Nat} (e : ρ m = some a) (e2 : ρ n = some b) : ItR K ρ H (.zip (.cell m) (.cell n)) (Itz K.k a b) := fun ρ' H' h' g hr i => by
  have e' := g.rho _ _ e
  have e2' := g.rho _ _ e2
  cases q : lstAt m h' with
  | none => rw [show itemAt (.zip (.cell m) (.cell n)) i h' = none by simp [itemAt, seqOf, q]]; trivial
  | some ds =>
    cases q2 : lstAt n h' with
    | none => rw [show itemAt (.zip (.cell m) (.cell n)) i h' = none by simp [itemAt, seqOf, q, q2]]; trivial
    | some es =>
      obtain ⟨b1, xs, f1, f2, r, _⟩ := lstAt_ok hr q
      rw [e'] at f1; cases f1
      obtain ⟨b2, ys, g1, g2, r2, _⟩ := lstAt_ok hr q2
      rw [e2'] at g1; cases g1
      cases z : ds[i]? with
      | none =>
        rw [show itemAt (.zip (.cell m) (.cell n)) i h' = some none by simp [itemAt, seqOf, q, q2, z]]
        exact ⟨xs, ys, .inl (.inl f2), .inl (.inl g2), .inl (by rw [← r.length]; exact List.getElem?_eq_none_iff.mp z)⟩
      | some d =>
        cases z2 : es[i]? with
        | none =>
          rw [show itemAt (.zip (.cell m) (.cell n)) i h' = some none by simp [itemAt, seqOf, q, q2, z, z2]]
          exact ⟨xs, ys, .inl (.inl f2), .inl (.inl g2), .inr (by rw [← r2.length]; exact List.getElem?_eq_none_iff.mp z2)⟩
        | some c =>
          rw [show itemAt (.zip (.cell m) (.cell n)) i h' = some (some (.tup [d, c])) by simp [itemAt, seqOf, q, q2, z, z2]]
          obtain ⟨v, e3, p1⟩ := r.get z
          obtain ⟨u, e4, p2⟩ := r2.get z2
          refine ⟨⟨xs, ys, v, u, .inl (.inl f2), .inl (.inl g2), e3, e4⟩, fun x H'' y => ?_⟩
          obtain ⟨p, w, w2, rfl, np, rfl, y, y2⟩ := y
          have := y xs (.inl (.inl f2))
          rw [e3] at this; cases this
          have := y2 ys (.inl (.inl g2))
          rw [e4] at this; cases this
          exact pair_new hr np p1 p2
end
section
variable {X : Cx} {T : XT} {W : WX} {tg e : Expr} {f : DE} {p pos tpos : Pos}
def isTup : D → Bool
  | .tup _ => true
  | _ => false
def isSq (d : D) (h : AH) : Bool := match seqOf d h with
  | some _ => true
  | none => false
def iSeq (f : DE) : DI := fun s h => (f s h).bind fun d h1 => chk (isSq d h1) (.ok (.seq d) h1)
theorem isSq_cell {K : KW} {ρ : Rho} {H : Hp} {h : AH} {n : Nat} (hr : HR K ρ H h) (c : isSq (.cell n) h = true) : ∃ a xs, ρ n = some a ∧ H a = some (.lst xs) := by
  unfold isSq at c
  cases q : seqOf (.cell n) h with
  | none => rw [q] at c; cases c
  | some ds =>
    obtain ⟨a, xs, e1, e2, _⟩ := lstAt_ok hr (show lstAt n h = some ds from q)
    exact ⟨a, xs, e1, e2⟩
theorem si_seq (he : SE X T W e f) : SI X T W tg e (iSeq f) := ⟨PI.imp (PI.or (pi_tup he.p) (pi_list he.p)) fun σ H Q ⟨ρ, s, h, st, hr, q⟩ => by
  have q := q.bind
  cases z : f s h with
  | no => rw [z] at q; exact q.elim
  | ex e h1 => rw [z] at q; exact .inl ⟨ρ, s, h, st, hr, by rw [z]; exact q⟩
  | ok d h1 =>
    rw [z] at q
    by_cases c : isTup d = true
    · refine .inl ⟨ρ, s, h, st, hr, ?_⟩
      rw [z]
      intro ρ1 H1 g1 hr1 v r1
      obtain ⟨_, q1⟩ := (q ρ1 H1 g1 hr1).chk
      cases d with
      | tup ds =>
        obtain ⟨a, xs, e1, s1, r⟩ := rp_tup.mp r1
        exact ⟨a, e1, ⟨xs, s1⟩, q1.here hr1 _ (itR_tup s1 r)⟩
      | _ => cases c
    · refine .inr ⟨ρ, s, h, st, hr, ?_⟩
      rw [z]
      intro ρ1 H1 g1 hr1 v r1
      obtain ⟨c2, q1⟩ := (q ρ1 H1 g1 hr1).chk
      cases d with
      | cell n =>
        obtain ⟨a, e1, e2⟩ := rp_cell.mp r1
        obtain ⟨b, xs, e3, e4⟩ := isSq_cell hr1 c2
        rw [e2] at e3; cases e3
        exact ⟨a, e1, ⟨xs, .inl (.inl e4)⟩, q1.here hr1 _ (itR_cell e2)⟩
      | tup ds => exact absurd rfl c
      | _ => cases c2⟩
/-- a number that a range takes -/
def small62 (i : Int) : Bool := Nat.ble i.natAbs 1000000000000
theorem small62_ok {i : Int} (h : small62 i = true) : -(2 ^ 62) ≤ i ∧ i < 2 ^ 62 := by
  have := Nat.le_of_ble_eq_true h
  have e : (2 : Int) ^ 62 = 4611686018427387904 := by decide
  omega
def arg1 : List D → Option D
  | [] => none
  | d :: r => match r with
    | [] => some d
    | _ :: _ => none
def arg2 : List D → Option (D × D)
  | [] => none
  | d :: r => match arg1 r with
    | some e => some (d, e)
    | none => none
theorem arg1_ok {K : KW} {ρ : Rho} {H : Hp} {ds : List D} {d : D} {vs : List V} (r : Rps K ρ H ds vs) (e : arg1 ds = some d) : ∃ v, vs = [v] ∧ Rp K ρ H d v := by
  cases ds with
  | nil => cases e
  | cons c ds =>
    cases ds with
    | nil =>
      cases e
      obtain ⟨v, q, rfl, rv, r1⟩ := Rps.cons_iff.mp r
      have := Rps.nil_iff.mp r1; subst this
      exact ⟨v, rfl, rv⟩
    | cons _ _ => cases e
theorem arg2_ok {K : KW} {ρ : Rho} {H : Hp} {ds : List D} {d : D × D} {vs : List V} (r : Rps K ρ H ds vs) (e : arg2 ds = some d) : ∃ v u, vs = [v, u] ∧ Rp K ρ H d.1 v ∧ Rp K ρ H d.2 u := by
  cases ds with
  | nil => cases e
  | cons c ds =>
    unfold arg2 at e
    cases z : arg1 ds with
    | none => simp only [z] at e; cases e
    | some b =>
      simp only [z] at e; cases e
      obtain ⟨v, q, rfl, rv, r1⟩ := Rps.cons_iff.mp r
      obtain ⟨u, rfl, ru⟩ := arg1_ok r1 z
      exact ⟨v, u, rfl, rv, ru⟩
def intD : D → Option Int
  | .int i => some i
  | _ => none
theorem intD_ok {K : KW} {ρ : Rho} {H : Hp} {d : D} {i : Int} {v : V} (r : Rp K ρ H d v) (e : intD d = some i) : v = .int i := by
  cases d <;> first | (cases e; exact rp_int.mp r) | cases e
def iR1 (fa : DA) : DI := fun s h => (fa s h).bind fun ds h1 => withS (arg1 ds) fun d => withS (intD d) fun j => chk (small62 j) (.ok (.rng 0 j.toNat) h1)
def iR2 (fa : DA) : DI := fun s h => (fa s h).bind fun ds h1 => withS (arg2 ds) fun d => withS (intD d.1) fun i => withS (intD d.2) fun j => chk (small62 i && small62 j) (.ok (.rng i (j - i).toNat) h1)
theorem si_range1 {a : Expr} {fa : DA} (hg : Gl X "range") (hm : X.mg "range" = none) (ha : SA X T W [a] fa) (hs : starEach [a] X.env = [(false, eval a X.env)] := by rfl) : SI X T W tg (.Call (.Name "range" p) [a] [] pos) (iR1 fa) :=
  ⟨PI.imp (pi_range1 hg hm ha.p hs) fun σ H Q ⟨ρ, s, h, st, hr, q⟩ => tDA_bind st hr q fun ds h1 ρ1 H1 vs g1 hr1 st1 r1 q1 => by
    obtain ⟨d, e1, q1⟩ := q1.withS
    obtain ⟨j, e2, q1⟩ := q1.withS
    obtain ⟨c, q1⟩ := q1.chk
    obtain ⟨v, rfl, rv⟩ := arg1_ok r1 e1
    obtain ⟨c1, c2⟩ := small62_ok c
    exact ⟨j, by rw [intD_ok rv e2], c1, c2, q1.here hr1 _ itR_rng⟩⟩
theorem si_range2 {a b : Expr} {fa : DA} (hg : Gl X "range") (hm : X.mg "range" = none) (ha : SA X T W [a, b] fa) (hs : starEach [a, b] X.env = [(false, eval a X.env), (false, eval b X.env)] := by rfl) (hs2 : starEach [b] X.env = [(false, eval b X.env)] := by rfl) :
    SI X T W tg (.Call (.Name "range" p) [a, b] [] pos) (iR2 fa) :=
  ⟨PI.imp (pi_range2 hg hm ha.p hs hs2) fun σ H Q ⟨ρ, s, h, st, hr, q⟩ => tDA_bind st hr q fun ds h1 ρ1 H1 vs g1 hr1 st1 r1 q1 => by
    obtain ⟨d, e1, q1⟩ := q1.withS
    obtain ⟨i, e2, q1⟩ := q1.withS
    obtain ⟨j, e3, q1⟩ := q1.withS
    obtain ⟨c, q1⟩ := q1.chk
    obtain ⟨v, u, rfl, rv, ru⟩ := arg2_ok r1 e1
    obtain ⟨c1, c2⟩ := Bool.and_eq_true_iff.mp c
    obtain ⟨b1, b2⟩ := small62_ok c1
    obtain ⟨b3, b4⟩ := small62_ok c2
    exact ⟨i, j, by rw [intD_ok rv e2, intD_ok ru e3], ⟨b1, b2, b3, b4⟩, q1.here hr1 _ itR_rng⟩⟩
/-! enumerate -/
def iEnumT (K : PySem.W.Frag) (ta : TA) : TI := fun σ H R => ta σ H fun vs H1 => ∃ a xs, vs = [.ref a] ∧ SqT K H1 a xs ∧ R (IteT K a) H1
theorem pi_enumT {e : Expr} {ta : TA} {els : List Expr} {kk : Nat} (hg : Gl X "enumerate") (hm : X.mg "enumerate" = none) (ha : PA X [e] ta) (hs : starEach [e] X.env = [(false, eval e X.env)] := by rfl) :
    PI X (.Tuple els kk tpos) (.Call (.Name "enumerate" p) [e] [] pos) (iEnumT X.K ta) := by
  refine ⟨fun pins s σ H Rr I hyp => ?_⟩
  refine Call_ (ld_blt I hg hm boot_enumerate (PyProof.Rows.callWith_type1 (thn (ha.run pos pins s σ H _ I hyp) fun us s1 ⟨vs, H1, I1, r1, q1⟩ => ?_) hs rfl))
  obtain ⟨a, xs, ex, hq, q⟩ := q1
  subst ex
  obtain ⟨u, rfl, ru⟩ := vals1 r1
  cases ru
  obtain ⟨its, rv, p', _⟩ := I1.tuple hq
  refine callEnumT (show s1.heap.IsTuple a its.toArray from p') fun h' he hit hk => wpAny_pyIter_enum he ?_
  have I2 : Inv X pins σ H1 { s1 with heap := h' } := I1.kept (t' := s1.toks) hk
  refine ⟨s1.heap.objs.size + 1, [s1.heap.objs.size + 1, s1.heap.objs.size], _, _, H1, rfl, I2, turnEnumT a (s1.heap.objs.size + 1) s1.heap.objs.size, ⟨⟨.none, he⟩, hit, Nat.succ_ne_self _⟩, fun b hb => ?_, q⟩
  have le : s1.heap.objs.size ≤ b := by
    rcases (by simpa using hb : b = s1.heap.objs.size + 1 ∨ b = s1.heap.objs.size) with z | z
    · rw [z]; exact Nat.le_succ _
    · rw [z]; exact Nat.le_refl _
  exact I1.fpOk le (I1.hok.fresh le)
def iEnumD (fa : DA) : DI := fun s h => (fa s h).bind fun ds h1 => withS (arg1 ds) fun d => chk (isSq d h1) (.ok (.enum d) h1)
theorem si_enum {e : Expr} {fa : DA} {els : List Expr} {kk : Nat} (hg : Gl X "enumerate") (hm : X.mg "enumerate" = none) (ha : SA X T W [e] fa) (hs : starEach [e] X.env = [(false, eval e X.env)] := by rfl) :
    SI X T W (.Tuple els kk tpos) (.Call (.Name "enumerate" p) [e] [] pos) (iEnumD fa) :=
  ⟨PI.imp (PI.or (pi_enumT hg hm ha.p hs) (pi_enum hg hm ha.p hs)) fun σ H Q ⟨ρ, s, h, st, hr, q⟩ => by
    have q := q.bind
    cases z : fa s h with
    | no => rw [z] at q; exact q.elim
    | ex e h1 => rw [z] at q; exact .inl ⟨ρ, s, h, st, hr, by rw [z]; exact q⟩
    | ok ds h1 =>
      rw [z] at q
      cases y : arg1 ds with
      | none => exact .inl ⟨ρ, s, h, st, hr, by
          rw [z]
          exact fun ρ1 H1 g1 hr1 vs r1 => by
            obtain ⟨_, e', _⟩ := (Post.withS (q ρ1 H1 g1 hr1))
            rw [y] at e'; cases e'⟩
      | some d =>
        by_cases c : isTup d = true
        · refine .inl ⟨ρ, s, h, st, hr, ?_⟩
          rw [z]
          intro ρ1 H1 g1 hr1 vs r1
          obtain ⟨d', e', q1⟩ := Post.withS (q ρ1 H1 g1 hr1)
          rw [y] at e'; cases e'
          obtain ⟨_, q1⟩ := q1.chk
          obtain ⟨v, rfl, rv⟩ := arg1_ok r1 y
          cases d with
          | tup es =>
            obtain ⟨a, xs, rfl, s1, r⟩ := rp_tup.mp rv
            exact ⟨a, xs, rfl, s1, q1.here hr1 _ (itR_enumT s1 r)⟩
          | _ => cases c
        · refine .inr ⟨ρ, s, h, st, hr, ?_⟩
          rw [z]
          intro ρ1 H1 g1 hr1 vs r1
          obtain ⟨d', e', q1⟩ := Post.withS (q ρ1 H1 g1 hr1)
          rw [y] at e'; cases e'
          obtain ⟨c2, q1⟩ := q1.chk
          obtain ⟨v, rfl, rv⟩ := arg1_ok r1 y
          cases d with
          | cell n =>
            obtain ⟨a, rfl, e2⟩ := rp_cell.mp rv
            obtain ⟨b, xs, e3, e4⟩ := isSq_cell hr1 c2
            rw [e2] at e3; cases e3
            exact ⟨a, xs, rfl, .inl (.inl e4), q1.here hr1 _ (itR_enumL e2)⟩
          | tup es => exact absurd rfl c
          | _ => cases c2⟩
/-! zip -/
def iZipD (fa : DA) : DI := fun s h => (fa s h).bind fun ds h1 => withS (arg2 ds) fun d => chk ((isTup d.1 && isTup d.2) || (!isTup d.1 && !isTup d.2 && isSq d.1 h1 && isSq d.2 h1)) (.ok (.zip d.1 d.2) h1)
theorem si_zip {e e2 : Expr} {fa : DA} {els : List Expr} {kk : Nat} (hg : Gl X "zip") (hm : X.mg "zip" = none) (ha : SA X T W [e, e2] fa)
    (hs : starEach [e, e2] X.env = (false, eval e X.env) :: starEach [e2] X.env := by rfl) (hs2 : (backTo pos (starEach [e2] X.env)).any (·.1) = false := by rfl) :
    SI X T W (.Tuple els kk tpos) (.Call (.Name "zip" p) [e, e2] [] pos) (iZipD fa) :=
  ⟨PI.imp (RZ.pi_zipA hg hm ha.p hs hs2) fun σ H Q ⟨ρ, s, h, st, hr, q⟩ => tDA_bind st hr q fun ds h1 ρ1 H1 vs g1 hr1 st1 r1 q1 => by
    obtain ⟨d, e1, q1⟩ := q1.withS
    obtain ⟨c, q1⟩ := q1.chk
    obtain ⟨v, u, rfl, rv, ru⟩ := arg2_ok r1 e1
    obtain ⟨x, y⟩ := d
    rcases Bool.or_eq_true_iff.mp c with c | c
    · obtain ⟨c1, c2⟩ := Bool.and_eq_true_iff.mp c
      cases x <;> first | cases c1 | skip
      cases y <;> first | cases c2 | skip
      obtain ⟨a, xs, rfl, s1, p1⟩ := rp_tup.mp rv
      obtain ⟨b, ys, rfl, s2, p2⟩ := rp_tup.mp ru
      exact ⟨a, b, xs, ys, rfl, .inr ⟨s1, s2, q1.here hr1 _ (itR_zipT s1 p1 s2 p2)⟩⟩
    · simp only [Bool.and_eq_true, Bool.not_eq_true'] at c
      obtain ⟨⟨⟨c1, c2⟩, c3⟩, c4⟩ := c
      cases x with
      | cell m =>
        cases y with
        | cell n =>
          obtain ⟨a, rfl, e2⟩ := rp_cell.mp rv
          obtain ⟨b, rfl, e3⟩ := rp_cell.mp ru
          obtain ⟨a', xs, f1, f2⟩ := isSq_cell hr1 c3
          obtain ⟨b', ys, f3, f4⟩ := isSq_cell hr1 c4
          rw [e2] at f1; cases f1
          rw [e3] at f3; cases f3
          exact ⟨a, b, xs, ys, rfl, .inl ⟨.inl (.inl f2), .inl (.inl f4), q1.here hr1 _ (itR_zipL e2 e3)⟩⟩
        | tup _ => cases c2
        | _ => cases c4
      | tup _ => cases c1
      | _ => cases c3⟩

/-! ## for -/
variable {g : DS} {dg : DG} {ws : List Nat}
def gFor (it : ItD) (dg : DG) (g : DS) : Nat → Nat → DS
  | 0, _ => fun _ _ => .no
  | k + 1, i => fun s h => match itemAt it i h with
    | none => .no
    | some none => .nx s h
    | some (some d) => match dg d s h with
      | none => .no
      | some p => match g p.1 p.2 with
        | .nx s2 h2 => gFor it dg g k (i + 1) s2 h2
        | .ct s2 h2 => gFor it dg g k (i + 1) s2 h2
        | .bk s2 h2 => .nx s2 h2
        | .rt d h2 => .rt d h2
        | .ex e s2 h2 => .ex e s2 h2
        | .no => .no
def gForI (f : DI) (dg : DG) (g : DS) (n : Nat) : DS := fun s h => bindS (f s h) s fun it h1 => gFor it dg g n 0 s h1
theorem s_for {iter : Expr} {body : List Stmt} {fi : DI} (n : Nat) (hp : PassesOwn (model X.prog X.w) X.A X.env X.xe) (hc : X.calm = true) (hi : SI X T W tg iter fi) (hg : SG X tg ws dg) (hb : SSs X T W body g)
    (hs : ∀ x, foldedSetIterable iter X.env x = pure x := by intro _; rfl) : SS X T W (.For tg iter body [] pos) (gForI fi dg g n) :=
  ⟨PS.imp (ps_for hp hc hi.p hg.p hb.p hs) fun Ds σ H ⟨ρ, s, h, st, hr, q⟩ => by
    refine ⟨ρ, s, h, st, hr, (PostS.bind hr st q).mono fun it h1 ρ1 H1 _ g1 hr1 q1 J ij => ?_⟩
    refine ⟨fun i m σ H => ∃ ρ s h, Grow ρ1 ρ H1 H ∧ StR (kwOf X) ρ H σ s ∧ HR (kwOf X) ρ H h ∧ PostS (kwOf X) T W ρ H (gFor it dg g m i s h) Ds, ⟨n, ρ1, s, h1, Grow.refl _ _, st.grow hr.live g1, hr1, q1⟩, ?_⟩
    rintro i m σ2 H2 ⟨ρ2, s2, h2, g2, st2, hr2, q2⟩
    cases m with
    | zero => exact q2.elim
    | succ k =>
      unfold gFor at q2
      have io := ij ρ2 H2 h2 (g2.ext hr1.live) hr2 i
      cases z : itemAt it i h2 with
      | none => simp only [z] at q2; exact q2.elim
      | some o =>
        cases o with
        | none =>
          simp only [z] at q2
          rw [z] at io
          exact .inl ⟨io, PostS.here q2 hr2 st2⟩
        | some d =>
          simp only [z] at q2
          rw [z] at io
          obtain ⟨go, step⟩ := io
          refine .inr ⟨go, fun σ' H' => ∃ ρ s h, Grow ρ1 ρ H1 H' ∧ StR (kwOf X) ρ H' σ' s ∧ HR (kwOf X) ρ H' h ∧ PostS (kwOf X) T W ρ H' (gFor it dg g k (i + 1) s h) Ds, fun σ' H' hN => ⟨k, Nat.lt_succ_self k, hN⟩, fun x H3 y => ?_⟩
          obtain ⟨ρ3, g3, hr3, rx⟩ := step x H3 y
          refine ⟨ρ3, s2, h2, d, st2.grow hr2.live g3, hr3, rx, ?_⟩
          cases z2 : dg d s2 h2 with
          | none => simp only [z2] at q2; exact q2.elim
          | some pr =>
            simp only [z2] at q2
            intro ρ4 H4 σ4 g4 hr4 st4 _
            have g04 := (g2.trans hr2.live g3).trans hr3.live g4
            refine ⟨ρ4, pr.1, pr.2, st4, hr4, ?_⟩
            have q4 := PostS.grow hr4.live (g3.trans hr3.live g4) q2
            cases z3 : g pr.1 pr.2 with
            | nx s5 h5 => simp only [z3] at q4; exact fun ρ5 H5 σ5 g5 hr5 st5 => ⟨ρ5, s5, h5, g04.trans hr4.live g5, st5, hr5, PostS.grow hr5.live g5 q4⟩
            | ct s5 h5 => simp only [z3] at q4; exact fun ρ5 H5 σ5 g5 hr5 st5 => ⟨ρ5, s5, h5, g04.trans hr4.live g5, st5, hr5, PostS.grow hr5.live g5 q4⟩
            | bk s5 h5 => simp only [z3] at q4; exact q4
            | rt d h5 => simp only [z3] at q4; exact q4
            | ex e s5 h5 => simp only [z3] at q4; exact q4
            | no => simp only [z3] at q4; exact q4⟩
end
end Nc
namespace Nc
open PySem PySem.Spec PyProof.Rows L2

/-- no exception is wished for -/
def W0 : WX := fun _ _ _ _ => False
section
variable {K : KW} {ρ ρ' ρ1 : Rho} {H H' H1 : Hp} {h : AH} {A : Addr}
theorem sqT_updL {xs0 : List V} {o : HO} (hA : H A = some (.lst xs0)) : ∀ a xs, SqT K.k H a xs → SqT K.k (upd H A o) a xs := fun a xs s => by
  rcases s with (s | ⟨ob, s⟩) | s
  · exact .inl (.inl (by rw [upd_ne (ne_of s hA (by intro z; cases z))]; exact s))
  · exact .inl (.inr ⟨ob, by rw [upd_ne (ne_of s hA (by intro z; cases z))]; exact s⟩)
  · exact .inr s
theorem ext_updL {xs0 : List V} {o : HO} (hA : H A = some (.lst xs0)) : Ext K ρ ρ H (upd H A o) := ⟨fun _ _ z => z, sqT_updL hA⟩
theorem HR.updL {xs0 xs : List V} (hr : HR K ρ H h) (hA : H A = some (.lst xs0)) (nA : ∀ n, ρ n ≠ some A) : HR K ρ (L2.upd H A (.lst xs)) h := by
  have ne : ∀ n a, ρ n = some a → a ≠ A := fun n a e z => nA n (z ▸ e)
  refine ⟨hr.inj, hr.top, fun n a e => ?_, fun n c e => ?_⟩
  · rw [upd_ne (ne n a e)]; exact hr.live n a e
  · obtain ⟨a, e1, q⟩ := hr.at_ n c e
    exact ⟨a, e1, q.ext (ext_updL hA) (upd_ne (ne n a e1))⟩
theorem Grow.updL {o : HO} (g : Grow ρ1 ρ H1 H) (n1 : H1 A = none) : Grow ρ1 ρ H1 (upd H A o) :=
  ⟨g.rho, g.new, fun a o' e hn => by rw [upd_ne (ne_of_none e n1)]; exact g.keep a o' e hn⟩
theorem HR.adopt {xs : List V} {ds : List D} (hr : HR K ρ H h) (hA : H A = some (.lst xs)) (nA : ∀ n, ρ n ≠ some A) (r : Rps K ρ H ds xs) : HR K (rhoAdd ρ h.new A) H (h.add (.lst ds)) := by
  have mm : ∀ n a, ρ n = some a → rhoAdd ρ h.new A n = some a := fun n a e => by
    unfold rhoAdd
    by_cases q : n = h.new
    · subst q; rw [hr.top _ (Nat.le_refl _)] at e; cases e
    · rw [if_neg q]; exact e
  refine ⟨fun n m a e1 e2 => ?_, fun n hn => ?_, fun n a e => ?_, fun n c e => ?_⟩
  · unfold rhoAdd at e1 e2
    by_cases q1 : n = h.new <;> by_cases q2 : m = h.new
    · rw [q1, q2]
    · rw [if_pos q1] at e1; rw [if_neg q2] at e2; cases e1; exact absurd e2 (nA _)
    · rw [if_neg q1] at e1; rw [if_pos q2] at e2; cases e2; exact absurd e1 (nA _)
    · rw [if_neg q1] at e1; rw [if_neg q2] at e2; exact hr.inj _ _ _ e1 e2
  · have z : AH.new (AH.add (.lst ds) h) = h.new + 1 := rfl
    rw [z] at hn
    unfold rhoAdd
    rw [if_neg (by omega)]
    exact hr.top n (by omega)
  · unfold rhoAdd at e
    by_cases q : n = h.new
    · rw [if_pos q] at e; cases e; rw [hA]; trivial
    · rw [if_neg q] at e; exact hr.live n a e
  · rw [AH.get_add] at e
    by_cases q : h.new = n
    · rw [if_pos q] at e; cases e
      refine ⟨A, ?_, xs, hA, Rps.ext ⟨mm, fun _ _ z => z⟩ ds r⟩
      unfold rhoAdd; rw [if_pos q.symm]
    · rw [if_neg q] at e
      obtain ⟨a, e1, qq⟩ := hr.at_ n c e
      exact ⟨a, mm n a e1, qq.ext ⟨mm, fun _ _ z => z⟩ rfl⟩
theorem Grow.adopt (hr : HR K ρ H h) (g : Grow ρ1 ρ H1 H) (n1 : H1 A = none) : Grow ρ1 (rhoAdd ρ h.new A) H1 H := by
  refine ⟨fun n a e => ?_, fun n a e e0 => ?_, g.keep⟩
  · have e := g.rho n a e
    unfold rhoAdd
    by_cases q : n = h.new
    · subst q; rw [hr.top _ (Nat.le_refl _)] at e; cases e
    · rw [if_neg q]; exact e
  · unfold rhoAdd at e
    by_cases q : n = h.new
    · rw [if_pos q] at e; cases e; exact n1
    · rw [if_neg q] at e; exact g.new n a e e0
/-- what grows leaves a list alone that is no cell -/
theorem Grow.acc {xs : List V} (g : Grow ρ ρ' H H') (hA : H A = some (.lst xs)) (nA : ∀ n, ρ n ≠ some A) : H' A = some (.lst xs) ∧ ∀ n, ρ' n ≠ some A :=
  ⟨g.keep A _ hA nA, fun n e => by
    cases q : ρ n with
    | some b => have := g.rho n b q; rw [e] at this; cases this; exact nA n q
    | none => have := g.new n A e q; rw [hA] at this; cases this⟩
end
def wipeD (s : DSt) : List Nat → DSt
  | [] => s
  | v :: vs => (wipeD s vs).set v none
theorem StR.wipe {K : KW} {ρ : Rho} {H : Hp} {σ : L2.St} {s : DSt} (r : StR K ρ H σ s) : ∀ vs : List Nat, StR K ρ H (L2.wipe σ vs) (wipeD s vs)
  | [] => r
  | v :: vs => by
    have ih := StR.wipe r vs
    unfold L2.wipe wipeD
    refine ⟨by simp [ih.len], fun i d e => ?_⟩
    by_cases q : i = v
    · subst q
      rw [List.getElem?_set] at e
      simp only [if_true] at e
      split at e <;> cases e
    · rw [List.getElem?_set_ne (Ne.symm q)] at e
      obtain ⟨w, e1, r1⟩ := ih.at_ i d e
      exact ⟨w, by rw [List.getElem?_set_ne (Ne.symm q)]; exact e1, r1⟩
theorem wipe_none (σ : L2.St) {i : Nat} : ∀ {vs : List Nat}, i ∈ vs → (L2.wipe σ vs).set i none = L2.wipe σ vs
  | v :: vs, hm => by
    unfold L2.wipe
    by_cases e : i = v
    · subst e; rw [List.set_set]
    · have hm : i ∈ vs := by rcases List.mem_cons.mp hm with z | z; exact absurd z e; exact z
      rw [List.set_comm _ _ (Ne.symm e), wipe_none σ hm]
theorem wipe_self (σ : L2.St) (vs : List Nat) : ∀ us : List Nat, (∀ i ∈ us, i ∈ vs) → L2.wipe (L2.wipe σ vs) us = L2.wipe σ vs
  | [], _ => rfl
  | u :: us, hu => by
    show (L2.wipe (L2.wipe σ vs) us).set u none = _
    rw [wipe_self σ vs us fun i hi => hu i (List.mem_cons_of_mem _ hi)]
    exact wipe_none σ (hu u List.mem_cons_self)
/-- an exception is not foreseen here -/
def noX {α : Type} : R α → R α
  | .ok a h => .ok a h
  | _ => .no
theorem noX_ok {α : Type} {K : KW} {T : XT} {E E' : XK} {ρ : Rho} {H : Hp} {r : R α} {q : α → AH → Rho → Hp → Prop} (p : Post K T E ρ H (noX r) q) : Post K T E' ρ H r q := by
  cases r with
  | ok a h => exact p
  | ex e h => exact p.elim
  | no => exact p.elim
structure STs (X : Cx) (T : XT) (W : WX) (es : List Expr) (f : DB) : Prop where
  p : PTs X es (tDB (kwOf X) T W f)
theorem PTs.imp {X : Cx} {e : List Expr} {t t' : TT} (h : PTs X e t) (m : ∀ σ H Q, t' σ H Q → t σ H Q) : PTs X e t' := ⟨fun pins s σ H Q I q => h.run pins s σ H Q I (m σ H Q q)⟩
def dYes : DB := fun _ h => .ok true h
theorem sts_nil {X : Cx} {T : XT} {W : WX} : STs X T W [] dYes := ⟨PTs.imp pts_nil fun σ H Q ⟨ρ, s, h, st, hr, q⟩ => q.here hr⟩
theorem sts_one {X : Cx} {T : XT} {W : WX} {c : Expr} {f : DB} (h : ST X T W c f) : STs X T W [c] f := ⟨pts_one h.p⟩

/-- the loop of a comprehension, the list that grows told backwards -/
def lcLoop (it : ItD) (dg : DG) (test : DB) (elt : DE) (s : DSt) : Nat → Nat → List D → AH → R (List D)
  | 0, _, _, _ => .no
  | k + 1, i, acc, h => match itemAt it i h with
    | none => .no
    | some none => .ok acc h
    | some (some d) => match dg d s h with
      | none => .no
      | some p => (noX (test p.1 p.2)).bind fun b h3 => match b with
        | false => lcLoop it dg test elt s k (i + 1) acc h3
        | true => (noX (elt p.1 h3)).bind fun y h4 => lcLoop it dg test elt s k (i + 1) (y :: acc) h4
def dLc (fi : DI) (dg : DG) (test : DB) (elt : DE) (vs : List Nat) (n : Nat) : DE := fun s h => (fi s h).bind fun it h1 => (lcLoop it dg test elt (wipeD s vs) n 0 [] h1).bind fun acc h2 => mkL acc.reverse h2
section
variable {X : Cx} {T : XT} {W : WX} {tg iter elt : Expr} {ifs : List Expr} {fi : DI} {dg : DG} {ws : List Nat} {ft : DB} {fe : DE}
/-- the comprehension's reading, by data -/
theorem lc_imp {vs : List Nat} (n : Nat) (hn : n ≤ lim) (hv : ∀ i ∈ ws, i ∈ vs) : ∀ σ H Q, tD (kwOf X) T W (dLc fi dg ft fe vs n) σ H Q → tLc (tI (kwOf X) T W fi) (tG (kwOf X) ws dg) (tDB (kwOf X) T W0 ft) (tD (kwOf X) T W0 fe) vs σ H Q := fun σ H Q ⟨ρ, s, h, st, hr, q⟩ => by
  refine ⟨ρ, s, h, st, hr, q.bind.mono fun it h1 ρ1 H1 _ g1 hr1 q1 J ij => ?_⟩
  intro A nA
  have st1 := (st.grow hr.live g1).wipe vs
  have lz : n < sizeLine := by
    have : lim < sizeLine := by rw [sizeLine_eq]; decide
    omega
  refine ⟨fun i m H2 => ∃ ρ2 h2 acc xs, m + i = n ∧ acc.length ≤ i ∧ Grow ρ1 ρ2 H1 H2 ∧ HR (kwOf X) ρ2 H2 h2 ∧ (∀ k, ρ2 k ≠ some A) ∧ H2 A = some (.lst xs) ∧ Rps (kwOf X) ρ2 H2 acc.reverse xs ∧
    Post (kwOf X) T (at_ W σ) ρ1 H1 ((lcLoop it dg ft fe (wipeD s vs) m i acc h2).bind fun acc h2 => mkL acc.reverse h2) fun d _ ρ' H' => ∀ v, Rp (kwOf X) ρ' H' d v → Q v H', ⟨n, ρ1, h1, [], [], rfl, Nat.le_refl _, (Grow.refl ρ1 H1).updL nA, hr1.upd nA, fun k e => ?_, upd_same, Rps.nil_iff.mpr rfl, q1⟩, ?_⟩
  · have := hr1.live k A e
    rw [nA] at this; exact this
  · rintro i m H2 ⟨ρ2, h2, acc, xs, hm, ha, g2, hr2, nA2, eA, ra, q2⟩
    cases m with
    | zero => exact q2.elim
    | succ k =>
      unfold lcLoop at q2
      have io := ij ρ2 H2 h2 (g2.ext hr1.live) hr2 i
      cases z : itemAt it i h2 with
      | none => simp only [z] at q2; exact q2.elim
      | some o =>
        cases o with
        | none =>
          simp only [z] at q2
          rw [z] at io
          refine .inl ⟨io, ?_⟩
          obtain ⟨c, q3⟩ := Post.chk (show Post (kwOf X) T (at_ W σ) ρ1 H1 (mkL acc.reverse h2) _ from q2)
          exact q3 _ _ (Grow.adopt hr2 g2 nA) (hr2.adopt eA nA2 ra) _ (rp_cell.mpr ⟨A, rfl, rhoAdd_same⟩)
        | some d =>
          simp only [z] at q2
          rw [z] at io
          obtain ⟨go, step⟩ := io
          refine .inr ⟨go, fun H' => ∃ ρ2 h2 acc xs, k + (i + 1) = n ∧ acc.length ≤ i + 1 ∧ Grow ρ1 ρ2 H1 H' ∧ HR (kwOf X) ρ2 H' h2 ∧ (∀ k, ρ2 k ≠ some A) ∧ H' A = some (.lst xs) ∧ Rps (kwOf X) ρ2 H' acc.reverse xs ∧
            Post (kwOf X) T (at_ W σ) ρ1 H1 ((lcLoop it dg ft fe (wipeD s vs) k (i + 1) acc h2).bind fun acc h2 => mkL acc.reverse h2) fun d _ ρ' H' => ∀ v, Rp (kwOf X) ρ' H' d v → Q v H', fun H' hN => ⟨k, Nat.lt_succ_self k, hN⟩, fun x H3 y => ?_⟩
          obtain ⟨ρ3, g3, hr3, rx⟩ := step x H3 y
          obtain ⟨eA3, nA3⟩ := g3.acc eA nA2
          have g13 := g2.trans hr2.live g3
          have st3 := st1.grow hr1.live g13
          refine ⟨ρ3, wipeD s vs, h2, d, st3, hr3, rx, ?_⟩
          cases z2 : dg d (wipeD s vs) h2 with
          | none => simp only [z2] at q2; exact q2.elim
          | some pr =>
            simp only [z2] at q2
            intro ρ4 H4 σ4 g4 hr4 st4 o4
            refine ⟨by rw [o4 vs hv]; exact wipe_self σ vs vs fun _ hi => hi, ?_⟩
            obtain ⟨eA4, nA4⟩ := g4.acc eA3 nA3
            have g14 := g13.trans hr3.live g4
            have ra4 := Rps.grow hr3.live g4 _ (Rps.grow hr2.live g3 _ ra)
            refine ⟨ρ4, pr.1, pr.2, st4, hr4, ?_⟩
            cases z3 : ft pr.1 pr.2 with
            | no => rw [z3] at q2; exact q2.elim
            | ex e h5 => rw [z3] at q2; exact q2.elim
            | ok b h5 =>
              rw [z3] at q2
              intro ρ5 H5 g5 hr5
              obtain ⟨eA5, nA5⟩ := g5.acc eA4 nA4
              have g15 := g14.trans hr4.live g5
              have ra5 := Rps.grow hr4.live g5 _ ra4
              cases b with
              | false =>
                rw [if_neg (by decide)]
                exact ⟨ρ5, h5, acc, xs, by omega, by omega, g15, hr5, nA5, eA5, ra5, q2⟩
              | true =>
                rw [if_pos rfl]
                refine ⟨ρ5, pr.1, h5, st4.grow hr4.live g5, hr5, ?_⟩
                have q3 : Post (kwOf X) T (at_ W σ) ρ1 H1 (((noX (fe pr.1 h5)).bind fun y h4 => lcLoop it dg ft fe (wipeD s vs) k (i + 1) (y :: acc) h4).bind fun acc h2 => mkL acc.reverse h2) fun d _ ρ' H' => ∀ v, Rp (kwOf X) ρ' H' d v → Q v H' := q2
                cases z4 : fe pr.1 h5 with
                | no => rw [z4] at q3; exact q3.elim
                | ex e h6 => rw [z4] at q3; exact q3.elim
                | ok yd h6 =>
                  rw [z4] at q3
                  intro ρ6 H6 g6 hr6 yv ry
                  obtain ⟨eA6, nA6⟩ := g6.acc eA5 nA5
                  have g16 := g15.trans hr5.live g6
                  have ra6 := Rps.grow hr5.live g6 _ ra5
                  have la : xs.length = acc.length := by rw [← ra6.length, List.length_reverse]
                  refine ⟨xs, eA6, by omega, ρ6, h6, yd :: acc, xs ++ [yv], by omega, by simp only [List.length_cons]; omega, g16.updL nA, hr6.updL eA6 nA6, nA6, upd_same, ?_, q3⟩
                  rw [List.reverse_cons]
                  refine Rps.ext (ext_updL eA6) _ (Rps.append ra6 ?_)
                  exact Rps.cons ry (Rps.nil_iff.mpr rfl)
variable {scope : Scope} {own : List (Str × Nat)} {pos : Pos}
theorem se_lc (n : Nat) (hc : X.calm = true) (hN : X.N.Nodup) (hi : SI X T W tg iter fi) (ok : BlkOk X.N X.env.scope scope own) (hv : ∀ i ∈ ws, i ∈ own.map (·.2))
    (hg : ∀ (s : Shared) (H : Hp) (C : Addr) (cl : List (Str × Addr)) (fp : List Addr), SG (X.blk s H scope (compEnvC scope cl C X.env) fp) tg ws dg) (ht : ∀ (s : Shared) (H : Hp) (C : Addr) (cl : List (Str × Addr)) (fp : List Addr), STs (X.blk s H scope (compEnvC scope cl C X.env) fp) T W0 ifs ft)
    (he : ∀ (s : Shared) (H : Hp) (C : Addr) (cl : List (Str × Addr)) (fp : List Addr), SE (X.blk s H scope (compEnvC scope cl C X.env) fp) T W0 elt fe) (hs : ∀ x, foldedSetIterable iter X.env x = pure x := by intro _; rfl) (hn : n ≤ lim := by decide) :
    SE X T W (.ListComp elt [⟨tg, iter, ifs, 0⟩] scope pos) (dLc fi dg ft fe (own.map (·.2)) n) :=
  ⟨PE.imp (pe_lc hc hN hi.p ok (fun s H C cl fp => (hg s H C cl fp).p) (fun s H C cl fp => (ht s H C cl fp).p) (fun s H C cl fp => (he s H C cl fp).p) hs) (lc_imp n hn hv)⟩
theorem s_setLc (n : Nat) {i : Nat} {y : Str} {py spos : Pos} (hc : X.calm = true) (hN : X.N.Nodup) (hy : X.N[i]? = some y) (hyl : X.env.scope.names.lookup y = some .local)
    (hsw : swapsWith (.ListComp elt [⟨tg, iter, ifs, 0⟩] scope pos) (some (.Name y py)) spos.line X.env = pure true) (hi : SI X T W tg iter fi) (ok : BlkOk X.N X.env.scope scope own) (hv : ∀ i ∈ ws, i ∈ own.map (·.2))
    (hg : ∀ (s : Shared) (H : Hp) (C : Addr) (cl : List (Str × Addr)) (fp : List Addr), SG (X.blk s H scope (compEnvC scope cl C X.env) fp) tg ws dg) (ht : ∀ (s : Shared) (H : Hp) (C : Addr) (cl : List (Str × Addr)) (fp : List Addr), STs (X.blk s H scope (compEnvC scope cl C X.env) fp) T W0 ifs ft)
    (he : ∀ (s : Shared) (H : Hp) (C : Addr) (cl : List (Str × Addr)) (fp : List Addr), SE (X.blk s H scope (compEnvC scope cl C X.env) fp) T W0 elt fe) (hs : ∀ x, foldedSetIterable iter X.env x = pure x := by intro _; rfl) (hn : n ≤ lim := by decide) :
    SS X T W (.Assign [.Name y py] (.ListComp elt [⟨tg, iter, ifs, 0⟩] scope pos) spos) (gAsg (dLc fi dg ft fe (own.map (·.2)) n) (gN i)) :=
  ⟨PS.imp (ps_setLc hc hN hy hyl hsw hi.p ok (fun s H C cl fp => (hg s H C cl fp).p) (fun s H C cl fp => (ht s H C cl fp).p) (fun s H C cl fp => (he s H C cl fp).p) hs) fun D σ H ⟨ρ, s, h, st, hr, q⟩ =>
    lc_imp n hn hv σ H _ (tD_bindS st hr q fun d h1 ρ1 H1 v g1 hr1 st1 r1 q1 => q1 ρ1 H1 _ (Grow.refl _ _) hr1 (st1.set r1))⟩
end
end Nc
namespace Nc
open PySem PySem.Spec PyProof.Rows L2

def lim2 : Nat := 400000
def lc2Loop (it : ItD) (dg : DG) (test : DB) (fi1 : DI) (dg1 : DG) (test1 : DB) (elt : DE) (s : DSt) (vs1 : List Nat) (n1 : Nat) : Nat → Nat → List D → AH → R (List D)
  | 0, _, _, _ => .no
  | k + 1, i, acc, h => match itemAt it i h with
    | none => .no
    | some none => .ok acc h
    | some (some d) => match dg d s h with
      | none => .no
      | some p => (noX (test p.1 p.2)).bind fun b h3 => match b with
        | false => lc2Loop it dg test fi1 dg1 test1 elt s vs1 n1 k (i + 1) acc h3
        | true => (noX (fi1 p.1 h3)).bind fun it1 h4 => chk (Nat.ble acc.length lim2) ((lcLoop it1 dg1 test1 elt (wipeD p.1 vs1) n1 0 acc h4).bind fun acc2 h5 => lc2Loop it dg test fi1 dg1 test1 elt s vs1 n1 k (i + 1) acc2 h5)
def dLc2 (fi : DI) (dg : DG) (test : DB) (fi1 : DI) (dg1 : DG) (test1 : DB) (elt : DE) (vs vs1 : List Nat) (n n1 : Nat) : DE := fun s h => (fi s h).bind fun it h1 =>
  (lc2Loop it dg test fi1 dg1 test1 elt (wipeD s vs) vs1 n1 n 0 [] h1).bind fun acc h2 => mkL acc.reverse h2
section
variable {X : Cx} {T : XT} {W : WX} {tg iter tg1 iter1 elt : Expr} {ifs ifs1 : List Expr} {fi fi1 : DI} {dg dg1 : DG} {ws ws1 : List Nat} {ft ft1 : DB} {fe : DE}
theorem lc2_imp {vs vs1 : List Nat} (n n1 : Nat) (hn1 : n1 + lim2 ≤ lim) (hv : ∀ i ∈ ws, i ∈ vs) (hv1 : ∀ i ∈ ws1, i ∈ vs1) : ∀ σ H Q, tD (kwOf X) T W (dLc2 fi dg ft fi1 dg1 ft1 fe vs vs1 n n1) σ H Q →
    tLc2 (tI (kwOf X) T W fi) (tG (kwOf X) ws dg) (tDB (kwOf X) T W0 ft) (tI (kwOf X) T W0 fi1) (tG (kwOf X) ws1 dg1) (tDB (kwOf X) T W0 ft1) (tD (kwOf X) T W0 fe) vs vs1 σ H Q := fun σ H Q ⟨ρ, s, h, st, hr, q⟩ => by
  refine ⟨ρ, s, h, st, hr, q.bind.mono fun it h1 ρ1 H1 _ g1 hr1 q1 J ij => ?_⟩
  intro A nA
  have st1 := (st.grow hr.live g1).wipe vs
  have lz : lim < sizeLine := by rw [sizeLine_eq]; decide
  refine ⟨fun i m H2 => ∃ ρ2 h2 acc xs, Grow ρ1 ρ2 H1 H2 ∧ HR (kwOf X) ρ2 H2 h2 ∧ (∀ k, ρ2 k ≠ some A) ∧ H2 A = some (.lst xs) ∧ Rps (kwOf X) ρ2 H2 acc.reverse xs ∧
    Post (kwOf X) T (at_ W σ) ρ1 H1 ((lc2Loop it dg ft fi1 dg1 ft1 fe (wipeD s vs) vs1 n1 m i acc h2).bind fun acc h2 => mkL acc.reverse h2) fun d _ ρ' H' => ∀ v, Rp (kwOf X) ρ' H' d v → Q v H', ⟨n, ρ1, h1, [], [], (Grow.refl ρ1 H1).updL nA, hr1.upd nA, fun k e => ?_, upd_same, Rps.nil_iff.mpr rfl, q1⟩, ?_⟩
  · have := hr1.live k A e
    rw [nA] at this; exact this
  · rintro i m H2 ⟨ρ2, h2, acc, xs, g2, hr2, nA2, eA, ra, q2⟩
    cases m with
    | zero => exact q2.elim
    | succ k =>
      unfold lc2Loop at q2
      have io := ij ρ2 H2 h2 (g2.ext hr1.live) hr2 i
      cases z : itemAt it i h2 with
      | none => simp only [z] at q2; exact q2.elim
      | some o =>
        cases o with
        | none =>
          simp only [z] at q2
          rw [z] at io
          refine .inl ⟨io, ?_⟩
          obtain ⟨c, q3⟩ := Post.chk (show Post (kwOf X) T (at_ W σ) ρ1 H1 (mkL acc.reverse h2) _ from q2)
          exact q3 _ _ (Grow.adopt hr2 g2 nA) (hr2.adopt eA nA2 ra) _ (rp_cell.mpr ⟨A, rfl, rhoAdd_same⟩)
        | some d =>
          simp only [z] at q2
          rw [z] at io
          obtain ⟨go, step⟩ := io
          refine .inr ⟨go, fun H' => ∃ ρ2 h2 acc xs, Grow ρ1 ρ2 H1 H' ∧ HR (kwOf X) ρ2 H' h2 ∧ (∀ k, ρ2 k ≠ some A) ∧ H' A = some (.lst xs) ∧ Rps (kwOf X) ρ2 H' acc.reverse xs ∧
            Post (kwOf X) T (at_ W σ) ρ1 H1 ((lc2Loop it dg ft fi1 dg1 ft1 fe (wipeD s vs) vs1 n1 k (i + 1) acc h2).bind fun acc h2 => mkL acc.reverse h2) fun d _ ρ' H' => ∀ v, Rp (kwOf X) ρ' H' d v → Q v H', fun H' hN => ⟨k, Nat.lt_succ_self k, hN⟩, fun x H3 y => ?_⟩
          obtain ⟨ρ3, g3, hr3, rx⟩ := step x H3 y
          obtain ⟨eA3, nA3⟩ := g3.acc eA nA2
          have g13 := g2.trans hr2.live g3
          have st3 := st1.grow hr1.live g13
          refine ⟨ρ3, wipeD s vs, h2, d, st3, hr3, rx, ?_⟩
          cases z2 : dg d (wipeD s vs) h2 with
          | none => simp only [z2] at q2; exact q2.elim
          | some pr =>
            simp only [z2] at q2
            intro ρ4 H4 σ4 g4 hr4 st4 o4
            refine ⟨by rw [o4 vs hv]; exact wipe_self σ vs vs fun _ hi => hi, ?_⟩
            obtain ⟨eA4, nA4⟩ := g4.acc eA3 nA3
            have g14 := g13.trans hr3.live g4
            have ra4 := Rps.grow hr3.live g4 _ (Rps.grow hr2.live g3 _ ra)
            refine ⟨ρ4, pr.1, pr.2, st4, hr4, ?_⟩
            cases z3 : ft pr.1 pr.2 with
            | no => rw [z3] at q2; exact q2.elim
            | ex e h5 => rw [z3] at q2; exact q2.elim
            | ok b h5 =>
              rw [z3] at q2
              intro ρ5 H5 g5 hr5
              obtain ⟨eA5, nA5⟩ := g5.acc eA4 nA4
              have g15 := g14.trans hr4.live g5
              have ra5 := Rps.grow hr4.live g5 _ ra4
              cases b with
              | false =>
                rw [if_neg (by decide)]
                exact ⟨ρ5, h5, acc, xs, g15, hr5, nA5, eA5, ra5, q2⟩
              | true =>
                rw [if_pos rfl]
                have st5 := st4.grow hr4.live g5
                refine ⟨ρ5, pr.1, h5, st5, hr5, ?_⟩
                have q3 : Post (kwOf X) T (at_ W σ) ρ1 H1 (((noX (fi1 pr.1 h5)).bind fun it1 h4 => chk (Nat.ble acc.length lim2) ((lcLoop it1 dg1 ft1 fe (wipeD pr.1 vs1) n1 0 acc h4).bind fun acc2 h5 => lc2Loop it dg ft fi1 dg1 ft1 fe (wipeD s vs) vs1 n1 k (i + 1) acc2 h5)).bind fun acc h2 => mkL acc.reverse h2) fun d _ ρ' H' => ∀ v, Rp (kwOf X) ρ' H' d v → Q v H' := q2
                cases z4 : fi1 pr.1 h5 with
                | no => rw [z4] at q3; exact q3.elim
                | ex e h6 => rw [z4] at q3; exact q3.elim
                | ok it1 h6 =>
                  rw [z4] at q3
                  have q4 : Post (kwOf X) T (at_ W σ) ρ1 H1 ((chk (Nat.ble acc.length lim2) ((lcLoop it1 dg1 ft1 fe (wipeD pr.1 vs1) n1 0 acc h6).bind fun acc2 h5 => lc2Loop it dg ft fi1 dg1 ft1 fe (wipeD s vs) vs1 n1 k (i + 1) acc2 h5)).bind fun acc h2 => mkL acc.reverse h2) fun d _ ρ' H' => ∀ v, Rp (kwOf X) ρ' H' d v → Q v H' := q3
                  cases cl : Nat.ble acc.length lim2 with
                  | false => rw [cl] at q4; exact q4.elim
                  | true =>
                    rw [cl] at q4
                    have cl := Nat.le_of_ble_eq_true cl
                    intro ρ6 H6 g6 hr6 J1 ij1
                    obtain ⟨eA6, nA6⟩ := g6.acc eA5 nA5
                    have g16 := g15.trans hr5.live g6
                    have ra6 := Rps.grow hr5.live g6 _ ra5
                    have st6 := (st5.grow hr5.live g6).wipe vs1
                    refine ⟨fun j m H7 => ∃ ρ7 h7 acc7 xs7, m + j = n1 ∧ acc7.length ≤ lim2 + j ∧ Ext (kwOf X) ρ6 ρ7 H6 H7 ∧ Grow ρ1 ρ7 H1 H7 ∧ HR (kwOf X) ρ7 H7 h7 ∧ (∀ k, ρ7 k ≠ some A) ∧ H7 A = some (.lst xs7) ∧ Rps (kwOf X) ρ7 H7 acc7.reverse xs7 ∧
                      Post (kwOf X) T (at_ W σ) ρ1 H1 (((lcLoop it1 dg1 ft1 fe (wipeD pr.1 vs1) m j acc7 h7).bind fun acc2 h5 => lc2Loop it dg ft fi1 dg1 ft1 fe (wipeD s vs) vs1 n1 k (i + 1) acc2 h5).bind fun acc h2 => mkL acc.reverse h2) fun d _ ρ' H' => ∀ v, Rp (kwOf X) ρ' H' d v → Q v H',
                      ⟨n1, ρ6, h6, acc, xs, rfl, by omega, Ext.refl, g16, hr6, nA6, eA6, ra6, q4⟩, ?_⟩
                    rintro j m H7 ⟨ρ7, h7, acc7, xs7, hm7, ha7, x7, g7, hr7, nA7, eA7, ra7, q7⟩
                    cases m with
                    | zero => exact q7.elim
                    | succ k1 =>
                      unfold lcLoop at q7
                      have io1 := ij1 ρ7 H7 h7 x7 hr7 j
                      cases y1 : itemAt it1 j h7 with
                      | none => simp only [y1] at q7; exact q7.elim
                      | some o1 =>
                        cases o1 with
                        | none =>
                          simp only [y1] at q7
                          rw [y1] at io1
                          exact .inl ⟨io1, ρ7, h7, acc7, xs7, g7, hr7, nA7, eA7, ra7, q7⟩
                        | some d1 =>
                          simp only [y1] at q7
                          rw [y1] at io1
                          obtain ⟨go1, step1⟩ := io1
                          refine .inr ⟨go1, fun H' => ∃ ρ7 h7 acc7 xs7, k1 + (j + 1) = n1 ∧ acc7.length ≤ lim2 + (j + 1) ∧ Ext (kwOf X) ρ6 ρ7 H6 H' ∧ Grow ρ1 ρ7 H1 H' ∧ HR (kwOf X) ρ7 H' h7 ∧ (∀ k, ρ7 k ≠ some A) ∧ H' A = some (.lst xs7) ∧ Rps (kwOf X) ρ7 H' acc7.reverse xs7 ∧
                            Post (kwOf X) T (at_ W σ) ρ1 H1 (((lcLoop it1 dg1 ft1 fe (wipeD pr.1 vs1) k1 (j + 1) acc7 h7).bind fun acc2 h5 => lc2Loop it dg ft fi1 dg1 ft1 fe (wipeD s vs) vs1 n1 k (i + 1) acc2 h5).bind fun acc h2 => mkL acc.reverse h2) fun d _ ρ' H' => ∀ v, Rp (kwOf X) ρ' H' d v → Q v H', fun H' hN => ⟨k1, Nat.lt_succ_self k1, hN⟩, fun x1 H8 y8 => ?_⟩
                          obtain ⟨ρ8, g8, hr8, rx8⟩ := step1 x1 H8 y8
                          obtain ⟨eA8, nA8⟩ := g8.acc eA7 nA7
                          have x8 := x7.trans (g8.ext hr7.live)
                          have g18 := g7.trans hr7.live g8
                          have st8 : StR (kwOf X) ρ8 H8 (L2.wipe σ4 vs1) (wipeD pr.1 vs1) := ⟨st6.len, fun i d e => let ⟨v, e1, r1⟩ := st6.at_ i d e; ⟨v, e1, Rp.ext x8 d r1⟩⟩
                          refine ⟨ρ8, wipeD pr.1 vs1, h7, d1, st8, hr8, rx8, ?_⟩
                          cases y2 : dg1 d1 (wipeD pr.1 vs1) h7 with
                          | none => simp only [y2] at q7; exact q7.elim
                          | some p8 =>
                            simp only [y2] at q7
                            intro ρ9 H9 σ9 g9 hr9 st9 o9
                            refine ⟨by rw [o9 vs1 hv1]; exact wipe_self σ4 vs1 vs1 fun _ hi => hi, ?_⟩
                            obtain ⟨eA9, nA9⟩ := g9.acc eA8 nA8
                            have x9 := x8.trans (g9.ext hr8.live)
                            have g19 := g18.trans hr8.live g9
                            have ra9 := Rps.grow hr8.live g9 _ (Rps.grow hr7.live g8 _ ra7)
                            refine ⟨ρ9, p8.1, p8.2, st9, hr9, ?_⟩
                            cases y3 : ft1 p8.1 p8.2 with
                            | no => rw [y3] at q7; exact q7.elim
                            | ex e h5 => rw [y3] at q7; exact q7.elim
                            | ok b1 h10 =>
                              rw [y3] at q7
                              intro ρ10 H10 g10 hr10
                              obtain ⟨eA10, nA10⟩ := g10.acc eA9 nA9
                              have x10 := x9.trans (g10.ext hr9.live)
                              have g110 := g19.trans hr9.live g10
                              have ra10 := Rps.grow hr9.live g10 _ ra9
                              cases b1 with
                              | false =>
                                rw [if_neg (by decide)]
                                exact ⟨ρ10, h10, acc7, xs7, by omega, by omega, x10, g110, hr10, nA10, eA10, ra10, q7⟩
                              | true =>
                                rw [if_pos rfl]
                                refine ⟨ρ10, p8.1, h10, st9.grow hr9.live g10, hr10, ?_⟩
                                have q8 : Post (kwOf X) T (at_ W σ) ρ1 H1 ((((noX (fe p8.1 h10)).bind fun y h4 => lcLoop it1 dg1 ft1 fe (wipeD pr.1 vs1) k1 (j + 1) (y :: acc7) h4).bind fun acc2 h5 => lc2Loop it dg ft fi1 dg1 ft1 fe (wipeD s vs) vs1 n1 k (i + 1) acc2 h5).bind fun acc h2 => mkL acc.reverse h2) fun d _ ρ' H' => ∀ v, Rp (kwOf X) ρ' H' d v → Q v H' := q7
                                cases y4 : fe p8.1 h10 with
                                | no => rw [y4] at q8; exact q8.elim
                                | ex e h6 => rw [y4] at q8; exact q8.elim
                                | ok yd h11 =>
                                  rw [y4] at q8
                                  intro ρ11 H11 g11 hr11 yv ry
                                  obtain ⟨eA11, nA11⟩ := g11.acc eA10 nA10
                                  have x11 := x10.trans (g11.ext hr10.live)
                                  have g111 := g110.trans hr10.live g11
                                  have ra11 := Rps.grow hr10.live g11 _ ra10
                                  have la : xs7.length = acc7.length := by rw [← ra11.length, List.length_reverse]
                                  refine ⟨xs7, eA11, by omega, ρ11, h11, yd :: acc7, xs7 ++ [yv], by omega, by simp only [List.length_cons]; omega, x11.trans (ext_updL eA11), g111.updL nA, hr11.updL eA11 nA11, nA11, upd_same, ?_, q8⟩
                                  rw [List.reverse_cons]
                                  refine Rps.ext (ext_updL eA11) _ (Rps.append ra11 ?_)
                                  exact Rps.cons ry (Rps.nil_iff.mpr rfl)
variable {scope : Scope} {own : List (Str × Nat)} {pos : Pos} {vs1 : List Nat}
theorem se_lc2 (n n1 : Nat) (hc : X.calm = true) (hN : X.N.Nodup) (hi : SI X T W tg iter fi) (ok : BlkOk X.N X.env.scope scope own) (hvo : ∀ i ∈ vs1, i ∈ own.map (·.2)) (hv : ∀ i ∈ ws, i ∈ own.map (·.2)) (hv1 : ∀ i ∈ ws1, i ∈ vs1)
    (hg : ∀ (s : Shared) (H : Hp) (C : Addr) (cl : List (Str × Addr)) (fp : List Addr), SG (X.blk s H scope (compEnvC scope cl C X.env) fp) tg ws dg) (ht : ∀ (s : Shared) (H : Hp) (C : Addr) (cl : List (Str × Addr)) (fp : List Addr), STs (X.blk s H scope (compEnvC scope cl C X.env) fp) T W0 ifs ft)
    (hi1 : ∀ (s : Shared) (H : Hp) (C : Addr) (cl : List (Str × Addr)) (fp : List Addr), SI (X.blk s H scope (compEnvC scope cl C X.env) fp) T W0 tg1 iter1 fi1)
    (hg1 : ∀ (s : Shared) (H : Hp) (C : Addr) (cl : List (Str × Addr)) (fp : List Addr), SG (X.blk s H scope (compEnvC scope cl C X.env) fp) tg1 ws1 dg1) (ht1 : ∀ (s : Shared) (H : Hp) (C : Addr) (cl : List (Str × Addr)) (fp : List Addr), STs (X.blk s H scope (compEnvC scope cl C X.env) fp) T W0 ifs1 ft1)
    (he : ∀ (s : Shared) (H : Hp) (C : Addr) (cl : List (Str × Addr)) (fp : List Addr), SE (X.blk s H scope (compEnvC scope cl C X.env) fp) T W0 elt fe) (hs : ∀ x, foldedSetIterable iter X.env x = pure x := by intro _; rfl) (hs1 : ∀ env x, foldedSetIterable iter1 env x = pure x := by intro _ _; rfl) (hn1 : n1 + lim2 ≤ lim := by decide) :
    SE X T W (.ListComp elt [⟨tg, iter, ifs, 0⟩, ⟨tg1, iter1, ifs1, 0⟩] scope pos) (dLc2 fi dg ft fi1 dg1 ft1 fe (own.map (·.2)) vs1 n n1) :=
  ⟨PE.imp (pe_lc2 hc hN hi.p ok hvo (fun s H C cl fp => (hg s H C cl fp).p) (fun s H C cl fp => (ht s H C cl fp).p) (fun s H C cl fp => (hi1 s H C cl fp).p) (fun s H C cl fp => (hg1 s H C cl fp).p) (fun s H C cl fp => (ht1 s H C cl fp).p) (fun s H C cl fp => (he s H C cl fp).p) hs hs1) (lc2_imp n n1 hn1 hv hv1)⟩
end
end Nc
namespace Nc
open PySem PySem.Spec PyProof.Rows L2

/-! ## calls of the program's defs -/
/-- what a def hands back, by data -/
abbrev DF := List D → AH → R D
def spNc (K : KW) (T : XT) (F : DF) : Sp := fun vs H Q E => ∃ ρ h ds, HR K ρ H h ∧ Rps K ρ H ds vs ∧ Post K T E ρ H (F ds h) fun d _ ρ' H' => ∀ v, Rp K ρ' H' d v → Q v H'
section
variable {X : Cx} {T : XT} {W : WX} {k : Nat} {f : Addr} {fd : FuncData} {ps : List Str} {F : DF} {x : Str} {p pos : Pos} {e : Expr} {es : List Expr} {fa : DA}
def dFn (F : DF) (fa : DA) : DE := fun s h => (fa s h).bind F
theorem se_call (ok : FnOk X.prog X.w X.K X.mg X.base (L2.CX X.prog X.w) k f fd ps (spNc (kwOf X) T F)) (hr : Room k X.A) (hg : Gl X x) (hm : X.mg x = some (.ref f)) (hk : PySem.W.keepIn X.K (.ref f) = true) (hb : Binds X.K fd ps []) (tk : Takes X W)
    (ha : SA X T W (e :: es) fa) (hdb : (x == ("__debug__" : Str)) = false := by decide) (he : starEach (e :: es) X.env = (false, eval e X.env) :: starEach es X.env := by rfl) (hpl : (backTo pos (starEach es X.env)).any (·.1) = false := by rfl) :
    SE X T W (.Call (.Name x p) (e :: es) [] pos) (dFn F fa) :=
  ⟨PE.imp (pe_callSD (E := fun σ => at_ W σ) ok hr hg hm hk hb .nil (fun σ => passAt tk σ) ha.p hdb he hpl) fun σ H Q ⟨ρ, s, h, st, hr, q⟩ => tDA_bind st hr q fun ds h1 ρ1 H1 vs g1 hr1 st1 r1 q1 => by
    rw [List.append_nil]
    exact ⟨ρ1, h1, ds, hr1, r1, q1⟩⟩
theorem se_call0 (ok : FnOk X.prog X.w X.K X.mg X.base (L2.CX X.prog X.w) k f fd ps (spNc (kwOf X) T F)) (hr : Room k X.A) (hg : Gl X x) (hm : X.mg x = some (.ref f)) (hk : PySem.W.keepIn X.K (.ref f) = true) (hb : Binds X.K fd ps []) (tk : Takes X W)
    (hdb : (x == ("__debug__" : Str)) = false := by decide) : SE X T W (.Call (.Name x p) [] [] pos) (dFn F dNil) :=
  ⟨⟨fun pins s σ H Q I ⟨ρ, sd, h, st, hrr, q⟩ => by
    refine wpAny_Call_Name_kw (ld_glob I hg hm ?_ hdb)
    exact PySem.W.callWith_K0 I.kIn hk (run_fnSD (E := fun σ => at_ W σ) (us := []) ok hr hb .nil (passAt tk σ) I .nil ⟨ρ, h, [], hrr, Rps.nil_iff.mpr rfl, q⟩)⟩⟩
/-! keywords -/
def permL {α : Type} (perm : List Nat) (l : List α) : List α := match perm with
  | [] => []
  | i :: r => match l[i]? with
    | some x => x :: permL r l
    | none => permL r l
theorem permL_vals {vs : List V} {us : List Value} (r : Vals vs us) : ∀ perm : List Nat, Vals (permL perm vs) (permL perm us)
  | [] => .nil
  | i :: rest => by
    unfold permL
    cases z : vs[i]? with
    | some v =>
      obtain ⟨u, e, q⟩ := r.get z
      simp only [e]
      exact .cons q (permL_vals r rest)
    | none =>
      have e := r.none_of z
      simp only [e]
      exact permL_vals r rest
theorem permL_rps {K : KW} {ρ : Rho} {H : Hp} {ds : List D} {vs : List V} (r : Rps K ρ H ds vs) : ∀ perm : List Nat, Rps K ρ H (permL perm ds) (permL perm vs)
  | [] => Rps.nil_iff.mpr rfl
  | i :: rest => by
    unfold permL
    cases z : ds[i]? with
    | some d =>
      obtain ⟨u, e, q⟩ := r.get z
      simp only [e]
      exact Rps.cons q (permL_rps r rest)
    | none =>
      have e : vs[i]? = none := by
        rw [List.getElem?_eq_none_iff] at z ⊢
        rw [← r.length]; exact z
      simp only [e]
      exact permL_rps r rest
/-- the values of the keywords -/
structure SK (X : Cx) (T : XT) (W : WX) (ks : List Keyword) (f : DA) : Prop where
  p : PK X ks (tDA (kwOf X) T W f)
theorem PK.imp {X : Cx} {e : List Keyword} {t t' : TA} (h : PK X e t) (m : ∀ σ H Q, t' σ H Q → t σ H Q) : PK X e t' := ⟨fun pos pins s σ H Q I q => h.run pos pins s σ H Q I (m σ H Q q)⟩
theorem sk_nil : SK X T W [] dNil := ⟨PK.imp pk_nil fun σ H Q ⟨ρ, s, h, st, hr, q⟩ => q.here hr [] (Rps.nil_iff.mpr rfl)⟩
theorem sk_cons {kws : List Keyword} {nm : Option Str} {kp : Pos} {g : DE} {gs : DA} (ha : SE X T W e g) (hs : SK X T W kws gs) : SK X T W (⟨nm, e, kp⟩ :: kws) (dCons g gs) :=
  ⟨PK.imp (pk_cons ha.p hs.p) fun σ H Q ⟨ρ, s, h, st, hr, q⟩ => tD_bind st hr q fun d h1 ρ1 H1 v g1 hr1 st1 r1 q1 =>
    tDA_bind st1 hr1 q1 fun ds h2 ρ2 H2 vs g2 hr2 st2 r2 q2 => q2.here hr2 _ (Rps.cons (Rp.grow hr1.live g2 d r1) r2)⟩
def dFnK (F : DF) (perm : List Nat) (m : Nat) (fk : DA) : DE := fun s h => (fk s h).bind fun ds h1 => chk (Nat.beq ds.length m) (F (permL perm ds) h1)
theorem se_callK {kws : List Keyword} {ks : List Str} {fk : DA} (perm : List Nat) (ok : FnOk X.prog X.w X.K X.mg X.base (L2.CX X.prog X.w) k f fd ps (spNc (kwOf X) T F)) (hr : Room k X.A) (hg : Gl X x) (hm : X.mg x = some (.ref f)) (hk : PySem.W.keepIn X.K (.ref f) = true)
    (hb : ∀ (s : Shared) (ws : List Value), X.K.In s.heap → ws.length = ks.length → BindsTo s fd ⟨[], ks.zip ws⟩ (ps.zip (permL perm ws))) (tk : Takes X W)
    (hkw : SK X T W kws fk) (hall : (backToKw pos (keywordEach kws X.env)).all (·.1.isSome) = true := by rfl) (hks : (backToKw pos (keywordEach kws X.env)).filterMap (·.1) = ks := by rfl)
    (hdb : (x == ("__debug__" : Str)) = false := by decide) (hpl : ((backTo pos (starEach [] X.env)).any (·.1) || (backToKw pos (keywordEach kws X.env)).any (·.1.isNone)) = false := by rfl) :
    SE X T W (.Call (.Name x p) [] kws pos) (dFnK F perm ks.length fk) :=
  ⟨⟨fun pins s σ H Q I ⟨ρ, sd, h, st, hrr, q⟩ => by
    refine wpAny_Call_Name_kw (ld_glob I hg hm ?_ hdb)
    refine PySem.W.callWith_KW0 (h₀ := X.base) I.ok.mod.kin hk hall (thn (hkw.p.run pos pins s σ H (fun vs H1 => vs.length = ks.length ∧ spNc (kwOf X) T F (permL perm vs) H1 Q (at_ W σ)) I (tDA_bind st hrr q fun ds h1 ρ1 H1 vs g1 hr1 st1 r1 q1 => ?_)) fun ws s2 ⟨zs, H2, I2, rz, l2, q2⟩ => ⟨I2.kIn, ?_⟩) hpl
    · obtain ⟨c, q1⟩ := q1.chk
      exact ⟨by rw [← r1.length]; exact Nat.eq_of_beq_eq_true c, ρ1, h1, _, hr1, permL_rps r1 perm, q1⟩
    · rw [hks]
      have r2 := permL_vals rz perm
      refine wpAny_call (codeAny_mono (ok.run X.A X.stack s2 H2 ⟨[], ks.zip ws⟩ (permL perm ws) (permL perm zs) Q (at_ W σ) hr I2.env0 (hb s2 ws I2.kIn (rz.length.symm.trans l2)) r2 q2) fun r s' hq => ?_)
      cases r with
      | error e => exact passAt tk σ pins H2 s2 e s' I2 hq
      | ok fl =>
        cases fl with
        | ret u => exact I2.after hq
        | next => exact False.elim hq
        | brk => exact False.elim hq
        | cont => exact False.elim hq⟩⟩
end
/-! ## a def keeps its promise -/
def startD (N : Nat) (ds : List D) : DSt := ds.map some ++ List.replicate (N - ds.length) none
def runF (g : DS) (np n : Nat) : DF := fun ds h => chk (Nat.beq ds.length np) (match g (startD n ds) h with
  | .nx _ h1 => .ok .non h1
  | .rt d h1 => .ok d h1
  | .ex e _ h1 => .ex e h1
  | _ => .no)
theorem startR {K : KW} {ρ : Rho} {H : Hp} {N : List Str} {ds : List D} {vs : List V} (r : Rps K ρ H ds vs) : StR K ρ H (L2.start N vs) (startD N.length ds) := by
  have l := r.length
  unfold L2.start startD
  refine ⟨by simp [l], fun i d e => ?_⟩
  by_cases hi : i < ds.length
  · rw [List.getElem?_append_left (by simpa using hi), List.getElem?_map] at e
    rw [List.getElem?_append_left (by simpa [← l] using hi), List.getElem?_map]
    rw [List.getElem?_eq_getElem hi] at e
    simp only [Option.map_some, Option.some.injEq] at e
    obtain ⟨v, e1, q⟩ := r.get (List.getElem?_eq_getElem hi)
    subst e
    exact ⟨v, by rw [e1]; rfl, q⟩
  · rw [List.getElem?_append_right (by simpa using hi)] at e
    rw [List.getElem?_replicate] at e
    split at e <;> cases e
/-- no slot is looked at where an exception leaves a def -/
def wOf (E : XK) : WX := fun c d _ H => E c d H
theorem fn_ok {P : Program} {w : World} {K : PySem.W.Frag} {mg : Str → Option Value} {base : Heap} {T : XT} {x qual : Str} {st : Stmt} {f : Addr} {fd : FuncData} {N ps : List Str} {k : Nat} {g : DS} (F : Fun K x qual st f fd) (S : FnScope N ps (defScope st))
    (body : ∀ (cdv : Value) (A : Around) (outer : List Env) (s : Shared) (H : Hp) (E : XK), Room k (A.deeper (envOfC qual (defScope st) s.heap.objs.size f cdv)) →
      SSs (cxOf (L2.CX P w) P w K mg base N qual (defScope st) f cdv A outer s H E) T (wOf E) (defBody st) g) : FnOk P w K mg base (L2.CX P w) (k + 1) f fd ps (spNc ⟨K, w⟩ T (runF g ps.length N.length)) := by
  refine F.okX S (fun vs H Q E ⟨ρ, h, ds, hr, r, q⟩ => ?_) fun cdv A outer s H vs Q E hrm ⟨ρ, h, ds, hr, r, q⟩ => ?_
  · obtain ⟨c, _⟩ := Post.chk q
    rw [← r.length]; exact Nat.eq_of_beq_eq_true c
  · obtain ⟨c, q⟩ := Post.chk q
    refine ⟨_, (body cdv A outer s H E hrm).p, ρ, startD N.length ds, h, startR r, hr, ?_⟩
    cases z : g (startD N.length ds) h with
    | nx s1 h1 => rw [z] at q; exact fun ρ1 H1 σ1 g1 hr1 st1 => q ρ1 H1 g1 hr1 _ (rp_non.mpr rfl)
    | rt d h1 => rw [z] at q; exact fun ρ1 H1 v g1 hr1 r1 => q ρ1 H1 g1 hr1 v r1
    | ex e s1 h1 => rw [z] at q; exact fun ρ1 H1 σ1 cc dd g1 hr1 st1 x => q ρ1 H1 cc dd g1 hr1 x
    | bk s1 h1 => rw [z] at q; exact q.elim
    | ct s1 h1 => rw [z] at q; exact q.elim
    | no => rw [z] at q; exact q.elim

/-! ## built-ins by values -/
section
variable {K : KW} {T : XT}
def oLen : List D → AH → R D := fun ds h => withS (arg1 ds) fun d => withS (seqOf d h) fun es => .ok (.int es.length) h
theorem oc_len : OC K T (fun xs H Q => ∃ x n, xs = [x] ∧ LenV K.k x H n ∧ Q (.int n) H) oLen := fun E ρ H h ds vs Q hr r p => by
  obtain ⟨d, e1, p⟩ := Post.withS p
  obtain ⟨es, e2, p⟩ := p.withS
  obtain ⟨v, rfl, rv⟩ := arg1_ok r e1
  obtain ⟨a, xs, rfl, re, s⟩ := seqOf_ok hr rv e2
  refine ⟨.ref a, es.length, rfl, ?_, p.here hr _ (rp_int.mpr rfl)⟩
  rcases s with ⟨s, _⟩ | ⟨s, _⟩
  · exact .inr ⟨xs, s, re.length⟩
  · exact .inl ⟨xs, .inl (.inl s), re.length⟩
def oTuple : List D → AH → R D := fun ds h => withS (arg1 ds) fun d => match d with
  | .tup es => .ok (.tup es) h
  | .cell n => withS (lstAt n h) fun es => mkT es h
  | _ => .no
theorem oc_tuple : OC K T (fun xs H Q => ∃ p ys, xs = [.ref p] ∧ ((SqL K.k H p ys ∧ ∀ l, H l = none → Q (.ref l) (upd H l (.tup ys))) ∨ (SqT K.k H p ys ∧ Q (.ref p) H))) oTuple := fun E ρ H h ds vs Q hr r p => by
  obtain ⟨d, e1, p⟩ := Post.withS p
  obtain ⟨v, rfl, rv⟩ := arg1_ok r e1
  cases d with
  | tup es =>
    obtain ⟨a, xs, rfl, s, re⟩ := rp_tup.mp rv
    exact ⟨a, xs, rfl, .inr ⟨s, Post.here p hr _ rv⟩⟩
  | cell n =>
    obtain ⟨es, e2, p⟩ := Post.withS (k := fun es => mkT es h) p
    obtain ⟨a, rfl, e3⟩ := rp_cell.mp rv
    obtain ⟨b, xs, f1, f2, re, _⟩ := lstAt_ok hr e2
    rw [e3] at f1; cases f1
    exact ⟨a, xs, rfl, .inl ⟨.inl (.inl f2), (mkT_ok hr re p).2⟩⟩
  | _ => exact p.elim
def oList : List D → AH → R D := fun ds h => withS (arg1 ds) fun d => withS (seqOf d h) fun es => mkL es h
theorem oc_list : OC K T (fun xs H Q => ∃ p ys, xs = [.ref p] ∧ (SqL K.k H p ys ∨ SqT K.k H p ys) ∧ ∀ l, H l = none → Q (.ref l) (upd H l (.lst ys))) oList := fun E ρ H h ds vs Q hr r p => by
  obtain ⟨d, e1, p⟩ := Post.withS p
  obtain ⟨es, e2, p⟩ := p.withS
  obtain ⟨v, rfl, rv⟩ := arg1_ok r e1
  obtain ⟨a, xs, rfl, re, s⟩ := seqOf_ok hr rv e2
  refine ⟨a, xs, rfl, ?_, (mkL_ok hr re p).2⟩
  rcases s with ⟨s, _⟩ | ⟨s, _⟩
  · exact .inr s
  · exact .inl (.inl (.inl s))
def boolsD : List D → Option (List Bool)
  | [] => some []
  | .bl b :: r => match boolsD r with
    | some bs => some (b :: bs)
    | none => none
  | _ => none
theorem boolsD_ok {ρ : Rho} {H : Hp} : ∀ {ds : List D} {bs : List Bool} {vs : List V}, boolsD ds = some bs → Rps K ρ H ds vs → vs = bs.map V.bl
  | [], _, _, e, r => by cases e; exact Rps.nil_iff.mp r
  | .bl b :: ds, bs, vs, e, r => by
    obtain ⟨x, q, rfl, r1, r2⟩ := Rps.cons_iff.mp r
    unfold boolsD at e
    cases z : boolsD ds with
    | none => rw [z] at e; cases e
    | some js =>
      rw [z] at e; cases e
      rw [rp_bl.mp r1, boolsD_ok z r2]; rfl
  | .non :: _, _, _, e, _ => by cases e
  | .int _ :: _, _, _, e, _ => by cases e
  | .str _ :: _, _, _, e, _ => by cases e
  | .tup _ :: _, _, _, e, _ => by cases e
  | .cell _ :: _, _, _, e, _ => by cases e
def allB : List Bool → Bool
  | [] => true
  | b :: r => match b with
    | true => allB r
    | false => false
def anyB : List Bool → Bool
  | [] => false
  | b :: r => match b with
    | true => true
    | false => anyB r
theorem allB_eq : ∀ bs : List Bool, bs.all id = allB bs
  | [] => rfl
  | b :: r => by
    rw [List.all_cons, allB_eq r]
    cases b <;> rfl
theorem anyB_eq : ∀ bs : List Bool, bs.any id = anyB bs
  | [] => rfl
  | b :: r => by
    rw [List.any_cons, anyB_eq r]
    cases b <;> rfl
def oBools (g : List Bool → Bool) : List D → AH → R D := fun ds h => withS (arg1 ds) fun d => match d with
  | .cell n => withS (lstAt n h) fun es => withS (boolsD es) fun bs => .ok (.bl (g bs)) h
  | _ => .no
theorem oBools_ok {E : XK} {ρ : Rho} {H : Hp} {h : AH} {ds : List D} {vs : List V} {Q : VK} {g : List Bool → Bool} (hr : HR K ρ H h) (r : Rps K ρ H ds vs) (p : P1 K T E ρ H (oBools g ds h) Q) :
    ∃ (a : Addr) (bs : List Bool), vs = [V.ref a] ∧ SqL K.k H a (bs.map V.bl) ∧ Q (.bl (g bs)) H := by
  obtain ⟨d, e1, p⟩ := Post.withS p
  obtain ⟨v, rfl, rv⟩ := arg1_ok r e1
  cases d with
  | cell n =>
    obtain ⟨es, e2, p⟩ := Post.withS (k := fun es => withS (boolsD es) fun bs => (R.ok (D.bl (g bs)) h : R D)) p
    obtain ⟨bs, e3, p⟩ := p.withS
    obtain ⟨a, rfl, e4⟩ := rp_cell.mp rv
    obtain ⟨b, xs, f1, f2, re, _⟩ := lstAt_ok hr e2
    rw [e4] at f1; cases f1
    have := boolsD_ok e3 re; subst this
    exact ⟨a, bs, rfl, .inl (.inl f2), p.here hr _ (rp_bl.mpr rfl)⟩
  | _ => exact p.elim
theorem oc_all : OC K T (rAll K.k) (oBools allB) := fun E ρ H h ds vs Q hr r p => by
  obtain ⟨a, bs, e, s, q⟩ := oBools_ok hr r p
  exact ⟨a, bs, e, s, by rw [allB_eq]; exact q⟩
theorem oc_any : OC K T (rAny K.k) (oBools anyB) := fun E ρ H h ds vs Q hr r p => by
  obtain ⟨a, bs, e, s, q⟩ := oBools_ok hr r p
  exact ⟨a, bs, e, s, by rw [anyB_eq]; exact q⟩
def oMax2 : List D → AH → R D := fun ds h => withS (arg2 ds) fun d => withS (intD d.1) fun i => withS (intD d.2) fun j => .ok (.int (bif ltI i j then j else i)) h
theorem oc_max2 : OC K T (fun xs H Q => ∃ i j, xs = [.int i, .int j] ∧ Q (.int (if j > i then j else i)) H) oMax2 := fun E ρ H h ds vs Q hr r p => by
  obtain ⟨d, e1, p⟩ := Post.withS p
  obtain ⟨i, e2, p⟩ := p.withS
  obtain ⟨j, e3, p⟩ := p.withS
  obtain ⟨v, u, rfl, rv, ru⟩ := arg2_ok r e1
  refine ⟨i, j, by rw [intD_ok rv e2, intD_ok ru e3], ?_⟩
  have q := p.here hr _ (rp_int.mpr rfl)
  unfold ltI at q
  by_cases c : i < j
  · rw [decide_eq_true c] at q; rw [if_pos c]; exact q
  · rw [decide_eq_false c] at q; rw [if_neg c]; exact q
end
/-! ### isinstance -/
inductive TN where
  | non | bl | int | str | tup | lst
def TN.name : TN → String
  | .non => "NoneType"
  | .bl => "bool"
  | .int => "int"
  | .str => "str"
  | .tup => "tuple"
  | .lst => "list"
def isT : TN → TN → Bool
  | .non, .non => true
  | .bl, .bl => true
  | .bl, .int => true
  | .int, .int => true
  | .str, .str => true
  | .tup, .tup => true
  | .lst, .lst => true
  | _, _ => false
theorem isT_ok : ∀ a b : TN, b = .non ∨ kitB a.name b.name = some (isT a b) := by
  intro a b
  cases b <;> first | exact .inl rfl | (right; cases a <;> decide +kernel)
def tyD (d : D) (h : AH) : Option TN := match d with
  | .non => some .non
  | .bl _ => some .bl
  | .int _ => some .int
  | .str _ => some .str
  | .tup _ => some .tup
  | .cell n => match lstAt n h with
    | some _ => some .lst
    | none => none
theorem tyD_ok {K : KW} {ρ : Rho} {H : Hp} {h : AH} {d : D} {v : V} {t : TN} (hr : HR K ρ H h) (r : Rp K ρ H d v) (e : tyD d h = some t) : TyX K.k H v (.type t.name) := by
  cases d with
  | non => cases e; rw [rp_non.mp r]; exact .base .non
  | bl b => cases e; rw [rp_bl.mp r]; exact .base (.bl b)
  | int b => cases e; rw [rp_int.mp r]; exact .base (.int b)
  | str b => cases e; rw [rp_str.mp r]; exact .base (.str b)
  | tup ds =>
    cases e
    obtain ⟨a, xs, rfl, s, _⟩ := rp_tup.mp r
    rcases s with (s | ⟨o, s⟩) | ⟨o, its, n, hk, hc, _⟩
    · exact .base (.tup s)
    · exact .fTuple s
    · exact .kTuple hk hc
  | cell n =>
    unfold tyD at e
    cases z : lstAt n h with
    | none => simp only [z] at e; cases e
    | some ds =>
      simp only [z] at e; cases e
      obtain ⟨a, xs, f1, f2, _⟩ := lstAt_ok hr z
      obtain ⟨b, rfl, e3⟩ := rp_cell.mp r
      rw [e3] at f1; cases f1
      exact .base (.lst f2)
section
variable {X : Cx} {T : XT} {W : WX} {e c : Expr} {f : DE} {p pos : Pos}
def dIsi (t : TN) (f : DE) : DE := fun s h => (f s h).bind fun d h1 => withS (tyD d h1) fun a => .ok (.bl (isT a t)) h1
theorem se_isi (t : TN) (ht : t ≠ .non) (he : SE X T W e f) (hg : Gl X "isinstance") (hm : X.mg "isinstance" = none) (hc : PE X c (tC (.ty t.name))) (hs1 : starEach [e, c] X.env = (false, eval e X.env) :: starEach [c] X.env := by rfl) (hs2 : starEach [c] X.env = (false, eval c X.env) :: starEach [] X.env := by rfl)
    (hpl : (backTo pos (starEach [c] X.env)).any (·.1) = false := by rfl) : SE X T W (.Call (.Name "isinstance" p) [e, c] [] pos) (dIsi t f) :=
  ⟨PE.imp (pe_callB call_isi hg hm PyProof.Rows.boot_isinstance (pa_cons he.p (pa_cons hc pa_nil hs2) hs1) (by decide) (by decide) hs1 hpl) fun σ H Q ⟨ρ, s, h, st, hr, q⟩ => tD_bind st hr q fun d h1 ρ1 H1 v g1 hr1 st1 r1 q1 => by
    obtain ⟨a, e1, q1⟩ := q1.withS
    have k := (isT_ok a t).resolve_left ht
    exact ⟨v, .ty t.name, .type a.name, .type t.name, isT a t, rfl, .ty _, tyD_ok hr1 r1 e1, kit_ty k, q1.here hr1 _ (rp_bl.mpr rfl)⟩⟩
/-- isinstance(e, (T, U)) -/
def dIsi2 (t u : TN) (f : DE) : DE := fun s h => (f s h).bind fun d h1 => withS (tyD d h1) fun a => .ok (.bl (isT a t || isT a u)) h1
theorem se_isi2 (t u : TN) (ht : t ≠ .non) (hu : u ≠ .non) {c2 : Expr} {kk : Nat} {tp : Pos} (he : SE X T W e f) (hg : Gl X "isinstance") (hm : X.mg "isinstance" = none) (hc : PE X c (tC (.ty t.name))) (hc2 : PE X c2 (tC (.ty u.name)))
    (hs1 : starEach [e, .Tuple [c, c2] kk tp] X.env = (false, eval e X.env) :: starEach [.Tuple [c, c2] kk tp] X.env := by rfl) (hs2 : starEach [.Tuple [c, c2] kk tp] X.env = (false, eval (.Tuple [c, c2] kk tp) X.env) :: starEach [] X.env := by rfl)
    (hs3 : starEach [c, c2] X.env = (false, eval c X.env) :: starEach [c2] X.env := by rfl) (hs4 : starEach [c2] X.env = (false, eval c2 X.env) :: starEach [] X.env := by rfl)
    (hpl : (backTo pos (starEach [.Tuple [c, c2] kk tp] X.env)).any (·.1) = false := by rfl) : SE X T W (.Call (.Name "isinstance" p) [e, .Tuple [c, c2] kk tp] [] pos) (dIsi2 t u f) :=
  ⟨PE.imp (pe_callB call_isiT hg hm PyProof.Rows.boot_isinstance (pa_cons he.p (pa_cons (pe_tup (pa_cons hc (pa_cons hc2 pa_nil hs4) hs3)) pa_nil hs2) hs1) (by decide) (by decide) hs1 hpl) fun σ H Q ⟨ρ, s, h, st, hr, q⟩ => tD_bind st hr q fun d h1 ρ1 H1 v g1 hr1 st1 r1 q1 => by
    obtain ⟨a, e1, q1⟩ := q1.withS
    have k1 := (isT_ok a t).resolve_left ht
    have k2 := (isT_ok a u).resolve_left hu
    refine ⟨by show 2 ≤ sizeLine; rw [sizeLine_eq]; decide, fun tp np => ?_⟩
    have g := grow_upd (o := .tup [.ty t.name, .ty u.name]) hr1.live np
    refine ⟨v, tp, [.ty t.name, .ty u.name], .type a.name, [.type t.name, .type u.name], isT a t || isT a u, rfl, upd_same, .cons (.ty _) (.cons (.ty _) .nil), tyD_ok (hr1.upd np) (Rp.grow hr1.live g d r1) e1, ?_, q1 ρ1 _ g (hr1.upd np) _ (rp_bl.mpr rfl)⟩
    refine kitAny_cons (kit_ty k1) (fun z => ?_) (fun z => by rw [z]; rfl)
    rw [z]
    refine kitAny_cons (kit_ty k2) (fun z2 => by rw [z2]; rfl) (fun z2 => by rw [z2]; rfl)⟩
end
/-! ### methods -/
section
variable {X : Cx} {T : XT} {W : WX} {o e : Expr} {es : List Expr} {f : DE} {fa : DA} {pos apos cpos : Pos}
def isLst (d : D) (h : AH) : Bool := match d with
  | .cell n => match lstAt n h with
    | some _ => true
    | none => false
  | _ => false
theorem isLst_ok {K : KW} {ρ : Rho} {H : Hp} {h : AH} {d : D} {v : V} (hr : HR K ρ H h) (r : Rp K ρ H d v) (c : isLst d h = true) : tyV K.k "list" v H := by
  cases d with
  | cell n =>
    unfold isLst at c
    cases z : lstAt n h with
    | none => simp only [z] at c; cases c
    | some ds =>
      obtain ⟨a, xs, f1, f2, _⟩ := lstAt_ok hr z
      obtain ⟨b, rfl, e3⟩ := rp_cell.mp r
      rw [e3] at f1; cases f1
      exact .inl ⟨rfl, xs, .inl (.inl f2)⟩
  | _ => cases c
def OM (K : KW) (T : XT) (r : V → List V → Hp → VK → Prop) (om : D → List D → AH → R D) : Prop := ∀ (E : XK) ρ H h x ds v vs Q, HR K ρ H h → Rp K ρ H x v → Rps K ρ H ds vs → P1 K T E ρ H (om x ds h) Q → r v vs H Q
def dMeth (om : D → List D → AH → R D) (f : DE) (fa : DA) : DE := fun s h => (f s h).bind fun x h1 => chk (isLst x h1) ((fa s h1).bind fun ds h2 => om x ds h2)
theorem se_meth {name : Str} {id : String} {r : V → List V → Hp → VK → Prop} {om : D → List D → AH → R D} (slot : Slot "list" name id) (hty : typeOf (.builtin id) = pure (.type "method_descriptor")) (hm : MtR X id r) (hom : OM (kwOf X) T r om) (ho : SE X T W o f) (ha : SA X T W (e :: es) fa)
    (hbase : attributeBase o name X.env (eval o X.env) = eval o X.env := by rfl)
    (hfew : ((backTo cpos (starEach (e :: es) X.env)).all (fun x => !x.1) && (backToKw cpos (keywordEach [] X.env)).all (fun x => x.1.isSome)
      && decide ((e :: es).length + ([] : List Keyword).length + (if ([] : List Keyword).isEmpty then 0 else 1) < 30)) = true := by rfl)
    (hline : (apos.endLine == cpos.line) = true := by rfl) (hs : starEach (e :: es) X.env = (false, eval e X.env) :: starEach es X.env := by rfl) (hplain : (backTo cpos (starEach es X.env)).any (·.1) = false := by rfl) :
    SE X T W (.Call (.Attribute o name apos) (e :: es) [] cpos) (dMeth om f fa) :=
  ⟨PE.imp (pe_bm PySem.F.plainAttrs_list slot hty hm ho.p ha.p hbase hfew hline hs hplain) fun σ H Q ⟨ρ, s, h, st, hr, q⟩ => tD_bind st hr q fun x h1 ρ1 H1 v g1 hr1 st1 r1 q1 => by
    obtain ⟨c, q1⟩ := q1.chk
    exact ⟨isLst_ok hr1 r1 c, tDA_bind st1 hr1 q1 fun ds h2 ρ2 H2 vs g2 hr2 st2 r2 q2 => hom _ ρ2 H2 h2 x ds v vs Q hr2 (Rp.grow hr1.live g2 x r1) r2 q2⟩⟩
def dMeth0 (om : D → List D → AH → R D) (f : DE) : DE := fun s h => (f s h).bind fun x h1 => chk (isLst x h1) (om x [] h1)
theorem se_meth0 {name : Str} {id : String} {r : V → List V → Hp → VK → Prop} {om : D → List D → AH → R D} (slot : Slot "list" name id) (hty : typeOf (.builtin id) = pure (.type "method_descriptor")) (hm : MtR X id r) (hom : OM (kwOf X) T r om) (ho : SE X T W o f)
    (hbase : attributeBase o name X.env (eval o X.env) = eval o X.env := by rfl) (hline : (apos.endLine == cpos.line) = true := by rfl) : SE X T W (.Call (.Attribute o name apos) [] [] cpos) (dMeth0 om f) :=
  ⟨PE.imp (pe_bm0 PySem.F.plainAttrs_list slot hty hm ho.p hbase hline) fun σ H Q ⟨ρ, s, h, st, hr, q⟩ => tD_bind st hr q fun x h1 ρ1 H1 v g1 hr1 st1 r1 q1 => by
    obtain ⟨c, q1⟩ := q1.chk
    exact ⟨isLst_ok hr1 r1 c, hom _ ρ1 H1 h1 x [] v [] Q hr1 r1 (Rps.nil_iff.mpr rfl) q1⟩⟩
end
section
variable {K : KW} {T : XT}
def oAppend (x : D) (ds : List D) (h : AH) : R D := match x with
  | .cell n => withS (lstAt n h) fun es => withS (arg1 ds) fun d => chk (Nat.ble es.length lim) (.ok .non (h.put n (.lst (es ++ [d]))))
  | _ => .no
theorem om_append : OM K T rAppend oAppend := fun E ρ H h x ds v vs Q hr rx rv p => by
  cases x with
  | cell n =>
    obtain ⟨es, e1, p⟩ := Post.withS (k := fun es => withS (arg1 ds) fun d => chk (Nat.ble es.length lim) (R.ok D.non (AH.put n (.lst (es ++ [d])) h))) p
    obtain ⟨d, e2, p⟩ := p.withS
    obtain ⟨c, p⟩ := p.chk
    obtain ⟨a, rfl, e3⟩ := rp_cell.mp rx
    obtain ⟨b, xs, f1, f2, re, f3⟩ := lstAt_ok hr e1
    rw [e3] at f1; cases f1
    obtain ⟨u, rfl, ru⟩ := arg1_ok rv e2
    refine ⟨a, xs, u, rfl, rfl, f2, by rw [← re.length]; exact lim_lt c, ?_⟩
    exact p ρ _ (grow_put hr.live e3) (hr.put e3 f3 (re.append (Rps.cons ru (Rps.nil_iff.mpr rfl)))) _ (rp_non.mpr rfl)
  | _ => exact p.elim
def oReverse (x : D) (ds : List D) (h : AH) : R D := match x with
  | .cell n => withS (lstAt n h) fun es => match ds with
    | [] => .ok .non (h.put n (.lst es.reverse))
    | _ => .no
  | _ => .no
theorem Rps.reverse {ρ : Rho} {H : Hp} : ∀ {ds : List D} {vs : List V}, Rps K ρ H ds vs → Rps K ρ H ds.reverse vs.reverse
  | [], _, r => by rw [Rps.nil_iff.mp r]; exact Rps.nil_iff.mpr rfl
  | d :: ds, _, r => by
    obtain ⟨x, q, rfl, r1, r2⟩ := Rps.cons_iff.mp r
    rw [List.reverse_cons, List.reverse_cons]
    exact (Rps.reverse r2).append (Rps.cons r1 (Rps.nil_iff.mpr rfl))
theorem om_reverse : OM K T rReverse oReverse := fun E ρ H h x ds v vs Q hr rx rv p => by
  cases x with
  | cell n =>
    cases ds with
    | nil =>
      obtain ⟨es, e1, p⟩ := Post.withS (k := fun (es : List D) => (R.ok D.non (AH.put n (.lst es.reverse) h) : R D)) p
      obtain ⟨a, rfl, e3⟩ := rp_cell.mp rx
      obtain ⟨b, xs, f1, f2, re, f3⟩ := lstAt_ok hr e1
      rw [e3] at f1; cases f1
      refine ⟨a, xs, rfl, Rps.nil_iff.mp rv, f2, ?_⟩
      exact p ρ _ (grow_put hr.live e3) (hr.put e3 f3 re.reverse) _ (rp_non.mpr rfl)
    | cons _ _ =>
      obtain ⟨es, e1, p⟩ := Post.withS (k := fun (es : List D) => (R.no : R D)) p
      exact p.elim
  | _ => exact p.elim
end
/-! ### slices -/
section
variable {X : Cx} {T : XT} {W : WX} {e : Expr} {f : DE} {pos p2 : Pos} {lo hi : Option Expr}
abbrev DO := DSt → AH → R (Option Int)
def tDO (K : KW) (T : XT) (W : WX) (f : DO) : TO := fun σ H Q => ∃ ρ s h, StR K ρ H σ s ∧ HR K ρ H h ∧ Post K T (at_ W σ) ρ H (f s h) fun o _ _ H' => Q o H'
structure SO (X : Cx) (T : XT) (W : WX) (e : Option Expr) (f : DO) : Prop where
  p : PO X e (tDO (kwOf X) T W f)
theorem PO.imp {X : Cx} {e : Option Expr} {t t' : TO} (h : PO X e t) (m : ∀ σ H Q, t' σ H Q → t σ H Q) : PO X e t' := ⟨fun pins s σ H Q I q => h.run pins s σ H Q I (m σ H Q q)⟩
def dNo : DO := fun _ h => .ok none h
def dSome (f : DE) : DO := fun s h => (f s h).bind fun d h1 => withS (intD d) fun i => .ok (some i) h1
theorem so_none : SO X T W none dNo := ⟨PO.imp po_none fun σ H Q ⟨ρ, s, h, st, hr, q⟩ => q.here hr⟩
theorem so_some (he : SE X T W e f) : SO X T W (some e) (dSome f) := ⟨PO.imp (po_some he.p) fun σ H Q ⟨ρ, s, h, st, hr, q⟩ => tD_bind st hr q fun d h1 ρ1 H1 v g1 hr1 st1 r1 q1 => by
  obtain ⟨i, e1, q1⟩ := q1.withS
  exact ⟨i, intD_ok r1 e1, q1.here hr1⟩⟩
def oSl (d : D) (l u : Option Int) (h : AH) : R D := match d with
  | .tup ds => mkT (cutD ds l u) h
  | .cell n => withS (lstAt n h) fun ds => mkL (cutD ds l u) h
  | _ => .no
def dSl (f : DE) (fl fh : DO) : DE := fun s h => (f s h).bind fun d h1 => (fl s h1).bind fun l h2 => (fh s h2).bind fun u h3 => oSl d l u h3
theorem cutD_all (ds : List D) (l u : Option Int) (h : HT.sIx ds.length 0 l = 0 ∧ HT.sIx ds.length ds.length u = ds.length) : cutD ds l u = ds := by
  unfold cutD
  rw [h.1, h.2]
  simp
theorem se_sl {fl fh : DO} (he : SE X T W e f) (hl : SO X T W lo fl) (hh : SO X T W hi fh) : SE X T W (.Subscript e (.Slice lo hi none p2) pos) (dSl f fl fh) :=
  ⟨PE.imp (pe_slice (SlR.or sl_list sl_tupA) he.p hl.p hh.p) fun σ H Q ⟨ρ, s, h, st, hr, q⟩ => tD_bind st hr q fun d h1 ρ1 H1 v g1 hr1 st1 r1 q1 =>
    ⟨ρ1, s, h1, st1, hr1, q1.bind.mono fun l h2 ρ2 H2 _ g2 hr2 q2 => ⟨ρ2, s, h2, st1.grow hr1.live g2, hr2, q2.bind.mono fun u h3 ρ3 H3 _ g3 hr3 q3 => by
      have r3 := Rp.grow hr2.live g3 d (Rp.grow hr1.live g2 d r1)
      cases d with
      | tup ds =>
        obtain ⟨a, xs, rfl, s3, re⟩ := rp_tup.mp r3
        have q3 : P1 (kwOf X) T (at_ W σ) ρ3 H3 (mkT (cutD ds l u) h3) Q := q3
        have m := mkT_ok hr3 (cutD_ok re l u) q3
        refine .inr ⟨a, xs, rfl, s3, fun z => ?_, fun _ => m.2⟩
        obtain ⟨c, q4⟩ := q3.chk
        rw [cutD_all ds l u (by rw [re.length]; exact z)] at q4
        exact q4.here hr3 _ r3
      | cell n =>
        obtain ⟨ds, e1, q3⟩ := Post.withS (k := fun ds => mkL (cutD ds l u) h3) q3
        obtain ⟨a, rfl, e3⟩ := rp_cell.mp r3
        obtain ⟨b, xs, f1, f2, re, f3⟩ := lstAt_ok hr3 e1
        rw [e3] at f1; cases f1
        have m := mkL_ok hr3 (cutD_ok re l u) q3
        exact .inl ⟨a, xs, rfl, .inl (.inl f2), m.2⟩
      | _ => exact q3.elim⟩⟩⟩
end
end Nc
namespace Nc
open PySem PySem.Spec PyProof.Rows L2

section
variable {X : Cx} {pins : List (Addr × Obj)} {σ : L2.St} {H : Hp} {s : Shared} {ρ : Rho}
mutual
theorem nk_is (I : Inv X pins σ H s) : ∀ (d : D) (k : NestedKey) (v : V) (u : Value), toNK d = some k → Rp (kwOf X) ρ H d v → RelV v u → NestedIs s.heap k u
  | .non, _, _, _, e, r, q => by
    unfold toNK at e; cases e
    rw [rp_non.mp r] at q; cases q; exact .none
  | .bl b, _, _, _, e, r, q => by
    unfold toNK at e; cases e
    rw [rp_bl.mp r] at q; cases q; exact .bool rfl
  | .int i, _, _, _, e, r, q => by
    unfold toNK at e; cases e
    rw [rp_int.mp r] at q; obtain ⟨t, rfl⟩ := q; exact .int i t
  | .str x, _, _, _, e, r, q => by
    unfold toNK at e; cases e
    rw [rp_str.mp r] at q; obtain ⟨t, rfl⟩ := q; exact .text x t
  | .tup ds, k, _, _, e, r, q => by
    unfold toNK at e
    cases z : toNKs ds with
    | none => simp only [z] at e; cases e
    | some ks =>
      simp only [z] at e; cases e
      obtain ⟨a, xs, rfl, st, rs⟩ := rp_tup.mp r
      cases q
      obtain ⟨its, rv, ⟨o, ho, hc, n, hd⟩, _⟩ := I.tuple st
      exact .tup ho hc hd (nk_all I ds ks xs its z rs rv)
  | .cell _, _, _, _, e, _, _ => by unfold toNK at e; cases e
theorem nk_all (I : Inv X pins σ H s) : ∀ (ds : List D) (ks : List NestedKey) (vs : List V) (us : List Value), toNKs ds = some ks → Rps (kwOf X) ρ H ds vs → Vals vs us → NestedAll s.heap ks us
  | [], _, _, _, e, r, q => by
    unfold toNKs at e; cases e
    rw [Rps.nil_iff.mp r] at q; cases q; exact .nil
  | d :: ds, ks, _, _, e, r, q => by
    unfold toNKs at e
    cases z : toNK d with
    | none => simp only [z] at e; cases e
    | some k =>
      cases z2 : toNKs ds with
      | none => simp only [z, z2] at e; cases e
      | some ks' =>
        simp only [z, z2] at e; cases e
        obtain ⟨v, vs, rfl, r1, r2⟩ := Rps.cons_iff.mp r
        cases q with
        | cons q1 q2 => exact .cons (nk_is I d k v _ z r1 q1) (nk_all I ds ks' vs _ z2 r2 q2)
end
/-- an entry as it stands, by values -/
abbrev EntV (p : NestedKey × Addr × V) (q : NestedKey × Addr × Value) : Prop := p.1 = q.1 ∧ p.2.1 = q.2.1 ∧ RelV p.2.2 q.2.2
theorem keys_ok (I : Inv X pins σ H s) : ∀ {kvs : List (NestedKey × D × D)} {L : List (NestedKey × Addr × V)}, Paired (DEnt (kwOf X) ρ H) kvs L → ∀ p ∈ L, NestedIs s.heap p.1 (.ref p.2.1) ∧ NestedKey.depth p.1 ≤ 8
  | _, _, .nil, p, hp => by cases hp
  | _, _, .cons r t, p, hp => by
    rcases List.mem_cons.mp hp with z | z
    · subst z
      obtain ⟨e1, e2, e3, r1, _⟩ := r
      rw [← e1]
      exact ⟨nk_is I _ _ _ _ e2 r1 rfl, e3⟩
    · exact keys_ok I t p z
theorem entV_mem : ∀ {L : List (NestedKey × Addr × V)} {xs : List (NestedKey × Addr × Value)}, Paired EntV L xs → ∀ q ∈ xs, ∃ p ∈ L, p.1 = q.1 ∧ p.2.1 = q.2.1
  | _, _, .nil, q, hq => by cases hq
  | _, _, .cons r t, q, hq => by
    rcases List.mem_cons.mp hq with z | z
    · subst z; exact ⟨_, List.mem_cons_self, r.1, r.2.1⟩
    · obtain ⟨p, hp, e⟩ := entV_mem t q z
      exact ⟨p, List.mem_cons_of_mem _ hp, e⟩
theorem dn_get (I : Inv X pins σ H s) {a : Addr} {L : List (NestedKey × Addr × V)} (hD : H a = some (DN X.w L a)) (hk : ∀ p ∈ L, NestedIs s.heap p.1 (.ref p.2.1) ∧ NestedKey.depth p.1 ≤ 8) :
    ∃ xs, Paired EntV L xs ∧ s.heap.DictOfH (nestedKind X.prog X.w) a xs := by
  obtain ⟨⟨xs, r, o, es, ep, e1, e2, e3, e4, e5⟩, _⟩ := (show ObjOk X.prog X.w H s.heap a (DN X.w L a) from I.hok a _ hD)
  refine ⟨xs, r, o, es, ep, e1, e2, e3, e4, fun x hx => ?_, e5⟩
  obtain ⟨p, hp, q1, q2⟩ := entV_mem r x hx
  have := hk p hp
  rw [q1, q2] at this
  exact this
theorem dn_ok {P : Program} {w : World} {H' : Hp} {h' : Heap} {a : Addr} {L : List (NestedKey × Addr × V)} {xs : List (NestedKey × Addr × Value)} (r : Paired EntV L xs) (d : h'.DictOfH (nestedKind P w) a xs) : ObjOk P w H' h' a (DN w L a) := by
  obtain ⟨o, es, ep, e1, e2, e3, e4, _, e5⟩ := d
  refine ⟨⟨xs, r, o, es, ep, e1, e2, e3, e4, e5⟩, ⟨o, e1⟩, fun h1 h2 z k => ?_⟩
  obtain ⟨ys, r', o', es', ep', f1, f2⟩ := z
  exact ⟨ys, r', o', es', ep', k o' f1, f2⟩
/-! ### looking up, storing, on the three levels -/
def lookD (k : NestedKey) : List (NestedKey × D × D) → Option D
  | [] => none
  | p :: r => match NestedKey.beq p.1 k with
    | true => some p.2.2
    | false => lookD k r
def stoD (k : NestedKey) (kd vd : D) : List (NestedKey × D × D) → List (NestedKey × D × D)
  | [] => [(k, kd, vd)]
  | p :: r => match NestedKey.beq p.1 k with
    | true => (p.1, p.2.1, vd) :: r
    | false => p :: stoD k kd vd r
def stoV {α : Type} (k : NestedKey) (b : Addr) (v : α) : List (NestedKey × Addr × α) → List (NestedKey × Addr × α)
  | [] => [(k, b, v)]
  | p :: r => match NestedKey.beq p.1 k with
    | true => (p.1, p.2.1, v) :: r
    | false => p :: stoV k b v r
theorem nk_beq {a b : NestedKey} : NestedKey.beq a b = true ↔ a = b := ⟨NestedKey.eq_of_beq a b, fun e => by rw [e]; exact NestedKey.beq_self b⟩
theorem atKey_cons (p : NestedKey × Addr × Value) (r : List (NestedKey × Addr × Value)) (k : NestedKey) : atKey (p :: r) k = if p.1 = k then some p.2 else atKey r k := by
  unfold atKey
  rw [List.find?_cons]
  by_cases e : p.1 = k
  · simp [e]
  · simp [e]
theorem look_ok {K : KW} {H : Hp} : ∀ {kvs : List (NestedKey × D × D)} {L : List (NestedKey × Addr × V)} {xs : List (NestedKey × Addr × Value)} {k : NestedKey}, Paired (DEnt K ρ H) kvs L → Paired EntV L xs →
    match lookD k kvs with
    | some d => ∃ v p, atKey xs k = some p ∧ RelV v p.2 ∧ Rp K ρ H d v
    | none => atKey xs k = none
  | _, _, _, _, .nil, .nil => rfl
  | p :: kvs, q :: L, x :: xs, k, .cons r t, .cons r' t' => by
    obtain ⟨e1, _, _, _, rv⟩ := r
    obtain ⟨e2, e3, rel⟩ := r'
    rw [atKey_cons]
    unfold lookD
    cases c : NestedKey.beq p.1 k with
    | true =>
      have := nk_beq.mp c
      rw [if_pos (by rw [← e2, ← e1]; exact this)]
      exact ⟨q.2.2, x.2, rfl, rel, rv⟩
    | false =>
      have : ¬ x.1 = k := fun z => by
        rw [← e2, ← e1] at z
        rw [nk_beq.mpr z] at c; cases c
      rw [if_neg this]
      exact look_ok t t'
theorem stored_is : ∀ {xs : List (NestedKey × Addr × Value)} {k : NestedKey} {b : Addr} {v : Value}, (xs.map (·.1)).Nodup → storedH xs k b v = stoV k b v xs
  | [], _, _, _, _ => rfl
  | x :: xs, k, b, v, nd => by
    rw [List.map_cons, List.nodup_cons] at nd
    unfold stoV
    by_cases e : x.1 = k
    · have c := nk_beq.mpr e
      simp only [c]
      have hs : (atKey (x :: xs) k).isSome = true := by rw [atKey_cons, if_pos e]; rfl
      unfold storedH
      rw [if_pos hs, List.map_cons]
      have h1 : putAt k v x = (x.1, x.2.1, v) := by unfold putAt; rw [if_pos e]
      have h2 : xs.map (putAt k v) = xs := by
        have : ∀ y ∈ xs, putAt k v y = y := fun y hy => by
          unfold putAt
          rw [if_neg]
          intro z
          exact nd.1 (List.mem_map.mpr ⟨y, hy, z.trans e.symm⟩)
        rw [List.map_congr_left this]
        exact List.map_id' xs
      rw [h1, h2]
    · have c : NestedKey.beq x.1 k = false := by
        cases z : NestedKey.beq x.1 k
        · rfl
        · exact absurd (nk_beq.mp z) e
      simp only [c]
      have ih := stored_is (k := k) (b := b) (v := v) nd.2
      rw [← ih]
      unfold storedH
      rw [atKey_cons, if_neg e]
      split
      · rw [List.map_cons]
        have : putAt k v x = x := by unfold putAt; rw [if_neg e]
        rw [this]
      · rfl
theorem stoV_ok : ∀ {L : List (NestedKey × Addr × V)} {xs : List (NestedKey × Addr × Value)} {k : NestedKey} {b : Addr} {v : V} {u : Value}, Paired EntV L xs → RelV v u → Paired EntV (stoV k b v L) (stoV k b u xs)
  | _, _, _, _, _, _, .nil, r => .cons ⟨rfl, rfl, r⟩ .nil
  | p :: L, x :: xs, k, b, v, u, .cons q t, r => by
    unfold stoV
    rw [← q.1]
    cases NestedKey.beq p.1 k with
    | true => exact .cons ⟨rfl, q.2.1, r⟩ t
    | false => exact .cons q (stoV_ok t r)
theorem stoD_ok {K : KW} {H : Hp} {k : NestedKey} {kd vd : D} {b : Addr} {v : V} (e : toNK kd = some k) (hd : NestedKey.depth k ≤ 8) (rk : Rp K ρ H kd (.ref b)) (rv : Rp K ρ H vd v) :
    ∀ {kvs : List (NestedKey × D × D)} {L : List (NestedKey × Addr × V)}, Paired (DEnt K ρ H) kvs L → Paired (DEnt K ρ H) (stoD k kd vd kvs) (stoV k b v L)
  | _, _, .nil => .cons ⟨rfl, e, hd, rk, rv⟩ .nil
  | p :: kvs, q :: L, .cons r t => by
    unfold stoD stoV
    rw [← r.1]
    cases NestedKey.beq p.1 k with
    | true => exact .cons ⟨r.1 ▸ rfl, r.2.1, r.2.2.1, r.2.2.2.1, rv⟩ t
    | false => exact .cons r (stoD_ok e hd rk rv t)
end
/-- the dict in a cell -/
def dctAt (n : Nat) (h : AH) : Option (List (NestedKey × D × D)) := match AH.get n h with
  | some (.dict kvs) => some kvs
  | _ => none
theorem dctAt_ok {K : KW} {ρ : Rho} {H : Hp} {h : AH} {n : Nat} {kvs : List (NestedKey × D × D)} (hr : HR K ρ H h) (e : dctAt n h = some kvs) :
    ∃ a L, ρ n = some a ∧ H a = some (DN K.w L a) ∧ (a == sysModules) = false ∧ Paired (DEnt K ρ H) kvs L ∧ AH.get n h = some (.dict kvs) := by
  unfold dctAt at e
  cases q : AH.get n h with
  | none => rw [q] at e; cases e
  | some c =>
    cases c with
    | lst _ => rw [q] at e; cases e
    | dict es =>
      rw [q] at e; cases e
      obtain ⟨a, e1, L, e2, e3, r⟩ := hr.at_ n _ q
      exact ⟨a, L, e1, e2, e3, r, rfl⟩
/-- a key that a dict takes: a tuple, not too deep -/
def keyD (d : D) : Option NestedKey := match d with
  | .tup ds => match toNK (.tup ds) with
    | some k => match Nat.ble (NestedKey.depth k) 8 with
      | true => some k
      | false => none
    | none => none
  | _ => none
theorem keyD_ok {K : KW} {ρ : Rho} {H : Hp} {d : D} {k : NestedKey} {v : V} (r : Rp K ρ H d v) (e : keyD d = some k) : toNK d = some k ∧ NestedKey.depth k ≤ 8 ∧ ∃ b, v = .ref b := by
  cases d with
  | tup ds =>
    unfold keyD at e
    cases z : toNK (.tup ds) with
    | none => simp only [z] at e; cases e
    | some k' =>
      cases c : Nat.ble (NestedKey.depth k') 8 with
      | false => simp only [z, c] at e; cases e
      | true =>
        simp only [z, c] at e; cases e
        obtain ⟨a, _, rfl, _⟩ := rp_tup.mp r
        exact ⟨rfl, Nat.le_of_ble_eq_true c, a, rfl⟩
  | _ => cases e
section
variable {X : Cx} {T : XT}
/-- what a dict and a key are, by values: the readings of the rules below -/
structure DKey (X : Cx) (ρ : Rho) (H : Hp) (a b : Addr) (L : List (NestedKey × Addr × V)) (kvs : List (NestedKey × D × D)) (k : NestedKey) (kd : D) : Prop where
  at_ : H a = some (DN X.w L a)
  sys : (a == sysModules) = false
  ent : Paired (DEnt (kwOf X) ρ H) kvs L
  key : toNK kd = some k
  dep : NestedKey.depth k ≤ 8
  rel : Rp (kwOf X) ρ H kd (.ref b)
theorem DKey.room {k : Nat} (hr : Room k X.A) : (nestedKind X.prog X.w).room X.A.in1 := by
  have := hr.units
  show X.A.units + 1 + 8 < cLine
  omega
def rIxN (X : Cx) : R2 := fun x y H Q => ∃ ρ a b L kvs k kd, x = .ref a ∧ y = .ref b ∧ DKey X ρ H a b L kvs k kd ∧ ∃ d, lookD k kvs = some d ∧ ∀ v, Rp (kwOf X) ρ H d v → Q v H
theorem ix_dict {k : Nat} (hr : Room k X.A) : IxR X (rIxN X) := by
  intro value slice pins s σ H x y v u Q I rx ry h hs
  obtain ⟨ρ, a, b, L, kvs, k, kd, rfl, rfl, D, d, e, q⟩ := h
  cases rx; cases ry
  obtain ⟨xs, r, dd⟩ := dn_get I D.at_ (keys_ok I D.ent)
  have lk := look_ok (k := k) D.ent r
  rw [e] at lk
  obtain ⟨w, p, e1, rw', rd⟩ := lk
  exact tail_any dd.typeIs PySem.F.slot_dict_getitem.lookup (wpAny_getItem_heap (DKey.room hr) ⟨nk_is I _ _ _ _ D.key D.rel rfl, D.dep⟩ dd e1 ⟨w, H, I.tok _, rw', q w rd⟩) hs
def rInN (X : Cx) (neg : Bool) : R2 := fun x y H Q => ∃ ρ a b L kvs k kd, x = .ref b ∧ y = .ref a ∧ DKey X ρ H a b L kvs k kd ∧ Q (.bl (if neg then !(lookD k kvs).isSome else (lookD k kvs).isSome)) H
theorem at_some {K : KW} {ρ : Rho} {H : Hp} {kvs : List (NestedKey × D × D)} {L : List (NestedKey × Addr × V)} {xs : List (NestedKey × Addr × Value)} {k : NestedKey} (a : Paired (DEnt K ρ H) kvs L) (b : Paired EntV L xs) : (atKey xs k).isSome = (lookD k kvs).isSome := by
  have lk := look_ok (k := k) a b
  cases e : lookD k kvs with
  | none => rw [e] at lk; rw [lk]; rfl
  | some d => rw [e] at lk; obtain ⟨_, p, e1, _⟩ := lk; rw [e1]; rfl
theorem op_inN {k : Nat} (hr : Room k X.A) : OpR X (compareOp .In) (rInN X false) := by
  intro pins s σ H x y v u Q I rx ry h
  obtain ⟨ρ, a, b, L, kvs, k, kd, rfl, rfl, D, q⟩ := h
  cases rx; cases ry
  obtain ⟨xs, r, dd⟩ := dn_get I D.at_ (keys_ok I D.ent)
  exact wpAny_in_heap (DKey.room hr) ⟨nk_is I _ _ _ _ D.key D.rel rfl, D.dep⟩ D.sys dd ⟨.bl _, H, I.tok _, by rw [at_some D.ent r]; rfl, q⟩
theorem op_notInN {k : Nat} (hr : Room k X.A) : OpR X (compareOp .NotIn) (rInN X true) := by
  intro pins s σ H x y v u Q I rx ry h
  obtain ⟨ρ, a, b, L, kvs, k, kd, rfl, rfl, D, q⟩ := h
  cases rx; cases ry
  obtain ⟨xs, r, dd⟩ := dn_get I D.at_ (keys_ok I D.ent)
  exact wpAny_notIn_heap (DKey.room hr) ⟨nk_is I _ _ _ _ D.key D.rel rfl, D.dep⟩ D.sys dd ⟨.bl _, H, I.tok _, by rw [at_some D.ent r]; rfl, q⟩
def rSetN (X : Cx) : V → V → V → Hp → (Hp → Prop) → Prop := fun o i v H Q => ∃ ρ a b L kvs k kd, o = .ref a ∧ i = .ref b ∧ DKey X ρ H a b L kvs k kd ∧ kvs.length ≤ lim ∧ Q (upd H a (DN X.w (stoV k b v L) a))
theorem paired_len {α β : Type} {F : α → β → Prop} {l : List α} {m : List β} (p : Paired F l m) : l.length = m.length := by
  induction p with
  | nil => rfl
  | cons _ _ ih => simp [ih]
/-- a dict's object behind a store -/
theorem dn_put {pins : List (Addr × Obj)} {σ : L2.St} {H : Hp} {s : Shared} {h' : Heap} {t : Nat} {a b : Addr} {L : List (NestedKey × Addr × V)} {xs : List (NestedKey × Addr × Value)} {k : NestedKey} {v : V} {u : Value} (I : Inv X pins σ H s) (hD : H a = some (DN X.w L a)) (r : Paired EntV L xs)
    (dd : s.heap.DictOfH (nestedKind X.prog X.w) a xs) (d' : h'.DictOfH (nestedKind X.prog X.w) a (storedH xs k b u)) (hs : Heap.SameBut a s.heap h') (rv : RelV v u) : Inv X pins σ (upd H a (DN X.w (stoV k b v L) a)) { s with heap := h', toks := t } := by
  obtain ⟨_, _, _, _, _, _, _, _, nd⟩ := id dd
  rw [stored_is nd] at d'
  obtain ⟨o, _, _, ho, _⟩ := id d'
  exact d_write I (by rw [hD]; exact True.intro) hs ⟨o, ho⟩ (dn_ok (stoV_ok r rv) d')
theorem set_dict {k : Nat} (hr : Room k X.A) : PSet X (rSetN X) := by
  intro pins s σ H o i v ov iv u Q I ro ri rv h
  obtain ⟨ρ, a, b, L, kvs, k, kd, rfl, rfl, D, hl, q⟩ := h
  cases ro; cases ri
  obtain ⟨xs, r, dd⟩ := dn_get I D.at_ (keys_ok I D.ent)
  have l : xs.length ≤ sizeLine := by
    rw [← paired_len r, ← paired_len D.ent]
    have : lim ≤ sizeLine := by rw [sizeLine_eq]; decide
    omega
  exact wpAny_setItem_heap (hsz := l) (DKey.room hr) ⟨nk_is I _ _ _ _ D.key D.rel rfl, D.dep⟩ dd fun h' d' hs => ⟨_, dn_put I D.at_ r dd d' hs rv, q⟩
/-- the same, by a comprehension -/
theorem dictSet_ok {pins : List (Addr × Obj)} {σ : L2.St} {H : Hp} {s : Shared} {E : Value → Shared → Prop} {k : Nat} (hr : Room k X.A) {ρ : Rho} {a b : Addr} {L : List (NestedKey × Addr × V)} {kvs : List (NestedKey × D × D)} {nk : NestedKey} {kd : D} {v : V} {u : Value} {Q : Unit → Shared → Prop} (I : Inv X pins σ H s)
    (D : DKey X ρ H a b L kvs nk kd) (hl : kvs.length ≤ lim) (rv : RelV v u) (h : ∀ s', Inv X pins σ (upd H a (DN X.w (stoV nk b v L) a)) s' → Q () s') : wpAny (model X.prog X.w) X.A (dictSet a (.ref b) u) Q E s := by
  obtain ⟨xs, r, dd⟩ := dn_get I D.at_ (keys_ok I D.ent)
  have l : xs.length ≤ sizeLine := by
    rw [← paired_len r, ← paired_len D.ent]
    have : lim ≤ sizeLine := by rw [sizeLine_eq]; decide
    omega
  have rm : (nestedKind X.prog X.w).room X.A := by
    have := hr.units
    show X.A.units + 8 < cLine
    omega
  exact wpAny_dictSet_heap (hsz := l) rm ⟨nk_is I _ _ _ _ D.key D.rel rfl, D.dep⟩ dd fun h' d' hs => h _ (dn_put I D.at_ r dd d' hs rv)
end
end Nc
namespace Nc
open PySem PySem.Spec PyProof.Rows L2

/-! ## dicts by data -/
section
variable {X : Cx} {T : XT} {W : WX}
theorem dKey_of {ρ : Rho} {H : Hp} {h : AH} {n : Nat} {kvs : List (NestedKey × D × D)} {kd : D} {k : NestedKey} {x y : V} (hr : HR (kwOf X) ρ H h) (rx : Rp (kwOf X) ρ H (.cell n) x) (ry : Rp (kwOf X) ρ H kd y) (e1 : dctAt n h = some kvs) (e2 : keyD kd = some k) :
    ∃ a b L, x = .ref a ∧ y = .ref b ∧ ρ n = some a ∧ AH.get n h = some (.dict kvs) ∧ DKey X ρ H a b L kvs k kd := by
  obtain ⟨a, L, f1, f2, f3, f4, f5⟩ := dctAt_ok hr e1
  obtain ⟨c, rfl, f6⟩ := rp_cell.mp rx
  rw [f1] at f6; cases f6
  obtain ⟨g1, g2, b, rfl⟩ := keyD_ok ry e2
  exact ⟨a, b, L, rfl, rfl, f1, f5, ⟨f2, f3, f4, g1, g2, ry⟩⟩
def dIxN (x y : D) (h : AH) : R D := match x with
  | .cell n => withS (dctAt n h) fun kvs => withS (keyD y) fun k => withS (lookD k kvs) fun d => .ok d h
  | _ => .no
def dIxA (x y : D) (h : AH) : R D := match y with
  | .int i => withS (seqOf x h) fun ds => withS (atD ds i) fun d => .ok d h
  | _ => dIxN x y h
theorem ixN_of {E : XK} {ρ : Rho} {H : Hp} {h : AH} {x y : D} {v u : V} {Q : VK} (hr : HR (kwOf X) ρ H h) (rx : Rp (kwOf X) ρ H x v) (ry : Rp (kwOf X) ρ H y u)
    (p : P1 (kwOf X) T E ρ H (dIxN x y h) Q) : rIxN X v u H Q := by
  cases x with
  | cell n =>
    obtain ⟨kvs, e1, p⟩ := Post.withS (k := fun kvs => withS (keyD y) fun k => withS (lookD k kvs) fun d => (R.ok d h : R D)) p
    obtain ⟨k, e2, p⟩ := p.withS
    obtain ⟨d, e3, p⟩ := p.withS
    obtain ⟨a, b, L, rfl, rfl, _, _, D⟩ := dKey_of hr rx ry e1 e2
    exact ⟨ρ, a, b, L, kvs, k, y, rfl, rfl, D, d, e3, fun v r => p.here hr v r⟩
  | _ => exact p.elim
theorem o_ixA : O2 (kwOf X) T (fun x y H Q => (rIxL X.K x y H Q ∨ rIxT X.K x y H Q) ∨ rIxN X x y H Q) dIxA := fun E ρ H h x y v u Q hr rx ry p => by
  cases y with
  | int i => exact .inl (o_ix (K := kwOf X) E ρ H h x (.int i) v u Q hr rx ry p)
  | tup ds => exact .inr (ixN_of hr rx ry p)
  | non => exact .inr (ixN_of hr rx ry p)
  | bl b => exact .inr (ixN_of hr rx ry p)
  | str b => exact .inr (ixN_of hr rx ry p)
  | cell b => exact .inr (ixN_of hr rx ry p)
theorem IxR.or {r r' : R2} (h : IxR X r) (h' : IxR X r') : IxR X (fun x y H Q => r x y H Q ∨ r' x y H Q) := fun va sl pins s σ H x y v u Q I rx ry q hs => q.elim (fun z => h va sl pins s σ H x y v u Q I rx ry z hs) (fun z => h' va sl pins s σ H x y v u Q I rx ry z hs)
theorem se_sub {k : Nat} {a b : Expr} {f g : DE} {pos : Pos} (hr : Room k X.A) (ha : SE X T W a f) (hb : SE X T W b g) (hs : PlainIx b) : SE X T W (.Subscript a b pos) (dOp dIxA f g) :=
  se_ix (IxR.or (IxR.or ix_list ix_tup) (ix_dict hr)) o_ixA ha hb hs
/-- x in a dict -/
def isD (y : D) (h : AH) : Bool := match y with
  | .cell n => match dctAt n h with
    | some _ => true
    | none => false
  | _ => false
def inN (x y : D) (h : AH) : Option Bool := match y with
  | .cell n => match dctAt n h with
    | some kvs => match keyD x with
      | some k => match lookD k kvs with
        | some _ => some true
        | none => some false
      | none => none
    | none => none
  | _ => none
def dInA (neg : Bool) (x y : D) (h : AH) : R D := match isD y h with
  | true => withS (inN x y h) fun b => .ok (.bl (if neg then !b else b)) h
  | false => withS (inD x y h) fun b => .ok (.bl (if neg then !b else b)) h
theorem inN_ok {E : XK} {ρ : Rho} {H : Hp} {h : AH} {x y : D} {v u : V} {Q : VK} {b neg : Bool} (hr : HR (kwOf X) ρ H h) (rx : Rp (kwOf X) ρ H x v) (ry : Rp (kwOf X) ρ H y u) (e : inN x y h = some b) (q : Q (.bl (if neg then !b else b)) H) : rInN X neg v u H Q := by
  unfold inN at e
  cases y with
  | cell n =>
    cases z : dctAt n h with
    | none => simp only [z] at e; cases e
    | some kvs =>
      cases z2 : keyD x with
      | none => simp only [z, z2] at e; cases e
      | some k =>
        obtain ⟨a, b', L, rfl, rfl, _, _, D⟩ := dKey_of hr ry rx z z2
        have : (lookD k kvs).isSome = b := by
          cases z3 : lookD k kvs with
          | none => simp only [z, z2, z3] at e; cases e; rfl
          | some d => simp only [z, z2, z3] at e; cases e; rfl
        exact ⟨ρ, a, b', L, kvs, k, x, rfl, rfl, D, by rw [this]; exact q⟩
  | _ => cases e
theorem o_inA : O2 (kwOf X) T (fun x y H Q => (rIn X.K false x y H Q ∨ rInD X.K x y H Q) ∨ rInN X false x y H Q) (dInA false) := fun E ρ H h x y v u Q hr rx ry p => by
  unfold dInA at p
  cases c : isD y h with
  | true =>
    simp only [c] at p
    obtain ⟨b, e, p⟩ := Post.withS p
    exact .inr (inN_ok (E := E) hr rx ry e (p.here hr _ (rp_bl.mpr rfl)))
  | false =>
    simp only [c] at p
    exact .inl (o_in (K := kwOf X) (T := T) E ρ H h x y v u Q hr rx ry p)
theorem o_notInA : O2 (kwOf X) T (fun x y H Q => (rIn X.K true x y H Q ∨ rNotInD X.K x y H Q) ∨ rInN X true x y H Q) (dInA true) := fun E ρ H h x y v u Q hr rx ry p => by
  unfold dInA at p
  cases c : isD y h with
  | true =>
    simp only [c] at p
    obtain ⟨b, e, p⟩ := Post.withS p
    exact .inr (inN_ok (E := E) hr rx ry e (p.here hr _ (rp_bl.mpr rfl)))
  | false =>
    simp only [c] at p
    exact .inl (o_notIn (K := kwOf X) (T := T) E ρ H h x y v u Q hr rx ry p)
/-- {} -/
def dEmpty : DE := fun _ h => .ok (.cell h.new) (h.add (.dict []))
def tDNewN (X : Cx) : TE := fun _ H Q => ∀ p, H p = none → (p == sysModules) = false → Q (.ref p) (upd H p (DN X.w [] p))
theorem dn_empty {P : Program} {w : World} {H : Hp} (h : Heap) : ObjOk P w H (h.push { cls := .type "dict", data := .dict #[] }) h.objs.size (DN w [] h.objs.size) :=
  dn_ok (P := P) .nil ⟨_, #[], 0, Heap.get?_push_size _ rfl, ⟨rfl, rfl, rfl⟩, rfl, rfl, fun _ hx => absurd hx (by simp), List.nodup_nil⟩
theorem sys_ne {pins : List (Addr × Obj)} {σ : L2.St} {H : Hp} {s : Shared} (I : Inv X pins σ H s) : (s.heap.objs.size == sysModules) = false := beq_eq_false_iff_ne.mpr (Ne.symm (Nat.ne_of_lt I.big))
theorem pe_dnewN {pos : Pos} : PE X (.Dict [] [] pos) (tDNewN X) := ⟨fun pins s σ H Q I h =>
  wpAny_Dict_empty ⟨.ref s.heap.objs.size, _, I.laid (t' := s.toks) (fun b u e => Heap.get?_push_of_some _ e) (Nat.le_refl _) (dn_empty s.heap), rfl, h _ (I.hok.fresh (Nat.le_refl _)) (sys_ne I)⟩⟩
theorem dn_new_ok {ρ : Rho} {H : Hp} {h : AH} {p : Addr} (hr : HR (kwOf X) ρ H h) (np : H p = none) (ns : (p == sysModules) = false) : HR (kwOf X) (rhoAdd ρ h.new p) (L2.upd H p (DN X.w [] p)) (h.add (.dict [])) :=
  hr.addC np trivial ⟨[], upd_same, ns, .nil⟩
theorem se_dict0 {pos : Pos} : SE X T W (.Dict [] [] pos) dEmpty := ⟨PE.imp pe_dnewN fun σ H Q ⟨ρ, s, h, st, hr, q⟩ p np ns =>
  q _ _ (grow_add hr np) (dn_new_ok hr np ns) _ (rp_cell.mpr ⟨p, rfl, rhoAdd_same⟩)⟩
/-! ### o[i] = v -/
def rSetA (X : Cx) : V → V → V → Hp → (Hp → Prop) → Prop := fun o i v H Q => rSetL o i v H Q ∨ rSetN X o i v H Q
theorem set_any {k : Nat} (hr : Room k X.A) : PSet X (rSetA X) := fun pins s σ H o i v ov iv u Q I ro ri rv h => h.elim (set_list pins s σ H o i v ov iv u Q I ro ri rv) (set_dict hr pins s σ H o i v ov iv u Q I ro ri rv)
def setD (ds : List D) (j : Nat) (d : D) : List D := ds.set j d
def oSetN (n : Nat) (i d : D) (h : AH) : Option AH := match dctAt n h with
  | some kvs => match keyD i with
    | some k => match Nat.ble kvs.length lim with
      | true => some (h.put n (.dict (stoD k i d kvs)))
      | false => none
    | none => none
  | none => none
/-- the heap behind a store -/
def oSet (o i d : D) (h : AH) : Option AH := match o with
  | .cell n => match i with
    | .int j => match lstAt n h with
      | some ds => match ixN ds.length j with
        | some k => some (h.put n (.lst (ds.set k d)))
        | none => none
      | none => none
    | _ => oSetN n i d h
  | _ => none
theorem Rps.set {K : KW} {ρ : Rho} {H : Hp} {d : D} {v : V} (r : Rp K ρ H d v) : ∀ {ds : List D} {vs : List V} (i : Nat), Rps K ρ H ds vs → Rps K ρ H (ds.set i d) (vs.set i v)
  | [], _, _, q => by rw [Rps.nil_iff.mp q]; exact Rps.nil_iff.mpr rfl
  | c :: ds, _, 0, q => by
    obtain ⟨x, t, rfl, r1, r2⟩ := Rps.cons_iff.mp q
    exact Rps.cons r r2
  | c :: ds, _, i + 1, q => by
    obtain ⟨x, t, rfl, r1, r2⟩ := Rps.cons_iff.mp q
    exact Rps.cons r1 (Rps.set r i r2)
theorem oSet_dict {ρ : Rho} {H : Hp} {h h' : AH} {n : Nat} {i d : D} {vo vi vd : V} {Q : Hp → Prop} (hr : HR (kwOf X) ρ H h) (ro : Rp (kwOf X) ρ H (.cell n) vo) (ri : Rp (kwOf X) ρ H i vi) (rd : Rp (kwOf X) ρ H d vd)
    (e : oSetN n i d h = some h') (q : ∀ H', Grow ρ ρ H H' → HR (kwOf X) ρ H' h' → Q H') : rSetN X vo vi vd H Q := by
  unfold oSetN at e
  cases z : dctAt n h with
  | none => simp only [z] at e; cases e
  | some kvs =>
    cases z2 : keyD i with
    | none => simp only [z, z2] at e; cases e
    | some k =>
      cases c : Nat.ble kvs.length lim with
      | false => simp only [z, z2, c] at e; cases e
      | true =>
        simp only [z, z2, c] at e; cases e
        obtain ⟨a, b, L, rfl, rfl, e1, e2, DD⟩ := dKey_of hr ro ri z z2
        have g := grow_put (o := DN X.w (stoV k b vd L) a) hr.live e1
        refine ⟨ρ, a, b, L, kvs, k, i, rfl, rfl, DD, Nat.le_of_ble_eq_true c, q _ g (hr.putC e1 e2 trivial ⟨_, upd_same, DD.sys, ?_⟩)⟩
        exact Paired.imp2 (fun p q h => ⟨h.1, h.2.1, h.2.2.1, Rp.grow hr.live g _ h.2.2.2.1, Rp.grow hr.live g _ h.2.2.2.2⟩) (stoD_ok DD.key DD.dep DD.rel rd DD.ent)
theorem oSet_ok {ρ : Rho} {H : Hp} {h h' : AH} {o i d : D} {vo vi vd : V} {Q : Hp → Prop} (hr : HR (kwOf X) ρ H h) (ro : Rp (kwOf X) ρ H o vo) (ri : Rp (kwOf X) ρ H i vi) (rd : Rp (kwOf X) ρ H d vd) (e : oSet o i d h = some h') (q : ∀ H', Grow ρ ρ H H' → HR (kwOf X) ρ H' h' → Q H') : rSetA X vo vi vd H Q := by
  cases o with
  | cell n =>
    cases i with
    | int j =>
      unfold oSet at e
      cases z : lstAt n h with
      | none => simp only [z] at e; cases e
      | some ds =>
        cases z2 : ixN ds.length j with
        | none => simp only [z, z2] at e; cases e
        | some k =>
          simp only [z, z2] at e; cases e
          obtain ⟨a, xs, f1, f2, re, f3⟩ := lstAt_ok hr z
          obtain ⟨b, rfl, e3⟩ := rp_cell.mp ro
          rw [e3] at f1; cases f1
          exact .inl ⟨_, xs, j, k, rfl, rp_int.mp ri, f2, by rw [← re.length]; exact z2, q _ (grow_put hr.live e3) (hr.put e3 f3 (Rps.set rd k re))⟩
    | non => exact .inr (oSet_dict hr ro ri rd e q)
    | bl b => exact .inr (oSet_dict hr ro ri rd e q)
    | str b => exact .inr (oSet_dict hr ro ri rd e q)
    | tup b => exact .inr (oSet_dict hr ro ri rd e q)
    | cell b => exact .inr (oSet_dict hr ro ri rd e q)
  | _ => cases e
def okD {α : Type} (r : R α) : Option (α × AH) := match r with
  | .ok a h => some (a, h)
  | _ => none
def gSubD (fo fi : DE) : DG := fun d s h => match okD (fo s h) with
  | some (o, h1) => match okD (fi s h1) with
    | some (i, h2) => match oSet o i d h2 with
      | some h3 => some (s, h3)
      | none => none
    | none => none
  | none => none
theorem sg_sub {k : Nat} {o i : Expr} {fo fi : DE} {pos : Pos} (hr : Room k X.A) (ho : SE X T W0 o fo) (hi : SE X T W0 i fi) (ha : ∀ v, assign (.Subscript o i pos) X.env v = (do
      let ov ← holding [v] (eval o X.env)
      let iv ← holding [v, ov] (eval i X.env)
      standAt pos
      holding [v, ov, iv] (setItem ov iv v)
      release [v, ov, iv] []) := by intro _; rfl) : SG X (.Subscript o i pos) [] (gSubD fo fi) :=
  ⟨PG.imp (pg_sub ho.p hi.p (set_any hr) ha) fun v σ H Q ⟨ρ, s, h, d, st, hr, r, q⟩ => by
    unfold gSubD at q
    refine ⟨ρ, s, h, st, hr, ?_⟩
    cases z : fo s h with
    | no => rw [z] at q; exact q.elim
    | ex e h1 => rw [z] at q; exact q.elim
    | ok od h1 =>
      simp only [z, okD] at q
      intro ρ1 H1 g1 hr1 vo ro
      refine ⟨ρ1, s, h1, st.grow hr.live g1, hr1, ?_⟩
      cases z2 : fi s h1 with
      | no => rw [z2] at q; exact q.elim
      | ex e h2 => rw [z2] at q; exact q.elim
      | ok idd h2 =>
        simp only [z2] at q
        intro ρ2 H2 g2 hr2 vi ri
        cases z3 : oSet od idd d h2 with
        | none => simp only [z3] at q; exact q.elim
        | some h3 =>
          simp only [z3] at q
          have g12 := g1.trans hr1.live g2
          refine oSet_ok hr2 (Rp.grow hr1.live g2 od ro) ri (Rp.grow hr.live g12 d r) z3 fun H3 g3 hr3 => ?_
          exact q ρ2 H3 σ (g12.trans hr2.live g3) hr3 ((st.grow hr.live g12).grow hr2.live g3) only_refl⟩
end
end Nc
namespace Nc
open PySem PySem.Spec PyProof.Rows L2
/-! {k: v for .. in ..}, keys tuples -/
def tDcN (X : Cx) (wi : TI) (g : TG) (tt : TT) (tk tv : TE) (vs : List Nat) : TE := fun σ H Q => wi σ H fun J H1 => ∀ A, H1 A = none → (A == sysModules) = false → ∃ V : Nat → Nat → Hp → Prop, (∃ m, V 0 m (upd H1 A (DN X.w [] A))) ∧
  ∀ i m H, V i m H → (J.stop i H ∧ Q (.ref A) H) ∨ (J.go i H ∧ ∃ N : Hp → Prop, (∀ H', N H' → ∃ m', m' < m ∧ V (i + 1) m' H') ∧ ∀ x H', J.yld i H x H' → g x (L2.wipe σ vs) H' fun σ2 H2 => L2.wipe σ2 vs = L2.wipe σ vs ∧ tt σ2 H2 fun b H3 =>
    if b = true then tk σ2 H3 fun y H4 => tv σ2 H4 fun z H5 => ∃ ρ bb L kvs k kd, y = .ref bb ∧ DKey X ρ H5 A bb L kvs k kd ∧ kvs.length ≤ lim ∧ N (upd H5 A (DN X.w (stoV k bb z L) A)) else N H3)
section
variable {X : Cx} {kx vx tg iter : Expr} {ifs : List Expr} {scope : Scope} {own : List (Str × Nat)} {wi : TI} {g : TG} {tt : TT} {tk tv : TE}
/-- what holds between two turns, within the block -/
def Mid (X : Cx) (sB : Shared) (HB : Hp) (scope : Scope) (ce : Env) (fp : List Addr) (τ : L2.St) (tn : Nat → Heap → Prop) (V : Nat → Nat → Hp → Prop) (n : Nat) (sv : Shared) : Prop :=
  ∃ i Hv, Inv (X.blk sB HB scope ce fp) [] τ Hv sv ∧ tn i sv.heap ∧ (∀ b ∈ fp, Hv b = none) ∧ V i n Hv
theorem dcN_core {pins : List (Addr × Obj)} {s0 : Shared} {σ : L2.St} {H0 : Hp} {Q : VK} {pos pos' : Pos} {lv : Nat} {use : Option (Value → Sem Unit)} {Qf : Value → Shared → Prop} (rm : Room lv X.A) (calm : X.calm = true) (nd : X.N.Nodup) (I0 : Inv X pins σ H0 s0) (hi : PI X tg iter wi) (ok : BlkOk X.N X.env.scope scope own)
    (hg : ∀ (s : Shared) (H : Hp) (C : Addr) (cl : List (Str × Addr)) (fp : List Addr), PG (X.blk s H scope (compEnvC scope cl C X.env) fp) tg g)
    (ht : ∀ (s : Shared) (H : Hp) (C : Addr) (cl : List (Str × Addr)) (fp : List Addr), PTs (X.blk s H scope (compEnvC scope cl C X.env) fp) ifs tt)
    (hk : ∀ (s : Shared) (H : Hp) (C : Addr) (cl : List (Str × Addr)) (fp : List Addr), PE (X.blk s H scope (compEnvC scope cl C X.env) fp) kx tk)
    (he : ∀ (s : Shared) (H : Hp) (C : Addr) (cl : List (Str × Addr)) (fp : List Addr), PE (X.blk s H scope (compEnvC scope cl C X.env) fp) vx tv)
    (fold : ∀ x, foldedSetIterable iter X.env x = pure x) (rd : tDcN X wi g tt tk tv (own.map (·.2)) σ H0 Q)
    (fin : ∀ (D C : Addr) (s' : Shared) (m : Str → Option Value) (H' : Hp), Inv X pins σ H' s' → Q (.ref D) H' → s'.heap.Ns C m → FpOk X pins H' C → compPost (model X.prog X.w) X.A X.xe use Qf (.ref D) C (.ok .next) s') :
    wpAny (model X.prog X.w) X.A (comprehension (.DictComp kx vx [⟨tg, iter, ifs, 0⟩] scope pos) scope X.env pos' newDict false (eval iter X.env) use) Qf X.xe s0 := by
  have free : ∀ y ∈ scope.names, y.2 = .free → ∃ c, X.env.cells.lookup y.1 = some c := fun y hy e => I0.ok.has _ (ok.free y hy e)
  refine wpAny_comprehension_free (use := use) rfl fold (closure_ok free) ok.kind (fun y hy e => by rw [ok.uniq y hy, e]) (thn (hi.run pins s0 σ H0 _ I0 rd) fun _ sA hA => thn hA fun _ sB hB => ?_)
  obtain ⟨it, fp, tn, J, HB, rfl, IB, Tn, stB, fB, rdB⟩ := hB
  refine wpAny_newObj_type (newEnv_comp ?_)
  have big := sys_ne IB
  generalize eA : sB.heap.objs.size = A at big
  have nA : HB A = none := IB.hok.fresh (Nat.le_of_eq eA)
  obtain ⟨V, ⟨m0, v0⟩, turn⟩ := rdB A nA big
  generalize eC : ({ sB with heap := sB.heap.push { cls := .type "dict", data := .dict #[] } } : Shared) = sC
  have hC : sC.heap = sB.heap.push { cls := .type "dict", data := .dict #[] } := by rw [← eC]
  have IC : Inv X pins σ (upd HB A (DN X.w [] A)) sC := by
    rw [← eC]
    refine IB.laid (t' := sB.toks) (fun b o e => Heap.get?_push_of_some _ e) (Nat.le_of_eq eA) ?_
    rw [← eA]
    exact dn_empty sB.heap
  have lt : ∀ b ∈ fp, b < sB.heap.objs.size := fun b hb => let ⟨_, e, _⟩ := Tn.obj _ _ stB b hb; Heap.lt_size e
  have fC : ∀ b ∈ fp, FpOk X pins (upd HB A (DN X.w [] A)) b ∧ b < sC.heap.objs.size := fun b hb =>
    ⟨⟨by rw [upd_ne (by rw [← eA]; exact Nat.ne_of_lt (lt b hb))]; exact (fB b hb).1, (fB b hb).2⟩, by rw [hC, Heap.size_push]; exact Nat.lt_succ_of_lt (lt b hb)⟩
  have stC : tn 0 sC.heap := Tn.keep _ _ _ stB fun b _ o e => by rw [hC]; exact Heap.get?_push_of_some _ e
  have ID := block_start IC ok nd fC
  generalize eH : upd HB A (DN X.w [] A) = HC at IC ID v0 fC
  generalize ecl : cellsFrom (sC.heap.objs.size + 1) scope.names (cloFrom X.env.cells scope.names []) = cl at ID
  have jg := hg sC HC sC.heap.objs.size cl fp
  have jt := ht sC HC sC.heap.objs.size cl fp
  have jk := hk sC HC sC.heap.objs.size cl fp
  have je := he sC HC sC.heap.objs.size cl fp
  show codeAny _ _ (.compStart (.DictComp kx vx [⟨tg, iter, ifs, 0⟩] scope pos) 0 (.ref it) (.ref A) (compEnvC scope cl sC.heap.objs.size X.env)) (compPost (model X.prog X.w) X.A X.xe use Qf (.ref A) sC.heap.objs.size)
    { sC with heap := pushCells (sC.heap.push { cls := .type "dict", data := .dict #[] }) scope.names }
  generalize ece : compEnvC scope cl sC.heap.objs.size X.env = ce at ID jg jt jk je ⊢
  have cL : ce.locals = sC.heap.objs.size := by subst ece; rfl
  generalize eD : ({ sC with heap := pushCells (sC.heap.push { cls := .type "dict", data := .dict #[] }) scope.names } : Shared) = sD at ID ⊢
  have stD : tn 0 sD.heap := Tn.keep _ _ _ stC fun b _ o e => by rw [← eD]; exact pushCells_keeps _ _ _ _ (Heap.get?_push_of_some _ e)
  have still : ∀ {τ : L2.St} {Hv : Hp} {sv : Shared}, Inv (X.blk sC HC scope ce fp) [] τ Hv sv → (∀ b ∈ fp, Hv b = none) → ∀ b ∈ fp, FpOk (X.blk sC HC scope ce fp) [] Hv b := fun {τ Hv sv} Iv hn b hb =>
    ⟨hn b hb, (Iv.ok.exf b hb).1, Iv.ok.exfs b hb, .inl hb, (Iv.ok.exf b hb).2, fun p hp => absurd (show p ∈ ([] : List (Addr × Obj)) ++ [] from hp) (by simp)⟩
  refine codeAny_compStart_dict (?lp) (Tn.self X.A 0 _ _ _ stD ?lp)
  refine compLoop_anyD (Mid X sC HC scope ce fp (L2.wipe σ (own.map (·.2))) tn V) ?_ m0 ⟨0, HC, ID, stD, fun b hb => (fC b hb).1.1, v0⟩
  rintro n sE ⟨i, HE, IE, stE, nE, vE⟩
  rcases turn i n HE vE with ⟨stop, qq⟩ | ⟨go, N, hN, step⟩
  · refine thnF (Tn.done (X.blk sC HC scope ce fp) rfl rfl rfl calm i [] sE _ HE (fun _ _ => False) IE (still IE nE) stE stop) fun r sF ⟨er, IF⟩ => ?_
    subst er
    have IG : Inv X pins σ HE sF := IC.call' (ch := fp) IF.os IF.base IF.hok IF.bare fun b hb => ⟨(fC b hb).1.2.2.2.1, (fC b hb).1.2.1, (fC b hb).1.2.2.2.2.1, (fC b hb).1.2.2.2.2.2⟩
    have nC : HE sC.heap.objs.size = none := by rw [← cL]; exact IF.free
    obtain ⟨m, hm, _⟩ := IF.loc
    have hm : sF.heap.Ns ce.locals m := hm
    rw [cL] at hm
    exact fin A sC.heap.objs.size sF m HE IG qq hm (IC.fpOk (Nat.le_refl _) nC)
  · refine thnF (Tn.item (X.blk sC HC scope ce fp) rfl rfl rfl calm i [] sE _ HE (fun _ _ => False) IE (still IE nE) stE go) fun r sF ⟨u, er, hF⟩ => ?_
    subst er
    refine thnF hF fun _ sG ⟨x, HG, IG, rG, yG, stG, nG⟩ => ?_
    refine thnF (jg.run _ sG _ HG x u _ (IG.pinned (still IG nG) (Tn.obj _ _ stG)) rG (step x HG yG)) fun _ sI ⟨τ, HI, II, wI, qI⟩ => ?_
    refine thnF (jt.run _ sI τ HI _ II qI) fun b sJ ⟨HJ, IJ, qJ⟩ => ?_
    have ends : ∀ {sv : Shared} {Hv : Hp}, Inv (X.blk sC HC scope ce fp) ([] ++ pinsAt fp sG.heap) τ Hv sv → N Hv → ∃ m, m < n ∧ Mid X sC HC scope ce fp (L2.wipe σ (own.map (·.2))) tn V m sv := fun {sv Hv} Iv nv => by
      obtain ⟨m', lm, v'⟩ := hN Hv nv
      have pin : ∀ b ∈ fp, ∀ o, sG.heap.get? b = some o → sv.heap.get? b = some o ∧ Hv b = none := fun b hb o e => by
        have z := Iv.pin (b, o) (List.mem_append_right _ (List.mem_append_right _ (mem_pinsAt hb e)))
        exact ⟨z.1, z.2.1⟩
      refine ⟨m', lm, i + 1, Hv, (Iv.unpinned (pins := [])).weak (by rw [← wI, wipe_length]) (fun j w e => ?_), Tn.keep _ _ _ stG fun b hb o e => (pin b hb o e).1, fun b hb => ?_, v'⟩
      · rw [← wI] at e; exact (L2.wipe_some e).1
      · obtain ⟨o, e, _⟩ := Tn.obj _ _ stG b hb
        exact (pin b hb o e).2
    cases b with
    | false => simp only [Bool.false_eq_true, if_false] at qJ ⊢; exact ends IJ qJ
    | true =>
      simp only [if_true] at qJ ⊢
      refine thnF (jk.run _ sJ τ HJ _ IJ qJ) fun kz sK ⟨yk, HK, IK, rK, qK⟩ => ?_
      refine thnF (je.run _ sK τ HK _ IK qK) fun vz sL ⟨yv, HL, IL, rL, ρ, bb, L, kvs, k, kd, ek, DD, ll, nx⟩ => ?_
      subst ek
      cases rK
      exact dictSet_ok (X := X.blk sC HC scope ce fp) (show Room lv X.A from rm) IL ⟨DD.at_, DD.sys, DD.ent, DD.key, DD.dep, DD.rel⟩ ll rL fun sM IM => ends IM nx
theorem pe_dcN {lv : Nat} {pos : Pos} (rm : Room lv X.A) (calm : X.calm = true) (nd : X.N.Nodup) (hi : PI X tg iter wi) (ok : BlkOk X.N X.env.scope scope own)
    (hg : ∀ (s : Shared) (H : Hp) (C : Addr) (cl : List (Str × Addr)) (fp : List Addr), PG (X.blk s H scope (compEnvC scope cl C X.env) fp) tg g)
    (ht : ∀ (s : Shared) (H : Hp) (C : Addr) (cl : List (Str × Addr)) (fp : List Addr), PTs (X.blk s H scope (compEnvC scope cl C X.env) fp) ifs tt)
    (hk : ∀ (s : Shared) (H : Hp) (C : Addr) (cl : List (Str × Addr)) (fp : List Addr), PE (X.blk s H scope (compEnvC scope cl C X.env) fp) kx tk)
    (he : ∀ (s : Shared) (H : Hp) (C : Addr) (cl : List (Str × Addr)) (fp : List Addr), PE (X.blk s H scope (compEnvC scope cl C X.env) fp) vx tv)
    (fold : ∀ x, foldedSetIterable iter X.env x = pure x := by intro _; rfl) : PE X (.DictComp kx vx [⟨tg, iter, ifs, 0⟩] scope pos) (tDcN X wi g tt tk tv (own.map (·.2))) :=
  ⟨fun pins s σ H Q I h => by rw [arm_eval_DictComp]; exact dcN_core rm calm nd I hi ok hg ht hk he fold h fun D C s' m H' I' q hn ⟨f0, f1, f2, f3, f4, f5⟩ => ⟨m, hn, fun h'' sb => ⟨.ref D, H', I'.turned (t' := s'.toks) (fun b o hb e => (sb.2 b hb).trans e) f0 f1 f3 f4 f5, rfl, q⟩⟩⟩
theorem ps_setDcN {lv : Nat} {i : Nat} {y : Str} {py pos spos : Pos} (rm : Room lv X.A) (calm : X.calm = true) (nd : X.N.Nodup) (hy : X.N[i]? = some y) (hyl : X.env.scope.names.lookup y = some .local)
    (hsw : swapsWith (.DictComp kx vx [⟨tg, iter, ifs, 0⟩] scope pos) (some (.Name y py)) spos.line X.env = pure true) (hi : PI X tg iter wi) (ok : BlkOk X.N X.env.scope scope own)
    (hg : ∀ (s : Shared) (H : Hp) (C : Addr) (cl : List (Str × Addr)) (fp : List Addr), PG (X.blk s H scope (compEnvC scope cl C X.env) fp) tg g)
    (ht : ∀ (s : Shared) (H : Hp) (C : Addr) (cl : List (Str × Addr)) (fp : List Addr), PTs (X.blk s H scope (compEnvC scope cl C X.env) fp) ifs tt)
    (hk : ∀ (s : Shared) (H : Hp) (C : Addr) (cl : List (Str × Addr)) (fp : List Addr), PE (X.blk s H scope (compEnvC scope cl C X.env) fp) kx tk)
    (he : ∀ (s : Shared) (H : Hp) (C : Addr) (cl : List (Str × Addr)) (fp : List Addr), PE (X.blk s H scope (compEnvC scope cl C X.env) fp) vx tv)
    (fold : ∀ x, foldedSetIterable iter X.env x = pure x := by intro _; rfl) : PS X (.Assign [.Name y py] (.DictComp kx vx [⟨tg, iter, ifs, 0⟩] scope pos) spos) (tAsg (tDcN X wi g tt tk tv (own.map (·.2))) (gName i)) := ⟨fun pins s σ H D I h => by
  rw [exec_Assign_Name_used y py _ spos hsw]
  refine wpAny_bind (wpAny_standAt (wpAny_bind ?_))
  refine wpAny_bind (thn (dcN_core rm calm nd I hi ok hg ht hk he fold h fun L C s' m H' I' q hn f => ?_) fun x s' hq => wpAny_pure (wpAny_pure hq))
  refine wpAny_assign_Name (store_ok2 (v := .ref L) I' nd hy (.inl hyl) rfl (fun s2 I2 hx => ?_) (.inr hyl))
  obtain ⟨a, sb, ha⟩ := hx
  obtain ⟨f0, f1, f2, f3, f4, f5⟩ := f
  have haC : C ≠ a := by
    rcases ha with z | z
    · rw [z]; exact f1
    · exact fun e => f4 y a z e.symm
  exact ⟨m, hn.sameBut sb haC, fun h3 sb3 => ⟨σ.set i (some (.ref L)), H', I2.turned (fun b o hb e => (sb3.2 b hb).trans e) f0 f1 f3 f4 f5, q⟩⟩⟩
end
end Nc
namespace Nc
open PySem PySem.Spec PyProof.Rows L2
section
variable {K : KW} {ρ ρ' ρ1 : Rho} {H H' H1 : Hp} {h : AH} {A : Addr} {o0 o : HO}
theorem sqT_updG (hA : H A = some o0) (m : Mut (some o0)) : ∀ a xs, SqT K.k H a xs → SqT K.k (upd H A o) a xs := fun a xs s => by
  have ne : ∀ {z : HO}, H a = some z → ¬ Mut (some z) → a ≠ A := fun {z} e q y => by
    subst y; rw [hA] at e; cases e; exact q m
  rcases s with (s | ⟨ob, s⟩) | s
  · exact .inl (.inl (by rw [upd_ne (ne s (fun z => z))]; exact s))
  · exact .inl (.inr ⟨ob, by rw [upd_ne (ne s (fun z => z))]; exact s⟩)
  · exact .inr s
theorem ext_updG (hA : H A = some o0) (m : Mut (some o0)) : Ext K ρ ρ H (upd H A o) := ⟨fun _ _ z => z, sqT_updG hA m⟩
theorem HR.updG (hr : HR K ρ H h) (hA : H A = some o0) (m : Mut (some o0)) (nA : ∀ n, ρ n ≠ some A) : HR K ρ (L2.upd H A o) h := by
  have ne : ∀ n a, ρ n = some a → a ≠ A := fun n a e z => nA n (z ▸ e)
  refine ⟨hr.inj, hr.top, fun n a e => ?_, fun n c e => ?_⟩
  · rw [upd_ne (ne n a e)]; exact hr.live n a e
  · obtain ⟨a, e1, q⟩ := hr.at_ n c e
    exact ⟨a, e1, q.ext (ext_updG hA m) (upd_ne (ne n a e1))⟩
theorem HR.adoptG {c0 : Cell} (hr : HR K ρ H h) (hA : H A = some o0) (mu : Mut (some o0)) (nA : ∀ n, ρ n ≠ some A) (r : ∀ ρ', Ext K ρ ρ' H H → CellR K ρ' H A c0) : HR K (rhoAdd ρ h.new A) H (h.add c0) := by
  have mm : ∀ n a, ρ n = some a → rhoAdd ρ h.new A n = some a := fun n a e => by
    unfold rhoAdd
    by_cases q : n = h.new
    · subst q; rw [hr.top _ (Nat.le_refl _)] at e; cases e
    · rw [if_neg q]; exact e
  refine ⟨fun n m a e1 e2 => ?_, fun n hn => ?_, fun n a e => ?_, fun n c e => ?_⟩
  · unfold rhoAdd at e1 e2
    by_cases q1 : n = h.new <;> by_cases q2 : m = h.new
    · rw [q1, q2]
    · rw [if_pos q1] at e1; rw [if_neg q2] at e2; cases e1; exact absurd e2 (nA _)
    · rw [if_neg q1] at e1; rw [if_pos q2] at e2; cases e2; exact absurd e1 (nA _)
    · rw [if_neg q1] at e1; rw [if_neg q2] at e2; exact hr.inj _ _ _ e1 e2
  · have z : AH.new (AH.add c0 h) = h.new + 1 := rfl
    rw [z] at hn
    unfold rhoAdd
    rw [if_neg (by omega)]
    exact hr.top n (by omega)
  · unfold rhoAdd at e
    by_cases q : n = h.new
    · rw [if_pos q] at e; cases e; rw [hA]; exact mu
    · rw [if_neg q] at e; exact hr.live n a e
  · rw [AH.get_add] at e
    by_cases q : h.new = n
    · rw [if_pos q] at e; cases e
      refine ⟨A, ?_, r _ ⟨mm, fun _ _ z => z⟩⟩
      unfold rhoAdd; rw [if_pos q.symm]
    · rw [if_neg q] at e
      obtain ⟨a, e1, qq⟩ := hr.at_ n c e
      exact ⟨a, mm n a e1, qq.ext ⟨mm, fun _ _ z => z⟩ rfl⟩
theorem Grow.accG (g : Grow ρ ρ' H H') (hA : H A = some o0) (nA : ∀ n, ρ n ≠ some A) : H' A = some o0 ∧ ∀ n, ρ' n ≠ some A :=
  ⟨g.keep A _ hA nA, fun n e => by
    cases q : ρ n with
    | some b => have := g.rho n b q; rw [e] at this; cases this; exact nA n q
    | none => have := g.new n A e q; rw [hA] at this; cases this⟩
theorem dent_ext {kvs : List (NestedKey × D × D)} {L : List (NestedKey × Addr × V)} (g : Ext K ρ ρ' H H') (p : Paired (DEnt K ρ H) kvs L) : Paired (DEnt K ρ' H') kvs L :=
  Paired.imp2 (fun _ _ h => ⟨h.1, h.2.1, h.2.2.1, Rp.ext g _ h.2.2.2.1, Rp.ext g _ h.2.2.2.2⟩) p
end
/-- the loop of {k: v for ..} -/
def dcLoop (it : ItD) (dg : DG) (test : DB) (fk fv : DE) (s : DSt) : Nat → Nat → List (NestedKey × D × D) → AH → R (List (NestedKey × D × D))
  | 0, _, _, _ => .no
  | k + 1, i, acc, h => match itemAt it i h with
    | none => .no
    | some none => .ok acc h
    | some (some d) => match dg d s h with
      | none => .no
      | some p => (noX (test p.1 p.2)).bind fun b h3 => match b with
        | false => dcLoop it dg test fk fv s k (i + 1) acc h3
        | true => (noX (fk p.1 h3)).bind fun kd h4 => (noX (fv p.1 h4)).bind fun vd h5 => withS (keyD kd) fun nk => chk (Nat.ble acc.length lim) (dcLoop it dg test fk fv s k (i + 1) (stoD nk kd vd acc) h5)
def mkD (acc : List (NestedKey × D × D)) (h : AH) : R D := .ok (.cell h.new) (h.add (.dict acc))
def dDc (fi : DI) (dg : DG) (test : DB) (fk fv : DE) (vs : List Nat) (n : Nat) : DE := fun s h => (fi s h).bind fun it h1 => (dcLoop it dg test fk fv (wipeD s vs) n 0 [] h1).bind mkD
theorem withS_bind {α β γ : Type} (o : Option α) (k : α → R β) (f : β → AH → R γ) : (withS o k).bind f = withS o fun a => (k a).bind f := by
  cases o <;> rfl
theorem chk_bind {β γ : Type} (b : Bool) (r : R β) (f : β → AH → R γ) : (chk b r).bind f = chk b (r.bind f) := by
  cases b <;> rfl
section
variable {X : Cx} {T : XT} {W : WX} {tg iter kx vx : Expr} {ifs : List Expr} {fi : DI} {dg : DG} {ws : List Nat} {ft : DB} {fk fv : DE}
theorem dc_imp {vs : List Nat} (n : Nat) (hv : ∀ i ∈ ws, i ∈ vs) : ∀ σ H Q, tD (kwOf X) T W (dDc fi dg ft fk fv vs n) σ H Q → tDcN X (tI (kwOf X) T W fi) (tG (kwOf X) ws dg) (tDB (kwOf X) T W0 ft) (tD (kwOf X) T W0 fk) (tD (kwOf X) T W0 fv) vs σ H Q := fun σ H Q ⟨ρ, s, h, st, hr, q⟩ => by
  refine ⟨ρ, s, h, st, hr, q.bind.mono fun it h1 ρ1 H1 _ g1 hr1 q1 J ij => ?_⟩
  intro A nA sA
  have st1 := (st.grow hr.live g1).wipe vs
  have mD : ∀ L, Mut (some (DN X.w L A)) := fun L => trivial
  refine ⟨fun i m H2 => ∃ ρ2 h2 acc L, m + i = n ∧ Grow ρ1 ρ2 H1 H2 ∧ HR (kwOf X) ρ2 H2 h2 ∧ (∀ k, ρ2 k ≠ some A) ∧ H2 A = some (DN X.w L A) ∧ Paired (DEnt (kwOf X) ρ2 H2) acc L ∧
    Post (kwOf X) T (at_ W σ) ρ1 H1 ((dcLoop it dg ft fk fv (wipeD s vs) m i acc h2).bind mkD) fun d _ ρ' H' => ∀ v, Rp (kwOf X) ρ' H' d v → Q v H', ⟨n, ρ1, h1, [], [], rfl, (Grow.refl ρ1 H1).updL nA, hr1.upd nA, fun k e => ?_, upd_same, .nil, q1⟩, ?_⟩
  · have := hr1.live k A e
    rw [nA] at this; exact this
  · rintro i m H2 ⟨ρ2, h2, acc, L, hm, g2, hr2, nA2, eA, ra, q2⟩
    cases m with
    | zero => exact q2.elim
    | succ k =>
      unfold dcLoop at q2
      have io := ij ρ2 H2 h2 (g2.ext hr1.live) hr2 i
      cases z : itemAt it i h2 with
      | none => simp only [z] at q2; exact q2.elim
      | some o =>
        cases o with
        | none =>
          simp only [z] at q2
          rw [z] at io
          refine .inl ⟨io, ?_⟩
          exact q2 _ _ (Grow.adopt hr2 g2 nA) (hr2.adoptG eA (mD L) nA2 fun ρ' x => ⟨L, eA, sA, dent_ext x ra⟩) _ (rp_cell.mpr ⟨A, rfl, rhoAdd_same⟩)
        | some d =>
          simp only [z] at q2
          rw [z] at io
          obtain ⟨go, step⟩ := io
          refine .inr ⟨go, fun H' => ∃ ρ2 h2 acc L, k + (i + 1) = n ∧ Grow ρ1 ρ2 H1 H' ∧ HR (kwOf X) ρ2 H' h2 ∧ (∀ k, ρ2 k ≠ some A) ∧ H' A = some (DN X.w L A) ∧ Paired (DEnt (kwOf X) ρ2 H') acc L ∧
            Post (kwOf X) T (at_ W σ) ρ1 H1 ((dcLoop it dg ft fk fv (wipeD s vs) k (i + 1) acc h2).bind mkD) fun d _ ρ' H' => ∀ v, Rp (kwOf X) ρ' H' d v → Q v H', fun H' hN => ⟨k, Nat.lt_succ_self k, hN⟩, fun x H3 y => ?_⟩
          obtain ⟨ρ3, g3, hr3, rx⟩ := step x H3 y
          obtain ⟨eA3, nA3⟩ := g3.accG eA nA2
          have g13 := g2.trans hr2.live g3
          have st3 := st1.grow hr1.live g13
          refine ⟨ρ3, wipeD s vs, h2, d, st3, hr3, rx, ?_⟩
          cases z2 : dg d (wipeD s vs) h2 with
          | none => simp only [z2] at q2; exact q2.elim
          | some pr =>
            simp only [z2] at q2
            intro ρ4 H4 σ4 g4 hr4 st4 o4
            refine ⟨by rw [o4 vs hv]; exact wipe_self σ vs vs fun _ hi => hi, ?_⟩
            obtain ⟨eA4, nA4⟩ := g4.accG eA3 nA3
            have g14 := g13.trans hr3.live g4
            have ra4 := dent_ext ((g3.ext hr2.live).trans (g4.ext hr3.live)) ra
            refine ⟨ρ4, pr.1, pr.2, st4, hr4, ?_⟩
            cases z3 : ft pr.1 pr.2 with
            | no => rw [z3] at q2; exact q2.elim
            | ex e h5 => rw [z3] at q2; exact q2.elim
            | ok b h5 =>
              rw [z3] at q2
              intro ρ5 H5 g5 hr5
              obtain ⟨eA5, nA5⟩ := g5.accG eA4 nA4
              have g15 := g14.trans hr4.live g5
              have ra5 := dent_ext (g5.ext hr4.live) ra4
              cases b with
              | false =>
                rw [if_neg (by decide)]
                exact ⟨ρ5, h5, acc, L, by omega, g15, hr5, nA5, eA5, ra5, q2⟩
              | true =>
                rw [if_pos rfl]
                have st5 := st4.grow hr4.live g5
                refine ⟨ρ5, pr.1, h5, st5, hr5, ?_⟩
                have q3 : Post (kwOf X) T (at_ W σ) ρ1 H1 (((noX (fk pr.1 h5)).bind fun kd h4 => (noX (fv pr.1 h4)).bind fun vd h5 => withS (keyD kd) fun nk => chk (Nat.ble acc.length lim) (dcLoop it dg ft fk fv (wipeD s vs) k (i + 1) (stoD nk kd vd acc) h5)).bind mkD) fun d _ ρ' H' => ∀ v, Rp (kwOf X) ρ' H' d v → Q v H' := q2
                cases z4 : fk pr.1 h5 with
                | no => rw [z4] at q3; exact q3.elim
                | ex e h6 => rw [z4] at q3; exact q3.elim
                | ok kd h6 =>
                  rw [z4] at q3
                  intro ρ6 H6 g6 hr6 yv ry
                  obtain ⟨eA6, nA6⟩ := g6.accG eA5 nA5
                  have g16 := g15.trans hr5.live g6
                  refine ⟨ρ6, pr.1, h6, st5.grow hr5.live g6, hr6, ?_⟩
                  have q4 : Post (kwOf X) T (at_ W σ) ρ1 H1 (((noX (fv pr.1 h6)).bind fun vd h5 => withS (keyD kd) fun nk => chk (Nat.ble acc.length lim) (dcLoop it dg ft fk fv (wipeD s vs) k (i + 1) (stoD nk kd vd acc) h5)).bind mkD) fun d _ ρ' H' => ∀ v, Rp (kwOf X) ρ' H' d v → Q v H' := q3
                  cases z5 : fv pr.1 h6 with
                  | no => rw [z5] at q4; exact q4.elim
                  | ex e h7 => rw [z5] at q4; exact q4.elim
                  | ok vd h7 =>
                    rw [z5] at q4
                    intro ρ7 H7 g7 hr7 zv rz
                    obtain ⟨eA7, nA7⟩ := g7.accG eA6 nA6
                    have g17 := g16.trans hr6.live g7
                    have ra7 := dent_ext ((g6.ext hr5.live).trans (g7.ext hr6.live)) ra5
                    have rk7 := Rp.grow hr6.live g7 kd ry
                    have q5 : Post (kwOf X) T (at_ W σ) ρ1 H1 ((withS (keyD kd) fun nk => chk (Nat.ble acc.length lim) (dcLoop it dg ft fk fv (wipeD s vs) k (i + 1) (stoD nk kd vd acc) h7)).bind mkD) fun d _ ρ' H' => ∀ v, Rp (kwOf X) ρ' H' d v → Q v H' := q4
                    rw [withS_bind] at q5
                    obtain ⟨nk, ek, q5⟩ := q5.withS
                    rw [chk_bind] at q5
                    obtain ⟨c, q5⟩ := q5.chk
                    obtain ⟨k1, k2, b, rfl⟩ := keyD_ok ry ek
                    refine ⟨ρ7, b, L, acc, nk, kd, rfl, ⟨eA7, sA, ra7, k1, k2, rk7⟩, Nat.le_of_ble_eq_true c, ?_⟩
                    have xx := ext_updG (K := kwOf X) (ρ := ρ7) (o := DN X.w (stoV nk b zv L) A) eA7 (mD L)
                    exact ⟨ρ7, h7, stoD nk kd vd acc, stoV nk b zv L, by omega, g17.updL nA, hr7.updG eA7 (mD L) nA7, nA7, upd_same, dent_ext xx (stoD_ok k1 k2 rk7 rz ra7), q5⟩
variable {scope : Scope} {own : List (Str × Nat)} {pos : Pos}
theorem se_dcN {lv : Nat} (n : Nat) (rm : Room lv X.A) (hc : X.calm = true) (hN : X.N.Nodup) (hi : SI X T W tg iter fi) (ok : BlkOk X.N X.env.scope scope own) (hv : ∀ i ∈ ws, i ∈ own.map (·.2))
    (hg : ∀ (s : Shared) (H : Hp) (C : Addr) (cl : List (Str × Addr)) (fp : List Addr), SG (X.blk s H scope (compEnvC scope cl C X.env) fp) tg ws dg) (ht : ∀ (s : Shared) (H : Hp) (C : Addr) (cl : List (Str × Addr)) (fp : List Addr), STs (X.blk s H scope (compEnvC scope cl C X.env) fp) T W0 ifs ft)
    (hk : ∀ (s : Shared) (H : Hp) (C : Addr) (cl : List (Str × Addr)) (fp : List Addr), SE (X.blk s H scope (compEnvC scope cl C X.env) fp) T W0 kx fk) (he : ∀ (s : Shared) (H : Hp) (C : Addr) (cl : List (Str × Addr)) (fp : List Addr), SE (X.blk s H scope (compEnvC scope cl C X.env) fp) T W0 vx fv)
    (hs : ∀ x, foldedSetIterable iter X.env x = pure x := by intro _; rfl) :
    SE X T W (.DictComp kx vx [⟨tg, iter, ifs, 0⟩] scope pos) (dDc fi dg ft fk fv (own.map (·.2)) n) :=
  ⟨PE.imp (pe_dcN rm hc hN hi.p ok (fun s H C cl fp => (hg s H C cl fp).p) (fun s H C cl fp => (ht s H C cl fp).p) (fun s H C cl fp => (hk s H C cl fp).p) (fun s H C cl fp => (he s H C cl fp).p) hs) (dc_imp n hv)⟩
theorem s_setDcN {lv : Nat} (n : Nat) {i : Nat} {y : Str} {py spos : Pos} (rm : Room lv X.A) (hc : X.calm = true) (hN : X.N.Nodup) (hy : X.N[i]? = some y) (hyl : X.env.scope.names.lookup y = some .local)
    (hsw : swapsWith (.DictComp kx vx [⟨tg, iter, ifs, 0⟩] scope pos) (some (.Name y py)) spos.line X.env = pure true) (hi : SI X T W tg iter fi) (ok : BlkOk X.N X.env.scope scope own) (hv : ∀ i ∈ ws, i ∈ own.map (·.2))
    (hg : ∀ (s : Shared) (H : Hp) (C : Addr) (cl : List (Str × Addr)) (fp : List Addr), SG (X.blk s H scope (compEnvC scope cl C X.env) fp) tg ws dg) (ht : ∀ (s : Shared) (H : Hp) (C : Addr) (cl : List (Str × Addr)) (fp : List Addr), STs (X.blk s H scope (compEnvC scope cl C X.env) fp) T W0 ifs ft)
    (hk : ∀ (s : Shared) (H : Hp) (C : Addr) (cl : List (Str × Addr)) (fp : List Addr), SE (X.blk s H scope (compEnvC scope cl C X.env) fp) T W0 kx fk) (he : ∀ (s : Shared) (H : Hp) (C : Addr) (cl : List (Str × Addr)) (fp : List Addr), SE (X.blk s H scope (compEnvC scope cl C X.env) fp) T W0 vx fv)
    (hs : ∀ x, foldedSetIterable iter X.env x = pure x := by intro _; rfl) :
    SS X T W (.Assign [.Name y py] (.DictComp kx vx [⟨tg, iter, ifs, 0⟩] scope pos) spos) (gAsg (dDc fi dg ft fk fv (own.map (·.2)) n) (gN i)) :=
  ⟨PS.imp (ps_setDcN rm hc hN hy hyl hsw hi.p ok (fun s H C cl fp => (hg s H C cl fp).p) (fun s H C cl fp => (ht s H C cl fp).p) (fun s H C cl fp => (hk s H C cl fp).p) (fun s H C cl fp => (he s H C cl fp).p) hs) fun D σ H ⟨ρ, s, h, st, hr, q⟩ =>
    dc_imp n hv σ H _ (tD_bindS st hr q fun d h1 ρ1 H1 v g1 hr1 st1 r1 q1 => q1 ρ1 H1 _ (Grow.refl _ _) hr1 (st1.set r1))⟩
end
end Nc
namespace Nc
open PySem PySem.Spec PySem.W PyProof.Rows L2
/-! ## sorted, of a list of data; the first item may be an empty tuple -/
theorem call_tuple_lt {A : Around} {s : Shared} {prog : Program} {w : World} {E Q : Value → Shared → Prop} {l b : Addr} {items items2 : Array Value} {e r : Nat → Bool} (hl : s.heap.IsTuple l items) (hb : s.heap.IsTuple b items2)
    (he : ∀ (j : Nat) (h1 : j < items.size) (h2 : j < items2.size), SeqAt.EqAt A.in1 s items[j] items2[j] (e j)) (hr : ∀ (j : Nat) (h1 : j < items.size) (h2 : j < items2.size), e j = false → SeqAt.RcLt A.in1 s items[j] items2[j] (r j))
    (h : Q (Value.bool (SeqAt.firstLt e r (decide (items.size < items2.size)) (List.range (min items.size items2.size)))) s) : wpAny (model prog w) A (call (Value.builtin "tuple.__lt__") [Value.ref l, Value.ref b]) Q E s := by
  obtain ⟨⟨cls, dd, data, sl⟩, ho, hc, n, hd⟩ := hl
  obtain ⟨⟨cls2, dd2, data2, sl2⟩, ho2, hc2, n2, hd2⟩ := hb
  cases hc; cases hd; cases hc2; cases hd2
  exact call_meets F.slot_tuple_lt ⟨_, ho, rfl⟩ F.entry_tuple_lt (F.args_tuple_lt_2 _ _) (SeqAt.tuple_ltAt l b items items2 n n2 dd dd2 sl sl2 e r) ⟨ho, ho2, he, hr, h⟩
theorem truth_bool {M : Model} {A : Around} {E : Value → Shared → Prop} {s : Shared} {b : Bool} {Q : Bool → Shared → Prop} (h : Q b s) : wpAny M A (truthOfDropped (.bool b)) Q E s := wpAny_truthy_bool h
theorem oneLt_tups {prog : Program} {w : World} {A : Around} {E : Value → Shared → Prop} {s : Shared} {xs ys : List PyData} {a b : Value} {as bs : List Addr} {Q : Bool → Shared → Prop} (ra : Reads s.heap a (.tuple xs) as) (rb : Reads s.heap b (.tuple ys) bs) (hal : alike (.tuple xs) (.tuple ys) = true)
    (hu : A.units + min (PyData.depth (.tuple xs)) (PyData.depth (.tuple ys)) < cLine) (h : Q (dataLt (.tuple xs) (.tuple ys)) s) : wpAny (model prog w) A (oneLt' true a b) Q E s := by
  rw [oneLt'_eq]
  cases ra with
  | tuple ho hc hd hi =>
    cases rb with
    | tuple ho2 hc2 hd2 hi2 =>
      rename_i l o vs n l2 o2 vs2 n2
      have hall : alikeAll xs ys = true := hal
      have hu' : A.units + 1 + min (PyData.depthAll xs) (PyData.depthAll ys) < cLine := SeqAt.room_in hu
      simp only [if_true]
      refine wpAny_bind (wpAny_cRoomFor (SeqAt.room_here hu) ?_)
      refine wpAny_bind (wpAny_callSpecialIfBound?_slot ⟨o, ho, hc⟩ F.slot_tuple_lt ?_)
      have l1 := SeqAt.ReadsAll.length xs _ _ hi
      have l2 := SeqAt.ReadsAll.length ys _ _ hi2
      refine call_tuple_lt (e := SeqAt.pairEq xs ys) (r := fun j => dataLt (xs.getD j PyData.none) (ys.getD j PyData.none)) ⟨o, ho, hc, n, hd⟩ ⟨o2, ho2, hc2, n2, hd2⟩ (fun j h1 h2 => eqAt_alikeAll xs ys A.in1 s _ _ _ _ hi hi2 hall hu' j h1 h2) (fun j h1 h2 e => rcLt_alikeAll xs ys A.in1 s _ _ _ _ hi hi2 hall hu' j h1 h2 e) ?_
      have : SeqAt.firstLt (SeqAt.pairEq xs ys) (fun j => dataLt (xs.getD j PyData.none) (ys.getD j PyData.none)) (decide (vs.size < vs2.size)) (List.range (min vs.size vs2.size)) = dataLt (.tuple xs) (.tuple ys) := by
        rw [dataLt_tuple, ← firstLt_toks xs ys hall]
        rw [Array.length_toList] at l1 l2
        rw [l1, l2]
      rw [this]
      exact truth_bool h
def isTupP : PyData → Bool
  | .tuple _ => true
  | _ => false
theorem kind_tup0 {M : Model} {A : Around} {E : Value → Shared → Prop} {s : Shared} {v : Value} {vs : List Value} {as : List Addr} {Q : SortKind → Shared → Prop} (r0 : Reads s.heap v (.tuple []) as) (hT : ∀ u ∈ v :: vs, ∃ d as, Reads s.heap u d as ∧ isTupP d = true) (h : Q oneType' s) : wpAny M A (keyKind' (v :: vs).toArray) Q E s := by
  have hT' : ∀ u ∈ v :: vs, Looks M s.heap (typeOf u) (Value.type "tuple") := fun u hu => by
    obtain ⟨d, as, r, e⟩ := hT u hu
    cases d with
    | tuple xs => exact looks_reads r
    | _ => cases e
  have one : ∀ (u : Value) (xs : List PyData) (as' : List Addr) (Q' : Option Value → Shared → Prop), Reads s.heap u (.tuple xs) as' → (∀ f, (xs = [] → f = none) → Q' f s) → wpAny M A (firstOfTuple' u) Q' E s := by
    intro u xs as' Q' r q
    have lk : Looks M s.heap (typeOf u) (Value.type "tuple") := looks_reads r
    rw [kas_first_eq]
    refine wpAny_bind (lk.here ?_)
    rw [if_neg (by decide)]
    cases r with
    | tuple ho hc hd hi =>
      refine wpAny_bind (listItems_at ho hd (wpAny_pure (q _ fun e => ?_)))
      subst e
      have l := SeqAt.ReadsAll.length _ _ _ hi
      rw [← Array.getElem?_toList, List.getElem?_eq_none_iff, l]
      exact Nat.le_refl 0
  have firsts : ∀ (l : List Value) (Q' : List (Option Value) → Shared → Prop), (∀ u ∈ l, ∃ d as, Reads s.heap u d as ∧ isTupP d = true) → (∀ fs, Q' fs s) → wpAny M A (List.mapM firstOfTuple' l) Q' E s := by
    intro l
    induction l with
    | nil => intro Q' _ q; rw [List.mapM_nil]; exact wpAny_pure (q [])
    | cons u l ih =>
      intro Q' hl q
      rw [List.mapM_cons]
      obtain ⟨d, as', r, e⟩ := hl u List.mem_cons_self
      cases d with
      | tuple xs => exact wpAny_bind (one u xs as' _ r fun f _ => wpAny_bind (ih _ (fun x hx => hl x (List.mem_cons_of_mem _ hx)) fun fs => wpAny_pure (q _)))
      | _ => cases e
  rw [keyKind'_eq, List.mapM_toArray, map_eq_pure_bind]
  refine wpAny_bind (wpAny_bind ?_)
  rw [List.mapM_cons]
  refine wpAny_bind (one v [] as _ r0 fun f hf => wpAny_bind (firsts vs _ (fun x hx => hT x (List.mem_cons_of_mem _ hx)) fun fs => wpAny_pure (wpAny_pure ?_)))
  have hf := hf rfl
  subst hf
  rw [if_neg (by simp), if_neg (by simp), oneTypeOnly'_eq, List.mapM_toArray, map_eq_pure_bind]
  refine wpAny_bind (wpAny_bind (wpAny_bind (kas_mapM (v :: vs) (r := Value.type "tuple") (fun u hu Q' hq => (hT' u hu).here hq) (wpAny_pure ?_))))
  simp only [List.map_cons, List.getElem?_toArray, List.getElem?_cons_zero]
  refine wpAny_pure (wpAny_pure ?_)
  rw [if_pos (by simp)]
  exact h
/-- tuples, the first one empty -/
def Tup0 : List PyData → Prop
  | .tuple [] :: r => ∀ d ∈ r, isTupP d = true
  | _ => False
theorem sortsAt_tup0 {prog : Program} {w : World} {A : Around} {s : Shared} {vs : List Value} {ds : List PyData} (e : EachIs (fun v d => ∃ as, Reads s.heap v d as) vs ds) (hal : AllAlike ds) (hk : Tup0 ds) (hu : ∀ d ∈ ds, A.units + d.depth < cLine) : SortsAt prog w A s (dataKind s.heap ds) vs := by
  have tups : ∀ d ∈ ds, isTupP d = true := fun d hd => by
    match ds, hk, hd with
    | .tuple [] :: r, hk, hd =>
      rcases List.mem_cons.mp hd with z | z
      · subst z; rfl
      · exact hk d z
  refine ⟨fun v hv => ?_, oneType', fun E x y a b Q ha hb q => ?_, fun _ E Q q => ?_⟩
  · obtain ⟨d, hd, as, r⟩ := e.left v hv
    exact ⟨_, dataKind_some hal hd r⟩
  · obtain ⟨d, as, hd, r, e1⟩ := dataKind_inv ha
    obtain ⟨d', as', hd', r', e2⟩ := dataKind_inv hb
    rw [keyLt'_oneType]
    have t1 := tups d hd
    have t2 := tups d' hd'
    cases d with
    | tuple xs =>
      cases d' with
      | tuple ys =>
        refine oneLt_tups r r' (hal _ hd _ hd') (Nat.lt_of_le_of_lt (Nat.add_le_add_left (Nat.min_le_left _ _) _) (hu _ hd)) ?_
        subst e1; subst e2
        exact q
      | _ => cases t2
    | _ => cases t1
  · match ds, hk, vs, e with
    | .tuple [] :: r, hk, v :: vs, .cons ⟨as, r0⟩ er =>
      refine kind_tup0 r0 (fun u hu => ?_) q
      rcases List.mem_cons.mp hu with z | z
      · subst z; exact ⟨_, as, r0, rfl⟩
      · obtain ⟨d, hd, as', r'⟩ := er.left u z
        exact ⟨d, as', r', hk d hd⟩
theorem sorted_tup0 {prog : Program} {w : World} {A : Around} {E : Value → Shared → Prop} {s : Shared} {β : Type} {vs : List Value} {bs : List β} {enc : β → PyData} {R : Value → β → Prop} {l : Addr} {Q : Value → Shared → Prop} (hl : s.heap.IsList l vs.toArray) (e : EachIs R vs bs) (er : EachIs (fun v b => ∃ as, Reads s.heap v (enc b) as) vs bs)
    (hal : AllAlike (bs.map enc)) (hk : Tup0 (bs.map enc)) (hL : bs.length ≤ sizeLine) (hu : ∀ b ∈ bs, A.units + 2 + (enc b).depth < cLine)
    (h : ∀ out : List Value, out.length = bs.length → EachIs R out (bs.mergeSort (dataLe false enc)) → Q (Value.ref (s.heap.objs.size + 1)) { heap := sortedAll s.heap vs out.toArray, gens := s.gens, drawn := s.drawn, toks := s.toks, os := s.os }) :
    wpAny (model prog w) A (call (Value.builtin "sorted") [Value.ref l]) Q E s := by
  have er' : EachIs (fun v b => ∃ as, Reads (sortingHeap (copyHeap s.heap vs) (s.heap.objs.size + 1) vs) v (enc b) as) vs bs := er.mono fun x y z => by
    obtain ⟨as, r⟩ := z
    exact ⟨as, Reads.keeps (fun _ _ => sorting_copy_old) r⟩
  refine sorted_vals hl (sortsAt_tup0 (each_map enc er') hal hk (bound_map hu)) (by rw [e.length]; exact hL) (h _ ?_ ?_)
  · rw [sortVals_length false rfl, e.length]
  · exact sortVals_data false e er' hal
/-! ### sorting by insertion: what the kernel reckons -/
def insS {α : Type} (le : α → α → Bool) (x : α) : List α → List α
  | [] => [x]
  | y :: r => match le x y with
    | true => x :: y :: r
    | false => y :: insS le x r
def sortS {α : Type} (le : α → α → Bool) : List α → List α
  | [] => []
  | x :: r => insS le x (sortS le r)
theorem mem_insS {α : Type} {le : α → α → Bool} {x y : α} : ∀ {l : List α}, y ∈ insS le x l → y = x ∨ y ∈ l
  | [], h => by simp [insS] at h; exact .inl h
  | z :: r, h => by
    unfold insS at h
    cases c : le x z with
    | true => simp only [c] at h; exact List.mem_cons.mp h
    | false =>
      simp only [c] at h
      rcases List.mem_cons.mp h with q | q
      · exact .inr (q ▸ List.mem_cons_self)
      · rcases mem_insS q with q | q
        · exact .inl q
        · exact .inr (List.mem_cons_of_mem _ q)
theorem insS_sorted {α : Type} {le : α → α → Bool} (T : TotalLe le) (x : α) : ∀ {l : List α}, l.Pairwise (fun a b => le a b = true) → (insS le x l).Pairwise fun a b => le a b = true
  | [], _ => by simp [insS]
  | y :: r, p => by
    rw [List.pairwise_cons] at p
    unfold insS
    cases c : le x y with
    | true =>
      simp only [List.pairwise_cons]
      refine ⟨fun b hb => ?_, p.1, p.2⟩
      rcases List.mem_cons.mp hb with q | q
      · subst q; exact c
      · exact T.trans _ _ _ c (p.1 b q)
    | false =>
      simp only [List.pairwise_cons]
      refine ⟨fun b hb => ?_, insS_sorted T x p.2⟩
      rcases mem_insS hb with q | q
      · subst q
        rcases T.total b y with z | z
        · rw [c] at z; cases z
        · exact z
      · exact p.1 b q
theorem insS_filter {α : Type} {le : α → α → Bool} (T : TotalLe le) (x c : α) : ∀ {l : List α}, (insS le x l).filter (sameRank le c) = (x :: l).filter (sameRank le c)
  | [] => rfl
  | y :: r => by
    unfold insS
    cases d : le x y with
    | true => rfl
    | false =>
      simp only []
      rw [List.filter_cons, insS_filter T x c, List.filter_cons, List.filter_cons, List.filter_cons]
      cases e : sameRank le c x with
      | false => simp
      | true =>
        have : sameRank le c y = false := by
          cases f : sameRank le c y
          · rfl
          · unfold sameRank at e f
            simp only [Bool.and_eq_true] at e f
            have := T.trans _ _ _ e.2 f.1
            rw [d] at this; cases this
        simp [this]
theorem sortS_eq {α : Type} {le : α → α → Bool} (T : TotalLe le) (l : List α) : sortS le l = l.mergeSort le := by
  apply sort_unique T
  · induction l with
    | nil => exact .nil
    | cons x r ih => exact insS_sorted T x ih
  · intro c
    induction l with
    | nil => rfl
    | cons x r ih =>
      show (insS le x (sortS le r)).filter _ = _
      rw [insS_filter T, List.filter_cons, List.filter_cons, ih]
end Nc
namespace Nc
open PySem PySem.Spec PySem.W PyProof.Rows L2
abbrev leP {α : Type} : α × PyData → α × PyData → Bool := dataLe false Prod.snd
theorem leP_total {α : Type} : TotalLe (leP (α := α)) := sortLe_total _ _ _
/-! what may be sorted -/
def isIntP : PyData → Bool
  | .int _ => true
  | _ => false
def intRow : PyData → Bool
  | .tuple xs => xs.all isIntP
  | _ => false
def alikeB (ps : List PyData) : Bool := ps.all intRow || ps.all fun p => ps.all fun q => alike p q
def fullTup : PyData → Bool
  | .tuple (_ :: _) => true
  | _ => false
def flatP : PyData → Bool
  | .none => false
  | .tuple _ => false
  | _ => true
def tup0B : List PyData → Bool
  | .tuple [] :: r => r.all isTupP
  | _ => false
def sortOk (ps : List PyData) : Bool := alikeB ps && ((tup0B ps || ps.all fullTup) || ps.all flatP) && ps.all fun p => Nat.ble p.depth 12
structure SortP (ps : List PyData) : Prop where
  al : AllAlike ps
  kind : Tup0 ps ∨ Sortable ps
  dep : ∀ p ∈ ps, p.depth ≤ 12
theorem ints_of : ∀ {xs : List PyData}, xs.all isIntP = true → ∃ is : List Int, xs = is.map PyData.int
  | [], _ => ⟨[], rfl⟩
  | x :: xs, h => by
    rw [List.all_cons, Bool.and_eq_true] at h
    obtain ⟨is, rfl⟩ := ints_of h.2
    cases x with
    | int i => exact ⟨i :: is, rfl⟩
    | _ => cases h.1
theorem sortOk_ok {ps : List PyData} (h : sortOk ps = true) : SortP ps := by
  unfold sortOk at h
  simp only [Bool.and_eq_true, Bool.or_eq_true, List.all_eq_true] at h
  obtain ⟨⟨h1, h2⟩, h3⟩ := h
  refine ⟨?_, ?_, fun p hp => Nat.le_of_ble_eq_true (h3 p hp)⟩
  · unfold alikeB at h1
    simp only [Bool.or_eq_true, List.all_eq_true] at h1
    intro p hp q hq
    rcases h1 with h1 | h1
    · have a := h1 p hp
      have b := h1 q hq
      cases p with
      | tuple xs =>
        cases q with
        | tuple ys =>
          obtain ⟨is, rfl⟩ := ints_of a
          obtain ⟨js, rfl⟩ := ints_of b
          exact alike_ints is js
        | _ => cases b
      | _ => cases a
    · exact h1 p hp q hq
  · rcases h2 with (h2 | h2) | h2
    · left
      match ps, h2 with
      | .tuple [] :: r, h2 =>
        show ∀ d ∈ r, isTupP d = true
        unfold tup0B at h2
        rwa [List.all_eq_true] at h2
    · right; left
      intro d hd
      have := h2 d hd
      match d, this with
      | .tuple (x :: r), _ => exact ⟨x, r, rfl⟩
    · right; right
      intro d hd
      have := h2 d hd
      refine ⟨fun e => ?_, fun xs e => ?_⟩ <;> subst e <;> cases this
/-! the rule by values -/
def rSortP (K : PySem.W.Frag) (vs : List V) (H : Hp) (Q : VK) : Prop := ∃ a xs ps, vs = [V.ref a] ∧ SqL K H a xs ∧ DpAll K H xs ps ∧ SortP ps ∧ ∀ p, H p = none → Q (.ref p) (upd H p (.lst ((sortS leP (xs.zip ps)).map Prod.fst)))
theorem vals_len {vs : List V} {us : List Value} (r : Vals vs us) : vs.length = us.length := r.length
theorem dpAll_len {K : PySem.W.Frag} {H : Hp} : ∀ {xs : List V} {ps : List PyData}, DpAll K H xs ps → xs.length = ps.length
  | _, _, .nil => rfl
  | _, _, .cons _ t => by simp [dpAll_len t]
theorem each_vals {X : Cx} {pins : List (Addr × Obj)} {σ : L2.St} {H : Hp} {s : Shared} (I : Inv X pins σ H s) : ∀ {xs : List V} {us : List Value} {ps : List PyData}, Vals xs us → DpAll X.K H xs ps →
    EachIs (fun u (b : V × PyData) => RelV b.1 u) us (xs.zip ps) ∧ EachIs (fun u (b : V × PyData) => ∃ as, Reads s.heap u b.2 as) us (xs.zip ps)
  | _, _, _, .nil, .nil => ⟨.nil, .nil⟩
  | _, _, _, .cons r t, .cons d t' => by
    obtain ⟨e1, e2⟩ := each_vals I t t'
    exact ⟨.cons r e1, .cons (Dp.reads I _ _ _ d r) e2⟩
theorem vals_back : ∀ {us : List Value} {bs : List (V × PyData)}, EachIs (fun u (b : V × PyData) => RelV b.1 u) us bs → Vals (bs.map Prod.fst) us
  | _, _, .nil => .nil
  | _, _, .cons r t => .cons r (vals_back t)
theorem zip_snd {α : Type} : ∀ {xs : List α} {ps : List PyData}, xs.length = ps.length → (xs.zip ps).map Prod.snd = ps
  | [], [], _ => rfl
  | x :: xs, p :: ps, h => by
    simp only [List.zip_cons_cons, List.map_cons, zip_snd (xs := xs) (ps := ps) (by simpa using h)]
theorem insS_len {α : Type} (le : α → α → Bool) (x : α) : ∀ l : List α, (insS le x l).length = l.length + 1
  | [] => rfl
  | y :: r => by
    unfold insS
    cases le x y with
    | true => rfl
    | false => simp [insS_len le x r]
theorem sortS_len {α : Type} (le : α → α → Bool) : ∀ l : List α, (sortS le l).length = l.length
  | [] => rfl
  | x :: r => by show (insS le x (sortS le r)).length = _; rw [insS_len, sortS_len le r]; rfl
theorem cr_sortP {X : Cx} {k : Nat} (hr : Room k X.A) : CallR X (.builtin "sorted") (rSortP X.K) := fun pins s σ H vs us Q I r h => by
  obtain ⟨a, xs, ps, rfl, hs, hd, ok, q⟩ := h
  obtain ⟨its, rv, hl, hz⟩ := I.list hs
  rw [Vals.ref1 r]
  have lz : xs.length = ps.length := dpAll_len hd
  obtain ⟨e1, e2⟩ := each_vals I rv hd
  have es := zip_snd lz
  have hu : ∀ b ∈ xs.zip ps, X.A.units + 2 + b.2.depth < cLine := fun b hb => by
    have := ok.dep b.2 (by rw [← es]; exact List.mem_map.mpr ⟨b, hb, rfl⟩)
    have := hr.units
    omega
  have fin : ∀ out : List Value, out.length = (xs.zip ps).length → EachIs (fun u (b : V × PyData) => RelV b.1 u) out ((xs.zip ps).mergeSort (dataLe false Prod.snd)) →
      EP X pins σ Q (Value.ref (s.heap.objs.size + 1)) { heap := sortedAll s.heap its out.toArray, gens := s.gens, drawn := s.drawn, toks := s.toks, os := s.os } := fun out hlen eo => by
    rw [← sortS_eq leP_total] at eo
    have vb := vals_back eo
    obtain ⟨ep, he⟩ := sortedAll_at s.heap its out.toArray
    refine ⟨.ref (s.heap.objs.size + 1), upd H (s.heap.objs.size + 1) (.lst ((sortS leP (xs.zip ps)).map Prod.fst)), I.laid (fun b u e => sortedAll_old e) (Nat.le_succ _) ⟨?_, out, ep, vb, he⟩, rfl, q _ (HOk.fresh I.hok (Nat.le_succ _))⟩
    rw [List.length_map, sortS_len, List.length_zip, ← lz, Nat.min_self]; exact hz
  have hL : (xs.zip ps).length ≤ sizeLine := by rw [List.length_zip, ← lz, Nat.min_self]; exact hz
  rcases ok.kind with kd | kd
  · exact sorted_tup0 (enc := Prod.snd) hl.isList e1 e2 (by rw [es]; exact ok.al) (by rw [es]; exact kd) hL hu fin
  · exact sorted_data (enc := Prod.snd) hl.isList e1 e2 (by rw [es]; exact ok.al) (by rw [es]; exact kd) hL hu fin
/-! by data -/
section
variable {K : KW} {ρ : Rho} {H : Hp}
def Both (K : KW) (ρ : Rho) (H : Hp) (a : D × PyData) (b : V × PyData) : Prop := a.2 = b.2 ∧ Rp K ρ H a.1 b.1
theorem insS_both {a : D × PyData} {b : V × PyData} (h : Both K ρ H a b) : ∀ {l : List (D × PyData)} {m : List (V × PyData)}, Paired (Both K ρ H) l m → Paired (Both K ρ H) (insS leP a l) (insS leP b m)
  | _, _, .nil => .cons h .nil
  | x :: l, y :: m, .cons r t => by
    have : leP a x = leP b y := by
      show dataLe false Prod.snd a x = dataLe false Prod.snd b y
      rw [dataLe_eq, dataLe_eq]
      simp only [h.1, r.1]
    unfold insS
    rw [this]
    cases leP b y with
    | true => exact .cons h (.cons r t)
    | false => exact .cons r (insS_both h t)
theorem sortS_both : ∀ {l : List (D × PyData)} {m : List (V × PyData)}, Paired (Both K ρ H) l m → Paired (Both K ρ H) (sortS leP l) (sortS leP m)
  | _, _, .nil => .nil
  | _, _, .cons r t => insS_both r (sortS_both t)
theorem both_zip : ∀ {ds : List D} {vs : List V} (ps : List PyData), Rps K ρ H ds vs → Paired (Both K ρ H) (ds.zip ps) (vs.zip ps)
  | [], _, ps, r => by rw [Rps.nil_iff.mp r]; cases ps <;> exact .nil
  | d :: ds, _, [], r => by
    obtain ⟨x, t, rfl, _, _⟩ := Rps.cons_iff.mp r
    exact .nil
  | d :: ds, _, p :: ps, r => by
    obtain ⟨x, t, rfl, r1, r2⟩ := Rps.cons_iff.mp r
    exact .cons ⟨rfl, r1⟩ (both_zip ps r2)
theorem both_rps : ∀ {l : List (D × PyData)} {m : List (V × PyData)}, Paired (Both K ρ H) l m → Rps K ρ H (l.map Prod.fst) (m.map Prod.fst)
  | _, _, .nil => Rps.nil_iff.mpr rfl
  | _, _, .cons r t => Rps.cons r.2 (both_rps t)
end
def sortD (es : List D) (ps : List PyData) : List D := (sortS leP (es.zip ps)).map Prod.fst
def oSorted : List D → AH → R D := fun ds h => withS (arg1 ds) fun d => match d with
  | .cell n => withS (lstAt n h) fun es => withS (pds (toPD h 12) es) fun ps => chk (sortOk ps) (mkL (sortD es ps) h)
  | _ => .no
theorem oc_sorted {K : KW} {T : XT} : OC K T (rSortP K.k) oSorted := fun E ρ H h ds vs Q hr r p => by
  obtain ⟨d, e1, p⟩ := Post.withS p
  obtain ⟨v, rfl, rv⟩ := arg1_ok r e1
  cases d with
  | cell n =>
    obtain ⟨es, e2, p⟩ := Post.withS (k := fun es => withS (pds (toPD h 12) es) fun ps => chk (sortOk ps) (mkL (sortD es ps) h)) p
    obtain ⟨ps, e3, p⟩ := p.withS
    obtain ⟨c, p⟩ := p.chk
    obtain ⟨a, rfl, e4⟩ := rp_cell.mp rv
    obtain ⟨b, xs, f1, f2, re, _⟩ := lstAt_ok hr e2
    rw [e4] at f1; cases f1
    refine ⟨a, xs, ps, rfl, .inl (.inl f2), pds_ok (fun d p v => toPD_ok hr 12 d p v) e3 re, sortOk_ok c, ?_⟩
    exact (mkL_ok hr (both_rps (sortS_both (both_zip ps re))) p).2
  | _ => exact p.elim
end Nc
namespace Nc
open PySem PySem.Spec PySem.W PyProof.Rows L2
/-! ## list(o.values()), the keys tuples -/
def tListVals (X : Cx) (td : TE) : TE := fun σ H Q => td σ H fun x H1 => ∃ ρ a L kvs, x = .ref a ∧ H1 a = some (DN X.w L a) ∧ (a == sysModules) = false ∧ Paired (DEnt (kwOf X) ρ H1) kvs L ∧ L.length ≤ lim ∧ ∀ p, H1 p = none → Q (.ref p) (upd H1 p (.lst (L.map fun q => q.2.2)))
theorem vals_items {xs : List (NestedKey × Addr × Value)} {es : Array DictEntry} {acc : Array Value} : ∀ {L : List (NestedKey × Addr × V)}, Paired EntV L xs → es.size = xs.length → (∀ (i : Nat) (hi : i < es.size), ∃ y, xs[i]? = some y ∧ es[i].val = y.2.2) →
    acc.size = es.size → (∀ (j : Nat) (v : Value), acc[j]? = some v → ∃ hi, v = (es[j]'hi).val) → Vals (L.map fun q => q.2.2) acc.toList := by
  intro L r hs he ha hv
  have key : acc.toList = xs.map fun x => x.2.2 := by
    apply List.ext_getElem?
    intro i
    rw [Array.getElem?_toList]
    by_cases h : i < es.size
    · obtain ⟨y, e1, e2⟩ := he i h
      have hi : i < acc.size := by omega
      obtain ⟨hi', e3⟩ := hv i acc[i] (Array.getElem?_eq_getElem hi)
      rw [List.getElem?_map, e1, Array.getElem?_eq_getElem hi, e3, e2]; rfl
    · rw [List.getElem?_map, List.getElem?_eq_none (by omega), Array.getElem?_eq_none (by omega)]; rfl
  rw [key]
  clear key ha hv he hs
  induction r with
  | nil => exact .nil
  | cons q t ih => exact .cons q.2.2 ih
variable {X : Cx}
theorem pe_listVals {o : Expr} {p pos apos mpos : Pos} {td : TE} (hc : X.calm = true) (hg : Gl X ("list" : Str)) (hm : X.mg ("list" : Str) = none) (hd : PE X o td) (hb : attributeBase o ("values" : Str) X.env (eval o X.env) = eval o X.env := by rfl) (hline : (apos.endLine == mpos.line) = true := by rfl)
    (hse : starEach [.Call (.Attribute o ("values" : Str) apos) [] [] mpos] X.env = [(false, eval (.Call (.Attribute o ("values" : Str) apos) [] [] mpos) X.env)] := by rfl) :
    PE X (.Call (.Name ("list" : Str) p) [.Call (.Attribute o ("values" : Str) apos) [] [] mpos] [] pos) (tListVals X td) := ⟨fun pins s σ H Q I h => by
  refine wpAny_Call_Name_kw (ld_blt (u := .type "list") I hg hm rfl ?_)
  rw [hse]
  refine PySem.callWith_type1 (wpAny_Call_method0_late hb hline (thn (hd.run pins s σ H _ I h) fun v s1 ⟨x, H1, I1, r1, ρ, a, L, kvs, ex, ha, hsys, ent, hl, q⟩ => ?_))
  subst ex; cases r1
  obtain ⟨xs, r, dd⟩ := dn_get I1 ha (keys_ok I1 ent)
  obtain ⟨es, ep, raw, hn, he⟩ := dd.raw
  obtain ⟨ob, ho, hex, hdat⟩ := id raw
  refine ⟨"dict", "dict.values", F.plainAttrs_dict, F.slot_dict_values, F.type_dict_values, ⟨ob, ho, hex.1⟩, ?_, ?_⟩
  · intro b e
    cases e
    exact ⟨ob, ho, hex.2.1⟩
  · refine Calls.callWith_builtin rfl (PySem.evalArgs_none (call_meetsIn F.slot_dict_values ⟨ob, ho, hex.1⟩ F.entry_dict_values (F.args_dict_values_1 (Value.ref a)) (meets_dict_values_raw a hsys) ⟨⟨es, ep, raw⟩, ?_⟩))
    have rawP : ∀ (u : Obj), (s1.heap.push u).DictRaw a es ep := fun u => ⟨ob, Heap.get?_push_of_some _ ho, hex, hdat⟩
    have view : (s1.heap.push { cls := Value.type "dict_values", data := Data.fields #[Value.ref a] }).IsValuesView s1.heap.objs.size a := ⟨_, Heap.get?_push_size _ rfl, rfl, rfl⟩
    have lL : L.length = xs.length := paired_len r
    have lz : es.size ≤ sizeLine := by
      have : lim ≤ sizeLine := by rw [sizeLine_eq]; decide
      omega
    refine kdl_call KdlSrc.rawValues (I1.ok.hd hc) ⟨view, rawP _⟩ lz fun h' tk acc' c' hk hl' hit => ?_
    have hsz : (s1.heap.push { cls := Value.type "dict_values", data := Data.fields #[Value.ref a] }).objs.size = s1.heap.objs.size + 1 := by simp [Heap.push]
    have vals := vals_items r hn (fun i hi => by
      obtain ⟨y, e1, _, e2, _⟩ := he i hi
      exact ⟨y, e1, e2⟩) hit.1 hit.2
    refine ⟨.ref (s1.heap.objs.size + 1), upd H1 (s1.heap.objs.size + 1) (.lst (L.map fun q => q.2.2)), ?_, ?_, q _ (HOk.fresh I1.hok (Nat.le_succ _))⟩
    · refine I1.laid (fun b u e => hk b u (Heap.get?_push_of_some _ e)) (Nat.le_succ _) ⟨?_, acc'.toList, c', vals, ?_⟩
      · rw [List.length_map, lL, ← hn]; exact lz
      · rw [← hsz, hl']
    · show _ = _
      rw [hsz]⟩
/-! by data -/
def valsD (kvs : List (NestedKey × D × D)) : List D := kvs.map fun q => q.2.2
def dVals (f : DE) : DE := fun s h => (f s h).bind fun d h1 => match d with
  | .cell n => withS (dctAt n h1) fun kvs => chk (Nat.ble kvs.length lim) (mkL (valsD kvs) h1)
  | _ => .no
theorem ent_vals {K : KW} {ρ : Rho} {H : Hp} : ∀ {kvs : List (NestedKey × D × D)} {L : List (NestedKey × Addr × V)}, Paired (DEnt K ρ H) kvs L → Rps K ρ H (valsD kvs) (L.map fun q => q.2.2)
  | _, _, .nil => Rps.nil_iff.mpr rfl
  | _, _, .cons r t => Rps.cons r.2.2.2.2 (ent_vals t)
variable {T : XT} {W : WX}
theorem se_listVals {o : Expr} {p pos apos mpos : Pos} {f : DE} (hc : X.calm = true) (hg : Gl X ("list" : Str)) (hm : X.mg ("list" : Str) = none) (hd : SE X T W o f) (hb : attributeBase o ("values" : Str) X.env (eval o X.env) = eval o X.env := by rfl) (hline : (apos.endLine == mpos.line) = true := by rfl)
    (hse : starEach [.Call (.Attribute o ("values" : Str) apos) [] [] mpos] X.env = [(false, eval (.Call (.Attribute o ("values" : Str) apos) [] [] mpos) X.env)] := by rfl) :
    SE X T W (.Call (.Name ("list" : Str) p) [.Call (.Attribute o ("values" : Str) apos) [] [] mpos] [] pos) (dVals f) :=
  ⟨PE.imp (pe_listVals hc hg hm hd.p hb hline hse) fun σ H Q ⟨ρ, s, h, st, hr, q⟩ => tD_bind st hr q fun d h1 ρ1 H1 v g1 hr1 st1 r1 q1 => by
    cases d with
    | cell n =>
      obtain ⟨kvs, e1, q2⟩ := Post.withS (k := fun kvs => chk (Nat.ble kvs.length lim) (mkL (valsD kvs) h1)) q1
      obtain ⟨c, q2⟩ := q2.chk
      obtain ⟨a, L, f1, f2, f3, f4, f5⟩ := dctAt_ok hr1 e1
      obtain ⟨b, rfl, f6⟩ := rp_cell.mp r1
      rw [f1] at f6; cases f6
      exact ⟨ρ1, a, L, kvs, rfl, f2, f3, f4, by rw [← paired_len f4]; exact Nat.le_of_ble_eq_true c, (mkL_ok hr1 (ent_vals f4) q2).2⟩
    | _ => exact q1.elim⟩
end Nc
namespace Nc
open PySem PySem.Spec PyProof.Rows L2
section
variable {X : Cx} {T : XT} {W : WX} {pos : Pos} {a b e : Expr} {f g : DE} {k : Nat}
theorem OpR.or {F : Value → Value → Sem Value} {r r' : R2} (h : OpR X F r) (h' : OpR X F r') : OpR X F (fun x y H Q => r x y H Q ∨ r' x y H Q) := fun pins s σ H x y v u Q I rx ry q => q.elim (h pins s σ H x y v u Q I rx ry) (h' pins s σ H x y v u Q I rx ry)
theorem u64 (hr : Room k X.A) : X.A.units + 64 < cLine := hr.units
theorem u0 (hr : Room k X.A) : X.A.units < cLine := by have := hr.units; omega
theorem u65 (hr : Room k X.A) : X.A.units + 65 < cLine := by have := hr.un; omega
/-! operators -/
theorem se_add (ha : SE X T W a f) (hb : SE X T W b g) : SE X T W (.BinOp a .Add b pos) (dOp dAdd f g) := se_op (OpR.or op_add (OpR.or op_cat op_catA)) o_add ha hb
theorem se_sb (ha : SE X T W a f) (hb : SE X T W b g) : SE X T W (.BinOp a .Sub b pos) (dOp dSub f g) := se_op op_sub o_sub ha hb
theorem se_mul (ha : SE X T W a f) (hb : SE X T W b g) : SE X T W (.BinOp a .Mult b pos) (dOp dMul f g) := se_op (OpR.or op_mul (OpR.or op_rep op_repT)) o_mul ha hb
section
variable {op : CmpOp} {r : R2} {o : D → D → AH → R D}
end
theorem se_lt (hr : Room k X.A) (ha : SE X T W a f) (hb : SE X T W b g) (hm : behindInMarks .Lt b = false := by rfl) : SE X T W (.Compare a [.Lt] [b] pos) (dOp dLt f g) := se_cmp (OpR.or op_lt (op_ltT (u0 hr))) o_lt ha hb hm
theorem st_lt (hr : Room k X.A) (ha : SE X T W a f) (hb : SE X T W b g) (hm : behindInMarks .Lt b = false := by rfl) : ST X T W (.Compare a [.Lt] [b] pos) (dTest (dOp dLt f g)) := st_cmp (OpR.or op_lt (op_ltT (u0 hr))) o_lt ha hb hm
def gtI (i j : Int) : Bool := decide (j < i)
def geI (i j : Int) : Bool := decide (j ≤ i)
theorem se_le (ha : SE X T W a f) (hb : SE X T W b g) (hm : behindInMarks .LtE b = false := by rfl) : SE X T W (.Compare a [.LtE] [b] pos) (dOp (dInts leI) f g) := se_cmp op_le (o_ints (g := leI)) ha hb hm
theorem st_le (ha : SE X T W a f) (hb : SE X T W b g) (hm : behindInMarks .LtE b = false := by rfl) : ST X T W (.Compare a [.LtE] [b] pos) (dTest (dOp (dInts leI) f g)) := st_cmp op_le (o_ints (g := leI)) ha hb hm
theorem se_gt (ha : SE X T W a f) (hb : SE X T W b g) (hm : behindInMarks .Gt b = false := by rfl) : SE X T W (.Compare a [.Gt] [b] pos) (dOp (dInts gtI) f g) := se_cmp op_gt (o_ints (g := gtI)) ha hb hm
theorem st_gt (ha : SE X T W a f) (hb : SE X T W b g) (hm : behindInMarks .Gt b = false := by rfl) : ST X T W (.Compare a [.Gt] [b] pos) (dTest (dOp (dInts gtI) f g)) := st_cmp op_gt (o_ints (g := gtI)) ha hb hm
theorem se_ge (ha : SE X T W a f) (hb : SE X T W b g) (hm : behindInMarks .GtE b = false := by rfl) : SE X T W (.Compare a [.GtE] [b] pos) (dOp (dInts geI) f g) := se_cmp op_ge (o_ints (g := geI)) ha hb hm
theorem st_ge (ha : SE X T W a f) (hb : SE X T W b g) (hm : behindInMarks .GtE b = false := by rfl) : ST X T W (.Compare a [.GtE] [b] pos) (dTest (dOp (dInts geI) f g)) := st_cmp op_ge (o_ints (g := geI)) ha hb hm
theorem se_eq (hr : Room k X.A) (ha : SE X T W a f) (hb : SE X T W b g) (hm : behindInMarks .Eq b = false := by rfl) : SE X T W (.Compare a [.Eq] [b] pos) (dOp dEq f g) := se_cmp (op_eqD (u64 hr)) o_eq ha hb hm
theorem st_eq (hr : Room k X.A) (ha : SE X T W a f) (hb : SE X T W b g) (hm : behindInMarks .Eq b = false := by rfl) : ST X T W (.Compare a [.Eq] [b] pos) (dTest (dOp dEq f g)) := st_cmp (op_eqD (u64 hr)) o_eq ha hb hm
theorem se_ne (hr : Room k X.A) (ha : SE X T W a f) (hb : SE X T W b g) (hm : behindInMarks .NotEq b = false := by rfl) : SE X T W (.Compare a [.NotEq] [b] pos) (dOp dNe f g) := se_cmp (op_neD (u64 hr)) o_ne ha hb hm
theorem st_ne (hr : Room k X.A) (ha : SE X T W a f) (hb : SE X T W b g) (hm : behindInMarks .NotEq b = false := by rfl) : ST X T W (.Compare a [.NotEq] [b] pos) (dTest (dOp dNe f g)) := st_cmp (op_neD (u64 hr)) o_ne ha hb hm
theorem se_in (hr : Room k X.A) (ha : SE X T W a f) (hb : SE X T W b g) (hm : behindInMarks .In b = false := by rfl) : SE X T W (.Compare a [.In] [b] pos) (dOp (dInA false) f g) := se_cmp (OpR.or (OpR.or op_in_seq (op_inD (u65 hr))) (op_inN hr)) o_inA ha hb hm
theorem st_in (hr : Room k X.A) (ha : SE X T W a f) (hb : SE X T W b g) (hm : behindInMarks .In b = false := by rfl) : ST X T W (.Compare a [.In] [b] pos) (dTest (dOp (dInA false) f g)) := st_cmp (OpR.or (OpR.or op_in_seq (op_inD (u65 hr))) (op_inN hr)) o_inA ha hb hm
theorem se_nin (hr : Room k X.A) (ha : SE X T W a f) (hb : SE X T W b g) (hm : behindInMarks .NotIn b = false := by rfl) : SE X T W (.Compare a [.NotIn] [b] pos) (dOp (dInA true) f g) := se_cmp (OpR.or (OpR.or op_notIn_seq (op_notInD (u65 hr))) (op_notInN hr)) o_notInA ha hb hm
theorem st_nin (hr : Room k X.A) (ha : SE X T W a f) (hb : SE X T W b g) (hm : behindInMarks .NotIn b = false := by rfl) : ST X T W (.Compare a [.NotIn] [b] pos) (dTest (dOp (dInA true) f g)) := st_cmp (OpR.or (OpR.or op_notIn_seq (op_notInD (u65 hr))) (op_notInN hr)) o_notInA ha hb hm
theorem se_isN (ha : SE X T W a f) (hb : SE X T W b g) (hm : behindInMarks .Is b = false := by rfl) : SE X T W (.Compare a [.Is] [b] pos) (dOp dIsN f g) := se_cmp op_isN o_isN ha hb hm
theorem st_isN (ha : SE X T W a f) (hb : SE X T W b g) (hm : behindInMarks .Is b = false := by rfl) : ST X T W (.Compare a [.Is] [b] pos) (dTest (dOp dIsN f g)) := st_cmp op_isN o_isN ha hb hm
theorem se_notN (ha : SE X T W a f) (hb : SE X T W b g) (hm : behindInMarks .IsNot b = false := by rfl) : SE X T W (.Compare a [.IsNot] [b] pos) (dOp dNotN f g) := se_cmp op_notN o_notN ha hb hm
theorem st_notN (ha : SE X T W a f) (hb : SE X T W b g) (hm : behindInMarks .IsNot b = false := by rfl) : ST X T W (.Compare a [.IsNot] [b] pos) (dTest (dOp dNotN f g)) := st_cmp op_notN o_notN ha hb hm
/-- 0 <= a < b -/
theorem se_leLt (hr : Room k X.A) {c : Expr} {h : DE} (ha : SE X T W a f) (hb : SE X T W b g) (hc : SE X T W c h) (hm : lastMarks [.LtE, .Lt] [b, c] = false := by with_unfolding_all rfl) : SE X T W (.Compare a [.LtE, .Lt] [b, c] pos) (dChain (dInts leI) dLt f g h) := se_chain op_le (o_ints (g := leI)) (OpR.or op_lt (op_ltT (u0 hr))) o_lt ha hb hc hm
/-- - a -/
def dNeg (f : DE) : DE := fun s h => (f s h).bind fun d h1 => withS (intD d) fun i => .ok (.int (-i)) h1
theorem se_neg (ha : SE X T W a f) : SE X T W (.UnaryOp .USub a pos) (dNeg f) := ⟨PE.imp (pe_un un_neg ha.p) fun σ H Q ⟨ρ, s, h, st, hr, q⟩ => tD_bind st hr q fun d h1 ρ1 H1 v g1 hr1 st1 r1 q1 => by
  obtain ⟨i, e1, q2⟩ := Post.withS q1
  exact ⟨i, intD_ok r1 e1, q2.here hr1 _ (rp_int.mpr rfl)⟩⟩
/-! built-ins of one argument -/
theorem bt_tuple : bootBuiltins ("tuple" : Str) = some (.type "tuple") := by rfl
theorem bt_list : bootBuiltins ("list" : Str) = some (.type "list") := by rfl
theorem bt_all : bootBuiltins ("all" : Str) = some (.builtin "all") := by rfl
theorem bt_any : bootBuiltins ("any" : Str) = some (.builtin "any") := by rfl
theorem bt_max : bootBuiltins ("max" : Str) = some (.builtin "max") := by rfl
theorem bt_sorted : bootBuiltins ("sorted" : Str) = some (.builtin "sorted") := by rfl
variable {p : Pos}
theorem se_len (hm : X.mg "len" = none) (ha : SE X T W e f) (hg : Gl X "len" := by rfl) (he : starEach [e] X.env = (false, eval e X.env) :: starEach [] X.env := by rfl) : SE X T W (.Call (.Name "len" p) [e] [] pos) (dCall oLen (dCons f dNil)) := se_callB call_len oc_len hg hm PySem.boot_len (sa_cons ha sa_nil he) (by decide) (by decide) he (by rfl)
theorem se_tuple (hm : X.mg "tuple" = none) (ha : SE X T W e f) (hg : Gl X "tuple" := by rfl) (he : starEach [e] X.env = (false, eval e X.env) :: starEach [] X.env := by rfl) : SE X T W (.Call (.Name "tuple" p) [e] [] pos) (dCall oTuple (dCons f dNil)) := se_callTy call_tuple_of oc_tuple hg hm bt_tuple (sa_cons ha sa_nil he) (by decide) (by decide) he (by rfl)
theorem se_list (hm : X.mg "list" = none) (ha : SE X T W e f) (hg : Gl X "list" := by rfl) (he : starEach [e] X.env = (false, eval e X.env) :: starEach [] X.env := by rfl) : SE X T W (.Call (.Name "list" p) [e] [] pos) (dCall oList (dCons f dNil)) := se_callTy call_list_of oc_list hg hm bt_list (sa_cons ha sa_nil he) (by decide) (by decide) he (by rfl)
theorem se_all (hc : X.calm = true) (hm : X.mg "all" = none) (ha : SE X T W e f) (hg : Gl X "all" := by rfl) (he : starEach [e] X.env = (false, eval e X.env) :: starEach [] X.env := by rfl) : SE X T W (.Call (.Name "all" p) [e] [] pos) (dCall (oBools allB) (dCons f dNil)) := se_callB (cr_all hc) oc_all hg hm bt_all (sa_cons ha sa_nil he) (by decide) (by decide) he (by rfl)
theorem se_any (hc : X.calm = true) (hm : X.mg "any" = none) (ha : SE X T W e f) (hg : Gl X "any" := by rfl) (he : starEach [e] X.env = (false, eval e X.env) :: starEach [] X.env := by rfl) : SE X T W (.Call (.Name "any" p) [e] [] pos) (dCall (oBools anyB) (dCons f dNil)) := se_callB (cr_any hc) oc_any hg hm bt_any (sa_cons ha sa_nil he) (by decide) (by decide) he (by rfl)
theorem se_sorted (hr : Room k X.A) (hm : X.mg "sorted" = none) (ha : SE X T W e f) (hg : Gl X "sorted" := by rfl) (he : starEach [e] X.env = (false, eval e X.env) :: starEach [] X.env := by rfl) : SE X T W (.Call (.Name "sorted" p) [e] [] pos) (dCall oSorted (dCons f dNil)) := se_callB (cr_sortP hr) oc_sorted hg hm bt_sorted (sa_cons ha sa_nil he) (by decide) (by decide) he (by rfl)
theorem se_max2 (hc : X.calm = true) (hm : X.mg "max" = none) (ha : SE X T W a f) (hb : SE X T W b g) (hg : Gl X "max" := by rfl) (he : starEach [a, b] X.env = (false, eval a X.env) :: starEach [b] X.env := by rfl) (he2 : starEach [b] X.env = (false, eval b X.env) :: starEach [] X.env := by rfl) (hpl : (backTo pos (starEach [b] X.env)).any (·.1) = false := by rfl) :
    SE X T W (.Call (.Name "max" p) [a, b] [] pos) (dCall oMax2 (dCons f (dCons g dNil))) := se_callB (call_max2 hc) oc_max2 hg hm bt_max (sa_cons ha (sa_cons hb sa_nil he2) he) (by decide) (by decide) he hpl
/-! isinstance -/
theorem pe_tyName (t : String) {x : Str} (hg : Gl X x) (hm : X.mg x = none) (hv : bootBuiltins x = some (.type t)) (hn : x ≠ "__name__" := by decide) (hdb : (x == ("__debug__" : Str)) = false := by decide) : PE X (.Name x p) (tC (.ty t)) := ⟨fun pins s σ H Q I h =>
  ld_blt I hg hm hv ⟨.ty t, H, I, rfl, h⟩ hn hdb⟩
/-! x += e -/
def dAddI (x y : D) (h : AH) : R D := withS (intD x) fun i => withS (intD y) fun j => .ok (.int (i + j)) h
def dSubI (x y : D) (h : AH) : R D := withS (intD x) fun i => withS (intD y) fun j => .ok (.int (i - j)) h
theorem oi_add {K : KW} : OI K T (ipI fun i j => i + j) dAddI := fun E ρ H h x y v u Q hr rx ry p => by
  obtain ⟨i, e1, p⟩ := Post.withS p
  obtain ⟨j, e2, p⟩ := p.withS
  exact ⟨i, j, intD_ok rx e1, intD_ok ry e2, p.here hr _ (rp_int.mpr rfl)⟩
theorem oi_sub {K : KW} : OI K T (ipI fun i j => i - j) dSubI := fun E ρ H h x y v u Q hr rx ry p => by
  obtain ⟨i, e1, p⟩ := Post.withS p
  obtain ⟨j, e2, p⟩ := p.withS
  exact ⟨i, j, intD_ok rx e1, intD_ok ry e2, p.here hr _ (rp_int.mpr rfl)⟩
end
end Nc
namespace Nc
open PySem PySem.Spec PyProof.Rows L2
theorem rm {j k : Nat} {A : Around} (h : Room k A) (e : j ≤ k := by first | decide | omega) : Room j A := h.mono e
/-- a def that stands at the top -/
structure Df (K : PySem.W.Frag) (mg : Str → Option Value) (x : Str) (st : Stmt) (ps : List Str) where
  f : Addr
  fd : FuncData
  F : Fun K x x st f fd
  gl : mg x = some (.ref f)
  bi : Binds K fd ps []
theorem bindsTo {K : PySem.W.Frag} {x qual : Str} {st : Stmt} {f : Addr} {fd : FuncData} {s : Shared} {args : Args} {r : List (Str × Value)} (F : Fun K x qual st f fd) (h : ∀ kV doc pm an cdv ct, bindArgs (PySem.W.fnOf x qual (defArgs st) (defBody st) (defScope st) Value.none kV doc pm an cdv ct) args = pure r) : BindsTo s fd args r := by
  obtain ⟨oc, od, kV, doc, pm, an, cdv, ct, osl, rfl, _, _⟩ := F.ex
  exact .of_eq (h _ _ _ _ _ _)
theorem fn_okD {P : Program} {w : World} {K : PySem.W.Frag} {mg : Str → Option Value} {base : Heap} {T : XT} {x qual : Str} {st : Stmt} {f : Addr} {fd : FuncData} {N ps : List Str} {k np nN : Nat} {g : DS} {F : DF} (Fn : Fun K x qual st f fd) (S : FnScope N ps (defScope st)) (hF : F = runF g np nN) (h1 : ps.length = np) (h2 : N.length = nN)
    (body : ∀ (cdv : Value) (A : Around) (outer : List Env) (s : Shared) (H : Hp) (E : XK), Room k (A.deeper (envOfC qual (defScope st) s.heap.objs.size f cdv)) →
      SSs (cxOf (L2.CX P w) P w K mg base N qual (defScope st) f cdv A outer s H E) T (wOf E) (defBody st) g) : FnOk P w K mg base (L2.CX P w) (k + 1) f fd ps (spNc ⟨K, w⟩ T F) := by
  subst hF; subst h1; subst h2
  exact fn_ok Fn S body
/-! a block's scope, reckoned -/
def isFree : NameKind → Bool
  | .free => true
  | _ => false
def isOwnK : NameKind → Bool
  | .local => true
  | .cell => true
  | _ => false
def isCellFree : Option NameKind → Bool
  | some .cell => true
  | some .free => true
  | _ => false
def isFn : ScopeKind → Bool
  | .function => true
  | _ => false
def blkB (N : List Str) (sc scope : Scope) (own : List (Str × Nat)) : Bool :=
  (isFn scope.kind && scope.names.all fun y => decide (scope.names.lookup y.1 = some y.2)) && ((own.all fun p => decide (N[p.2]? = some p.1)) && ((scope.names.all fun y => !isFree y.2 || isCellFree (sc.names.lookup y.1)) && scope.names.all fun y => !isOwnK y.2 || (decide (y.1 ∈ own.map (·.1)) || !decide (y.1 ∈ N))))
theorem blk_of {N : List Str} {sc scope : Scope} {own : List (Str × Nat)} (h : blkB N sc scope own = true) : BlkOk N sc scope own := by
  unfold blkB at h
  simp only [Bool.and_eq_true, List.all_eq_true] at h
  obtain ⟨⟨h1, h2⟩, h3, h4, h5⟩ := h
  refine ⟨?_, fun y hy => of_decide_eq_true (h2 y hy), fun p hp => of_decide_eq_true (h3 p hp), fun y hy e => ?_, fun y hy e => ?_⟩
  · generalize scope.kind = k at h1 ⊢
    cases k <;> first | rfl | cases h1
  · have := h4 y hy
    rw [e] at this
    cases z : sc.names.lookup y.1 with
    | none => rw [z] at this; cases this
    | some q =>
      rw [z] at this
      cases q <;> first | exact .inl rfl | exact .inr rfl | cases this
  · have := h5 y hy
    have hk : isOwnK y.2 = true := by rcases e with e | e <;> rw [e] <;> rfl
    rw [hk] at this
    simp only [Bool.not_true, Bool.false_or, Bool.or_eq_true, decide_eq_true_eq, Bool.not_eq_true', decide_eq_false_iff_not] at this
    exact this
/-- what promises nothing is kept -/
theorem fn_no {P : Program} {w : World} {K : PySem.W.Frag} {mg : Str → Option Value} {base : Heap} {T : XT} {k : Nat} {f : Addr} {fd : FuncData} {ps : List Str} : FnOk P w K mg base (L2.CX P w) k f fd ps (spNc ⟨K, w⟩ T fun _ _ => .no) :=
  ⟨fun vs H Q E h => by obtain ⟨_, _, _, _, _, z⟩ := h; exact z.elim, fun A outer s H args us vs Q E _ _ _ _ h => by obtain ⟨_, _, _, _, _, z⟩ := h; exact z.elim⟩
end Nc
namespace Nc
open PySem PySem.Spec PyProof.Rows L2
/-! ## an own class of exceptions whose __init__(self) passes -/
section
variable {X : Cx} {pins : List (Addr × Obj)} {σ : L2.St} {H1 : Hp} {Q : XK} {hp hp2 h2 : Heap} {g1 g2 : Array GenState} {d1 d2 : Drawn} {t1 t2 : Nat} {os1 os2 : OsState} {a C : Addr}
theorem mk_pass_end (R : Raises X (.ref C)) (I1 : Inv X pins σ H1 ⟨hp, g1, d1, t1, os1⟩) (ha : hp.objs.size ≤ a) (k : ∀ (b : Addr) (o : Obj), hp.get? b = some o → hp2.get? b = some o)
    (un : Un (frs X.stack) [] (upd H1 a (exo a C none)) (upd H1 a (exo a C none)) hp2 h2) (hok : HOk X.prog X.w (upd H1 a (exo a C none)) h2) (ho : os2 = os1) (hb : AllBare g2) (q : Q (.ref C) none H1) : MkP X pins σ Q (.ref a) ⟨h2, g2, d2, t2, os2⟩ := by
  have hn : H1 a = none := HOk.fresh I1.hok ha
  obtain ⟨t0, hoe⟩ := exo_at hok upd_same
  obtain ⟨G, g1', g2'⟩ := restrict h2 fun b => decide (b ≠ a)
  have gk : ∀ b, b ≠ a → G.get? b = h2.get? b := fun b hb => g1' b (decide_eq_true hb)
  have ge : G.get? a = none := g2' a (by simp)
  have nha : ∀ {b : Addr} {o : Obj}, hp.get? b = some o → b ≠ a := fun z => Nat.ne_of_lt (Nat.lt_of_lt_of_le (Heap.lt_size z) ha)
  have up : ∀ {b : Addr}, b ≠ a → H1 b = none → upd H1 a (exo a C none) b = none := fun hb n => by rw [upd_ne hb]; exact n
  have U : Un (frs X.stack) [] H1 H1 hp G := by
    refine ⟨fun b o z n hf hx => (gk b (nha z)).trans (un.keep b o (k b o z) (up (nha z) n) hf hx), fun b o z n hf hx => ?_, fun b o z n hx => n, fun b o z hx => ?_, fun b xs z => z, fun b o v z => z, fun b ps z => ⟨#[], by simpa using z⟩⟩
    · rw [gk b (nha z)]; exact un.slot b o (k b o z) (up (nha z) n) hf hx
    · rw [gk b (nha z)]; exact un.there b o (k b o z) hx
  have hok3 : HOk X.prog X.w H1 G := fun b o z => by
    have hba : b ≠ a := fun e => by subst e; rw [hn] at z; cases z
    have noa : ∀ {c : Addr}, upd H1 a (exo a C none) c = some (HO.own b) → c ≠ a := fun hc => at_ne upd_same hc exo_own
    refine ObjOk.stay (hok b o (by rw [upd_ne hba]; exact z)) (fun c v hc y => ?_) (fun c hc => ?_) (fun c xs hc => ?_)
    · have hca : c ≠ a := by
        rcases hc with hc | hc
        · rw [hc]; exact hba
        · exact noa hc
      exact (gk c hca).trans y
    · rw [upd_ne (noa hc)] at hc; exact hc
    · rw [upd_ne (at_ne upd_same hc exo_tup)] at hc; exact hc
  have J : Inv X pins σ H1 ⟨G, g2, d2, t2, os2⟩ := I1.call' (s' := ⟨G, g2, d2, t2, os2⟩) ho U hok3 hb fun b z => absurd z (by simp)
  refine ⟨a, _, _, ⟨G, g2, d2, t2, os2⟩, H1, .ref C, none, rfl, J, fun b o z => ?_, ge, hoe, ⟨rfl, rfl⟩, rfl, rfl, hn, rfl, hb, R, q⟩
  by_cases hba : b = a
  · subst hba
    have z : G.get? b = some o := z
    rw [ge] at z; cases z
  · exact (gk b hba).symm.trans z
end
/-- __init__(self): pass -/
def spPass : Sp := fun vs H Q _ => vs.length = 1 ∧ Q .non H
theorem ok_pass {P : Program} {w : World} {K : PySem.W.Frag} {mg : Str → Option Value} {base : Heap} {x qual : Str} {st : Stmt} {f : Addr} {fd : FuncData} {N : List Str} {n : Str} {k : Nat} {pos : Pos} (F : Fun K x qual st f fd) (S : FnScope N [n] (defScope st)) (hb : defBody st = [.Pass pos]) : FnOk P w K mg base (L2.CX P w) (k + 1) f fd [n] spPass := by
  refine F.okX S (fun vs H Q E h => h.1) fun cdv A outer s H vs Q E hr h => ?_
  rw [hb]
  exact ⟨_, pss_one ps_pass, h.2⟩
section
variable {X : Cx} {T : XT} {W : WX}
theorem pmk_pass {p pos : Pos} {x : Str} {C fI : Addr} {k : Nat} {fd : FuncData} {n : Str} (O : OexC X.K C) (iC : PySem.W.findIn X.K (.ref C) "__init__" = some (some (.ref fI))) (tI : PySem.W.typeIn X.K (.ref fI) = some (.type "function")) (F1 : FnOk X.prog X.w X.K X.mg X.base (L2.CX X.prog X.w) k fI fd [n] spPass) (hr : Room (k + 1) X.A) (hb : Binds X.K fd [n] [])
    (hg : Gl X x) (hm : X.mg x = some (.ref C)) (hdb : (x == ("__debug__" : Str)) = false := by decide) : PMk X (.Call (.Name x p) [] [] pos) (fun _ H Q => Q (.ref C) none H) := by
  intro pins s σ H Q I h
  obtain ⟨nm, q, N, bs, bm, sn, sub, ab, col, dd, k0, k1, k2, k3, k5, hC, hbm⟩ := O.cls
  refine wpAny_Call_Name_kw (ld_glob I hg hm ?_ hdb)
  refine PySem.W.callWith_K0 I.kIn O.kC ?_
  obtain ⟨hp, g, dr, tk, os⟩ := s
  have hsz := Nat.le_succ hp.objs.size
  have hn := HOk.fresh I.hok hsz
  have kk : ∀ (b : Addr) (o : Obj), hp.get? b = some o → ((hp.push (PySem.W.kdv_tup [])).push (HandSPX.excO C hp.objs.size)).get? b = some o := fun b o e => Heap.get?_push_of_some (HandSPX.excO C hp.objs.size) (Heap.get?_push_of_some (PySem.W.kdv_tup []) e)
  have hget : ((hp.push (PySem.W.kdv_tup [])).push (HandSPX.excO C hp.objs.size)).get? (hp.objs.size + 1) = some (HandSPX.excO C hp.objs.size) := Heap.get?_push_at (by rw [Heap.size_push]) rfl
  have I2 : Inv X pins σ (upd H (hp.objs.size + 1) (exo (hp.objs.size + 1) C none)) ⟨(hp.push (PySem.W.kdv_tup [])).push (HandSPX.excO C hp.objs.size), g, dr, tk, os⟩ := I.laid (t' := tk) kk hsz (exo_ok hget)
  refine wpAny_call (HandSPX.call_own (rest := []) F.excBase_ValueError (fun Y => HandSPX.refsVE_contains Y bm hbm) (I.kIn C _ hC) (PySem.W.looks_findIn I.kIn iC) (fun self => PySem.W.bind_fn I.kIn self tI) (Nat.zero_le _) ?_)
  refine codeAny_mono (F1.run (X.A.under (.builtin "type.__call__" { pos := [Value.ref C] })) X.stack _ (upd H (hp.objs.size + 1) (exo (hp.objs.size + 1) C none)) { pos := [.ref (hp.objs.size + 1)] } [.ref (hp.objs.size + 1)] [V.ref (hp.objs.size + 1)] (fun v H2 => v = .non ∧ H2 = upd H (hp.objs.size + 1) (exo (hp.objs.size + 1) C none)) (fun _ _ _ => False) (Room.make hr C [] []) (Env0.make I2.env0 C [] []) (hb _ [.ref (hp.objs.size + 1)] I2.kIn rfl) (.cons rfl .nil) ⟨rfl, rfl, rfl⟩) fun r s' hq => ?_
  cases r with
  | error e => 
    obtain ⟨_, _, _, _, _, _, _, _, _, _, _, _, z⟩ := hq
    exact z.elim
  | ok fl =>
    cases fl with
    | ret u =>
      obtain ⟨v, H', e1, e2, e3, e4, e5, e6, e7⟩ := hq
      subst e6; subst e7
      obtain ⟨hp', g', d', t', os'⟩ := s'
      exact ⟨e5, mk_pass_end (raises_own O.exC O.tyC) I hsz kk e3 e4 e1 e2 h⟩
    | next => exact hq.elim
    | brk => exact hq.elim
    | cont => exact hq.elim
/-! raise -/
def gRaise (c : Nat) : DS := fun s h => .ex ⟨c, none⟩ s h
theorem s_raise {e : Expr} {pos : Pos} {C : Addr} (c : Nat) (hT : T.cls c = some (.ref C)) (hF : T.fld c = none) (hc : X.calm = true) (tk : Takes X W) (pm : PMk X e (fun _ H Q => Q (.ref C) none H)) : SS X T W (.Raise (some e) none pos) (gRaise c) :=
  ⟨PS.imp (ps_raise hc tk pm) fun D σ H ⟨ρ, s, h, st, hr, q⟩ => q ρ H σ (.ref C) none (Grow.refl _ _) hr st (by unfold XR; refine ⟨hT, ?_⟩; simp only [hF])⟩
theorem StR.wild {K : KW} {ρ : Rho} {H : Hp} {σ : L2.St} {s : DSt} {i : Nat} {x : Option V} (r : StR K ρ H σ s) : StR K ρ H (σ.set i x) (s.set i none) := by
  refine ⟨by simp [r.len], fun j e h => ?_⟩
  by_cases z : j = i
  · subst z
    rw [List.getElem?_set] at h
    simp only [if_true] at h
    split at h <;> cases h
  · rw [List.getElem?_set_ne (Ne.symm z)] at h
    obtain ⟨u, e1, q1⟩ := r.at_ j e h
    exact ⟨u, by rw [List.getElem?_set_ne (Ne.symm z)]; exact e1, q1⟩
/-! try: .. except C as n: y = ["..", isinstance(n, B)] -/
def gTryIs (c i j : Nat) (txt : Str) (g : DS) : DS := fun s h => match g s h with
  | .ex e s1 h1 => match Nat.beq e.cls c with
    | true => match Nat.ble (i + 1) s1.length with
      | true => .nx (((s1.set i none).set j (some (.cell h1.new))).set i none) (h1.add (.lst [.str txt, .bl true]))
      | false => .no
    | false => .no
  | r => r
def tsIs (K : PySem.W.Frag) (C : Addr) (i j : Nat) (txt : Str) (a : Addr) (cls : Value) (d : Option Addr) : TS := fun D σ H => cls = .ref C ∧ d = none ∧ σ[i]? = some (some (V.ref a)) ∧ ∀ p, H p = none → D.nx (σ.set j (some (.ref p))) (upd H p (.lst [.str txt, .bl true]))
theorem suite_is {a C : Addr} {oe : Obj} {cls : Value} {d : Option Addr} {pn : List (Addr × Obj)} {i j : Nat} {n y x : Str} {txt : Str} {B : String} {py pn' p1 p2 pl pc ps pa : Pos} {ji : Nat} (hz : Zc cls d oe) (hf : ∃ vs, oe.data = .fields vs) (EC : ExcC X.K C) (hk : PySem.W.kitOne X.K (.ref C) (.type B) = some true)
    (hN : X.N.Nodup) (hi : X.N[i]? = some n) (hvn : Vis X.env.scope n) (hdn : (n == ("__debug__" : Str)) = false) (hcn : (n == ("__classdict__" : Str)) = false) (hj : X.N[j]? = some y) (hly : Loc X.env.scope y) (hfy : X.fn y = true ∨ X.env.scope.names.lookup y = some .local)
    (hg : Gl X "isinstance") (hm : X.mg "isinstance" = none) (hgB : Gl X x) (hmB : X.mg x = none) (hvB : bootBuiltins x = some (.type B)) (hnB : x ≠ "__name__") (hdB : (x == ("__debug__" : Str)) = false)
    (hs : swapsWith (.List [.Constant (.str txt) ji ps, .Call (.Name "isinstance" p1) [.Name n pn', .Name x p2] [] pc] pl) (some (.Name y py)) pa.line X.env = pure false)
    (h1 : starEach [.Name n pn', .Name x p2] X.env = (false, eval (.Name n pn') X.env) :: starEach [.Name x p2] X.env) (h2 : starEach [.Name x p2] X.env = (false, eval (.Name x p2) X.env) :: starEach [] X.env) (h3 : (backTo pc (starEach [.Name x p2] X.env)).any (·.1) = false)
    (h4 : starEach [.Constant (.str txt) ji ps, .Call (.Name "isinstance" p1) [.Name n pn', .Name x p2] [] pc] X.env = (false, eval (.Constant (.str txt) ji ps) X.env) :: starEach [.Call (.Name "isinstance" p1) [.Name n pn', .Name x p2] [] pc] X.env)
    (h5 : starEach [.Call (.Name "isinstance" p1) [.Name n pn', .Name x p2] [] pc] X.env = (false, eval (.Call (.Name "isinstance" p1) [.Name n pn', .Name x p2] [] pc) X.env) :: starEach [] X.env) :
    PSs (X.suite a ((a, oe) :: pn)) [.Assign [.Name y py] (.List [.Constant (.str txt) ji ps, .Call (.Name "isinstance" p1) [.Name n pn', .Name x p2] [] pc] pl) pa] (tsIs X.K C i j txt a cls d) := by
  refine ⟨fun pins s σ H Q I q => ?_⟩
  obtain ⟨e1, e2, e3, q⟩ := q
  subst e1; subst e2
  have pi : PE (X.suite a ((a, oe) :: pn)) (.Call (.Name "isinstance" p1) [.Name n pn', .Name x p2] [] pc) (tCB (rIsE X.K C a) (tCons (tVar i) (tCons (tC (.ty B)) tNil))) :=
    pe_callB (call_isE EC hz hf) hg hm PyProof.Rows.boot_isinstance (pa_cons (pe_var hi hvn hdn hcn) (pa_cons (pe_tyName B hgB hmB hvB hnB hdB) pa_nil h2) h1) (by decide) (by decide) h1 h3
  have pl' := pe_lst (pos := pl) (pa_cons (show PE (X.suite a ((a, oe) :: pn)) (.Constant (.str txt) ji ps) (tC (.str txt)) from pe_str) (pa_cons pi pa_nil h5) h4)
  refine (pss_one (ps_set (X := X.suite a ((a, oe) :: pn)) (pos := pa) (pos' := py) hN hj hly pl' hs hfy)).run pins s σ H Q I ?_
  refine ⟨_, e3, .ty B, .type B, true, rfl, fun u hu => hu, hk, (by rw [sizeLine_eq]; show 2 ≤ 16777216; decide), fun p np => q p np⟩
theorem s_tryIs {body : List Stmt} {g : DS} {W' : WX} {C : Addr} {c i j : Nat} {n y x cn : Str} {txt : Str} {B : String} {py pn' p1 p2 pl pc ps pa np pos pos' : Pos} {ji : Nat} (hT : T.cls c = some (.ref C)) (hF : T.fld c = none) (EC : ExcC X.K C) (hk : PySem.W.kitOne X.K (.ref C) (.type B) = some true) (hx : PySem.W.exmOne X.K (.ref C) (.ref C) = some true)
    (hij : i ≠ j) (hst : X.stack = X.env :: X.outer) (hfr : X.env.frame = some X.env.locals) (hkn : X.env.kindOf n = some .local) (hnm : Names X cn (.ref C))
    (hN : X.N.Nodup) (hi : X.N[i]? = some n) (hvn : Vis X.env.scope n) (hdn : (n == ("__debug__" : Str)) = false) (hcn : (n == ("__classdict__" : Str)) = false) (hj : X.N[j]? = some y) (hly : Loc X.env.scope y) (hfy : X.fn y = true ∨ X.env.scope.names.lookup y = some .local)
    (hg : Gl X "isinstance") (hm : X.mg "isinstance" = none) (hgB : Gl X x) (hmB : X.mg x = none) (hvB : bootBuiltins x = some (.type B)) (hnB : x ≠ "__name__") (hdB : (x == ("__debug__" : Str)) = false)
    (hb : ∀ (W : WX) (pn : List (Addr × Obj)) (xe : Value → Shared → Prop), Takes (X.tr pn xe) W → PassesOwn (model X.prog X.w) X.A X.env xe → SSs (X.tr pn xe) T W body g)
    (hs : swapsWith (.List [.Constant (.str txt) ji ps, .Call (.Name "isinstance" p1) [.Name n pn', .Name x p2] [] pc] pl) (some (.Name y py)) pa.line X.env = pure false := by rfl)
    (h1 : starEach [.Name n pn', .Name x p2] X.env = (false, eval (.Name n pn') X.env) :: starEach [.Name x p2] X.env := by rfl) (h2 : starEach [.Name x p2] X.env = (false, eval (.Name x p2) X.env) :: starEach [] X.env := by rfl) (h3 : (backTo pc (starEach [.Name x p2] X.env)).any (·.1) = false := by rfl)
    (h4 : starEach [.Constant (.str txt) ji ps, .Call (.Name "isinstance" p1) [.Name n pn', .Name x p2] [] pc] X.env = (false, eval (.Constant (.str txt) ji ps) X.env) :: starEach [.Call (.Name "isinstance" p1) [.Name n pn', .Name x p2] [] pc] X.env := by rfl)
    (h5 : starEach [.Call (.Name "isinstance" p1) [.Name n pn', .Name x p2] [] pc] X.env = (false, eval (.Call (.Name "isinstance" p1) [.Name n pn', .Name x p2] [] pc) X.env) :: starEach [] X.env := by rfl) :
    SS X T W' (.Try body [.ExceptHandler (some (.Name cn np)) (some n) [.Assign [.Name y py] (.List [.Constant (.str txt) ji ps, .Call (.Name "isinstance" p1) [.Name n pn', .Name x p2] [] pc] pl) pa] pos'] [] [] pos) (gTryIs c i j txt g) := by
  refine ⟨PS.imp (ps_try_as (tb := fun W => tS (kwOf X) T W g) (ts := tsIs X.K C i j txt) (Wout := fun _ _ _ _ => False) hst hfr hN hi hkn hnm takes0 (fun W pn xe tk hp => (hb W pn xe tk hp).p) (fun a oe cls d pn hz hf => suite_is hz hf EC hk hN hi hvn hdn hcn hj hly hfy hg hm hgB hmB hvB hnB hdB hs h1 h2 h3 h4 h5)) fun D σ H ⟨ρ, s, h, st, hr, q⟩ => ⟨ρ, s, h, st, hr, ?_⟩⟩
  unfold gTryIs at q
  cases z : g s h with
  | nx s1 h1 => rw [z] at q; exact q
  | rt d h1 => rw [z] at q; exact q
  | bk s1 h1 => rw [z] at q; exact q
  | ct s1 h1 => rw [z] at q; exact q
  | no => rw [z] at q; exact q
  | ex e s1 h1 =>
    simp only [z] at q
    intro ρ1 H1 σ1 cc dd g1 hr1 st1 xr
    cases ec : Nat.beq e.cls c with
    | false => simp only [ec] at q; exact q.elim
    | true =>
      simp only [ec] at q
      have ec := Nat.eq_of_beq_eq_true ec
      obtain ⟨x1, x2⟩ := xr
      rw [ec, hT] at x1
      cases x1
      rw [ec, hF] at x2
      have ed : dd = none := by
        cases ea : e.arg with
        | none => rw [ea] at x2; exact x2
        | some v => rw [ea] at x2; exact x2.elim
      subst ed
      cases el : Nat.ble (i + 1) s1.length with
      | false => simp only [el] at q; exact q.elim
      | true =>
        simp only [el] at q
        have hl : i < σ1.length := by rw [st1.len]; exact Nat.le_of_ble_eq_true el
        refine ⟨true, hx, fun _ a na => ⟨rfl, rfl, List.getElem?_set_self hl, fun p np => ?_⟩, fun w => by cases w⟩
        have rr : Rps (kwOf X) ρ1 H1 [.str txt, .bl true] [.str txt, .bl true] := Rps.cons (rp_str.mpr rfl) (Rps.cons (rp_bl.mpr rfl) (Rps.nil_iff.mpr rfl))
        have ga := grow_add (o := .lst [.str txt, .bl true]) hr1 np
        exact q _ _ _ (g1.trans hr1.live ga) (hr1.add np rr) (StR.wild (StR.set (StR.wild (st1.grow hr1.live ga)) (rp_cell.mpr ⟨p, rfl, rhoAdd_same⟩)))
end
end Nc
namespace Nc
open PySem PySem.Spec PyProof.Rows L2
/-! list(range(..)) -/
def upD : Nat → Int → List D
  | 0, _ => []
  | n + 1, i => .int i :: upD n (i + 1)
theorem upD_rps {K : KW} {ρ : Rho} {H : Hp} : ∀ (n : Nat) (i : Int), Rps K ρ H (upD n i) ((List.range n).map fun (j : Nat) => V.int (i + (j : Int)))
  | 0, _ => Rps.nil_iff.mpr rfl
  | n + 1, i => by
    rw [List.range_succ_eq_map, List.map_cons, List.map_map]
    refine Rps.cons (rp_int.mpr (by simp)) ?_
    have := upD_rps (K := K) (ρ := ρ) (H := H) n (i + 1)
    have e : (fun (j : Nat) => V.int (i + 1 + (j : Int))) = (fun (j : Nat) => V.int (i + (j : Int))) ∘ Nat.succ := by
      funext j
      show V.int _ = V.int _
      congr 1
      show i + 1 + (j : Int) = i + ((j + 1 : Nat) : Int)
      omega
    rw [← e]; exact this
def smallR (i : Int) : Bool := Nat.ble i.natAbs 1000000
def dLRg (f g : DE) : DE := fun s h => (f s h).bind fun x h1 => (g s h1).bind fun y h2 => withS (intD x) fun i => withS (intD y) fun j => chk (smallR i && smallR j) (mkL (upD (j - i).toNat i) h2)
section
variable {X : Cx} {T : XT} {W : WX} {a b : Expr} {f g : DE} {p p2 pos pos2 : Pos}
theorem se_lrg2 (hc : X.calm = true) (hm : X.mg "list" = none) (hm2 : X.mg "range" = none) (ha : SE X T W a f) (hb : SE X T W b g) (hg : Gl X "list" := by rfl) (hg2 : Gl X "range" := by rfl) (h1 : starEach [a, b] X.env = (false, eval a X.env) :: starEach [b] X.env := by rfl) (h2 : starEach [b] X.env = (false, eval b X.env) :: starEach [] X.env := by rfl) (h3 : (backTo pos2 (starEach [b] X.env)).any (·.1) = false := by rfl)
    (h4 : starEach [.Call (.Name "range" p2) [a, b] [] pos2] X.env = (false, eval (.Call (.Name "range" p2) [a, b] [] pos2) X.env) :: starEach [] X.env := by rfl) : SE X T W (.Call (.Name "list" p) [.Call (.Name "range" p2) [a, b] [] pos2] [] pos) (dLRg f g) :=
  ⟨PE.imp (pe_listRg hc hg hm (prg_2 hg2 hm2 ha.p hb.p h1 h2 h3) h4) fun σ H Q ⟨ρ, s, h, st, hr, q⟩ => tD_bind st hr q fun x h1 ρ1 H1 v g1 hr1 st1 r1 q1 => tD_bind st1 hr1 q1 fun y h2 ρ2 H2 u g2 hr2 st2 r2 q2 => by
    obtain ⟨i, e1, q2⟩ := Post.withS q2
    obtain ⟨j, e2, q2⟩ := q2.withS
    obtain ⟨c, q2⟩ := q2.chk
    rw [Bool.and_eq_true] at c
    have c1 := Nat.le_of_ble_eq_true c.1
    have c2 := Nat.le_of_ble_eq_true c.2
    refine ⟨i, j, intD_ok (Rp.grow hr1.live g2 x r1) e1, intD_ok r2 e2, ⟨by omega, by omega, by omega, by omega, by omega⟩, ?_⟩
    exact (mkL_ok hr2 (upD_rps (j - i).toNat i) q2).2⟩
end
/-! an own class of exceptions at the top -/
def clsInit : Stmt → Stmt
  | .ClassDef _ _ _ body _ _ _ _ _ _ _ => body.getD 0 (.Pass ⟨0, 0, 0, 0⟩)
  | s => s
structure Ex (K : PySem.W.Frag) (mg : Str → Option Value) (x q : Str) (st : Stmt) (B : String) where
  C : Addr
  fI : Addr
  fd : FuncData
  O : OexC K C
  iC : PySem.W.findIn K (.ref C) "__init__" = some (some (.ref fI))
  tI : PySem.W.typeIn K (.ref fI) = some (.type "function")
  F : Fun K "__init__" q (clsInit st) fI fd
  bi : Binds K fd ["self"] []
  gl : mg x = some (.ref C)
  EC : ExcC K C
  kit : PySem.W.kitOne K (.ref C) (.type B) = some true
  ex : PySem.W.exmOne K (.ref C) (.ref C) = some true
end Nc
namespace Nc
open PySem PySem.Spec PySem.W PyProof.Rows L2
def memK (k : NestedKey) : List NestedKey → Bool
  | [] => false
  | x :: r => match NestedKey.beq x k with
    | true => true
    | false => memK k r
end Nc
namespace Nc
open PySem PySem.Spec PySem.W PyProof.Rows L2
/-! ## keys without texts: their hash is their value's, their == is seen by nobody -/
mutual
def plainK : NestedKey → Bool
  | .none => true
  | .num _ => true
  | .text _ => false
  | .tup ks => plainKs ks
def plainKs : List NestedKey → Bool
  | [] => true
  | k :: r => plainK k && plainKs r
end
theorem depth_tup (ks : List NestedKey) : NestedKey.depth (.tup ks) = NestedKey.depthAll ks + 1 := by simp [NestedKey.depth]
theorem depth_cons (k : NestedKey) (r : List NestedKey) : NestedKey.depthAll (k :: r) = max k.depth (NestedKey.depthAll r) := by simp [NestedKey.depthAll]
variable {P : Program} {w : World} {A : Around} {E : Value → Shared → Prop} {s : Shared}
/-- what is asked of each item of a tuple of keys -/
def Items (s : Shared) (n : Nat) (vs : List Value) : Prop := ∀ v ∈ vs, ∃ k, NestedIs s.heap k v ∧ plainK k = true ∧ k.depth ≤ n
theorem items_of {n : Nat} : ∀ {ks : List NestedKey} {vs : List Value}, NestedAll s.heap ks vs → plainKs ks = true → NestedKey.depthAll ks ≤ n → Items s n vs
  | _, _, .nil, _, _, v, hv => by cases hv
  | _, _, .cons r t, hp, hd, v, hv => by
    unfold plainKs at hp
    rw [Bool.and_eq_true] at hp
    rw [depth_cons] at hd
    rcases List.mem_cons.mp hv with z | z
    · subst z; exact ⟨_, r, hp.1, by omega⟩
    · exact items_of t hp.2 (by omega) v z
theorem hashBy_nest : ∀ (n : Nat) (k : NestedKey) (v : Value) {Q : Bool → Shared → Prop}, NestedIs s.heap k v → plainK k = true → k.depth ≤ n → Q true s → wpAny (model P w) A (hashByValue n v) Q E s
  | n, _, _, Q, .none, _, _, h => by rw [hashByValue.eq_def]; exact wpAny_pure h
  | n, _, _, Q, .bool _, _, _, h => by rw [hashByValue.eq_def]; exact wpAny_pure h
  | n, _, _, Q, .int _ _, _, _, h => by rw [hashByValue.eq_def]; exact wpAny_pure h
  | n, _, _, Q, .text _ _, hp, _, h => by cases hp
  | 0, _, _, Q, .tup _ _ _ _, _, hd, h => by rw [depth_tup] at hd; omega
  | n + 1, _, _, Q, .tup (ks := ks) ho hc hd hall, hp, hdp, h => by
    rw [depth_tup] at hdp
    have hit := items_of hall hp (by omega : NestedKey.depthAll ks ≤ n)
    rw [hashByValue.eq_def]
    refine wpAny_bind (wpAny_specialOf ⟨_, ho, hc⟩ F.slot_tuple_hash.lookup ?_)
    refine wpAny_bind (wpAny_seqItems ho hd (wpAny_bind ?_))
    simp only [Option.getD_some]
    rw [← Array.forIn_toList]
    refine wpAny_forIn_list _ (fun rest r s' => r.fst = none ∧ s' = s ∧ Items s n rest) _ (fun v rest r s' hI => ?_) (fun r s' hI => ?_) _ _ ⟨rfl, rfl, hit⟩
    · obtain ⟨hr, e, hall⟩ := hI
      rw [e]
      obtain ⟨k', q1, q2, q3⟩ := hall v List.mem_cons_self
      refine wpAny_bind (hashBy_nest n k' v q1 q2 q3 ?_)
      rw [if_neg (by simp)]
      exact wpAny_pure ⟨rfl, rfl, fun u hu => hall u (List.mem_cons_of_mem _ hu)⟩
    · obtain ⟨hr, rfl, _⟩ := hI
      simp only [hr]
      exact wpAny_pure h
theorem noClass_nest : ∀ (n : Nat) (k : NestedKey) (v : Value) {Q : Bool → Shared → Prop}, NestedIs s.heap k v → plainK k = true → k.depth ≤ n → Q false s → wpAny (model P w) A (ofAClassStatement n v) Q E s
  | n, _, _, Q, .none, _, _, h => by rw [ofAClassStatement.eq_def]; exact wpAny_pure h
  | n, _, _, Q, .bool _, _, _, h => by rw [ofAClassStatement.eq_def]; exact wpAny_pure h
  | n, _, _, Q, .int _ _, _, _, h => by rw [ofAClassStatement.eq_def]; exact wpAny_pure h
  | n, _, _, Q, .text _ _, hp, _, h => by cases hp
  | 0, _, _, Q, .tup _ _ _ _, _, hd, h => by rw [depth_tup] at hd; omega
  | n + 1, _, _, Q, .tup (ks := ks) ho hc hd hall, hp, hdp, h => by
    rw [depth_tup] at hdp
    have hit := items_of hall hp (by omega : NestedKey.depthAll ks ≤ n)
    rw [ofAClassStatement.eq_def]
    refine wpAny_bind (wpAny_typeOf ⟨_, ho, hc⟩ ?_)
    simp only []
    rw [if_pos (by decide)]
    refine wpAny_bind (wpAny_pure ?_)
    rw [if_neg (by simp)]
    refine wpAny_bind (wpAny_seqItems ho hd ?_)
    simp only []
    refine wpAny_bind ?_
    rw [← Array.forIn_toList]
    refine wpAny_forIn_list _ (fun rest r s' => r.fst = none ∧ s' = s ∧ Items s n rest) _ (fun v rest r s' hI => ?_) (fun r s' hI => ?_) _ _ ⟨rfl, rfl, hit⟩
    · obtain ⟨hr, e, hall⟩ := hI
      rw [e]
      obtain ⟨k', q1, q2, q3⟩ := hall v List.mem_cons_self
      refine wpAny_bind (noClass_nest n k' v q1 q2 q3 ?_)
      rw [if_neg (by simp)]
      exact wpAny_pure ⟨rfl, rfl, fun u hu => hall u (List.mem_cons_of_mem _ hu)⟩
    · obtain ⟨hr, rfl, _⟩ := hI
      simp only [hr]
      exact wpAny_pure h
/-- a key of a set, at its place -/
structure KeyAt (h : Heap) (k : NestedKey) (b : Addr) : Prop where
  is : NestedIs h k (.ref b)
  dep : k.depth ≤ 8
  pl : plainK k = true
theorem KeyAt.quiet {k : NestedKey} {b : Addr} {Q : Bool → Shared → Prop} (K : KeyAt s.heap k b) (h : Q true s) : wpAny (model P w) A (eqIsQuiet 8 (.ref b)) Q E s := (nestedKind P w).quiet ⟨K.is, K.dep⟩ h
theorem seen_nest {k : NestedKey} {b : Addr} {Q : Bool → Shared → Prop} (K : KeyAt s.heap k b) {ys : List Value} (hy : ∀ y ∈ ys, ∃ k' c, y = Value.ref c ∧ KeyAt s.heap k' c) (h : Q false s) : wpAny (model P w) A (searchCouldBeSeen (.ref b) ys) Q E s := by
  unfold searchCouldBeSeen
  refine wpAny_bind (wpAny_forIn_list _ (fun rest r s' => r.fst = none ∧ s' = s ∧ ∀ y ∈ rest, ∃ k' c, y = Value.ref c ∧ KeyAt s.heap k' c) _ (fun v rest r s' hI => ?_) (fun r s' hI => ?_) _ _ ⟨rfl, rfl, hy⟩)
  · obtain ⟨hr, e, hall⟩ := hI
    rw [e]
    obtain ⟨k', c, rfl, K'⟩ := hall v List.mem_cons_self
    have go : ∀ u ∈ rest, ∃ k' c, u = Value.ref c ∧ KeyAt s.heap k' c := fun u hu => hall u (List.mem_cons_of_mem _ hu)
    simp only []
    split
    · exact wpAny_pure ⟨rfl, rfl, go⟩
    · refine wpAny_bind (K.quiet ?_)
      rw [if_neg (by simp)]
      refine wpAny_bind (K'.quiet ?_)
      rw [if_neg (by simp)]
      refine wpAny_bind (noClass_nest 8 k _ K.is K.pl K.dep ?_)
      rw [if_neg (by simp)]
      refine wpAny_bind (noClass_nest 8 k' _ K'.is K'.pl K'.dep ?_)
      rw [if_neg (by simp)]
      exact wpAny_pure ⟨rfl, rfl, go⟩
  · obtain ⟨hr, e, _⟩ := hI
    rw [e]
    simp only [hr]
    exact wpAny_pure h
mutual
theorem nest_keep {h h' : Heap} (kp : ∀ (b : Addr) (o : Obj), h.get? b = some o → o.cls = .type "tuple" → h'.get? b = some o) : ∀ (k : NestedKey) {v : Value}, NestedIs h k v → NestedIs h' k v
  | .none, _, .none => .none
  | .num _, _, .bool e => .bool e
  | .num _, _, .int i t => .int i t
  | .text _, _, .text x t => .text x t
  | .tup ks, _, .tup ho hc hd hall => .tup (kp _ _ ho hc) hc hd (nest_keeps kp ks hall)
theorem nest_keeps {h h' : Heap} (kp : ∀ (b : Addr) (o : Obj), h.get? b = some o → o.cls = .type "tuple" → h'.get? b = some o) : ∀ (ks : List NestedKey) {vs : List Value}, NestedAll h ks vs → NestedAll h' ks vs
  | [], _, .nil => .nil
  | k :: ks, _, .cons r t => .cons (nest_keep kp k r) (nest_keeps kp ks t)
end
theorem KeyAt.keep {h h' : Heap} {k : NestedKey} {b : Addr} (K : KeyAt h k b) (kp : ∀ (c : Addr) (o : Obj), h.get? c = some o → h'.get? c = some o) : KeyAt h' k b := ⟨nest_keep (fun c o e _ => kp c o e) k K.is, K.dep, K.pl⟩
theorem KeyAt.same {h h' : Heap} {k : NestedKey} {a b : Addr} {o : Obj} (K : KeyAt h k b) (ho : h.get? a = some o) (hx : o.ExactSet) (hs : Heap.SameBut a h h') : KeyAt h' k b :=
  ⟨nest_keep (fun c oc e ec => by
    have : c ≠ a := fun z => by
      subst z
      rw [ho] at e; cases e
      rw [hx.1] at ec
      exact absurd (Value.type.inj ec) (by decide)
    exact (hs.2 c this).trans e) k K.is, K.dep, K.pl⟩
end Nc
namespace Nc
open PySem PySem.Spec PySem.W PyProof.Rows L2
/-! ## a set of keys, as it lies in its table -/
def rowsN (w : World) (L : List (Addr × NestedKey)) : List (Int × Value) := L.map fun p => (NestedKey.hash w p.2, Value.ref p.1)
structure TabN (w : World) (h : Heap) (a : Addr) (L : List (Addr × NestedKey)) (es : Array (Int × Value)) (ep : Nat) (t : SetTable) : Prop where
  ob : ∃ o, h.get? a = some o ∧ o.ExactSet ∧ o.data = Data.set es ep t
  rows : es.toList = rowsN w L
  tab : TabOk t (L.map fun p => NestedKey.hash w p.2)
  nd : (L.map (·.2)).Nodup
  keys : ∀ p ∈ L, KeyAt h p.2 p.1
  plain : t.plain = true
  led : w.params.followText "set-order" = true ∨ t.led = true
  room : L.length * 5 < t.mask * 3
  few : L.length < 64
section
variable {P : Program} {w : World} {A : Around} {E : Value → Shared → Prop} {s : Shared} {a : Addr} {L : List (Addr × NestedKey)} {es : Array (Int × Value)} {ep : Nat} {t : SetTable}
theorem TabN.size {h : Heap} (R : TabN w h a L es ep t) : es.size = L.length := by
  have := congrArg List.length R.rows
  simpa [rowsN] using this
theorem TabN.fits {h : Heap} (R : TabN w h a L es ep t) : t.fits es.size = true := by
  have h1 := R.size
  have h2 := R.tab.sz
  have h3 := R.tab.dm
  have h4 := R.room
  show (t.place.size == es.size && decide (t.place.size + t.dummies.size ≤ t.mask)) = true
  rw [h3, Bool.and_eq_true, beq_iff_eq, decide_eq_true_eq]
  rw [List.length_map] at h2
  have : (#[] : Array Nat).size = 0 := rfl
  omega
theorem TabN.gw {h : Heap} (R : TabN w h a L es ep t) : ¬t.gaveWay = true := by
  have m := mask_odd R.tab.mok
  show ¬(t.mask % 2 == 0) = true
  rw [m]; decide
theorem TabN.entry {h : Heap} (R : TabN w h a L es ep t) {i : Nat} {p : Addr × NestedKey} (e : L[i]? = some p) : es[i]? = some (NestedKey.hash w p.2, Value.ref p.1) := by
  rw [← Array.getElem?_toList, R.rows]
  unfold rowsN
  rw [List.getElem?_map, e]; rfl
theorem TabN.mem {h : Heap} (R : TabN w h a L es ep t) {v : Value} (hv : v ∈ es.toList.map (·.2)) : ∃ k c, v = Value.ref c ∧ KeyAt h k c := by
  rw [R.rows] at hv
  unfold rowsN at hv
  rw [List.map_map] at hv
  obtain ⟨p, hp, e⟩ := List.mem_map.mp hv
  exact ⟨p.2, p.1, e.symm, R.keys p hp⟩
/-- a look along the table, from its c-th place on -/
theorem look_from (R : TabN w s.heap a L es ep t) {x : Addr} {k : NestedKey} (hx : KeyAt s.heap k x) (hu : A.units + 8 < cLine) {K : Nat} (hKf : K < 10 * SetTable.turns t.mask) (hK : ¬ way t.mask (NestedKey.hash w k) K ∈ t.place.toList) (hKb : ∀ c, c < K → way t.mask (NestedKey.hash w k) c ∈ t.place.toList)
    {Q : SetFound → Shared → Prop} (hin : k ∈ L.map (·.2) → Q (.there none) s) (hout : ¬ k ∈ L.map (·.2) → Q (.free (way t.mask (NestedKey.hash w k) K) false) s) :
    ∀ (f c : Nat) (stand : Option SetTable.Probe), stand.getD (t.probeStart (NestedKey.hash w k)) = nth t.mask (runAt t.mask (SetTable.bits (NestedKey.hash w k) % (t.mask + 1)) (SetTable.bits (NestedKey.hash w k))) c → c ≤ K → K - c < f →
      (∀ (i : Nat) (p : Addr × NestedKey), L[i]? = some p → p.2 = k → ∃ c', c ≤ c' ∧ c' < K ∧ t.place.toList[i]? = some (way t.mask (NestedKey.hash w k) c')) → wpAny (model P w) A (setSearchFrom a (.ref x) (NestedKey.hash w k) true f stand) Q E s
  | 0, c, stand, _, _, hf, _ => absurd hf (Nat.not_lt_zero _)
  | f + 1, c, stand, hst, hc, hf, hre => by
    obtain ⟨o, ho, hex, hd⟩ := R.ob
    rw [setSearchFrom_succ]
    refine wpAny_bind (wpAny_setState_of ho hd R.fits ?_)
    simp only []
    refine wp_if_neg R.gw (wpAny_bind (wpAny_pure ?_))
    generalize eB : runAt t.mask (SetTable.bits (NestedKey.hash w k) % (t.mask + 1)) (SetTable.bits (NestedKey.hash w k)) = B at hst
    have hw : ∀ q, way t.mask (NestedKey.hash w k) q = (nth t.mask B q).j := fun q => by rw [← eB]
    have hnd : ∀ (n : Nat) (p : SetTable.Probe), p.dummy = none → (nth t.mask p n).dummy = none := by
      intro n
      induction n with
      | zero => exact fun p h => h
      | succ n ih =>
        intro p h
        refine ih (adv t.mask p) ?_
        unfold adv
        split <;> exact h
    have hB : B.dummy = none := by rw [← eB]; rfl
    have sh : ∀ q, nth t.mask (nth t.mask B c) q = nth t.mask B (c + q) := fun q => (nth_add t.mask c B q).symm
    have hashAt : ∀ (i : Nat) (p : Addr × NestedKey), L[i]? = some p → (Option.map (fun x : Int × Value => x.1) es[i]?).getD 0 = NestedKey.hash w p.2 := fun i p hp => by rw [R.entry hp]; rfl
    have spec := go_spec t R.tab.ris R.tab.dm (fun i => (Option.map (fun x : Int × Value => x.1) es[i]?).getD 0) (NestedKey.hash w k) (10 * SetTable.turns t.mask) (K - c) (nth t.mask B c) (hnd c B hB) (by omega)
      (fun q hq => by rw [sh, ← hw]; exact hKb _ (by omega)) (by rw [sh, ← hw, show c + (K - c) = K by omega]; exact hK)
    rcases spec with ⟨q, i, hq, hi, hh, hno, hpr⟩ | ⟨hno, hpr⟩
    · rw [hst]
      have hpr' : t.probe (fun i => (Option.map (fun x : Int × Value => x.1) es[i]?).getD 0) (NestedKey.hash w k) (nth t.mask B c) = some (SetTable.Met.candidate (nth t.mask B (c + q)).j i (nth t.mask B (c + (q + 1)))) := by
        rw [← sh, ← sh]; exact hpr
      rw [hpr']
      simp only []
      rw [sh] at hi
      have hil : i < L.length := by
        have h1 := (List.getElem?_eq_some_iff.mp hi).1
        have h2 := R.tab.sz
        rw [List.length_map] at h2
        rw [Array.length_toList] at h1
        omega
      have hp := List.getElem?_eq_getElem hil
      have hmem := List.mem_of_getElem? hp
      have rest : wpAny (model P w) A (searchRest a (.ref x) (NestedKey.hash w k) true f es t (nth t.mask B (c + q)).j i (nth t.mask B (c + (q + 1)))) Q E s := by
        unfold searchRest
        rw [R.entry hp]
        simp only []
        refine wpAny_bind (wpAny_holding ?_)
        refine (nestedKind P w).eqBool (A := A) (show A.units + 8 < cLine from hu) ⟨(R.keys _ hmem).is, (R.keys _ hmem).dep⟩ ⟨hx.is, hx.dep⟩ ?_
        refine wpAny_bind (wpAny_setState_of ho hd R.fits ?_)
        simp only []
        by_cases hkk : L[i].2 = k
        · rw [if_pos (by simp [hkk])]
          exact wpAny_pure (hin (List.mem_map.mpr ⟨L[i], hmem, hkk⟩))
        · rw [if_neg (by simp [hkk]), sameMem]
          simp only [if_true]
          rw [slot_live R.tab.ris hi]
          simp only []
          rw [R.entry hp]
          simp only []
          refine wpAny_bind (wpAny_isSame_ref_self (wpAny_bind (wpAny_pure ?_)))
          simp only [if_true]
          rw [if_neg (by simp [hkk])]
          refine look_from R hx hu hKf hK hKb hin hout f (c + (q + 1)) _ (by rw [eB]; rfl) (by omega) (by omega) fun i' p' hp' hk' => ?_
          obtain ⟨c', c1, c2, c3⟩ := hre i' p' hp' hk'
          refine ⟨c', ?_, c2, c3⟩
          rcases Nat.lt_or_ge c' (c + (q + 1)) with z | z
          · exfalso
            rcases Nat.lt_or_ge c' (c + q) with z2 | z2
            · refine hno (c' - c) i' (by omega) ?_ ?_
              · rw [sh, show c + (c' - c) = c' by omega, ← hw]; exact c3
              · rw [hashAt i' p' hp', hk']
            · have ec : c' = c + q := by omega
              rw [ec, hw] at c3
              have : i' = i := by
                have z1 := slot_live R.tab.ris hi
                rw [slot_live R.tab.ris c3] at z1
                cases z1; rfl
              subst this
              rw [hp] at hp'
              cases hp'
              exact hkk hk'
          · exact z
      split
      · refine wpAny_bind (seen_nest hx (fun y hy => R.mem ?_) ?_)
        · obtain ⟨e, he, rfl⟩ := List.mem_map.mp hy
          rw [Array.toList_filter] at he
          exact List.mem_map.mpr ⟨e, (List.mem_filter.mp he).1, rfl⟩
        · rw [if_neg (by decide)]
          exact rest
      · exact rest
    · rw [hst]
      have hpr' : t.probe (fun i => (Option.map (fun x : Int × Value => x.1) es[i]?).getD 0) (NestedKey.hash w k) (nth t.mask B c) = some (SetTable.Met.empty (nth t.mask B K).j none) := by
        have := hpr
        rw [sh, show c + (K - c) = K by omega] at this
        exact this
      rw [hpr']
      simp only []
      refine wpAny_pure ?_
      rw [← hw]
      refine hout fun hm => ?_
      obtain ⟨p, hp, hk⟩ := List.mem_map.mp hm
      obtain ⟨i, hi⟩ := List.getElem?_of_mem hp
      obtain ⟨c', c1, c2, c3⟩ := hre i p hi hk
      refine hno (c' - c) i (by omega) ?_ ?_
      · rw [sh, show c + (c' - c) = c' by omega, ← hw]; exact c3
      · rw [hashAt i p hi, hk]
theorem look_at (R : TabN w s.heap a L es ep t) {x : Addr} {k : NestedKey} (hx : KeyAt s.heap k x) (hu : A.units + 8 < cLine) {Q : SetFound → Shared → Prop} (hin : k ∈ L.map (·.2) → Q (.there none) s)
    (hout : ∀ K : Nat, ¬ k ∈ L.map (·.2) → ¬ way t.mask (NestedKey.hash w k) K ∈ t.place.toList → (∀ c, c < K → way t.mask (NestedKey.hash w k) c ∈ t.place.toList) → Q (.free (way t.mask (NestedKey.hash w k) K) false) s) : wpAny (model P w) A (setSearch a (.ref x) (NestedKey.hash w k) true) Q E s := by
  have hroom := R.room
  obtain ⟨K, hKf, hK, hKb⟩ := R.tab.first (by rw [List.length_map]; omega) (NestedKey.hash w k)
  have hbig : K < 100000 := by
    have : 10 * SetTable.turns t.mask ≤ 100000 := by
      rcases R.tab.mok with e | e | e <;> rw [e] <;> decide
    omega
  refine look_from R hx hu hKf hK hKb hin (fun hn => hout K hn hK hKb) 100000 0 none rfl (Nat.zero_le K) (by omega) fun i p hp hk => ?_
  have hi : (L.map fun p => NestedKey.hash w p.2)[i]? = some (NestedKey.hash w k) := by rw [List.getElem?_map, hp, ← hk]; rfl
  have hil : i < t.place.toList.length := by
    have h1 := (List.getElem?_eq_some_iff.mp hp).1
    have h2 := R.tab.sz
    rw [List.length_map] at h2
    rw [Array.length_toList]; omega
  have hj := List.getElem?_eq_getElem hil
  obtain ⟨c, hc, e⟩ := R.tab.before hK hi hj
  exact ⟨c, Nat.zero_le c, hc, by rw [hj, ← e]⟩
theorem rowsN_put (L : List (Addr × NestedKey)) (p : Nat) (x : Addr) (k : NestedKey) : rowsN w (L.take p ++ (x, k) :: L.drop p) = (rowsN w L).take p ++ (NestedKey.hash w k, Value.ref x) :: (rowsN w L).drop p := by
  unfold rowsN
  rw [List.map_append, List.map_cons, List.map_take, List.map_drop]
end
end Nc
namespace Nc
open PySem PySem.Spec PySem.W PyProof.Rows L2
section
variable {P : Program} {w : World} {A : Around} {E : Value → Shared → Prop} {s : Shared} {a : Addr} {L : List (Addr × NestedKey)} {es : Array (Int × Value)} {ep : Nat} {t : SetTable}
theorem range_pick {α : Type} (l : List α) : (List.range l.length).filterMap (fun i => l[i]?) = l := by
  induction l with
  | nil => rfl
  | cons x r ih =>
    rw [List.length_cons, List.range_succ_eq_map, List.filterMap_cons]
    simp only [List.getElem?_cons_zero]
    rw [List.filterMap_map]
    congr 1
theorem pick_all {α β : Type} (l : List α) (g : α → β) (d : β) : ∀ order : List Nat, (∀ i ∈ order, i < l.length) → (order.filterMap fun i => l[i]?).map g = order.map fun i => ((l[i]?).map g).getD d
  | [], _ => rfl
  | i :: r, h => by
    have hi := h i List.mem_cons_self
    rw [List.filterMap_cons, List.getElem?_eq_getElem hi]
    simp only [List.map_cons]
    rw [pick_all l g d r fun j hj => h j (List.mem_cons_of_mem _ hj), List.getElem?_eq_getElem hi]
    rfl
theorem order_rowsN (L : List (Addr × NestedKey)) (es : Array (Int × Value)) (order : Array Nat) (hr : es.toList = rowsN w L) (hp : order.toList.Perm (List.range L.length)) :
    ∃ L2, (order.filterMap fun x => es[x]?).toList = rowsN w L2 ∧ L2.Perm L ∧ (L2.map fun p => NestedKey.hash w p.2) = order.toList.map fun i => (es.map fun x => x.1).getD i 0 := by
  have lt : ∀ i ∈ order.toList, i < L.length := fun i hi => List.mem_range.mp (hp.mem_iff.mp hi)
  have ent : ∀ i, es[i]? = (L[i]?).map (fun p : Addr × NestedKey => (NestedKey.hash w p.2, Value.ref p.1)) := fun i => by
    rw [← Array.getElem?_toList, hr]
    unfold rowsN
    rw [List.getElem?_map]
  refine ⟨order.toList.filterMap fun i => L[i]?, ?_, ?_, ?_⟩
  · rw [Array.toList_filterMap]
    unfold rowsN
    rw [List.map_filterMap]
    congr 1
    funext i
    exact ent i
  · have := hp.filterMap fun i => L[i]?
    rw [range_pick] at this
    exact this
  · rw [pick_all L (fun p => NestedKey.hash w p.2) 0 _ lt]
    apply List.map_congr_left
    intro i hi
    rw [Array.getD_eq_getD_getElem?, Array.getElem?_map, ent i, Option.map_map]
    rfl
theorem relayN {o : Obj} (ho : s.heap.get? a = some o) (hex : o.ExactSet) (hd : o.data = Data.set es ep t) (hrows : es.toList = rowsN w L) (hsz : t.place.size = es.size) (hdm : t.dummies = #[]) (hfl : es.size ≤ t.mask) (nd : (L.map (·.2)).Nodup) (keys : ∀ p ∈ L, KeyAt s.heap p.2 p.1) (pl : t.plain = true)
    (ld : w.params.followText "set-order" = true ∨ t.led = true) (few : L.length < 64) {wanted M : Nat} (hw : SetTable.sizeAbove wanted - 1 = M) (hM : MaskOk M) (hw2 : SetTable.sizeAbove wanted ≤ 128) (hn : L.length * 5 < M * 3) {Q : Unit → Shared → Prop}
    (hQ : ∀ (h' : Heap) (L' : List (Addr × NestedKey)) (es' : Array (Int × Value)) (ep' : Nat) (t' : SetTable), Heap.SameBut a s.heap h' → TabN w h' a L' es' ep' t' → L'.Perm L → Q () { heap := h', gens := s.gens, drawn := s.drawn, toks := s.toks, os := s.os }) :
    wpAny (model P w) A (setRelay a wanted) Q E s := by
  have hsl : es.size = L.length := by
    have := congrArg List.length hrows
    simpa [rowsN] using this
  have hfits : t.fits es.size = true := by
    show (t.place.size == es.size && decide (t.place.size + t.dummies.size ≤ t.mask)) = true
    rw [hdm, Bool.and_eq_true, beq_iff_eq, decide_eq_true_eq]
    have : (#[] : Array Nat).size = 0 := rfl
    omega
  have hmap : (es.map fun x => x.1).size = es.size := Array.size_map ..
  obtain ⟨t', order, e, hp, T, em, el, epl, ed⟩ := relaid_ok t (hs := es.map fun x => x.1) hw hM (by rw [hmap]; omega)
  rw [hmap, hsl] at hp
  obtain ⟨L2, r1, r2, r3⟩ := order_rowsN L es order hrows hp
  have hs2 : (order.filterMap fun x => es[x]?).size = es.size := by
    have := congrArg List.length r1
    rw [Array.length_toList] at this
    rw [this, hsl, ← r2.length_eq]
    simp [rowsN]
  rw [setRelay_eq]
  refine wpAny_bind (wpAny_setState_of ho hd hfits ?_)
  simp only []
  refine wp_if_neg (by
    have := sizeLine_eq
    omega) ?_
  rw [e]
  simp only []
  refine wpAny_bind (wp_if_neg (by rw [hs2]; simp) (wpAny_pure ?_))
  have sb := Heap.SameBut.update s.heap a (Obj.putSet (order.filterMap fun x => es[x]?) t')
  refine wpAny_storeSet_of ho hd ?_ ?_
  · refine hQ _ L2 (order.filterMap fun x => es[x]?) (ep + 1) t' sb ⟨⟨_, store_at ho hd, ⟨hex.1, hex.2.1, hex.2.2⟩, rfl⟩, r1, by rw [r3]; exact T, (r2.map (·.2)).nodup_iff.mpr nd, fun p hpm => (keys p (r2.mem_iff.mp hpm)).same ho hex sb, by rw [epl]; exact pl, by rw [el]; exact ld, by rw [r2.length_eq, em]; exact hn, by rw [r2.length_eq]; exact few⟩ r2
  · rw [hs2]
    have := sizeLine_eq
    omega
end
end Nc
namespace Nc
open PySem PySem.Spec PySem.W PyProof.Rows L2
section
variable {P : Program} {w : World} {A : Around} {E : Value → Shared → Prop} {s : Shared} {a : Addr} {L : List (Addr × NestedKey)} {es : Array (Int × Value)} {ep : Nat} {t : SetTable}
theorem addN (R : TabN w s.heap a L es ep t) {x : Addr} {k : NestedKey} (hx : KeyAt s.heap k x) (hu : A.units + 8 < cLine) (hfew : L.length + 1 < 64) {Q : Bool → Shared → Prop}
    (hQ : ∀ (b : Bool) (h' : Heap) (L' : List (Addr × NestedKey)) (es' : Array (Int × Value)) (ep' : Nat) (t' : SetTable), Heap.SameBut a s.heap h' → TabN w h' a L' es' ep' t' → (k ∈ L.map (·.2) → L' = L) → (¬ k ∈ L.map (·.2) → L'.Perm ((x, k) :: L)) → Q b { heap := h', gens := s.gens, drawn := s.drawn, toks := s.toks, os := s.os }) :
    wpAny (model P w) A (setAddHashed a (.ref x) (NestedKey.hash w k)) Q E s := by
  obtain ⟨o, ho, hex, hd⟩ := R.ob
  have hsl := R.size
  have hroom := R.room
  unfold setAddHashed
  refine wpAny_holding ?_
  show wpAny (model P w) A (setAddHashedIn a (.ref x) (NestedKey.hash w k) (99999 + 1)) Q E s
  rw [setAddHashedIn_succ]
  refine wpAny_bind (wpAny_setState_of ho hd R.fits ?_)
  simp only []
  refine wp_if_neg (by simp [byScan, Value.scannable]) ?_
  refine wpAny_bind (look_at R hx hu (fun hm => ?_) fun K hm hK hb => ?_)
  · simp only []
    exact wpAny_pure (hQ false s.heap L es ep t (Heap.SameBut.refl a s.heap) R (fun _ => rfl) fun z => absurd hm z)
  · simp only []
    refine wpAny_bind (wpAny_setState_of ho hd R.fits ?_)
    simp only []
    obtain ⟨q1, q2, q3, q4, q5, q6, q7, q8, q9⟩ := R.tab.put hK hb
    rw [R.plain] at q6
    generalize ept : t.put (way t.mask (NestedKey.hash w k) K) = tp at q1 q3 q4 q5 q6 q7 q8 q9 ⊢
    obtain ⟨t1, p⟩ := tp
    simp only [] at q1 q3 q4 q5 q6 q7 q8 q9 ⊢
    subst q1
    rw [if_pos q6]
    refine wpAny_bind (hashBy_nest 8 k _ hx.is hx.pl hx.dep ?_)
    simp only [if_true]
    generalize SetTable.below t.place (way t.mask (NestedKey.hash w k) K) = p at q2 q3 ⊢
    have hin : (SetTable.insertAt es p (NestedKey.hash w k, Value.ref x)).toList = rowsN w (L.take p ++ (x, k) :: L.drop p) := by
      rw [SetTable.toList_insertAt, R.rows, rowsN_put]
    have pm := put_perm L p (x, k)
    have hlen := pm.length_eq
    rw [List.length_cons] at hlen
    have hhs : ((L.take p ++ (x, k) :: L.drop p).map fun p => NestedKey.hash w p.2) = (L.map fun p => NestedKey.hash w p.2).take p ++ NestedKey.hash w k :: (L.map fun p => NestedKey.hash w p.2).drop p := by
      rw [List.map_append, List.map_cons, List.map_take, List.map_drop]
    have hsz : (SetTable.insertAt es p (NestedKey.hash w k, Value.ref x)).size = L.length + 1 := by
      have := congrArg List.length hin
      rw [Array.length_toList] at this
      rw [this]
      unfold rowsN
      rw [List.length_map, hlen]
    have nd' : ((L.take p ++ (x, k) :: L.drop p).map (·.2)).Nodup := by
      rw [(pm.map (·.2)).nodup_iff, List.map_cons, List.nodup_cons]
      exact ⟨hm, R.nd⟩
    have keys' : ∀ q ∈ L.take p ++ (x, k) :: L.drop p, KeyAt s.heap q.2 q.1 := fun q hq => by
      rcases List.mem_cons.mp (pm.mem_iff.mp hq) with z | z
      · subst z; exact hx
      · exact R.keys q z
    rw [List.length_map] at q9
    have ho1 := store_at (es' := SetTable.insertAt es p (NestedKey.hash w k, Value.ref x)) (t' := t1) ho hd
    have sb := Heap.SameBut.update s.heap a (Obj.putSet (SetTable.insertAt es p (NestedKey.hash w k, Value.ref x)) t1)
    have hf := q3.sz
    have hdm := q3.dm
    rw [← hhs, List.length_map, hlen] at hf
    refine wpAny_bind (wpAny_storeSet_of ho hd ?_ (by
      rw [hsz]
      have := sizeLine_eq
      omega))
    have T1 : TabOk t1 ((L.take p ++ (x, k) :: L.drop p).map fun p => NestedKey.hash w p.2) := by rw [hhs]; exact q3
    by_cases tf : t1.tooFull = true
    · refine wp_if_pos (by simp [tf]) ?_
      have tf' : t1.fill * 5 ≥ t1.mask * 3 := by
        unfold SetTable.tooFull at tf
        exact of_decide_eq_true tf
      rw [q9, q4] at tf'
      have fin : ∀ {wanted M : Nat}, SetTable.grown (es.size + 1) = wanted → SetTable.sizeAbove wanted - 1 = M → MaskOk M → SetTable.sizeAbove wanted ≤ 128 → (L.length + 1) * 5 < M * 3 → wpAny (model P w) A (setRelay a (SetTable.grown (es.size + 1)) >>= fun _ => pure true) Q E { heap := s.heap.update a (Obj.putSet (SetTable.insertAt es p (NestedKey.hash w k, Value.ref x)) t1), gens := s.gens, drawn := s.drawn, toks := s.toks, os := s.os } := fun {wanted M} e1 e2 e3 e4 e5 => by
        rw [e1]
        refine wpAny_bind (relayN (o := { cls := o.cls, dict := o.dict, data := Data.set (SetTable.insertAt es p (NestedKey.hash w k, Value.ref x)) (ep + 1) t1, slots := o.slots }) (L := L.take p ++ (x, k) :: L.drop p) ho1 ⟨hex.1, hex.2.1, hex.2.2⟩ rfl hin (by rw [hf, hsz]) hdm (by rw [hsz, q4]; omega) nd' (fun q hq => (keys' q hq).same ho hex sb) q6 (by rw [q5]; exact R.led) (by rw [hlen]; omega) e2 e3 e4 (by rw [hlen]; exact e5) fun h' L' es' ep' t' sb' R' pm' => ?_)
        exact wpAny_pure (hQ true h' L' es' ep' t' (sb.trans sb') R' (fun z => absurd z hm) fun _ => pm'.trans pm)
      rcases R.tab.mok with m | m | m
      · have : L.length = 4 := by omega
        exact fin (wanted := SetTable.grown 5) (M := 31) (by rw [hsl, this]) (by rw [size_20]) (.inr (.inl rfl)) (by rw [size_20]; decide) (by omega)
      · have : L.length = 18 := by omega
        exact fin (wanted := SetTable.grown 19) (M := 127) (by rw [hsl, this]) (by rw [size_76]) (.inr (.inr rfl)) (by rw [size_76]; decide) (by omega)
      · omega
    · refine wp_if_neg (by simp [tf]) (wpAny_pure ?_)
      have tf' : ¬ (t1.fill * 5 ≥ t1.mask * 3) := fun z => tf (by unfold SetTable.tooFull; exact decide_eq_true z)
      rw [q9] at tf'
      exact hQ true _ _ _ _ _ sb ⟨⟨_, ho1, ⟨hex.1, hex.2.1, hex.2.2⟩, rfl⟩, hin, T1, nd', fun q hq => (keys' q hq).same ho hex sb, q6, by rw [q5]; exact R.led, by rw [hlen]; omega, by rw [hlen]; omega⟩ (fun z => absurd z hm) fun _ => pm
end
end Nc
namespace Nc
open PySem PySem.Spec PySem.W PyProof.Rows L2
/-! ## the keys that a set keeps: of equal ones the first -/
def uq : List (Addr × NestedKey) → List (Addr × NestedKey) → List (Addr × NestedKey)
  | acc, [] => acc
  | acc, p :: r => match memK p.2 (acc.map (·.2)) with
    | true => uq acc r
    | false => uq (p :: acc) r
theorem memK_iff (k : NestedKey) : ∀ l : List NestedKey, memK k l = true ↔ k ∈ l
  | [] => by simp [memK]
  | x :: r => by
    unfold memK
    cases c : NestedKey.beq x k with
    | true => simp [nk_beq.mp c]
    | false =>
      simp only []
      rw [memK_iff k r, List.mem_cons]
      constructor
      · exact .inr
      · rintro (z | z)
        · rw [z, NestedKey.beq_self] at c; cases c
        · exact z
theorem uq_snoc (p : Addr × NestedKey) : ∀ (l acc : List (Addr × NestedKey)), uq acc (l ++ [p]) = match memK p.2 ((uq acc l).map (·.2)) with
    | true => uq acc l
    | false => p :: uq acc l
  | [], acc => by
    show uq acc [p] = _
    unfold uq
    show (match memK p.2 (acc.map (·.2)) with
      | true => uq acc []
      | false => uq (p :: acc) []) = _
    cases memK p.2 (acc.map (·.2)) <;> rfl
  | q :: l, acc => by
    rw [List.cons_append]
    unfold uq
    cases memK q.2 (acc.map (·.2)) with
    | true => exact uq_snoc p l acc
    | false => exact uq_snoc p l (q :: acc)
theorem uq_len : ∀ (l acc : List (Addr × NestedKey)), (uq acc l).length ≤ acc.length + l.length
  | [], acc => by show acc.length ≤ acc.length + 0; omega
  | q :: l, acc => by
    unfold uq
    cases memK q.2 (acc.map (·.2)) with
    | true => have := uq_len l acc; rw [List.length_cons]; simp only []; omega
    | false => have := uq_len l (q :: acc); rw [List.length_cons] at this ⊢; simp only []; omega
theorem uq_sub : ∀ (l acc : List (Addr × NestedKey)), ∀ p ∈ uq acc l, p ∈ acc ∨ p ∈ l
  | [], acc, p, h => .inl h
  | q :: l, acc, p, h => by
    unfold uq at h
    cases c : memK q.2 (acc.map (·.2)) with
    | true =>
      rw [c] at h
      rcases uq_sub l acc p h with z | z
      · exact .inl z
      · exact .inr (List.mem_cons_of_mem _ z)
    | false =>
      rw [c] at h
      rcases uq_sub l (q :: acc) p h with z | z
      · rcases List.mem_cons.mp z with y | y
        · exact .inr (y ▸ List.mem_cons_self)
        · exact .inl y
      · exact .inr (List.mem_cons_of_mem _ z)
theorem TabN.keep {w : World} {h h' : Heap} {a : Addr} {L : List (Addr × NestedKey)} {es : Array (Int × Value)} {ep : Nat} {t : SetTable} (R : TabN w h a L es ep t) (k : ∀ (o : Obj), h.get? a = some o → h'.get? a = some o) (kk : ∀ p ∈ L, KeyAt h' p.2 p.1) : TabN w h' a L es ep t := by
  obtain ⟨o, ho, hx⟩ := R.ob
  exact ⟨⟨o, k o ho, hx⟩, R.rows, R.tab, R.nd, kk, R.plain, R.led, R.room, R.few⟩
theorem set_loop {P : Program} {w : World} {A : Around} {I : Addr} {fp wr : List Addr} {G : Array GenState → Array GenState → Prop} {n : Nat} {Pv : Nat → Value → Prop} {St : Nat → Shared → Prop} {R : Result → Shared → Prop} (W : WalksS P w A.in1 I fp wr G n Pv St) (S : Addr) (hSf : ¬ S ∈ fp) (ks : List (Addr × NestedKey)) (hn : n = ks.length) (hfew : ks.length < 64)
    (hval : ∀ (i : Nat) (v : Value), Pv i v → ∃ p, ks[i]? = some p ∧ v = Value.ref p.1) (h0 : Heap) (hk : ∀ p ∈ ks, KeyAt h0 p.2 p.1) (hS0 : h0.get? S = none) (hw0 : ∀ b ∈ wr, h0.get? b = none) (hu : A.in1.units + 8 < cLine) :
    ∀ (k i : Nat) (s : Shared), n - i = k → i ≤ n → St i s → (∀ (b : Addr) (o : Obj), h0.get? b = some o → s.heap.get? b = some o) → (∃ L es ep t, TabN w s.heap S L es ep t ∧ L.Perm (uq [] (ks.take i))) →
      (∀ (s' : Shared) (L : List (Addr × NestedKey)) (es : Array (Int × Value)) (ep : Nat) (t : SetTable), Moved (S :: wr) G s s' → TabN w s'.heap S L es ep t → L.Perm (uq [] ks) → (∀ (b : Addr) (o : Obj), h0.get? b = some o → s'.heap.get? b = some o) → R (.ok (.ret .none)) s') →
      codeAny (model P w) A (.builtin "set.update.loop" { pos := [.ref S, .ref I] }) R s := by
  have hSw : ¬ S ∈ wr := fun h => hSf (W.sub S h)
  have hsub : ∀ b ∈ wr, b ∈ S :: wr := fun b hb => List.mem_cons_of_mem S hb
  have keepM : ∀ {s s' : Shared}, Moved wr G s s' → (∀ (b : Addr) (o : Obj), h0.get? b = some o → s.heap.get? b = some o) → ∀ (b : Addr) (o : Obj), h0.get? b = some o → s'.heap.get? b = some o := fun hm hkp b o e => hm.heap b o (fun hb => by rw [hw0 b hb] at e; cases e) (hkp b o e)
  have tk : ∀ {i : Nat} {p : Addr × NestedKey}, p ∈ uq [] (ks.take i) → p ∈ ks := fun hp => by
    rcases uq_sub _ _ _ hp with z | z
    · cases z
    · exact List.mem_of_mem_take z
  intro k
  induction k with
  | zero =>
    intro i s hk' hi hst hkp ⟨L, es, ep, t, hS, g⟩ hR
    have hin : i = n := by omega
    subst hin
    refine codeAny_builtin F.entry_set_update_loop ?_
    rw [Around.under_plainId F.plain_set_update_loop]
    show wpAny _ _ (pyNext (.ref I) >>= _) _ _ _
    refine wpAny_bind (W.done s _ _ hst fun s' hm => ?_)
    have hkp' := keepM hm hkp
    refine wpAny_pure (hR s' L es ep t (hm.mono hsub) (hS.keep (fun o e => hm.heap S o hSw e) fun p hp => (hk p (tk (g.mem_iff.mp hp))).keep hkp') ?_ hkp')
    rw [hn, List.take_length] at g
    exact g
  | succ k ih =>
    intro i s hk' hi hst hkp ⟨L, es, ep, t, hS, g⟩ hR
    have hlt : i < n := by omega
    refine codeAny_builtin F.entry_set_update_loop ?_
    rw [Around.under_plainId F.plain_set_update_loop]
    show wpAny _ _ (pyNext (.ref I) >>= _) _ _ _
    refine wpAny_bind (W.item i s _ _ hlt hst fun v s' hP hst' hm => ?_)
    obtain ⟨p, hp, rfl⟩ := hval i v hP
    have hpm : p ∈ ks := List.mem_of_getElem? hp
    have hkp' := keepM hm hkp
    have hS' : TabN w s'.heap S L es ep t := hS.keep (fun o e => hm.heap S o hSw e) fun q hq => (hk q (tk (g.mem_iff.mp hq))).keep hkp'
    have hKp : KeyAt s'.heap p.2 p.1 := (hk p hpm).keep hkp'
    have hLl : L.length + 1 < 64 := by
      have h1 := uq_len (ks.take i) []
      rw [← g.length_eq, List.length_take] at h1
      rw [List.length_nil] at h1
      omega
    simp only []
    refine wpAny_bind (wpAny_holding (wpAny_holding (wpAny_bind ((nestedKind P w).pyHash (show A.in1.units + 8 < cLine from hu) ⟨hKp.is, hKp.dep⟩ ?_))))
    refine addN (s := { heap := s'.heap, gens := s'.gens, drawn := s'.drawn, toks := s'.toks + p.2.draws, os := s'.os }) hS' hKp hu hLl fun b h' L' es' ep' t' hsb hS2 hsame hmore => ?_
    have hkp2 : ∀ (b : Addr) (o : Obj), h0.get? b = some o → h'.get? b = some o := fun b o e => by
      have : b ≠ S := fun z => by rw [z, hS0] at e; cases e
      exact (hsb.2 b this).trans (hkp' b o e)
    refine wpAny_pure ⟨Code.quiet_builtin _ (by decide +kernel), ih (i + 1) _ (by omega) hlt (W.frame (i + 1) s' h' (s'.toks + p.2.draws) hst' (Nat.le_add_right _ _) fun b hb o e => ?_) hkp2 ⟨L', es', ep', t', hS2, ?_⟩ fun s'' L2 es2 ep2 t2 hm'' hS'' g'' hkp'' => hR s'' L2 es2 ep2 t2 (Moved.trans W.gtrans ((hm.mono hsub).then_heap (Nat.le_add_right s'.toks p.2.draws) fun b o hb e => ?_) hm'') hS'' g'' hkp''⟩
    · have : b ≠ S := fun z => hSf (z ▸ hb)
      exact (hsb.2 b this).trans e
    · have et : ks.take (i + 1) = ks.take i ++ [p] := take_next hp
      rw [et, uq_snoc]
      have hmem : memK p.2 ((uq [] (ks.take i)).map (·.2)) = true ↔ p.2 ∈ L.map (·.2) := by rw [memK_iff, ((g.map (·.2)).mem_iff)]
      cases c : memK p.2 ((uq [] (ks.take i)).map (·.2)) with
      | true =>
        rw [hsame (hmem.mp c)]
        exact g
      | false =>
        have : ¬ p.2 ∈ L.map (·.2) := fun z => by rw [hmem.mpr z] at c; cases c
        exact (hmore this).trans (List.Perm.cons _ g)
    · have : b ≠ S := fun z => hb (z ▸ List.mem_cons_self)
      exact (hsb.2 b this).trans e
end Nc
namespace Nc
open PySem PySem.Spec PySem.W PyProof.Rows L2
theorem call_setN {P : Program} {w : World} {A : Around} {E : Value → Shared → Prop} {s : Shared} {l : Addr} {items : Array Value} (ks : List (Addr × NestedKey)) {Q : Value → Shared → Prop} (hh : A.handled = none) (hl : s.heap.IsList l items) (hit : items.toList = ks.map fun p => Value.ref p.1) (hk : ∀ p ∈ ks, KeyAt s.heap p.2 p.1) (hfew : ks.length < 64) (hu : A.units + 12 < cLine)
    (h : ∀ (h' : Heap) (tk : Nat) (L : List (Addr × NestedKey)) (es : Array (Int × Value)) (ep : Nat) (t : SetTable), TabN w h' s.heap.objs.size L es ep t → L.Perm (uq [] ks) → (∀ (b : Addr) (o : Obj), s.heap.get? b = some o → h'.get? b = some o) → Q (.ref s.heap.objs.size) { heap := h', gens := s.gens, drawn := s.drawn, toks := tk, os := s.os }) :
    wpAny (model P w) A (call (.type "set") [.ref l]) Q E s := by
  obtain ⟨c, tl, hmro⟩ := F.called_set.mro
  have hmade := F.called_set.made
  have hsub := F.called_set.sub
  have h1 := F.called_set.notType
  have h2 := F.called_set.canCreate
  have hct := F.typeCall_set_1 (Value.ref l)
  have hli := F.called_set.init.lookup
  have hbi := F.called_set.init.bind (Value.ref s.heap.objs.size)
  refine wpAny_call (codeAny_of_tree ?_)
  refine wpAny_pure ⟨Code.quiet_builtin _ (by decide +kernel), codeAny_builtin F.entry_type_call ?_⟩
  rw [Around.under_plain (weight_type_call_type "set" [Value.ref l] []) rfl]
  unfold Builtin.«type.__call__»
  simp only []
  refine wp_if_neg (by rw [h1]; decide) ?_
  refine wp_if_neg (by rw [h2]; decide) ?_
  refine wpAny_bind (wpAny_of_eq hct ?_)
  refine wpAny_bind (wpAny_of_eq hmro ?_)
  refine wp_if_neg (by simp) ?_
  refine wpAny_bind (wpAny_of_eq hmade ?_)
  refine wpAny_bind (wpAny_pure ?_)
  refine wpAny_bind (wpAny_holding ?_)
  refine wpAny_call (codeAny_mono (code_set_led1 (E := E) (Q₁ := fun obj s₁ => obj = Value.ref s.heap.objs.size ∧ s₁ = { heap := s.heap.push { cls := .type "set", data := .set #[] 0 (SetTable.fresh 0 0 !w.params.followText "set-order") }, gens := s.gens, drawn := s.drawn, toks := s.toks, os := s.os }) (Value.ref l) ⟨rfl, rfl⟩) fun r s₁ hr => ?_)
  cases r with
  | error e => exact hr
  | ok fl =>
    cases fl with
    | ret obj =>
      obtain ⟨e1, e2⟩ := hr
      subst e1; subst e2
      have hS : (s.heap.push { cls := Value.type "set", data := Data.set #[] 0 (SetTable.fresh 0 0 !w.params.followText "set-order") }).get? s.heap.objs.size = some { cls := Value.type "set", data := Data.set #[] 0 (SetTable.fresh 0 0 !w.params.followText "set-order") } := Heap.get?_push_size _ rfl
      have hT : ({ heap := s.heap.push { cls := Value.type "set", data := Data.set #[] 0 (SetTable.fresh 0 0 !w.params.followText "set-order") }, gens := s.gens, drawn := s.drawn, toks := s.toks, os := s.os } : Shared).TypeIs (Value.ref s.heap.objs.size) "set" := ⟨_, hS, rfl⟩
      refine wpAny_bind (wpAny_isInstance hT hsub (wpAny_ite_false (by rfl) (wpAny_bind (wpAny_holding ?_))))
      refine wpAny_bind (wpAny_specialOf hT hli (wpAny_holding (wpAny_bind (wpAny_of_eq hbi (wpAny_bind (wpAny_call (codeAny_mono (codeAny_call_builtin (R := wants (fun r s₂ => r = Value.none ∧ ∃ (h' : Heap) (tk : Nat) (L : List (Addr × NestedKey)) (es : Array (Int × Value)) (ep : Nat) (t : SetTable), s₂ = { heap := h', gens := s.gens, drawn := s.drawn, toks := tk, os := s.os } ∧ TabN w h' s.heap.objs.size L es ep t ∧ L.Perm (uq [] ks) ∧ ∀ (b : Addr) (o : Obj), s.heap.get? b = some o → h'.get? b = some o) E) F.called_set.init.plain F.entry_set_init (check_set_init_1 hT ?_)) fun r s₂ hr => ?_)))))))
      · have hlp := hl.push { cls := Value.type "set", data := Data.set #[] 0 (SetTable.fresh 0 0 !w.params.followText "set-order") }
        have hTl : ({ heap := s.heap.push { cls := Value.type "set", data := Data.set #[] 0 (SetTable.fresh 0 0 !w.params.followText "set-order") }, gens := s.gens, drawn := s.drawn, toks := s.toks, os := s.os } : Shared).TypeIs (Value.ref l) "list" := by
          obtain ⟨o, e1, e2, _⟩ := hlp
          exact ⟨o, e1, e2⟩
        have R0 : TabN w (s.heap.push { cls := Value.type "set", data := Data.set #[] 0 (SetTable.fresh 0 0 !w.params.followText "set-order") }) s.heap.objs.size [] #[] 0 (SetTable.fresh 0 0 !w.params.followText "set-order") :=
          { ob := ⟨_, hS, ⟨rfl, rfl, rfl⟩, rfl⟩, rows := rfl, tab := (L2.setTR_fresh (P := P) (w := w) (a := s.heap.objs.size) hS).tab, nd := List.nodup_nil, keys := fun p hp => (by cases hp), plain := rfl, led := (L2.setTR_fresh (P := P) (w := w) (a := s.heap.objs.size) hS).led, room := (show 0 * 5 < 7 * 3 by decide), few := (show 0 < 64 by decide) }
        unfold Builtin.«set.__init__»
        simp only [List.cons_append, List.nil_append]
        refine wpAny_bind ?_
        unfold noKeywords
        refine wp_if_pos (by rfl) (wpAny_pure ?_)
        refine wpAny_bind ?_
        unfold typeNameOfCut
        refine wpAny_bind ?_
        unfold shownTypeOf
        refine wpAny_bind (wpAny_typeOf hT ?_)
        simp only []
        refine wp_if_neg (by decide) (wpAny_pure ?_)
        unfold typeNameCut
        simp only []
        refine wpAny_pure ?_
        refine wpAny_bind ?_
        unfold checkCount
        simp only []
        refine wp_if_neg (by simp) (wp_if_neg (by simp) (wp_if_neg (by simp) (wpAny_pure ?_)))
        refine wpAny_bind (wpAny_pure ?_)
        refine wpAny_bind ?_
        unfold setUsed
        refine wpAny_bind (wpAny_setState_of hS rfl R0.fits (wpAny_pure ?_))
        refine wp_if_neg (by show ¬ ((0 : Nat) != 0) = true; decide) ?_
        refine wpAny_bind ?_
        unfold Builtin.Frozenset.updateFrom
        refine wpAny_bind ?_
        unfold Builtin.Frozenset.isAnySet orM
        refine wpAny_bind (wpAny_isInstance hTl F.sub_list_set ?_)
        refine wpAny_isInstance hTl F.sub_list_frozenset ?_
        refine wp_if_neg (by decide) ?_
        refine wpAny_bind (wpAny_typeOf hTl ?_)
        refine wp_if_neg (by decide) ?_
        refine wpAny_bind (wpAny_pyIter_list hlp ?_)
        refine wpAny_bind (wpAny_runValue ?_)
        have hlt : l < s.heap.objs.size := by
          obtain ⟨o, e1, _⟩ := hl
          exact Heap.lt_size e1
        have hsz : (s.heap.push { cls := Value.type "set", data := Data.set #[] 0 (SetTable.fresh 0 0 !w.params.followText "set-order") }).objs.size = s.heap.objs.size + 1 := Heap.size_push _ _
        rw [hsz]
        have nS : ∀ b, s.heap.objs.size ≤ b → s.heap.get? b = none := fun b hb => by
          cases q : s.heap.get? b with
          | none => rfl
          | some o => exact absurd (Heap.lt_size q) (Nat.not_lt.mpr hb)
        have hisz : items.size = ks.length := by
          have := congrArg List.length hit
          simpa using this
        refine set_loop (A := A.in1.in1) (Walks.toS (Walks.list (prog := P) (w := w) (A := A.in1.in1.in1) hh (s.heap.objs.size + 1) l (Nat.ne_of_lt (Nat.lt_succ_of_lt hlt)) items)) s.heap.objs.size (fun z => by
          rcases List.mem_cons.mp z with z | z
          · exact Nat.ne_of_lt (Nat.lt_succ_self _) z
          · rcases List.mem_cons.mp z with z | z
            · exact Nat.ne_of_gt hlt z
            · cases z) ks hisz hfew (fun i v hv => ?_) s.heap hk (nS _ (Nat.le_refl _)) (fun b hb => nS b (by
          rcases List.mem_cons.mp hb with z | z
          · rw [z]; exact Nat.le_succ _
          · cases z)) (by show A.units + 1 + 1 + 1 + 8 < cLine; omega) items.size 0 _ rfl (Nat.zero_le _) ?_ (fun b o e => ?_) ⟨[], #[], 0, _, R0.keep (fun o e => Heap.get?_push_of_some _ e) (fun p hp => (by cases hp)), List.Perm.refl _⟩ fun s' L es ep t hm hR hp hk' => ?_
        · have hv : items[i]? = some v := hv
          rw [← Array.getElem?_toList, hit, List.getElem?_map] at hv
          cases q : ks[i]? with
          | none => rw [q] at hv; cases hv
          | some p => rw [q] at hv; cases hv; exact ⟨p, rfl, rfl⟩
        · exact ⟨⟨_, Heap.get?_push_at hsz.symm rfl, rfl, rfl⟩, hlp.push _⟩
        · exact Heap.get?_push_of_some _ (Heap.get?_push_of_some _ e)
        · refine wpAny_pure (wpAny_pure ⟨rfl, s'.heap, s'.toks, L, es, ep, t, ?_, hR, hp, hk'⟩)
          have g1 : s'.gens = s.gens := hm.gens
          have g2 : s'.drawn = s.drawn := hm.drawn
          have g3 : s'.os = s.os := hm.os
          rw [← g1, ← g2, ← g3]
      · cases r with
        | error e => exact hr
        | ok fl =>
          cases fl with
          | ret v =>
            obtain ⟨e1, h', tk, L, es, ep, t, e2, r1, r2, r3⟩ := hr
            subst e1; subst e2
            refine wpAny_pure ?_
            simp only []
            refine wp_if_neg (by decide) ?_
            exact wpAny_pure (h h' tk L es ep t r1 r2 r3)
          | next => exact hr
          | brk => exact hr
          | cont => exact hr
    | next => exact hr
    | brk => exact hr
    | cont => exact hr
theorem call_setNT {P : Program} {w : World} {A : Around} {E : Value → Shared → Prop} {s : Shared} {l : Addr} {items : Array Value} (ks : List (Addr × NestedKey)) {Q : Value → Shared → Prop} (hh : A.handled = none) (hl : s.heap.IsTuple l items) (hit : items.toList = ks.map fun p => Value.ref p.1) (hk : ∀ p ∈ ks, KeyAt s.heap p.2 p.1) (hfew : ks.length < 64) (hu : A.units + 12 < cLine)
    (h : ∀ (h' : Heap) (tk : Nat) (L : List (Addr × NestedKey)) (es : Array (Int × Value)) (ep : Nat) (t : SetTable), TabN w h' s.heap.objs.size L es ep t → L.Perm (uq [] ks) → (∀ (b : Addr) (o : Obj), s.heap.get? b = some o → h'.get? b = some o) → Q (.ref s.heap.objs.size) { heap := h', gens := s.gens, drawn := s.drawn, toks := tk, os := s.os }) :
    wpAny (model P w) A (call (.type "set") [.ref l]) Q E s := by
  obtain ⟨c, tl, hmro⟩ := F.called_set.mro
  have hmade := F.called_set.made
  have hsub := F.called_set.sub
  have h1 := F.called_set.notType
  have h2 := F.called_set.canCreate
  have hct := F.typeCall_set_1 (Value.ref l)
  have hli := F.called_set.init.lookup
  have hbi := F.called_set.init.bind (Value.ref s.heap.objs.size)
  refine wpAny_call (codeAny_of_tree ?_)
  refine wpAny_pure ⟨Code.quiet_builtin _ (by decide +kernel), codeAny_builtin F.entry_type_call ?_⟩
  rw [Around.under_plain (weight_type_call_type "set" [Value.ref l] []) rfl]
  unfold Builtin.«type.__call__»
  simp only []
  refine wp_if_neg (by rw [h1]; decide) ?_
  refine wp_if_neg (by rw [h2]; decide) ?_
  refine wpAny_bind (wpAny_of_eq hct ?_)
  refine wpAny_bind (wpAny_of_eq hmro ?_)
  refine wp_if_neg (by simp) ?_
  refine wpAny_bind (wpAny_of_eq hmade ?_)
  refine wpAny_bind (wpAny_pure ?_)
  refine wpAny_bind (wpAny_holding ?_)
  refine wpAny_call (codeAny_mono (code_set_led1 (E := E) (Q₁ := fun obj s₁ => obj = Value.ref s.heap.objs.size ∧ s₁ = { heap := s.heap.push { cls := .type "set", data := .set #[] 0 (SetTable.fresh 0 0 !w.params.followText "set-order") }, gens := s.gens, drawn := s.drawn, toks := s.toks, os := s.os }) (Value.ref l) ⟨rfl, rfl⟩) fun r s₁ hr => ?_)
  cases r with
  | error e => exact hr
  | ok fl =>
    cases fl with
    | ret obj =>
      obtain ⟨e1, e2⟩ := hr
      subst e1; subst e2
      have hS : (s.heap.push { cls := Value.type "set", data := Data.set #[] 0 (SetTable.fresh 0 0 !w.params.followText "set-order") }).get? s.heap.objs.size = some { cls := Value.type "set", data := Data.set #[] 0 (SetTable.fresh 0 0 !w.params.followText "set-order") } := Heap.get?_push_size _ rfl
      have hT : ({ heap := s.heap.push { cls := Value.type "set", data := Data.set #[] 0 (SetTable.fresh 0 0 !w.params.followText "set-order") }, gens := s.gens, drawn := s.drawn, toks := s.toks, os := s.os } : Shared).TypeIs (Value.ref s.heap.objs.size) "set" := ⟨_, hS, rfl⟩
      refine wpAny_bind (wpAny_isInstance hT hsub (wpAny_ite_false (by rfl) (wpAny_bind (wpAny_holding ?_))))
      refine wpAny_bind (wpAny_specialOf hT hli (wpAny_holding (wpAny_bind (wpAny_of_eq hbi (wpAny_bind (wpAny_call (codeAny_mono (codeAny_call_builtin (R := wants (fun r s₂ => r = Value.none ∧ ∃ (h' : Heap) (tk : Nat) (L : List (Addr × NestedKey)) (es : Array (Int × Value)) (ep : Nat) (t : SetTable), s₂ = { heap := h', gens := s.gens, drawn := s.drawn, toks := tk, os := s.os } ∧ TabN w h' s.heap.objs.size L es ep t ∧ L.Perm (uq [] ks) ∧ ∀ (b : Addr) (o : Obj), s.heap.get? b = some o → h'.get? b = some o) E) F.called_set.init.plain F.entry_set_init (check_set_init_1 hT ?_)) fun r s₂ hr => ?_)))))))
      · have hlp := hl.push { cls := Value.type "set", data := Data.set #[] 0 (SetTable.fresh 0 0 !w.params.followText "set-order") }
        have hTl : ({ heap := s.heap.push { cls := Value.type "set", data := Data.set #[] 0 (SetTable.fresh 0 0 !w.params.followText "set-order") }, gens := s.gens, drawn := s.drawn, toks := s.toks, os := s.os } : Shared).TypeIs (Value.ref l) "tuple" := by
          obtain ⟨o, e1, e2, _⟩ := hlp
          exact ⟨o, e1, e2⟩
        have R0 : TabN w (s.heap.push { cls := Value.type "set", data := Data.set #[] 0 (SetTable.fresh 0 0 !w.params.followText "set-order") }) s.heap.objs.size [] #[] 0 (SetTable.fresh 0 0 !w.params.followText "set-order") :=
          { ob := ⟨_, hS, ⟨rfl, rfl, rfl⟩, rfl⟩, rows := rfl, tab := (L2.setTR_fresh (P := P) (w := w) (a := s.heap.objs.size) hS).tab, nd := List.nodup_nil, keys := fun p hp => (by cases hp), plain := rfl, led := (L2.setTR_fresh (P := P) (w := w) (a := s.heap.objs.size) hS).led, room := (show 0 * 5 < 7 * 3 by decide), few := (show 0 < 64 by decide) }
        unfold Builtin.«set.__init__»
        simp only [List.cons_append, List.nil_append]
        refine wpAny_bind ?_
        unfold noKeywords
        refine wp_if_pos (by rfl) (wpAny_pure ?_)
        refine wpAny_bind ?_
        unfold typeNameOfCut
        refine wpAny_bind ?_
        unfold shownTypeOf
        refine wpAny_bind (wpAny_typeOf hT ?_)
        simp only []
        refine wp_if_neg (by decide) (wpAny_pure ?_)
        unfold typeNameCut
        simp only []
        refine wpAny_pure ?_
        refine wpAny_bind ?_
        unfold checkCount
        simp only []
        refine wp_if_neg (by simp) (wp_if_neg (by simp) (wp_if_neg (by simp) (wpAny_pure ?_)))
        refine wpAny_bind (wpAny_pure ?_)
        refine wpAny_bind ?_
        unfold setUsed
        refine wpAny_bind (wpAny_setState_of hS rfl R0.fits (wpAny_pure ?_))
        refine wp_if_neg (by show ¬ ((0 : Nat) != 0) = true; decide) ?_
        refine wpAny_bind ?_
        unfold Builtin.Frozenset.updateFrom
        refine wpAny_bind ?_
        unfold Builtin.Frozenset.isAnySet orM
        refine wpAny_bind (wpAny_isInstance hTl F.sub_tuple_set ?_)
        refine wpAny_isInstance hTl F.sub_tuple_frozenset ?_
        refine wp_if_neg (by decide) ?_
        refine wpAny_bind (wpAny_typeOf hTl ?_)
        refine wp_if_neg (by decide) ?_
        refine wpAny_bind (wpAny_pyIter_tuple hlp ?_)
        refine wpAny_bind (wpAny_runValue ?_)
        have hlt : l < s.heap.objs.size := by
          obtain ⟨o, e1, _⟩ := hl
          exact Heap.lt_size e1
        have hsz : (s.heap.push { cls := Value.type "set", data := Data.set #[] 0 (SetTable.fresh 0 0 !w.params.followText "set-order") }).objs.size = s.heap.objs.size + 1 := Heap.size_push _ _
        rw [hsz]
        have nS : ∀ b, s.heap.objs.size ≤ b → s.heap.get? b = none := fun b hb => by
          cases q : s.heap.get? b with
          | none => rfl
          | some o => exact absurd (Heap.lt_size q) (Nat.not_lt.mpr hb)
        have hisz : items.size = ks.length := by
          have := congrArg List.length hit
          simpa using this
        refine set_loop (A := A.in1.in1) (Walks.toS (Walks.tuple (prog := P) (w := w) (A := A.in1.in1.in1) hh (s.heap.objs.size + 1) l (Nat.ne_of_lt (Nat.lt_succ_of_lt hlt)) items)) s.heap.objs.size (fun z => by
          rcases List.mem_cons.mp z with z | z
          · exact Nat.ne_of_lt (Nat.lt_succ_self _) z
          · rcases List.mem_cons.mp z with z | z
            · exact Nat.ne_of_gt hlt z
            · cases z) ks hisz hfew (fun i v hv => ?_) s.heap hk (nS _ (Nat.le_refl _)) (fun b hb => nS b (by
          rcases List.mem_cons.mp hb with z | z
          · rw [z]; exact Nat.le_succ _
          · cases z)) (by show A.units + 1 + 1 + 1 + 8 < cLine; omega) items.size 0 _ rfl (Nat.zero_le _) ?_ (fun b o e => ?_) ⟨[], #[], 0, _, R0.keep (fun o e => Heap.get?_push_of_some _ e) (fun p hp => (by cases hp)), List.Perm.refl _⟩ fun s' L es ep t hm hR hp hk' => ?_
        · have hv : items[i]? = some v := hv
          rw [← Array.getElem?_toList, hit, List.getElem?_map] at hv
          cases q : ks[i]? with
          | none => rw [q] at hv; cases hv
          | some p => rw [q] at hv; cases hv; exact ⟨p, rfl, rfl⟩
        · exact ⟨⟨_, Heap.get?_push_at hsz.symm rfl, rfl, rfl⟩, hlp.push _⟩
        · exact Heap.get?_push_of_some _ (Heap.get?_push_of_some _ e)
        · refine wpAny_pure (wpAny_pure ⟨rfl, s'.heap, s'.toks, L, es, ep, t, ?_, hR, hp, hk'⟩)
          have g1 : s'.gens = s.gens := hm.gens
          have g2 : s'.drawn = s.drawn := hm.drawn
          have g3 : s'.os = s.os := hm.os
          rw [← g1, ← g2, ← g3]
      · cases r with
        | error e => exact hr
        | ok fl =>
          cases fl with
          | ret v =>
            obtain ⟨e1, h', tk, L, es, ep, t, e2, r1, r2, r3⟩ := hr
            subst e1; subst e2
            refine wpAny_pure ?_
            simp only []
            refine wp_if_neg (by decide) ?_
            exact wpAny_pure (h h' tk L es ep t r1 r2 r3)
          | next => exact hr
          | brk => exact hr
          | cont => exact hr
    | next => exact hr
    | brk => exact hr
    | cont => exact hr
end Nc
namespace Nc
open PySem PySem.Spec PySem.W PyProof.Rows L2
theorem refs_perm {L : List (Addr × NestedKey)} : ∀ {vs : List Value}, (∀ v ∈ vs, ∃ q, q ∈ L ∧ v = Value.ref q.1) → ∃ L1 : List (Addr × NestedKey), vs = L1.map (fun q => Value.ref q.1) ∧ ∀ q ∈ L1, q ∈ L
  | [], _ => ⟨[], rfl, fun q hq => by cases hq⟩
  | v :: vs, h => by
    obtain ⟨q, hq, rfl⟩ := h v List.mem_cons_self
    obtain ⟨L1, e1, hs⟩ := refs_perm (vs := vs) fun u hu => h u (List.mem_cons_of_mem _ hu)
    refine ⟨q :: L1, by rw [e1]; rfl, fun r hr => ?_⟩
    rcases List.mem_cons.mp hr with z | z
    · rw [z]; exact hq
    · exact hs r z
theorem each_refs (L : List (Addr × NestedKey)) : EachIs (fun v (b : Addr × NestedKey) => v = Value.ref b.1) (L.map fun q => Value.ref q.1) L := by
  induction L with
  | nil => exact .nil
  | cons q r ih => exact .cons rfl ih
theorem refs_each : ∀ {vs : List Value} {L : List (Addr × NestedKey)}, EachIs (fun v (b : Addr × NestedKey) => v = Value.ref b.1) vs L → vs = L.map fun q => Value.ref q.1
  | _, _, .nil => rfl
  | _, _, .cons r t => by rw [r, refs_each t]; rfl
theorem each_reads {h : Heap} {a : Addr} {pd : Addr × NestedKey → PyData} : ∀ {L : List (Addr × NestedKey)}, (∀ p ∈ L, Reads h (.ref p.1) (pd p) []) → EachIs (fun v b => ∃ as, Reads h v (pd b) as ∧ ¬ a ∈ as) (L.map fun q => Value.ref q.1) L
  | [], _ => .nil
  | p :: L, h => .cons ⟨[], h p List.mem_cons_self, by simp⟩ (each_reads fun q hq => h q (List.mem_cons_of_mem _ hq))
theorem sorted_setN {P : Program} {w : World} {A : Around} {E : Value → Shared → Prop} {s : Shared} {a : Addr} {L : List (Addr × NestedKey)} {es : Array (Int × Value)} {ep : Nat} {t : SetTable} {Q : Value → Shared → Prop} (R : TabN w s.heap a L es ep t) (hh : A.handled = none) (pd : Addr × NestedKey → PyData) (rd : ∀ p ∈ L, Reads s.heap (.ref p.1) (pd p) [])
    (inj : ∀ q ∈ L, ∀ r ∈ L, q.1 = r.1 → q = r) (al : ∀ p ∈ L, ∀ q ∈ L, alike (pd p) (pd q) = true) (so : (∀ p ∈ L, ∃ x r, pd p = .tuple (x :: r)) ∨ ∀ p ∈ L, pd p ≠ .none ∧ ∀ xs, pd p ≠ .tuple xs) (dep : ∀ p ∈ L, (pd p).depth ≤ 12) (hu : A.units + 30 < cLine)
    (hQ : ∀ (s' : Shared) (p : Addr) (c : Nat) (L1 : List (Addr × NestedKey)), (∀ (b : Addr) (o : Obj), s.heap.get? b = some o → s'.heap.get? b = some o) → s'.gens = s.gens → s'.os = s.os → s.heap.objs.size ≤ p → L1.Perm L → s'.heap.get? p = some (seqObj "list" ((L1.mergeSort (dataLe false pd)).map fun q => Value.ref q.1).toArray c) → Q (.ref p) s') :
    wpAny (model P w) A (call (.builtin "sorted") [.ref a]) Q E s := by
  obtain ⟨o, ho, hex, hd⟩ := R.ob
  have hsz := R.size
  have hfew := R.few
  refine Calls.call_function_entry kind_sorted plain_sorted entry_sorted (args_sorted1 (Value.ref a)) (wpAny_bind (wpAny_pure (wpAny_bind (collect_set hh ⟨o, ho, hex.1, hd⟩ R.fits (by show es.size < 4096; omega) R.tab.ris R.led fun s1 vs k1 hz g1 o1 pm => ?_))))
  have hes : es.toList.map (fun x : Int × Value => x.2) = L.map fun q => Value.ref q.1 := by
    rw [R.rows]; unfold rowsN; rw [List.map_map]; rfl
  rw [hes] at pm
  obtain ⟨L1, e1, hs1⟩ := refs_perm (L := L) (vs := vs) fun v hv => by
    obtain ⟨q, hq, e⟩ := List.mem_map.mp (pm.mem_iff.mp hv)
    exact ⟨q, hq, e.symm⟩
  subst e1
  have nL : L.Nodup := nodup_of_map R.nd
  have nref : (L.map fun q => Value.ref q.1).Nodup := List.pairwise_map.mpr (nL.imp_of_mem fun {q r} hq hr hne e => hne (inj q hq r hr (Value.ref.inj e)))
  have n1 : L1.Nodup := nodup_of_map (pm.nodup_iff.mpr nref)
  have p1 : L1.Perm L := (List.perm_ext_iff_of_nodup n1 nL).mpr fun q => ⟨hs1 q, fun hq => by
    obtain ⟨r, hr, e⟩ := List.mem_map.mp (pm.mem_iff.mpr (List.mem_map.mpr ⟨q, hq, rfl⟩))
    rw [← inj r (hs1 r hr) q hq (Value.ref.inj e)]; exact hr⟩
  have hlen : L1.length ≤ sizeLine := by
    rw [p1.length_eq, sizeLine_eq]; omega
  refine wpAny_bind (wpAny_newList ?_ (by rw [List.length_map]; exact hlen))
  have hoL : (s1.heap.push (seqObj "list" (L1.map fun q => Value.ref q.1).toArray 0)).get? s1.heap.objs.size = some (seqObj "list" (L1.map fun q => Value.ref q.1).toArray 0) := Heap.get?_push_size _ rfl
  refine wpAny_bind (wpAny_holding (list_sort_data (enc := pd) hoL (each_refs L1) (each_reads fun p hp => Reads.keeps (fun b o e => Heap.get?_push_of_some _ (k1 b o e)) (rd p (hs1 p hp))) ?_ ?_ hlen ?_ fun out hl eo => ?_))
  · intro d hd' d' hd2
    obtain ⟨p, hp, rfl⟩ := List.mem_map.mp hd'
    obtain ⟨q, hq, rfl⟩ := List.mem_map.mp hd2
    exact al p (hs1 p hp) q (hs1 q hq)
  · rcases so with so | so
    · left
      intro d hd'
      obtain ⟨p, hp, rfl⟩ := List.mem_map.mp hd'
      exact so p (hs1 p hp)
    · right
      intro d hd'
      obtain ⟨p, hp, rfl⟩ := List.mem_map.mp hd'
      exact so p (hs1 p hp)
  · intro p hp
    have := dep p (hs1 p hp)
    show A.units + 1 + 1 + (pd p).depth < cLine
    omega
  · have eo := refs_each eo
    obtain ⟨c, hc⟩ := sortedHeap_at (vs := L1.map fun q => Value.ref q.1) (out := out.toArray) hoL
    refine wpAny_pure ⟨Value.ref s1.heap.objs.size, rfl, ?_⟩
    refine hQ _ s1.heap.objs.size c L1 ?k ?g ?o ?z p1 ?h
    case g => exact g1
    case o => exact o1
    case z => exact hz
    case h => rw [← eo]; exact hc
    case k =>
      intro b u e
      have q := k1 b u e
      have hlt := Heap.lt_size q
      have key := sortedHeap_old (h := s1.heap.push (seqObj "list" (L1.map fun q => Value.ref q.1).toArray 0)) (a := s1.heap.objs.size) (b := b) (vs := L1.map fun q => Value.ref q.1) (out := out.toArray) (Nat.ne_of_lt hlt) (by rw [Heap.size_push]; exact Nat.lt_succ_of_lt hlt)
      have k2 : (s1.heap.push (seqObj "list" (L1.map fun q => Value.ref q.1).toArray 0)).get? b = some u := Heap.get?_push_of_some _ q
      exact key.trans k2
end Nc
namespace Nc
open PySem PySem.Spec PySem.W PyProof.Rows L2
theorem call_set_lstI {P : Program} {w : World} {A : Around} {E : Value → Shared → Prop} {s : Shared} {l : Addr} {items : Array Value} (ns : List Int) {Q : Value → Shared → Prop} (hh : A.handled = none) (hl : s.heap.IsList l items) (hit : IntsAre items.toList ns) (hb : ns.length + 1 < scanBound)
    (h : ∀ (h' : Heap) (tk c : Nat), SetR w h' s.heap.objs.size (fun j => decide (j ∈ ns)) c → c ≤ ns.length → (∀ (b : Addr) (o : Obj), s.heap.get? b = some o → h'.get? b = some o) → Q (.ref s.heap.objs.size) { heap := h', gens := s.gens, drawn := s.drawn, toks := tk, os := s.os }) :
    wpAny (model P w) A (call (.type "set") [.ref l]) Q E s := by
  obtain ⟨c, tl, hmro⟩ := F.called_set.mro
  have hmade := F.called_set.made
  have hsub := F.called_set.sub
  have h1 := F.called_set.notType
  have h2 := F.called_set.canCreate
  have hct := F.typeCall_set_1 (Value.ref l)
  have hli := F.called_set.init.lookup
  have hbi := F.called_set.init.bind (Value.ref s.heap.objs.size)
  refine wpAny_call (codeAny_of_tree ?_)
  refine wpAny_pure ⟨Code.quiet_builtin _ (by decide +kernel), codeAny_builtin F.entry_type_call ?_⟩
  rw [Around.under_plain (weight_type_call_type "set" [Value.ref l] []) rfl]
  unfold Builtin.«type.__call__»
  simp only []
  refine wp_if_neg (by rw [h1]; decide) ?_
  refine wp_if_neg (by rw [h2]; decide) ?_
  refine wpAny_bind (wpAny_of_eq hct ?_)
  refine wpAny_bind (wpAny_of_eq hmro ?_)
  refine wp_if_neg (by simp) ?_
  refine wpAny_bind (wpAny_of_eq hmade ?_)
  refine wpAny_bind (wpAny_pure ?_)
  refine wpAny_bind (wpAny_holding ?_)
  refine wpAny_call (codeAny_mono (code_set_led1 (E := E) (Q₁ := fun obj s₁ => obj = Value.ref s.heap.objs.size ∧ s₁ = { heap := s.heap.push { cls := .type "set", data := .set #[] 0 (SetTable.fresh 0 0 !w.params.followText "set-order") }, gens := s.gens, drawn := s.drawn, toks := s.toks, os := s.os }) (Value.ref l) ⟨rfl, rfl⟩) fun r s₁ hr => ?_)
  cases r with
  | error e => exact hr
  | ok fl =>
    cases fl with
    | ret obj =>
      obtain ⟨e1, e2⟩ := hr
      subst e1; subst e2
      have hS : (s.heap.push { cls := Value.type "set", data := Data.set #[] 0 (SetTable.fresh 0 0 !w.params.followText "set-order") }).get? s.heap.objs.size = some { cls := Value.type "set", data := Data.set #[] 0 (SetTable.fresh 0 0 !w.params.followText "set-order") } := Heap.get?_push_size _ rfl
      have hT : ({ heap := s.heap.push { cls := Value.type "set", data := Data.set #[] 0 (SetTable.fresh 0 0 !w.params.followText "set-order") }, gens := s.gens, drawn := s.drawn, toks := s.toks, os := s.os } : Shared).TypeIs (Value.ref s.heap.objs.size) "set" := ⟨_, hS, rfl⟩
      refine wpAny_bind (wpAny_isInstance hT hsub (wpAny_ite_false (by rfl) (wpAny_bind (wpAny_holding ?_))))
      refine wpAny_bind (wpAny_specialOf hT hli (wpAny_holding (wpAny_bind (wpAny_of_eq hbi (wpAny_bind (wpAny_call (codeAny_mono (codeAny_call_builtin (R := wants (fun r s₂ => r = Value.none ∧ ∃ (h' : Heap) (tk c : Nat), s₂ = { heap := h', gens := s.gens, drawn := s.drawn, toks := tk, os := s.os } ∧ SetR w h' s.heap.objs.size (fun j => decide (j ∈ ns)) c ∧ c ≤ ns.length ∧ ∀ (b : Addr) (o : Obj), s.heap.get? b = some o → h'.get? b = some o) E) F.called_set.init.plain F.entry_set_init (check_set_init_1 hT ?_)) fun r s₂ hr => ?_)))))))
      · have hlp := hl.push { cls := Value.type "set", data := Data.set #[] 0 (SetTable.fresh 0 0 !w.params.followText "set-order") }
        have hTl : ({ heap := s.heap.push { cls := Value.type "set", data := Data.set #[] 0 (SetTable.fresh 0 0 !w.params.followText "set-order") }, gens := s.gens, drawn := s.drawn, toks := s.toks, os := s.os } : Shared).TypeIs (Value.ref l) "list" := by
          obtain ⟨o, e1, e2, _⟩ := hlp
          exact ⟨o, e1, e2⟩
        have R0 : TabN w (s.heap.push { cls := Value.type "set", data := Data.set #[] 0 (SetTable.fresh 0 0 !w.params.followText "set-order") }) s.heap.objs.size [] #[] 0 (SetTable.fresh 0 0 !w.params.followText "set-order") :=
          { ob := ⟨_, hS, ⟨rfl, rfl, rfl⟩, rfl⟩, rows := rfl, tab := (L2.setTR_fresh (P := P) (w := w) (a := s.heap.objs.size) hS).tab, nd := List.nodup_nil, keys := fun p hp => (by cases hp), plain := rfl, led := (L2.setTR_fresh (P := P) (w := w) (a := s.heap.objs.size) hS).led, room := (show 0 * 5 < 7 * 3 by decide), few := (show 0 < 64 by decide) }
        unfold Builtin.«set.__init__»
        simp only [List.cons_append, List.nil_append]
        refine wpAny_bind ?_
        unfold noKeywords
        refine wp_if_pos (by rfl) (wpAny_pure ?_)
        refine wpAny_bind ?_
        unfold typeNameOfCut
        refine wpAny_bind ?_
        unfold shownTypeOf
        refine wpAny_bind (wpAny_typeOf hT ?_)
        simp only []
        refine wp_if_neg (by decide) (wpAny_pure ?_)
        unfold typeNameCut
        simp only []
        refine wpAny_pure ?_
        refine wpAny_bind ?_
        unfold checkCount
        simp only []
        refine wp_if_neg (by simp) (wp_if_neg (by simp) (wp_if_neg (by simp) (wpAny_pure ?_)))
        refine wpAny_bind (wpAny_pure ?_)
        refine wpAny_bind ?_
        unfold setUsed
        refine wpAny_bind (wpAny_setState_of hS rfl R0.fits (wpAny_pure ?_))
        refine wp_if_neg (by show ¬ ((0 : Nat) != 0) = true; decide) ?_
        refine wpAny_bind ?_
        unfold Builtin.Frozenset.updateFrom
        refine wpAny_bind ?_
        unfold Builtin.Frozenset.isAnySet orM
        refine wpAny_bind (wpAny_isInstance hTl F.sub_list_set ?_)
        refine wpAny_isInstance hTl F.sub_list_frozenset ?_
        refine wp_if_neg (by decide) ?_
        refine wpAny_bind (wpAny_typeOf hTl ?_)
        refine wp_if_neg (by decide) ?_
        refine wpAny_bind (wpAny_pyIter_list hlp ?_)
        refine wpAny_bind (wpAny_runValue ?_)
        have hlt : l < s.heap.objs.size := by
          obtain ⟨o, e1, _⟩ := hl
          exact Heap.lt_size e1
        have hsz : (s.heap.push { cls := Value.type "set", data := Data.set #[] 0 (SetTable.fresh 0 0 !w.params.followText "set-order") }).objs.size = s.heap.objs.size + 1 := Heap.size_push _ _
        rw [hsz]
        have hisz : items.size = ns.length := by
          have q := IntsAre.length hit
          rw [Array.length_toList] at q
          exact q
        have hval : ∀ (i : Nat) (v : Value), items[i]? = some v → ∃ k t, ns[i]? = some k ∧ v = .int k t := fun i v hv => by
          have hi : i < ns.length := by rw [← hisz]; exact (Array.getElem?_eq_some_iff.mp hv).1
          obtain ⟨t, e⟩ := PyProof.Rows.IntsAre.int_at hit i v (by rw [Array.getElem?_toList]; exact hv)
          refine ⟨ns[i], t, List.getElem?_eq_getElem hi, ?_⟩
          rw [e, List.getD_eq_getElem?_getD, List.getElem?_eq_getElem hi] <;> rfl
        have hget : ((s.heap.push { cls := .type "set", dict := none, data := .set #[] 0 (SetTable.fresh 0 0 (!w.params.followText "set-order")) }).push { cls := .type "list_iterator", data := .fields #[.ref l, .int 0 0] }).get? s.heap.objs.size
              = some { cls := .type "set", dict := none, data := .set #[] 0 (SetTable.fresh 0 0 (!w.params.followText "set-order")) } := Heap.get?_push_of_some _ hS
        refine set_update_ints (A := A.in1.in1) (Walks.toS (Walks.list (prog := P) (w := w) (A := A.in1.in1.in1) hh (s.heap.objs.size + 1) l (Nat.ne_of_lt (Nat.lt_succ_of_lt hlt)) items)) s.heap.objs.size (fun z => by
          rcases List.mem_cons.mp z with z | z
          · exact Nat.ne_of_lt (Nat.lt_succ_self _) z
          · rcases List.mem_cons.mp z with z | z
            · exact Nat.ne_of_gt hlt z
            · cases z) ns hisz hb hval items.size 0 _ rfl (Nat.zero_le _) ⟨⟨_, Heap.get?_push_at hsz.symm rfl, rfl, rfl⟩, hlp.push _⟩ ⟨0, Nat.le_refl 0, setR_new_at hget⟩ fun s' c' hm hc' hS' => ?_
        have g1 : s'.gens = s.gens := hm.gens
        have g2 : s'.drawn = s.drawn := hm.drawn
        have g3 : s'.os = s.os := hm.os
        refine wpAny_pure (wpAny_pure ⟨rfl, s'.heap, s'.toks, c', ?_, hS', Nat.le_trans hc' (Nat.le_of_eq hisz), fun b o e => ?_⟩)
        · rw [← g1, ← g2, ← g3]
        · have hb0 : b < s.heap.objs.size := Heap.lt_size e
          have hb1 : b ≠ s.heap.objs.size := Nat.ne_of_lt hb0
          have hb2 : b ≠ s.heap.objs.size + 1 := Nat.ne_of_lt (Nat.lt_succ_of_lt hb0)
          exact hm.heap b o (by
            intro z
            rcases List.mem_cons.mp z with z | z
            · exact hb1 z
            · rcases List.mem_cons.mp z with z | z
              · exact hb2 z
              · cases z) (Heap.get?_push_of_some _ (Heap.get?_push_of_some _ e))
      · cases r with
        | error e => exact hr
        | ok fl =>
          cases fl with
          | ret v =>
            obtain ⟨e1, h', tk, c2, e2, r1, r2, r3⟩ := hr
            subst e1; subst e2
            refine wpAny_pure ?_
            simp only []
            refine wp_if_neg (by decide) ?_
            exact wpAny_pure (h h' tk c2 r1 r2 r3)
          | next => exact hr
          | brk => exact hr
          | cont => exact hr
    | next => exact hr
    | brk => exact hr
    | cont => exact hr
end Nc
namespace Nc
open PySem PySem.Spec PySem.W PyProof.Rows L2
/-! ## data of ints and tuples alone -/
mutual
def purD : D → Bool
  | .int _ => true
  | .tup ds => purDs ds
  | _ => false
def purDs : List D → Bool
  | [] => true
  | d :: r => purD d && purDs r
end
mutual
def nkD : D → NestedKey
  | .int i => .num i
  | .tup ds => .tup (nkDs ds)
  | _ => .none
def nkDs : List D → List NestedKey
  | [] => []
  | d :: r => nkD d :: nkDs r
end
mutual
def pdD : D → PyData
  | .int i => .int i
  | .tup ds => .tuple (pdDs ds)
  | _ => .none
def pdDs : List D → List PyData
  | [] => []
  | d :: r => pdD d :: pdDs r
end
mutual
def pdK : NestedKey → PyData
  | .num i => .int i
  | .tup ds => .tuple (pdKs ds)
  | _ => .none
def pdKs : List NestedKey → List PyData
  | [] => []
  | d :: r => pdK d :: pdKs r
end
mutual
theorem pdK_nk : ∀ d : D, pdK (nkD d) = pdD d
  | .int _ => rfl
  | .tup ds => by unfold nkD pdK pdD; rw [pdKs_nk ds]
  | .non => rfl
  | .bl _ => rfl
  | .str _ => rfl
  | .cell _ => rfl
theorem pdKs_nk : ∀ ds : List D, pdKs (nkDs ds) = pdDs ds
  | [] => rfl
  | d :: r => by unfold nkDs pdKs pdDs; rw [pdK_nk d, pdKs_nk r]
end
mutual
theorem pur_nk : ∀ d : D, purD d = true → toNK d = some (nkD d)
  | .int _, _ => rfl
  | .tup ds, h => by
    unfold purD at h
    unfold toNK nkD
    rw [pur_nks ds h]
  | .non, h => by cases h
  | .bl _, h => by cases h
  | .str _, h => by cases h
  | .cell _, h => by cases h
theorem pur_nks : ∀ ds : List D, purDs ds = true → toNKs ds = some (nkDs ds)
  | [], _ => rfl
  | d :: r, h => by
    unfold purDs at h
    rw [Bool.and_eq_true] at h
    unfold toNKs nkDs
    rw [pur_nk d h.1, pur_nks r h.2]
end
mutual
theorem pur_plain : ∀ d : D, purD d = true → plainK (nkD d) = true
  | .int _, _ => rfl
  | .tup ds, h => by
    unfold purD at h
    unfold nkD plainK
    exact purs_plain ds h
  | .non, h => by cases h
  | .bl _, h => by cases h
  | .str _, h => by cases h
  | .cell _, h => by cases h
theorem purs_plain : ∀ ds : List D, purDs ds = true → plainKs (nkDs ds) = true
  | [], _ => rfl
  | d :: r, h => by
    unfold purDs at h
    rw [Bool.and_eq_true] at h
    unfold nkDs plainKs
    rw [pur_plain d h.1, purs_plain r h.2]; rfl
end
section
variable {X : Cx} {pins : List (Addr × Obj)} {σ : L2.St} {H : Hp} {s : Shared} {ρ : Rho}
mutual
theorem pur_reads (I : Inv X pins σ H s) : ∀ (d : D) (v : V) (u : Value), purD d = true → Rp (kwOf X) ρ H d v → RelV v u → Reads s.heap u (pdD d) []
  | .int i, _, _, _, r, q => by
    rw [rp_int.mp r] at q; obtain ⟨t, rfl⟩ := q; exact .int i t
  | .tup ds, _, _, h, r, q => by
    unfold purD at h
    obtain ⟨a, xs, rfl, st, rs⟩ := rp_tup.mp r
    cases q
    obtain ⟨its, rv, ⟨o, ho, hc, n, hd⟩, _⟩ := I.tuple st
    exact .tuple ho hc hd (purs_reads I ds xs its h rs rv)
  | .non, _, _, h, _, _ => by cases h
  | .bl _, _, _, h, _, _ => by cases h
  | .str _, _, _, h, _, _ => by cases h
  | .cell _, _, _, h, _, _ => by cases h
theorem purs_reads (I : Inv X pins σ H s) : ∀ (ds : List D) (vs : List V) (us : List Value), purDs ds = true → Rps (kwOf X) ρ H ds vs → Vals vs us → ReadsAll s.heap us (pdDs ds) []
  | [], _, _, _, r, q => by
    rw [Rps.nil_iff.mp r] at q; cases q; exact .nil
  | d :: ds, _, _, h, r, q => by
    unfold purDs at h
    rw [Bool.and_eq_true] at h
    obtain ⟨v, vs, rfl, r1, r2⟩ := Rps.cons_iff.mp r
    cases q with
    | cons q1 q2 =>
      have := ReadsAll.cons (pur_reads I d v _ h.1 r1 q1) (purs_reads I ds vs _ h.2 r2 q2)
      exact this
end
end
/-! what a value is as a key, it is once -/
mutual
theorem nest_fun {h : Heap} : ∀ {k k' : NestedKey} {v : Value}, NestedIs h k v → NestedIs h k' v → k = k'
  | _, _, _, .none, .none => rfl
  | _, _, _, .bool e, .bool e' => by
    rw [e, e']
  | _, _, _, .int _ _, .int _ _ => rfl
  | _, _, _, .text _ _, .text _ _ => rfl
  | _, _, _, .tup ho hc hd hall, .tup ho' hc' hd' hall' => by
    rw [ho] at ho'; cases ho'
    rw [hd] at hd'; cases hd'
    rw [nests_fun hall hall']
theorem nests_fun {h : Heap} : ∀ {k k' : List NestedKey} {v : List Value}, NestedAll h k v → NestedAll h k' v → k = k'
  | _, _, _, .nil, .nil => rfl
  | _, _, _, .cons r t, .cons r' t' => by rw [nest_fun r r', nests_fun t t']
end
/-! the first of equal keys, whatever they are keys of -/
def uqG {α : Type} (key : α → NestedKey) : List α → List α → List α
  | acc, [] => acc
  | acc, p :: r => match memK (key p) (acc.map key) with
    | true => uqG key acc r
    | false => uqG key (p :: acc) r
theorem uqG_map {α β : Type} (f : α → β) {ka : α → NestedKey} {kb : β → NestedKey} (hk : ∀ a, kb (f a) = ka a) : ∀ (l acc : List α), uqG kb (acc.map f) (l.map f) = (uqG ka acc l).map f
  | [], acc => rfl
  | p :: r, acc => by
    rw [List.map_cons]
    unfold uqG
    have e : (acc.map f).map kb = acc.map ka := by
      rw [List.map_map]
      exact List.map_congr_left fun a _ => hk a
    rw [hk, e]
    cases memK (ka p) (acc.map ka) with
    | true => exact uqG_map f hk r acc
    | false => exact uqG_map f hk r (p :: acc)
theorem uq_eq : ∀ (l acc : List (Addr × NestedKey)), uq acc l = uqG (·.2) acc l
  | [], acc => rfl
  | p :: r, acc => by
    unfold uq uqG
    cases memK p.2 (acc.map (·.2)) with
    | true => exact uq_eq r acc
    | false => exact uq_eq r (p :: acc)
theorem insS_map {α β : Type} (f : α → β) {la : α → α → Bool} {lb : β → β → Bool} (hl : ∀ a b, lb (f a) (f b) = la a b) (x : α) : ∀ l : List α, insS lb (f x) (l.map f) = (insS la x l).map f
  | [] => rfl
  | y :: r => by
    rw [List.map_cons]
    unfold insS
    rw [hl]
    cases la x y with
    | true => rfl
    | false => simp only [List.map_cons]; rw [insS_map f hl x r]
theorem sortS_map {α β : Type} (f : α → β) {la : α → α → Bool} {lb : β → β → Bool} (hl : ∀ a b, lb (f a) (f b) = la a b) : ∀ l : List α, sortS lb (l.map f) = (sortS la l).map f
  | [] => rfl
  | x :: r => by
    show insS lb (f x) (sortS lb (r.map f)) = (insS la x (sortS la r)).map f
    rw [sortS_map f hl r, insS_map f hl]
/-- rises strictly -/
def strictB {α : Type} (le : α → α → Bool) : List α → Bool
  | a :: b :: r => match le b a with
    | true => false
    | false => strictB le (b :: r)
  | _ => true
theorem strictB_map {α β : Type} (f : α → β) {la : α → α → Bool} {lb : β → β → Bool} (hl : ∀ a b, lb (f a) (f b) = la a b) : ∀ l : List α, strictB lb (l.map f) = strictB la l
  | [] => rfl
  | [a] => rfl
  | a :: b :: r => by
    rw [List.map_cons, List.map_cons]
    unfold strictB
    rw [hl]
    cases la b a with
    | true => rfl
    | false =>
      have := strictB_map f hl (b :: r)
      rw [List.map_cons] at this
      exact this
theorem strict_all {α : Type} {le : α → α → Bool} (T : TotalLe le) : ∀ (l : List α), strictB le l = true → l.Pairwise fun a b => le b a = false
  | [], _ => .nil
  | [a], _ => List.pairwise_singleton _ _
  | a :: b :: r, h => by
    unfold strictB at h
    cases c : le b a with
    | true => rw [c] at h; cases h
    | false =>
      rw [c] at h
      have ih := strict_all T (b :: r) h
      refine List.pairwise_cons.mpr ⟨fun x hx => ?_, ih⟩
      rcases List.mem_cons.mp hx with z | z
      · subst z; exact c
      · have bx := (List.pairwise_cons.mp ih).1 x z
        cases d : le x a with
        | false => rfl
        | true =>
          have : le b x = true := (T.total b x).resolve_right (by rw [bx]; decide)
          have := T.trans _ _ _ this d
          rw [c] at this; cases this
theorem strict_one {α : Type} {le : α → α → Bool} : ∀ {S M : List α}, S.Pairwise (fun a b => le b a = false) → M.Perm S → M.Pairwise (fun a b => le a b = true) → M = S
  | [], M, _, p, _ => p.eq_nil
  | x :: S, [], _, p, _ => by have := p.length_eq; simp at this
  | x :: S, y :: M, hs, p, hm => by
    rw [List.pairwise_cons] at hs hm
    have e : y = x := by
      rcases List.mem_cons.mp (p.mem_iff.mp List.mem_cons_self) with z | z
      · exact z
      · rcases List.mem_cons.mp (p.mem_iff.mpr List.mem_cons_self) with w | w
        · exact w.symm
        · have a := hs.1 y z
          have b := hm.1 x w
          rw [a] at b; cases b
    subst e
    rw [strict_one hs.2 ((List.perm_cons _).mp p) hm.2]
/-! ints: each once, in order -/
def insU (k : Int) : List Int → List Int
  | [] => [k]
  | x :: r => match ltI k x with
    | true => k :: x :: r
    | false => match ltI x k with
      | true => x :: insU k r
      | false => x :: r
def sortU : List Int → List Int
  | [] => []
  | k :: r => insU k (sortU r)
theorem ltI_iff {i j : Int} : ltI i j = true ↔ i < j := by unfold ltI; simp
theorem mem_insU {k j : Int} : ∀ {l : List Int}, j ∈ insU k l ↔ j = k ∨ j ∈ l
  | [] => by simp [insU]
  | x :: r => by
    unfold insU
    cases c : ltI k x with
    | true => simp
    | false =>
      cases d : ltI x k with
      | true => simp only [List.mem_cons, mem_insU (l := r)]; constructor <;> (rintro (h | h | h) <;> simp [h])
      | false =>
        have : x = k := by
          have h1 : ¬ k < x := fun z => by rw [ltI_iff.mpr z] at c; cases c
          have h2 : ¬ x < k := fun z => by rw [ltI_iff.mpr z] at d; cases d
          omega
        subst this
        simp
theorem insU_sorted {k : Int} : ∀ {l : List Int}, l.Pairwise (· < ·) → (insU k l).Pairwise (· < ·)
  | [], _ => by simp [insU]
  | x :: r, h => by
    rw [List.pairwise_cons] at h
    unfold insU
    cases c : ltI k x with
    | true =>
      have c := ltI_iff.mp c
      refine List.pairwise_cons.mpr ⟨fun y hy => ?_, List.pairwise_cons.mpr h⟩
      rcases List.mem_cons.mp hy with z | z
      · omega
      · have := h.1 y z; omega
    | false =>
      cases d : ltI x k with
      | true =>
        have d := ltI_iff.mp d
        refine List.pairwise_cons.mpr ⟨fun y hy => ?_, insU_sorted h.2⟩
        rcases mem_insU.mp hy with z | z
        · omega
        · exact h.1 y z
      | false => exact List.pairwise_cons.mpr h
theorem sortU_sorted : ∀ l : List Int, (sortU l).Pairwise (· < ·)
  | [] => .nil
  | k :: r => insU_sorted (sortU_sorted r)
theorem mem_sortU {j : Int} : ∀ {l : List Int}, j ∈ sortU l ↔ j ∈ l
  | [] => Iff.rfl
  | k :: r => by show j ∈ insU k (sortU r) ↔ _; rw [mem_insU, mem_sortU, List.mem_cons]
theorem asc_one : ∀ {l m : List Int}, l.Pairwise (· < ·) → m.Pairwise (· < ·) → (∀ k, k ∈ l ↔ k ∈ m) → l = m
  | [], [], _, _, _ => rfl
  | [], y :: m, _, _, h => absurd ((h y).mpr List.mem_cons_self) (by simp)
  | x :: l, [], _, _, h => absurd ((h x).mp List.mem_cons_self) (by simp)
  | x :: l, y :: m, hl, hm, h => by
    rw [List.pairwise_cons] at hl hm
    have e : x = y := by
      rcases List.mem_cons.mp ((h x).mp List.mem_cons_self) with z | z
      · exact z
      · rcases List.mem_cons.mp ((h y).mpr List.mem_cons_self) with w | w
        · exact w.symm
        · have := hl.1 y w
          have := hm.1 x z
          omega
    subst e
    rw [asc_one hl.2 hm.2 fun k => ?_]
    constructor
    · intro hk
      rcases List.mem_cons.mp ((h k).mp (List.mem_cons_of_mem _ hk)) with z | z
      · have := hl.1 k hk; omega
      · exact z
    · intro hk
      rcases List.mem_cons.mp ((h k).mpr (List.mem_cons_of_mem _ hk)) with z | z
      · have := hm.1 k hk; omega
      · exact z
end Nc
namespace Nc
open PySem PySem.Spec PySem.W PyProof.Rows L2
/-! ## sorted(set(e)), len(set(e)), by values -/
abbrev leD : D → D → Bool := dataLe false pdD
abbrev leT : D × Addr → D × Addr → Bool := dataLe false fun t => pdD t.1
abbrev nkT : D × Addr → NestedKey := fun t => nkD t.1
/-- tuples that may stand in a set, and the set be sorted -/
structure SetT {X : Cx} (ρ : Rho) (H : Hp) (xs : List V) (ts : List (D × Addr)) : Prop where
  eq : xs = ts.map fun t => V.ref t.2
  rp : Rps (kwOf X) ρ H (ts.map (·.1)) xs
  few : ts.length ≤ 63
  pur : ∀ t ∈ ts, purD t.1 = true ∧ (nkD t.1).depth ≤ 8
def tSet (X : Cx) (td : TE) (R : List V → Hp → VK → Prop) : TE := fun σ H Q => td σ H fun x H1 => ∃ a xs, x = .ref a ∧ (SqL X.K H1 a xs ∨ SqT X.K H1 a xs) ∧ R xs H1 Q
structure SortT (us : List (D × Addr)) : Prop where
  al : ∀ p ∈ us, ∀ q ∈ us, alike (pdD p.1) (pdD q.1) = true
  full : ∀ p ∈ us, ∃ x r, pdD p.1 = .tuple (x :: r)
  dep : ∀ p ∈ us, (pdD p.1).depth ≤ 12
  up : strictB leT (sortS leT us) = true
def rSortSetP (X : Cx) : List V → Hp → VK → Prop := fun xs H1 Q =>
  (∃ ns, xs = ns.map V.int ∧ ns.length ≤ 63 ∧ ∀ p, H1 p = none → Q (.ref p) (upd H1 p (.lst ((sortU ns).map V.int)))) ∨
  (∃ ρ ts, SetT (X := X) ρ H1 xs ts ∧ SortT (uqG nkT [] ts) ∧ ∀ p, H1 p = none → Q (.ref p) (upd H1 p (.lst ((sortS leT (uqG nkT [] ts)).map fun t => V.ref t.2))))
def rLenSetP (X : Cx) : List V → Hp → VK → Prop := fun xs H1 Q =>
  (∃ ns, xs = ns.map V.int ∧ ns.length ≤ 63 ∧ Q (.int ((sortU ns).length : Nat)) H1) ∨
  (∃ ρ ts, SetT (X := X) ρ H1 xs ts ∧ Q (.int ((uqG nkT [] ts).length : Nat)) H1)
section
variable {X : Cx} {pins : List (Addr × Obj)} {σ : L2.St} {H : Hp} {s : Shared}
theorem int_vals : ∀ {ns : List Int} {us : List Value}, Vals (ns.map V.int) us → IntsAre us ns
  | [], _, .nil => .nil
  | n :: ns, _, .cons r t => by
    obtain ⟨tk, rfl⟩ := r
    exact .cons n tk (int_vals t)
theorem ref_vals : ∀ {bs : List Addr} {us : List Value}, Vals (bs.map V.ref) us → us = bs.map Value.ref
  | [], _, .nil => rfl
  | b :: bs, _, .cons r t => by
    cases r
    rw [ref_vals t]; rfl
theorem lst_end {s' : Shared} {p c : Nat} {out : Array Value} {vs : List V} {Q : VK} (I : Inv X pins σ H s) (k : ∀ (b : Addr) (o : Obj), s.heap.get? b = some o → s'.heap.get? b = some o) (g : s'.gens = s.gens) (o : s'.os = s.os) (hp : s.heap.objs.size ≤ p)
    (hg : s'.heap.get? p = some (seqObj "list" out c)) (hv : Vals vs out.toList) (hl : vs.length ≤ sizeLine) (q : ∀ p, H p = none → Q (.ref p) (upd H p (.lst vs))) : EP X pins σ Q (Value.ref p) s' := by
  have hn : H p = none := I.hok.fresh hp
  have J : Inv X pins σ (upd H p (.lst vs)) { s with heap := s'.heap, gens := s'.gens, drawn := s'.drawn, toks := s'.toks } :=
    I.call (ch := []) (Un.laid k hp hn) (I.hok.laid k hp ⟨hl, out.toList, c, hv, hg⟩) (by rw [g]; exact I.bare) (fun _ z => nomatch z)
  have e : s' = { s with heap := s'.heap, gens := s'.gens, drawn := s'.drawn, toks := s'.toks } := by
    cases s'
    cases s
    cases o
    rfl
  rw [e]
  exact ⟨.ref p, _, J, rfl, q p hn⟩
/-- set(e), of tuples or of ints -/
theorem pe_setOf {e : Expr} {td : TE} {p2 pos2 : Pos} {R : List V → Hp → VK → Prop} {Q : Value → Shared → Prop} {Q0 : VK} (hm2 : X.mg "set" = none) (hd : PE X e td) (hg2 : Gl X "set") (h1 : starEach [e] X.env = (false, eval e X.env) :: starEach [] X.env) (I : Inv X pins σ H s)
    (h : tSet X td R σ H Q0)
    (k : ∀ (s1 : Shared) (H1 : Hp) (a : Addr) (xs : List V) (us : List Value), Inv X pins σ H1 s1 → Vals xs us → (s1.heap.IsList a us.toArray ∨ s1.heap.IsTuple a us.toArray) → R xs H1 Q0 → wpAny (model X.prog X.w) X.A (call (.type "set") [.ref a]) Q X.xe s1) :
    wpAny (model X.prog X.w) X.A (eval (.Call (.Name "set" p2) [e] [] pos2) X.env) Q X.xe s := by
  refine wpAny_Call_Name_kw (ld_blt (u := .type "set") I hg2 hm2 PyProof.Rows.boot_set ?_)
  rw [h1]
  refine PySem.callWith_type1 (thn (hd.run pins s σ H _ I h) fun v s1 ⟨x, H1, I1, r1, a, xs, ex, sq, q⟩ => ?_)
  subst ex; cases r1
  rcases sq with sq | sq
  · obtain ⟨its, rv, hl, hz⟩ := I1.list sq
    exact k s1 H1 a xs its I1 rv (.inl hl.isList) q
  · obtain ⟨its, rv, hl, hz⟩ := I1.tuple sq
    exact k s1 H1 a xs its I1 rv (.inr hl) q
/-- the keys of such tuples, as they stand -/
theorem setT_keys {ρ : Rho} {H1 : Hp} {xs : List V} {ts : List (D × Addr)} {us : List Value} (I : Inv X pins σ H1 s) (S : SetT (X := X) ρ H1 xs ts) (rv : Vals xs us) :
    us = ts.map (fun t => Value.ref t.2) ∧ ∀ t ∈ ts, KeyAt s.heap (nkT t) t.2 ∧ Reads s.heap (.ref t.2) (pdD t.1) [] := by
  have e := S.eq
  have rp := S.rp
  have pu := S.pur
  clear S
  subst e
  refine ⟨?_, ?_⟩
  · have := ref_vals (bs := ts.map (·.2)) (us := us) (by rw [List.map_map]; exact rv)
    rw [this, List.map_map]; rfl
  · clear rv
    induction ts with
    | nil => intro t ht; cases ht
    | cons t r ih =>
      rw [List.map_cons, List.map_cons] at rp
      obtain ⟨x, q, e, r1, r2⟩ := Rps.cons_iff.mp rp
      cases e
      intro u hu
      rcases List.mem_cons.mp hu with z | z
      · subst z
        obtain ⟨p1, p2⟩ := pu u List.mem_cons_self
        exact ⟨⟨nk_is I _ _ _ _ (pur_nk _ p1) r1 rfl, p2, pur_plain _ p1⟩, pur_reads I _ _ _ p1 r1 rfl⟩
      · exact ih (fun y hy => pu y (List.mem_cons_of_mem _ hy)) r2 u z
def keyT (t : D × Addr) : Addr × NestedKey := (t.2, nkT t)
/-- set(e) of such tuples -/
theorem setT_call {k : Nat} (hr : Room k X.A) (hc : X.calm = true) {ρ : Rho} {H1 : Hp} {xs : List V} {ts : List (D × Addr)} {us : List Value} {a : Addr} {Q : Value → Shared → Prop} (I : Inv X pins σ H1 s) (S : SetT (X := X) ρ H1 xs ts) (rv : Vals xs us) (hl : s.heap.IsList a us.toArray ∨ s.heap.IsTuple a us.toArray)
    (h : ∀ (h' : Heap) (tk : Nat) (L : List (Addr × NestedKey)) (es : Array (Int × Value)) (ep : Nat) (t : SetTable), TabN X.w h' s.heap.objs.size L es ep t → L.Perm ((uqG nkT [] ts).map keyT) → (∀ (b : Addr) (o : Obj), s.heap.get? b = some o → h'.get? b = some o) → Q (.ref s.heap.objs.size) { heap := h', gens := s.gens, drawn := s.drawn, toks := tk, os := s.os }) :
    wpAny (model X.prog X.w) X.A (call (.type "set") [.ref a]) Q X.xe s := by
  obtain ⟨e1, e2⟩ := setT_keys I S rv
  have hit : us.toArray.toList = (ts.map keyT).map fun p => Value.ref p.1 := by
    rw [e1, List.map_map]; rfl
  have hk : ∀ p ∈ ts.map keyT, KeyAt s.heap p.2 p.1 := fun p hp => by
    obtain ⟨t, ht, rfl⟩ := List.mem_map.mp hp
    exact (e2 t ht).1
  have hf : (ts.map keyT).length < 64 := by rw [List.length_map]; have := S.few; omega
  have hu : X.A.units + 12 < cLine := by have := hr.units; omega
  have eu : uq [] (ts.map keyT) = (uqG nkT [] ts).map keyT := by
    rw [uq_eq]
    exact uqG_map keyT (fun _ => rfl) ts []
  rcases hl with hl | hl
  · exact call_setN (ts.map keyT) (I.ok.hd hc) hl hit hk hf hu fun h' tk L es ep t q1 q2 q3 => h h' tk L es ep t q1 (by rw [← eu]; exact q2) q3
  · exact call_setNT (ts.map keyT) (I.ok.hd hc) hl hit hk hf hu fun h' tk L es ep t q1 q2 q3 => h h' tk L es ep t q1 (by rw [← eu]; exact q2) q3
theorem uqG_sub {α : Type} (key : α → NestedKey) : ∀ (l acc : List α), ∀ p ∈ uqG key acc l, p ∈ acc ∨ p ∈ l
  | [], acc, p, h => .inl h
  | q :: l, acc, p, h => by
    unfold uqG at h
    cases c : memK (key q) (acc.map key) with
    | true =>
      rw [c] at h
      rcases uqG_sub key l acc p h with z | z
      · exact .inl z
      · exact .inr (List.mem_cons_of_mem _ z)
    | false =>
      rw [c] at h
      rcases uqG_sub key l (q :: acc) p h with z | z
      · rcases List.mem_cons.mp z with y | y
        · exact .inr (y ▸ List.mem_cons_self)
        · exact .inl y
      · exact .inr (List.mem_cons_of_mem _ z)
theorem setI_call (hc : X.calm = true) {H1 : Hp} {ns : List Int} {us : List Value} {a : Addr} {Q : Value → Shared → Prop} (I : Inv X pins σ H1 s) (hn : ns.length ≤ 63) (rv : Vals (ns.map V.int) us) (hl : s.heap.IsList a us.toArray ∨ s.heap.IsTuple a us.toArray)
    (h : ∀ (h' : Heap) (tk c : Nat), SetR X.w h' s.heap.objs.size (fun j => decide (j ∈ ns)) c → c ≤ ns.length → (∀ (b : Addr) (o : Obj), s.heap.get? b = some o → h'.get? b = some o) → Q (.ref s.heap.objs.size) { heap := h', gens := s.gens, drawn := s.drawn, toks := tk, os := s.os }) :
    wpAny (model X.prog X.w) X.A (call (.type "set") [.ref a]) Q X.xe s := by
  have hi : IntsAre us.toArray.toList ns := int_vals rv
  have hb : ns.length + 1 < scanBound := by unfold scanBound; omega
  rcases hl with hl | hl
  · exact call_set_lstI ns (I.ok.hd hc) hl hi hb h
  · exact call_set_tupI ns (I.ok.hd hc) hl hi hb h
theorem pe_sortSet {k : Nat} {e : Expr} {td : TE} {p p2 pos pos2 : Pos} (hr : Room k X.A) (hc : X.calm = true) (hm : X.mg "sorted" = none) (hm2 : X.mg "set" = none) (hd : PE X e td) (hg : Gl X "sorted") (hg2 : Gl X "set") (h1 : starEach [e] X.env = (false, eval e X.env) :: starEach [] X.env)
    (h2 : starEach [.Call (.Name "set" p2) [e] [] pos2] X.env = (false, eval (.Call (.Name "set" p2) [e] [] pos2) X.env) :: starEach [] X.env) :
    PE X (.Call (.Name "sorted" p) [.Call (.Name "set" p2) [e] [] pos2] [] pos) (tSet X td (rSortSetP X)) := ⟨fun pins s σ H Q I h => by
  refine wpAny_Call_Name_kw (ld_blt (u := .builtin "sorted") I hg hm bt_sorted ?_)
  rw [h2]
  refine PySem.callWith_builtin1 (pe_setOf hm2 hd hg2 h1 I h fun s1 H1 a xs us I1 rv hl q => ?_)
  rcases q with ⟨ns, rfl, hn, q⟩ | ⟨ρ, ts, S, so, q⟩
  · refine setI_call hc I1 hn rv hl fun h' tk c R1 hcn k1 => ?_
    refine sorted_set (s := { heap := h', gens := s1.gens, drawn := s1.drawn, toks := tk, os := s1.os }) R1 (I1.ok.hd hc) (by omega) fun s2 p2 out c2 ns2 k2 g2 o2 hp2 hg2 hi2 hs2 hm2 hl2 => ?_
    have en : ns2 = sortU ns := asc_one hs2 (sortU_sorted ns) fun j => by rw [hm2, mem_sortU, decide_eq_true_eq]
    subst en
    have hlt : s1.heap.objs.size < h'.objs.size := R1.lt
    have hle : s1.heap.objs.size ≤ p2 := Nat.le_trans (Nat.le_of_lt hlt) hp2
    exact lst_end I1 (fun b o z => k2 b o (k1 b o z)) g2 o2 hle hg2 (vals_of_ints hi2) (by rw [List.length_map, hl2, sizeLine_eq]; omega) q
  · refine setT_call hr hc I1 S rv hl fun h' tk L es ep t R1 pL k1 => ?_
    obtain ⟨e1, e2⟩ := setT_keys I1 S rv
    have inU : ∀ q ∈ L, ∃ t ∈ uqG nkT [] ts, q = keyT t ∧ t ∈ ts := fun q hq => by
      obtain ⟨t, ht, rfl⟩ := List.mem_map.mp (pL.mem_iff.mp hq)
      refine ⟨t, ht, rfl, ?_⟩
      rcases uqG_sub nkT ts [] t ht with z | z
      · cases z
      · exact z
    have rd1 : ∀ q ∈ L, Reads h' (.ref q.1) (pdK q.2) [] := fun q hq => by
      obtain ⟨t, ht, rfl, hts⟩ := inU q hq
      have := Reads.keeps (fun b o e => k1 b o e) (e2 t hts).2
      show Reads h' (.ref t.2) (pdK (nkD t.1)) []
      rw [pdK_nk]
      exact this
    have inj : ∀ q ∈ L, ∀ r ∈ L, q.1 = r.1 → q = r := fun q hq r hr e => by
      have a1 := (R1.keys q hq).is
      have a2 := (R1.keys r hr).is
      rw [e] at a1
      have := nest_fun a1 a2
      cases q; cases r
      simp only [] at e this
      rw [e, this]
    have hu : X.A.units + 30 < cLine := by have := hr.units; omega
    refine sorted_setN (s := { heap := h', gens := s1.gens, drawn := s1.drawn, toks := tk, os := s1.os }) R1 (I1.ok.hd hc) (fun q => pdK q.2) rd1 inj (fun q hq r hr => ?_) (.inl fun q hq => ?_) (fun q hq => ?_) hu fun s2 p2 c2 L1 k2 g2 o2 hp2 p1 hg2 => ?_
    · obtain ⟨t, ht, rfl, _⟩ := inU q hq
      obtain ⟨u, hu, rfl, _⟩ := inU r hr
      show alike (pdK (nkD t.1)) (pdK (nkD u.1)) = true
      rw [pdK_nk, pdK_nk]
      exact so.al t ht u hu
    · obtain ⟨t, ht, rfl, _⟩ := inU q hq
      show ∃ x r, pdK (nkD t.1) = _
      rw [pdK_nk]
      exact so.full t ht
    · obtain ⟨t, ht, rfl, _⟩ := inU q hq
      show (pdK (nkD t.1)).depth ≤ 12
      rw [pdK_nk]
      exact so.dep t ht
    · have hle : s1.heap.objs.size ≤ p2 := by
        obtain ⟨o, ho, _⟩ := R1.ob
        exact Nat.le_trans (Nat.le_of_lt (Heap.lt_size ho)) hp2
      have hle2 : ∀ a b : D × Addr, dataLe false (fun q : Addr × NestedKey => pdK q.2) (keyT a) (keyT b) = leT a b := fun a b => by
        show (!dataLt (pdK (nkD b.1)) (pdK (nkD a.1))) = !dataLt (pdD b.1) (pdD a.1)
        rw [pdK_nk, pdK_nk]
      have T1 : TotalLe (dataLe false (fun q : Addr × NestedKey => pdK q.2)) := sortLe_total _ _ _
      have es : L1.mergeSort (dataLe false fun q => pdK q.2) = (sortS leT (uqG nkT [] ts)).map keyT := by
        rw [← sortS_map keyT hle2]
        refine strict_one (le := dataLe false fun q : Addr × NestedKey => pdK q.2) ?_ ?_ (sort_pairwise T1 L1)
        · refine strict_all T1 _ ?_
          rw [sortS_map keyT hle2, strictB_map keyT hle2]
          exact so.up
        · rw [sortS_eq T1]
          exact (List.mergeSort_perm _ _).trans ((p1.trans pL).trans (List.mergeSort_perm _ _).symm)
      rw [es, List.map_map] at hg2
      refine lst_end I1 (fun b o z => k2 b o (k1 b o z)) g2 o2 hle hg2 ?_ ?_ q
      · generalize sortS leT (uqG nkT [] ts) = zs
        induction zs with
        | nil => exact .nil
        | cons z r ih => exact .cons rfl ih
      · have : (uqG nkT [] ts).length ≤ 63 := by
          have := pL.length_eq
          rw [List.length_map] at this
          have := R1.few
          omega
        rw [List.length_map, sortS_len, sizeLine_eq]; omega⟩
end
end Nc
namespace Nc
open PySem PySem.Spec PySem.W PyProof.Rows L2
section
variable {X : Cx} {pins : List (Addr × Obj)} {σ : L2.St} {H : Hp} {s : Shared}
theorem Inv.tok' (I : Inv X pins σ H s) {h' : Heap} {tk : Nat} (k : ∀ (b : Addr) (o : Obj), s.heap.get? b = some o → h'.get? b = some o) : Inv X pins σ H { heap := h', gens := s.gens, drawn := s.drawn, toks := tk, os := s.os } :=
  I.call (ch := []) (g' := s.gens) (t' := tk) (d' := s.drawn) (Un.kept k) (I.hok.kept k) I.bare (fun _ z => nomatch z)
theorem pe_lenSet {k : Nat} {e : Expr} {td : TE} {p p2 pos pos2 : Pos} (hr : Room k X.A) (hc : X.calm = true) (hm : X.mg "len" = none) (hm2 : X.mg "set" = none) (hd : PE X e td) (hg : Gl X "len") (hg2 : Gl X "set") (h1 : starEach [e] X.env = (false, eval e X.env) :: starEach [] X.env)
    (h2 : starEach [.Call (.Name "set" p2) [e] [] pos2] X.env = (false, eval (.Call (.Name "set" p2) [e] [] pos2) X.env) :: starEach [] X.env) :
    PE X (.Call (.Name "len" p) [.Call (.Name "set" p2) [e] [] pos2] [] pos) (tSet X td (rLenSetP X)) := ⟨fun pins s σ H Q I h => by
  refine wpAny_Call_Name_kw (ld_blt (u := .builtin "len") I hg hm PySem.boot_len ?_)
  rw [h2]
  refine PySem.callWith_builtin1 (pe_setOf hm2 hd hg2 h1 I h fun s1 H1 a xs us I1 rv hl q => ?_)
  rcases q with ⟨ns, rfl, hn, q⟩ | ⟨ρ, ts, S, q⟩
  · refine setI_call hc I1 hn rv hl fun h' tk c R1 hcn k1 => ?_
    obtain ⟨o, es, ep, t, ho, hex, hdt, g, nd, hm3, hb, hf, hn3, hrs, hl3⟩ := R1
    have ec : es.size = (sortU ns).length := by
      have p : (es.toList.map keyOf).Perm (sortU ns) := (List.perm_ext_iff_of_nodup nd ((sortU_sorted ns).imp fun h => Int.ne_of_lt h)).mpr fun j => by
        rw [← hm3, decide_eq_true_eq, mem_sortU]
      have := p.length_eq
      rw [List.length_map, Array.length_toList] at this
      exact this
    refine PySem.call_len_set (s := { heap := h', gens := s1.gens, drawn := s1.drawn, toks := tk, os := s1.os }) ho hex hdt hf (by unfold scanBound at hb; omega) ?_
    rw [ec]
    exact ⟨.int ((sortU ns).length : Nat), H1, Inv.tok' I1 k1, ⟨_, rfl⟩, q⟩
  · refine setT_call hr hc I1 S rv hl fun h' tk L es ep t R1 pL k1 => ?_
    obtain ⟨o, ho, hex, hdt⟩ := R1.ob
    have ec : es.size = (uqG nkT [] ts).length := by rw [R1.size, pL.length_eq, List.length_map]
    have := R1.few
    have := R1.size
    refine PySem.call_len_set (s := { heap := h', gens := s1.gens, drawn := s1.drawn, toks := tk, os := s1.os }) ho hex hdt R1.fits (by omega) ?_
    rw [ec]
    exact ⟨.int ((uqG nkT [] ts).length : Nat), H1, Inv.tok' I1 k1, ⟨_, rfl⟩, q⟩⟩
end
/-! ## by data -/
def intsL : List D → Option (List Int)
  | [] => some []
  | .int i :: r => match intsL r with
    | some is => some (i :: is)
    | none => none
  | _ => none
theorem intsL_ok : ∀ {es : List D} {ns : List Int}, intsL es = some ns → es = ns.map D.int
  | [], _, h => by cases h; rfl
  | .int i :: r, ns, h => by
    unfold intsL at h
    cases z : intsL r with
    | none => rw [z] at h; cases h
    | some is => rw [z] at h; cases h; rw [intsL_ok z]; rfl
  | .non :: _, _, h => by cases h
  | .bl _ :: _, _, h => by cases h
  | .str _ :: _, _, h => by cases h
  | .tup _ :: _, _, h => by cases h
  | .cell _ :: _, _, h => by cases h
theorem ints_rps {K : KW} {ρ : Rho} {H : Hp} : ∀ {ns : List Int} {vs : List V}, Rps K ρ H (ns.map D.int) vs → vs = ns.map V.int
  | [], _, r => Rps.nil_iff.mp r
  | n :: ns, _, r => by
    obtain ⟨x, q, rfl, r1, r2⟩ := Rps.cons_iff.mp r
    rw [rp_int.mp r1, ints_rps r2]; rfl
theorem rps_ints {K : KW} {ρ : Rho} {H : Hp} : ∀ (ns : List Int), Rps K ρ H (ns.map D.int) (ns.map V.int)
  | [] => Rps.nil_iff.mpr rfl
  | n :: ns => Rps.cons (rp_int.mpr rfl) (rps_ints ns)
/-- what may be keys: tuples of ints and tuples, 63 at most -/
def keyOk (d : D) : Bool := match d with
  | .tup ds => purDs ds && Nat.ble (nkD d).depth 8
  | _ => false
def setOkD (es : List D) : Bool := Nat.ble es.length 63 && es.all keyOk
def uqD (es : List D) : List D := uqG nkD [] es
def fullD (d : D) : Bool := match d with
  | .tup (_ :: _) => true
  | _ => false
def sortOkD (us : List D) : Bool := alikeB (us.map pdD) && (us.all fullD && us.all fun d => Nat.ble (pdD d).depth 12)
def sortedD (us : List D) : List D := sortS leD us
def oSortSet (es : List D) (h1 : AH) : R D := match intsL es with
  | some ns => chk (Nat.ble ns.length 63) (mkL ((sortU ns).map .int) h1)
  | none => chk (setOkD es && (sortOkD (uqD es) && strictB leD (sortedD (uqD es)))) (mkL (sortedD (uqD es)) h1)
def oLenSet (es : List D) (h1 : AH) : R D := match intsL es with
  | some ns => chk (Nat.ble ns.length 63) (.ok (.int (sortU ns).length) h1)
  | none => chk (setOkD es) (.ok (.int (uqD es).length) h1)
def dSortSet (f : DE) : DE := fun s h => (f s h).bind fun x h1 => withS (seqOf x h1) fun es => oSortSet es h1
def dLenSet (f : DE) : DE := fun s h => (f s h).bind fun x h1 => withS (seqOf x h1) fun es => oLenSet es h1
def adrOf : V → Addr
  | .ref a => a
  | _ => 0
theorem alikeB_ok {ps : List PyData} (h1 : alikeB ps = true) : AllAlike ps := by
  unfold alikeB at h1
  simp only [Bool.or_eq_true, List.all_eq_true] at h1
  intro p hp q hq
  rcases h1 with h1 | h1
  · have a := h1 p hp
    have b := h1 q hq
    cases p with
    | tuple xs =>
      cases q with
      | tuple ys =>
        obtain ⟨is, rfl⟩ := Nc.ints_of a
        obtain ⟨js, rfl⟩ := Nc.ints_of b
        exact alike_ints is js
      | _ => cases b
    | _ => cases a
  · exact h1 p hp q hq
theorem setT_of {X : Cx} {ρ : Rho} {H : Hp} {es : List D} {xs : List V} (c : setOkD es = true) (r : Rps (kwOf X) ρ H es xs) : ∃ ts : List (D × Addr), ts.map (·.1) = es ∧ SetT (X := X) ρ H xs ts := by
  unfold setOkD at c
  simp only [Bool.and_eq_true, List.all_eq_true] at c
  obtain ⟨c1, c2⟩ := c
  have c1 := Nat.le_of_ble_eq_true c1
  have key : ∀ {es : List D} {xs : List V}, (∀ e ∈ es, keyOk e = true) → Rps (kwOf X) ρ H es xs → ∃ ts : List (D × Addr), ts.map (·.1) = es ∧ xs = ts.map fun t => V.ref t.2 := by
    intro es
    induction es with
    | nil => intro xs _ r; exact ⟨[], rfl, Rps.nil_iff.mp r⟩
    | cons d es ih =>
      intro xs hk r
      obtain ⟨x, q, rfl, r1, r2⟩ := Rps.cons_iff.mp r
      obtain ⟨ts, e1, e2⟩ := ih (fun e he => hk e (List.mem_cons_of_mem _ he)) r2
      have hd := hk d List.mem_cons_self
      cases d with
      | tup ds =>
        obtain ⟨a, ys, rfl, _⟩ := rp_tup.mp r1
        exact ⟨(.tup ds, a) :: ts, by rw [List.map_cons, e1], by rw [e2]; rfl⟩
      | _ => cases hd
  obtain ⟨ts, e1, e2⟩ := key c2 r
  refine ⟨ts, e1, e2, by rw [e1]; exact r, by rw [← e1, List.length_map] at c1; exact c1, fun t ht => ?_⟩
  have := c2 t.1 (by rw [← e1]; exact List.mem_map.mpr ⟨t, ht, rfl⟩)
  unfold keyOk at this
  split at this
  · rename_i ds e
    rw [Bool.and_eq_true] at this
    obtain ⟨t1, t2⟩ := this
    rw [e] at t2 ⊢
    exact ⟨t1, Nat.le_of_ble_eq_true t2⟩
  · cases this
theorem uqT {ts : List (D × Addr)} {es : List D} (e : ts.map (·.1) = es) : (uqG nkT [] ts).map (·.1) = uqD es := by
  subst e
  exact (uqG_map (fun t : D × Addr => t.1) (kb := nkD) (fun _ => rfl) ts []).symm
theorem sortT_of {ts : List (D × Addr)} {es : List D} (e : ts.map (·.1) = es) (c : sortOkD (uqD es) = true) (c2 : strictB leD (sortedD (uqD es)) = true) : SortT (uqG nkT [] ts) ∧ (sortS leT (uqG nkT [] ts)).map (·.1) = sortedD (uqD es) := by
  have eu := uqT e
  have em : (sortS leT (uqG nkT [] ts)).map (·.1) = sortedD (uqD es) := by
    unfold sortedD
    rw [← eu]
    exact (sortS_map (fun t : D × Addr => t.1) (lb := leD) (fun _ _ => rfl) _).symm
  refine ⟨?_, em⟩
  unfold sortOkD at c
  simp only [Bool.and_eq_true, List.all_eq_true] at c
  obtain ⟨c1, c3, c4⟩ := c
  have al := alikeB_ok c1
  have mem : ∀ t ∈ uqG nkT [] ts, t.1 ∈ uqD es := fun t ht => by rw [← eu]; exact List.mem_map.mpr ⟨t, ht, rfl⟩
  refine ⟨fun p hp q hq => al _ (List.mem_map.mpr ⟨p.1, mem p hp, rfl⟩) _ (List.mem_map.mpr ⟨q.1, mem q hq, rfl⟩), fun p hp => ?_, fun p hp => Nat.le_of_ble_eq_true (c4 _ (mem p hp)), ?_⟩
  · have := c3 _ (mem p hp)
    unfold fullD at this
    split at this
    · rename_i d r e
      rw [e]
      exact ⟨pdD d, pdDs r, rfl⟩
    · cases this
  · rw [← em, strictB_map (fun t : D × Addr => t.1) (la := leT) (fun _ _ => rfl)] at c2
    exact c2
theorem rps_sub {X : Cx} {ρ : Rho} {H : Hp} {ts : List (D × Addr)} : Rps (kwOf X) ρ H (ts.map (·.1)) (ts.map fun t => V.ref t.2) → ∀ t ∈ ts, Rp (kwOf X) ρ H t.1 (.ref t.2) := by
  induction ts with
  | nil => intro _ t ht; cases ht
  | cons t r ih =>
    intro h u hu
    rw [List.map_cons, List.map_cons] at h
    obtain ⟨x, q, e, r1, r2⟩ := Rps.cons_iff.mp h
    cases e
    rcases List.mem_cons.mp hu with z | z
    · subst z; exact r1
    · exact ih r2 u z
theorem rps_of {X : Cx} {ρ : Rho} {H : Hp} : ∀ {us : List (D × Addr)}, (∀ t ∈ us, Rp (kwOf X) ρ H t.1 (.ref t.2)) → Rps (kwOf X) ρ H (us.map (·.1)) (us.map fun t => V.ref t.2)
  | [], _ => Rps.nil_iff.mpr rfl
  | t :: r, h => Rps.cons (h t List.mem_cons_self) (rps_of fun u hu => h u (List.mem_cons_of_mem _ hu))
theorem mem_sortS {α : Type} {le : α → α → Bool} {x : α} : ∀ {l : List α}, x ∈ sortS le l → x ∈ l
  | [], h => h
  | y :: r, h => by
    rcases mem_insS (show x ∈ insS le y (sortS le r) from h) with z | z
    · rw [z]; exact List.mem_cons_self
    · exact List.mem_cons_of_mem _ (mem_sortS z)
section
variable {X : Cx} {T : XT} {W : WX} {e : Expr} {f : DE} {p p2 pos pos2 : Pos} {k : Nat}
theorem set_imp {Rv : List V → Hp → VK → Prop} {o : List D → AH → R D} (ho : ∀ (E : XK) ρ H h es xs Q, HR (kwOf X) ρ H h → Rps (kwOf X) ρ H es xs → P1 (kwOf X) T E ρ H (o es h) Q → Rv xs H Q) :
    ∀ σ H Q, tD (kwOf X) T W (fun s h => (f s h).bind fun x h1 => withS (seqOf x h1) fun es => o es h1) σ H Q → tSet X (tD (kwOf X) T W f) Rv σ H Q := fun σ H Q ⟨ρ, s, h, st, hr, q⟩ =>
  tD_bind st hr q fun x h1 ρ1 H1 v g1 hr1 st1 r1 q1 => by
    obtain ⟨es, e1, q2⟩ := Post.withS q1
    obtain ⟨a, xs, rfl, rs, sq⟩ := seqOf_ok hr1 r1 e1
    refine ⟨a, xs, rfl, ?_, ho _ ρ1 H1 h1 es xs Q hr1 rs q2⟩
    rcases sq with ⟨sq, _⟩ | ⟨sq, _⟩
    · exact .inr sq
    · exact .inl (.inl (.inl sq))
theorem se_sortSet (hr : Room k X.A) (hc : X.calm = true) (hm : X.mg "sorted" = none) (hm2 : X.mg "set" = none) (ha : SE X T W e f) (hg : Gl X "sorted" := by rfl) (hg2 : Gl X "set" := by rfl) (h1 : starEach [e] X.env = (false, eval e X.env) :: starEach [] X.env := by rfl)
    (h2 : starEach [.Call (.Name "set" p2) [e] [] pos2] X.env = (false, eval (.Call (.Name "set" p2) [e] [] pos2) X.env) :: starEach [] X.env := by rfl) : SE X T W (.Call (.Name "sorted" p) [.Call (.Name "set" p2) [e] [] pos2] [] pos) (dSortSet f) :=
  ⟨PE.imp (pe_sortSet hr hc hm hm2 ha.p hg hg2 h1 h2) (set_imp fun E ρ H h es xs Q hr rs q => by
    unfold oSortSet at q
    split at q
    · rename_i ns e
      obtain ⟨c, q⟩ := q.chk
      have := intsL_ok e
      subst this
      rw [ints_rps rs]
      exact .inl ⟨ns, rfl, Nat.le_of_ble_eq_true c, (mkL_ok hr (rps_ints (sortU ns)) q).2⟩
    · obtain ⟨c, q⟩ := q.chk
      simp only [Bool.and_eq_true] at c
      obtain ⟨ts, e1, S⟩ := setT_of c.1 rs
      obtain ⟨so, em⟩ := sortT_of e1 c.2.1 c.2.2
      refine .inr ⟨ρ, ts, S, so, ?_⟩
      have ers : Rps (kwOf X) ρ H (ts.map (·.1)) (ts.map fun t => V.ref t.2) := by rw [← S.eq]; exact S.rp
      have all := rps_sub ers
      refine (mkL_ok hr (vs := (sortS leT (uqG nkT [] ts)).map fun t => V.ref t.2) ?_ q).2
      rw [← em]
      refine rps_of fun t ht => all t ?_
      rcases uqG_sub nkT ts [] t (mem_sortS ht) with z | z
      · cases z
      · exact z)⟩
theorem se_lenSet (hr : Room k X.A) (hc : X.calm = true) (hm : X.mg "len" = none) (hm2 : X.mg "set" = none) (ha : SE X T W e f) (hg : Gl X "len" := by rfl) (hg2 : Gl X "set" := by rfl) (h1 : starEach [e] X.env = (false, eval e X.env) :: starEach [] X.env := by rfl)
    (h2 : starEach [.Call (.Name "set" p2) [e] [] pos2] X.env = (false, eval (.Call (.Name "set" p2) [e] [] pos2) X.env) :: starEach [] X.env := by rfl) : SE X T W (.Call (.Name "len" p) [.Call (.Name "set" p2) [e] [] pos2] [] pos) (dLenSet f) :=
  ⟨PE.imp (pe_lenSet hr hc hm hm2 ha.p hg hg2 h1 h2) (set_imp fun E ρ H h es xs Q hr rs q => by
    unfold oLenSet at q
    split at q
    · rename_i ns e
      obtain ⟨c, q⟩ := q.chk
      have := intsL_ok e
      subst this
      rw [ints_rps rs]
      exact .inl ⟨ns, rfl, Nat.le_of_ble_eq_true c, q.here hr _ (rp_int.mpr rfl)⟩
    · obtain ⟨c, q⟩ := q.chk
      obtain ⟨ts, e1, S⟩ := setT_of c rs
      refine .inr ⟨ρ, ts, S, ?_⟩
      have : (uqG nkT [] ts).length = (uqD es).length := by rw [← uqT e1, List.length_map]
      rw [this]
      exact q.here hr _ (rp_int.mpr rfl))⟩
end
end Nc
namespace Nc
open PySem PySem.Spec PyProof.Rows L2
/-! ## a def that looks at none of its arguments, asked with nothing in memory -/
def runFree (g : DS) (n : Nat) : R D := match g (List.replicate n none) [] with
  | .nx _ h1 => .ok .non h1
  | .rt d h1 => .ok d h1
  | .ex e _ h1 => .ex e h1
  | _ => .no
def okT (r : R D) : Bool := match r with
  | .ok (.bl true) _ => true
  | _ => false
def spTrue (n : Nat) : Sp := fun vs H Q _ => vs.length = n ∧ ∀ H', Q (.bl true) H'
theorem hr0 {K : KW} {H : Hp} : HR K (fun _ => none) H [] := ⟨fun n m a h _ => (by cases h), fun n _ => rfl, fun n a h => (by cases h), fun n c h => (by cases h)⟩
theorem free_start {K : KW} {H : Hp} {N : List Str} {vs : List V} (h : vs.length ≤ N.length) : StR K (fun _ => none) H (L2.start N vs) (List.replicate N.length none) := by
  refine ⟨by unfold L2.start; simp; omega, fun i d e => ?_⟩
  rw [List.getElem?_replicate] at e
  split at e <;> cases e
theorem fn_okFree {P : Program} {w : World} {K : PySem.W.Frag} {mg : Str → Option Value} {base : Heap} {T : XT} {x qual : Str} {st : Stmt} {f : Addr} {fd : FuncData} {N ps : List Str} {k : Nat} {g : DS} (Fn : Fun K x qual st f fd) (S : FnScope N ps (defScope st)) (hl : ps.length ≤ N.length)
    (body : ∀ (cdv : Value) (A : Around) (outer : List Env) (s : Shared) (H : Hp) (E : XK), Room k (A.deeper (envOfC qual (defScope st) s.heap.objs.size f cdv)) →
      SSs (cxOf (L2.CX P w) P w K mg base N qual (defScope st) f cdv A outer s H E) T (wOf E) (defBody st) g)
    (ok : okT (runFree g N.length) = true) : FnOk P w K mg base (L2.CX P w) (k + 1) f fd ps (spTrue ps.length) := by
  refine Fn.okX S (fun vs H Q E h => h.1) fun cdv A outer s H vs Q E hrm ⟨hv, q⟩ => ?_
  refine ⟨_, (body cdv A outer s H E hrm).p, fun _ => none, List.replicate N.length none, [], free_start (by omega), hr0, ?_⟩
  unfold runFree at ok
  cases z : g (List.replicate N.length none) [] with
  | nx s1 h1 => rw [z] at ok; cases ok
  | rt d h1 =>
    rw [z] at ok
    cases d with
    | bl b =>
      cases b with
      | true => exact fun ρ1 H1 v g1 hr1 r1 => by rw [rp_bl.mp r1]; exact q H1
      | false => cases ok
    | _ => cases ok
  | ex e s1 h1 => rw [z] at ok; cases ok
  | bk s1 h1 => rw [z] at ok; cases ok
  | ct s1 h1 => rw [z] at ok; cases ok
  | no => rw [z] at ok; cases ok
end Nc
namespace Nc
open PySem PySem.Spec PyProof.Rows L2
/-! ## what the top has left -/
theorem mkDf {K : PySem.W.Frag} {h : Heap} {mg : Str → Option Value} {x : Str} {st : Stmt} {ps : List Str} {f : Addr} {od an : Option Addr} {sl : Array (Option Value)} {oc kV dc pm cd ct : Value} (X : K.In h) (G : h.Ns mainGlobals mg)
    (a : PySem.W.nsIn K mainGlobals x = some (some (.ref f))) (l : K.lookup f = some ⟨oc, od, .func (PySem.W.fnOf x x (defArgs st) (defBody st) (defScope st) .none kV dc pm an cd ct), sl⟩) (c : PySem.W.codeIn K cd x = true) (k : PySem.W.keepIn K (.ref f) = true)
    (b : ∀ (kV doc pm : Value) (an : Option Addr) (cdv ct : Value) (us : List Value), us.length = ps.length → bindArgs (PySem.W.fnOf x x (defArgs st) (defBody st) (defScope st) Value.none kV doc pm an cdv ct) { pos := us } = pure (ps.zip us)) : Nonempty (Df K mg x st ps) :=
  ⟨⟨f, _, fun_mk l c k, PySem.W.mg_of X G a, (fun_mk l c k).binds b⟩⟩
theorem kit_of {K : PySem.W.Frag} {C : Addr} {B : String} (hB : PySem.W.kitMeta B = true) (eB : PySem.W.subIn K (.ref C) (.type B) = some true) : PySem.W.kitOne K (.ref C) (.type B) = some true := by
  unfold PySem.W.kitOne PySem.W.kitCls
  rw [if_neg (by show ¬ (Value.ref C == Value.type B) = true; simp)]
  simp only []
  rw [if_pos hB]; exact eB
theorem ex_of {K : PySem.W.Frag} {C N : Addr} {nm qn : Str} {bs bm : List Value} {sn : List Str} {sub : List Value} {ab : Bool} {col : Option Bool} {dd : Option Addr} {m0 m1 m2 m3 m5 : Option Value} (xL : K.lookup C = some (excClassObj nm qn C N bs bm true sn sub ab col dd m0 m1 m2 m3 m5 "ValueError.__new__")) (tyC : PySem.W.typeIn K (.ref C) = some (.type "type"))
    (exC : PySem.W.subIn K (.ref C) (.type "BaseException") = some true) (sC : PySem.W.subIn K (.ref C) (.ref C) = some true) : PySem.W.exmOne K (.ref C) (.ref C) = some true := by
  unfold PySem.W.exmOne PySem.W.kitCls
  rw [exC]
  rw [if_pos (by rfl)]
  simp only []
  rw [if_pos, sC]
  rw [tyC]
  have : (PySem.W.clsIn K C).isSome = true := by
    unfold PySem.W.clsIn
    rw [xL]
    rfl
  rw [this]; rfl
theorem mkEx {K : PySem.W.Frag} {h : Heap} {mg : Str → Option Value} {x q : Str} {st : Stmt} {B : String} {C f : Addr} {od an : Option Addr} {sl : Array (Option Value)} {oc kV dc pm cd ct : Value} {nm qn : Str} {N : Addr} {bs bm : List Value} {sn : List Str} {sub : List Value} {ab : Bool} {col : Option Bool} {dd : Option Addr} {m0 m1 m2 m3 m5 : Option Value} (X : K.In h) (G : h.Ns mainGlobals mg)
    (aC : PySem.W.nsIn K mainGlobals x = some (some (.ref C)))
    (xL : K.lookup C = some (excClassObj nm qn C N bs bm true sn sub ab col dd m0 m1 m2 m3 m5 "ValueError.__new__")) (xV : HandSPX.refsVE bm = true)
    (sa : PySem.W.findIn K (.ref C) "__setattr__" = some (some (.builtin "object.__setattr__"))) (exC : PySem.W.subIn K (.ref C) (.type "BaseException") = some true) (tyC : PySem.W.typeIn K (.ref C) = some (.type "type")) (kC : PySem.W.keepIn K (.ref C) = true)
    (a1 : PySem.W.findIn K (.ref C) "__init__" = some (some (.ref f))) (t1 : PySem.W.typeIn K (.ref f) = some (.type "function"))
    (l : K.lookup f = some ⟨oc, od, .func (PySem.W.fnOf "__init__" q (defArgs (clsInit st)) (defBody (clsInit st)) (defScope (clsInit st)) .none kV dc pm an cd ct), sl⟩) (c : PySem.W.codeIn K cd q = true) (k : PySem.W.keepIn K (.ref f) = true)
    (b : ∀ (kV doc pm : Value) (an : Option Addr) (cdv ct : Value) (us : List Value), us.length = (["self"] : List Str).length → bindArgs (PySem.W.fnOf "__init__" q (defArgs (clsInit st)) (defBody (clsInit st)) (defScope (clsInit st)) Value.none kV doc pm an cdv ct) { pos := us } = pure ((["self"] : List Str).zip us))
    (hg : PySem.W.findIn K (.ref C) "__getattribute__" = some (some (.builtin "BaseException.__getattribute__"))) (hk : PySem.W.findIn K (.ref C) "__getattr__" = some none) (hd : PySem.W.hasDictIn K C = true) (ha : PySem.W.findIn K (.ref C) "__class__" = some (some (.builtin "object.__class__")))
    (hn : PySem.W.specialIn K (.builtin "object.__class__") "__get__" = some (some (.builtin "getset_descriptor.__get__"))) (ht : PySem.W.takesIn K (.builtin "object.__class__") = some true) (hm : PySem.W.mroIn K C (.type "object") = some true)
    (sC : PySem.W.subIn K (.ref C) (.ref C) = some true) (hB : PySem.W.kitMeta B = true) (eB : PySem.W.subIn K (.ref C) (.type B) = some true) : Nonempty (Ex K mg x q st B) :=
  ⟨⟨C, f, _, ⟨⟨nm, qn, N, bs, bm, sn, sub, ab, col, dd, m0, m1, m2, m3, m5, xL, xV⟩, sa, exC, tyC, kC⟩, a1, t1, fun_mk l c k, (fun_mk l c k).binds b, PySem.W.mg_of X G aC, ⟨hg, hk, exC, hd, ha, hn, ht, hm⟩, kit_of hB eB, ex_of xL tyC exC sC⟩⟩
theorem no_end {P : Program} {w : World} {H : Hp} {s : Shared} {e : Value} {s' : Shared} (h : L2.CX P w [] H s (fun _ _ _ => False) e s') : False := by
  obtain ⟨_, _, _, _, _, _, _, _, _, _, _, _, z⟩ := h
  exact z
end Nc
namespace K17
open PySem PySem.Spec PyProof.Rows L2 Nc
set_option maxRecDepth 1000000
set_option maxHeartbeats 4000000
abbrev RL : Nat := 10
def topS (i : Nat) : Stmt := PySem.Challenge.pw_nearercamps_k17_camps_by_hand_and_what_i.main.body.getD i (.Pass ⟨0, 0, 0, 0⟩)
abbrev s_is_number : Stmt := topS 3
abbrev s_is_number_below : Stmt := topS 4
abbrev s_is_tuple_of : Stmt := topS 5
abbrev s_is_filled_tuple : Stmt := topS 6
abbrev s_is_rising : Stmt := topS 7
abbrev s_frozen : Stmt := topS 8
abbrev s_ascending : Stmt := topS 9
abbrev s_is_lot : Stmt := topS 11
abbrev s_all_lots : Stmt := topS 12
abbrev s_seen_from : Stmt := topS 13
abbrev s_lookers_within : Stmt := topS 14
abbrev s_stand_still : Stmt := topS 15
abbrev s_behind_looks : Stmt := topS 16
abbrev s_steps_along : Stmt := topS 18
abbrev s_put_in_order : Stmt := topS 20
abbrev s_are_apart : Stmt := topS 21
abbrev s_every_camps : Stmt := topS 22
abbrev s_is_part : Stmt := topS 23
abbrev s_lie_within : Stmt := topS 24
abbrev s_led_by : Stmt := topS 25
abbrev s_led_map : Stmt := topS 26
abbrev s_looks_along : Stmt := topS 27
abbrev s_is_camps : Stmt := topS 29
abbrev s_all_camps : Stmt := topS 30
abbrev s_in_camps : Stmt := topS 31
abbrev s_are_within : Stmt := topS 32
abbrev s_greatest_camps : Stmt := topS 33
abbrev s_led : Stmt := topS 34
abbrev s_led_along : Stmt := topS 35
abbrev s_life_along : Stmt := topS 36
abbrev s_left_alive : Stmt := topS 37
abbrev s_kills_all : Stmt := topS 38
abbrev s_hangs_on : Stmt := topS 39
abbrev s_common_places : Stmt := topS 40
abbrev s_living_ever_longer : Stmt := topS 41
abbrev s_lasting : Stmt := topS 42
abbrev s_longest_alone : Stmt := topS 43
abbrev s_renamed_camps : Stmt := topS 44
abbrev s_one_round : Stmt := topS 46
abbrev s_one_choice : Stmt := topS 47
abbrev s__law_same : Stmt := topS 49
abbrev s__law_bad : Stmt := topS 50
abbrev s__law_heard : Stmt := topS 51
abbrev s__law_made_right : Stmt := topS 52
abbrev s__law_moves_right : Stmt := topS 53
abbrev s__law_alone_right : Stmt := topS 54
abbrev s_law : Stmt := topS 55
structure Defs (K : PySem.W.Frag) (mg : Str → Option Value) where
  h_is_number : Df K mg "is_number" s_is_number ["thing"]
  h_is_number_below : Df K mg "is_number_below" s_is_number_below ["thing", "limit"]
  h_is_tuple_of : Df K mg "is_tuple_of" s_is_tuple_of ["thing", "count"]
  h_is_filled_tuple : Df K mg "is_filled_tuple" s_is_filled_tuple ["thing"]
  h_is_rising : Df K mg "is_rising" s_is_rising ["values"]
  h_frozen : Df K mg "frozen" s_frozen ["value"]
  h_ascending : Df K mg "ascending" s_ascending ["values"]
  h_is_lot : Df K mg "is_lot" s_is_lot ["thing", "n"]
  h_all_lots : Df K mg "all_lots" s_all_lots ["n"]
  h_seen_from : Df K mg "seen_from" s_seen_from ["looks", "lot"]
  h_lookers_within : Df K mg "lookers_within" s_lookers_within ["looks", "lot"]
  h_stand_still : Df K mg "stand_still" s_stand_still ["n"]
  h_behind_looks : Df K mg "behind_looks" s_behind_looks ["looks", "others"]
  h_steps_along : Df K mg "steps_along" s_steps_along ["stands", "stand", "row"]
  h_put_in_order : Df K mg "put_in_order" s_put_in_order ["lot", "one"]
  h_are_apart : Df K mg "are_apart" s_are_apart ["lot", "one"]
  h_every_camps : Df K mg "every_camps" s_every_camps ["n"]
  h_is_part : Df K mg "is_part" s_is_part ["lot", "one"]
  h_lie_within : Df K mg "lie_within" s_lie_within ["camps", "other"]
  h_led_by : Df K mg "led_by" s_led_by ["looks", "camps"]
  h_led_map : Df K mg "led_map" s_led_map ["looks", "every"]
  h_looks_along : Df K mg "looks_along" s_looks_along ["machine", "stand", "row"]
  h_is_camps : Df K mg "is_camps" s_is_camps ["thing", "n"]
  h_all_camps : Df K mg "all_camps" s_all_camps ["n"]
  h_in_camps : Df K mg "in_camps" s_in_camps ["lot", "one"]
  h_are_within : Df K mg "are_within" s_are_within ["camps", "other"]
  h_greatest_camps : Df K mg "greatest_camps" s_greatest_camps ["some"]
  h_led : Df K mg "led" s_led ["looks", "camps"]
  h_led_along : Df K mg "led_along" s_led_along ["machine", "stand", "row", "camps"]
  h_life_along : Df K mg "life_along" s_life_along ["machine", "stand", "row", "camps"]
  h_left_alive : Df K mg "left_alive" s_left_alive ["machine", "stand", "row"]
  h_kills_all : Df K mg "kills_all" s_kills_all ["machine", "stand", "row"]
  h_hangs_on : Df K mg "hangs_on" s_hangs_on ["machine", "stand", "row", "place"]
  h_common_places : Df K mg "common_places" s_common_places ["machine", "stand", "row"]
  h_living_ever_longer : Df K mg "living_ever_longer" s_living_ever_longer ["looks"]
  h_lasting : Df K mg "lasting" s_lasting ["looks"]
  h_longest_alone : Df K mg "longest_alone" s_longest_alone ["looks"]
  h_renamed_camps : Df K mg "renamed_camps" s_renamed_camps ["camps", "order"]
  h_one_round : Df K mg "one_round" s_one_round ["steps"]
  h_one_choice : Df K mg "one_choice" s_one_choice ["owner", "steps"]
  h__law_same : Df K mg "_law_same" s__law_same ["got", "due"]
  h__law_bad : Df K mg "_law_bad" s__law_bad []
  h__law_heard : Df K mg "_law_heard" s__law_heard ["near_so", "far_so"]
  h__law_made_right : Df K mg "_law_made_right" s__law_made_right []
  h__law_moves_right : Df K mg "_law_moves_right" s__law_moves_right []
  h__law_alone_right : Df K mg "_law_alone_right" s__law_alone_right []
  h_law : Df K mg "law" s_law ["script"]
  x_Unfit : Ex K mg "Unfit" "Unfit.__init__" (topS 1) "ValueError"
  m_ValueError : mg "ValueError" = none
  m_all : mg "all" = none
  m_any : mg "any" = none
  m_bool : mg "bool" = none
  m_enumerate : mg "enumerate" = none
  m_int : mg "int" = none
  m_isinstance : mg "isinstance" = none
  m_len : mg "len" = none
  m_list : mg "list" = none
  m_max : mg "max" = none
  m_range : mg "range" = none
  m_set : mg "set" = none
  m_sorted : mg "sorted" = none
  m_str : mg "str" = none
  m_tuple : mg "tuple" = none
  m_zip : mg "zip" = none
def tx {K : PySem.W.Frag} {mg : Str → Option Value} (D : Defs K mg) : XT := ⟨fun c => match c with
  | 0 => some (.ref D.x_Unfit.C)
  | _ => none, fun _ => none⟩
section
variable {P : Program} {w : World} {K : PySem.W.Frag} {mg : Str → Option Value} {base : Heap}
theorem sc_Unfit : FnScope ["self"] ["self"] (defScope (clsInit (topS 1))) := ⟨rfl, rfl, rfl, by decide +kernel, rfl, by decide +kernel, by decide +kernel⟩
theorem ok_Unfit (D : Defs K mg) : FnOk P w K mg base (L2.CX P w) 1 D.x_Unfit.fI D.x_Unfit.fd ["self"] spPass := ok_pass D.x_Unfit.F sc_Unfit (by rfl)
/-! ### is_number -/
theorem sc_is_number : FnScope ["thing"] ["thing"] (defScope s_is_number) := ⟨rfl, rfl, rfl, by decide +kernel, rfl, by decide +kernel, by decide +kernel⟩
def g_is_number : DS := (gRet (dAndV (dIsi .int (dVar 0)) (dNotV (dIsi .bl (dVar 0)))))
def F_is_number : DF := runF g_is_number 1 1
theorem b_is_number (D : Defs K mg) (f : Addr) (cdv : Value) (A : Around) (outer : List Env) (s : Shared) (H : Hp) (E : XK) (hr : Room 0 (A.deeper (envOfC "is_number" (defScope s_is_number) s.heap.objs.size f cdv))) :
    SSs (cxOf (L2.CX P w) P w K mg base ["thing"] "is_number" (defScope s_is_number) f cdv A outer s H E) (tx D) (wOf E) (defBody s_is_number) g_is_number :=
  (ss_one (s_ret (se_and (se_isi .int (by intro h; cases h) (sv 0) (by rfl) D.m_isinstance (pe_tyName "int" (by rfl) D.m_int (by rfl))) (se_one (se_not (se_isi .bl (by intro h; cases h) (sv 0) (by rfl) D.m_isinstance (pe_tyName "bool" (by rfl) D.m_bool (by rfl))))))))
theorem ok_is_number (D : Defs K mg) : FnOk P w K mg base (L2.CX P w) 1 (D.h_is_number).f (D.h_is_number).fd ["thing"] (spNc ⟨K, w⟩ (tx D) F_is_number) := fn_okD (g := g_is_number) (D.h_is_number).F sc_is_number (hF := rfl) (h1 := rfl) (h2 := rfl) (body := fun cdv A outer s H E hr => b_is_number D _ cdv A outer s H E hr)
/-! ### is_number_below -/
theorem sc_is_number_below : FnScope ["thing", "limit"] ["thing", "limit"] (defScope s_is_number_below) := ⟨rfl, rfl, rfl, by decide +kernel, rfl, by decide +kernel, by decide +kernel⟩
def g_is_number_below : DS := (gRet (dAndV (dFn F_is_number (dCons (dVar 0) dNil)) (dChain (dInts leI) dLt (dC (.int 0)) (dVar 0) (dVar 1))))
def F_is_number_below : DF := runF g_is_number_below 2 2
theorem b_is_number_below (D : Defs K mg) (f : Addr) (cdv : Value) (A : Around) (outer : List Env) (s : Shared) (H : Hp) (E : XK) (hr : Room 1 (A.deeper (envOfC "is_number_below" (defScope s_is_number_below) s.heap.objs.size f cdv))) :
    SSs (cxOf (L2.CX P w) P w K mg base ["thing", "limit"] "is_number_below" (defScope s_is_number_below) f cdv A outer s H E) (tx D) (wOf E) (defBody s_is_number_below) g_is_number_below :=
  (ss_one (s_ret (se_and (se_call (ok_is_number (base := base) D) (rm hr) (by rfl) (D.h_is_number).gl (D.h_is_number).F.kp (D.h_is_number).bi (takes_of rfl rfl rfl rfl) (sa_cons (sv 0) sa_nil)) (se_one (se_leLt hr se_int (sv 0) (sv 1))))))
theorem ok_is_number_below (D : Defs K mg) : FnOk P w K mg base (L2.CX P w) 2 (D.h_is_number_below).f (D.h_is_number_below).fd ["thing", "limit"] (spNc ⟨K, w⟩ (tx D) F_is_number_below) := fn_okD (g := g_is_number_below) (D.h_is_number_below).F sc_is_number_below (hF := rfl) (h1 := rfl) (h2 := rfl) (body := fun cdv A outer s H E hr => b_is_number_below D _ cdv A outer s H E hr)
/-! ### is_tuple_of -/
theorem sc_is_tuple_of : FnScope ["thing", "count"] ["thing", "count"] (defScope s_is_tuple_of) := ⟨rfl, rfl, rfl, by decide +kernel, rfl, by decide +kernel, by decide +kernel⟩
def g_is_tuple_of : DS := (gRet (dAndV (dIsi .tup (dVar 0)) (dOp dEq (dCall oLen (dCons (dVar 0) dNil)) (dVar 1))))
def F_is_tuple_of : DF := runF g_is_tuple_of 2 2
theorem b_is_tuple_of (D : Defs K mg) (f : Addr) (cdv : Value) (A : Around) (outer : List Env) (s : Shared) (H : Hp) (E : XK) (hr : Room 0 (A.deeper (envOfC "is_tuple_of" (defScope s_is_tuple_of) s.heap.objs.size f cdv))) :
    SSs (cxOf (L2.CX P w) P w K mg base ["thing", "count"] "is_tuple_of" (defScope s_is_tuple_of) f cdv A outer s H E) (tx D) (wOf E) (defBody s_is_tuple_of) g_is_tuple_of :=
  (ss_one (s_ret (se_and (se_isi .tup (by intro h; cases h) (sv 0) (by rfl) D.m_isinstance (pe_tyName "tuple" (by rfl) D.m_tuple (by rfl))) (se_one (se_eq hr (se_len D.m_len (sv 0)) (sv 1))))))
theorem ok_is_tuple_of (D : Defs K mg) : FnOk P w K mg base (L2.CX P w) 1 (D.h_is_tuple_of).f (D.h_is_tuple_of).fd ["thing", "count"] (spNc ⟨K, w⟩ (tx D) F_is_tuple_of) := fn_okD (g := g_is_tuple_of) (D.h_is_tuple_of).F sc_is_tuple_of (hF := rfl) (h1 := rfl) (h2 := rfl) (body := fun cdv A outer s H E hr => b_is_tuple_of D _ cdv A outer s H E hr)
/-! ### is_filled_tuple -/
theorem sc_is_filled_tuple : FnScope ["thing"] ["thing"] (defScope s_is_filled_tuple) := ⟨rfl, rfl, rfl, by decide +kernel, rfl, by decide +kernel, by decide +kernel⟩
def g_is_filled_tuple : DS := (gRet (dAndV (dIsi .tup (dVar 0)) (dOp (dInts gtI) (dCall oLen (dCons (dVar 0) dNil)) (dC (.int 0)))))
def F_is_filled_tuple : DF := runF g_is_filled_tuple 1 1
theorem b_is_filled_tuple (D : Defs K mg) (f : Addr) (cdv : Value) (A : Around) (outer : List Env) (s : Shared) (H : Hp) (E : XK) (hr : Room 0 (A.deeper (envOfC "is_filled_tuple" (defScope s_is_filled_tuple) s.heap.objs.size f cdv))) :
    SSs (cxOf (L2.CX P w) P w K mg base ["thing"] "is_filled_tuple" (defScope s_is_filled_tuple) f cdv A outer s H E) (tx D) (wOf E) (defBody s_is_filled_tuple) g_is_filled_tuple :=
  (ss_one (s_ret (se_and (se_isi .tup (by intro h; cases h) (sv 0) (by rfl) D.m_isinstance (pe_tyName "tuple" (by rfl) D.m_tuple (by rfl))) (se_one (se_gt (se_len D.m_len (sv 0)) se_int)))))
theorem ok_is_filled_tuple (D : Defs K mg) : FnOk P w K mg base (L2.CX P w) 1 (D.h_is_filled_tuple).f (D.h_is_filled_tuple).fd ["thing"] (spNc ⟨K, w⟩ (tx D) F_is_filled_tuple) := fn_okD (g := g_is_filled_tuple) (D.h_is_filled_tuple).F sc_is_filled_tuple (hF := rfl) (h1 := rfl) (h2 := rfl) (body := fun cdv A outer s H E hr => b_is_filled_tuple D _ cdv A outer s H E hr)
/-! ### is_rising -/
theorem sc_is_rising : FnScope ["values", "k"] ["values"] (defScope s_is_rising) := ⟨rfl, rfl, rfl, by decide +kernel, rfl, by decide +kernel, by decide +kernel⟩
def g_is_rising : DS := (gRet (dCall (oBools allB) (dCons (dLc (iR2 (dCons (dC (.int 1)) (dCons (dCall oLen (dCons (dVar 0) dNil)) dNil))) (gN 1) dYes (dOp dLt (dOp dIxA (dVar 0) (dOp dSub (dVar 1) (dC (.int 1)))) (dOp dIxA (dVar 0) (dVar 1))) [1] 10000) dNil)))
def F_is_rising : DF := runF g_is_rising 1 2
theorem b_is_rising (D : Defs K mg) (f : Addr) (cdv : Value) (A : Around) (outer : List Env) (s : Shared) (H : Hp) (E : XK) (hr : Room 0 (A.deeper (envOfC "is_rising" (defScope s_is_rising) s.heap.objs.size f cdv))) :
    SSs (cxOf (L2.CX P w) P w K mg base ["values", "k"] "is_rising" (defScope s_is_rising) f cdv A outer s H E) (tx D) (wOf E) (defBody s_is_rising) g_is_rising :=
  (ss_one (s_ret (se_all rfl D.m_all (se_lc (own := [("k", 1)]) 10000 rfl sc_is_rising.nd (si_range2 (by rfl) D.m_range (sa_cons se_int (sa_cons (se_len D.m_len (sv 0)) sa_nil))) (blk_of (by kernel_rfl)) (by decide) (fun _ _ _ _ _ => (sg_name sc_is_rising.nd (by rfl) (by first | exact Or.inl rfl | exact Or.inr rfl))) (fun _ _ _ _ _ => sts_nil) (fun _ _ _ _ _ => (se_lt hr (se_sub hr (sv 0) (se_sb (sv 1) se_int) (fun _ _ => rfl)) (se_sub hr (sv 0) (sv 1) (fun _ _ => rfl))))))))
theorem ok_is_rising (D : Defs K mg) : FnOk P w K mg base (L2.CX P w) 1 (D.h_is_rising).f (D.h_is_rising).fd ["values"] (spNc ⟨K, w⟩ (tx D) F_is_rising) := fn_okD (g := g_is_rising) (D.h_is_rising).F sc_is_rising (hF := rfl) (h1 := rfl) (h2 := rfl) (body := fun cdv A outer s H E hr => b_is_rising D _ cdv A outer s H E hr)
/-! ### frozen -/
theorem sc_frozen : FnScope ["value", "part"] ["value"] (defScope s_frozen) := ⟨rfl, rfl, rfl, by decide +kernel, rfl, by decide +kernel, by decide +kernel⟩
def g_frozen (F : DF) : DS := (gSeq (gIf (dTest (dIsi2 .lst .tup (dVar 0))) (gRet (dCall oTuple (dCons (dLc (iSeq (dVar 0)) (gN 1) dYes (dFn F (dCons (dVar 1) dNil)) [1] 10000) dNil))) gNil)
  (gRet (dVar 0)))
def F_frozen : Nat → DF
  | 0 => fun _ _ => .no
  | n + 1 => runF (g_frozen (F_frozen n)) 1 2
theorem b_frozen (D : Defs K mg) (n : Nat) (F : DF) (ih : FnOk P w K mg base (L2.CX P w) (0 + n) (D.h_frozen).f (D.h_frozen).fd ["value"] (spNc ⟨K, w⟩ (tx D) F)) (f : Addr) (cdv : Value) (A : Around) (outer : List Env) (s : Shared) (H : Hp) (E : XK) (hr : Room (0 + n) (A.deeper (envOfC "frozen" (defScope s_frozen) s.heap.objs.size f cdv))) :
    SSs (cxOf (L2.CX P w) P w K mg base ["value", "part"] "frozen" (defScope s_frozen) f cdv A outer s H E) (tx D) (wOf E) (defBody s_frozen) (g_frozen F) :=
  (ss_cons (s_if (st_val (se_isi2 .lst .tup (by intro h; cases h) (by intro h; cases h) (sv 0) (by rfl) D.m_isinstance (pe_tyName "list" (by rfl) D.m_list (by rfl)) (pe_tyName "tuple" (by rfl) D.m_tuple (by rfl)))) (ss_one (s_ret (se_tuple D.m_tuple (se_lc (own := [("part", 1)]) 10000 rfl sc_frozen.nd (si_seq (sv 0)) (blk_of (by kernel_rfl)) (by decide) (fun _ _ _ _ _ => (sg_name sc_frozen.nd (by rfl) (by first | exact Or.inl rfl | exact Or.inr rfl))) (fun _ _ _ _ _ => sts_nil) (fun _ _ _ _ _ => (se_call ih (rm hr) (by rfl) (D.h_frozen).gl (D.h_frozen).F.kp (D.h_frozen).bi takes0 (sa_cons (sv 1) sa_nil))))))) ss_nil)
      (ss_one (s_ret (sv 0))))
theorem okN_frozen (D : Defs K mg) : ∀ n : Nat, FnOk P w K mg base (L2.CX P w) (0 + n) (D.h_frozen).f (D.h_frozen).fd ["value"] (spNc ⟨K, w⟩ (tx D) (F_frozen n))
  | 0 => fn_no
  | n + 1 => fn_okD (k := 0 + n) (g := g_frozen (F_frozen n)) (D.h_frozen).F sc_frozen (hF := rfl) (h1 := rfl) (h2 := rfl) (body := fun cdv A outer s H E hr => b_frozen D n _ (okN_frozen D n) _ cdv A outer s H E hr)
theorem ok_frozen (D : Defs K mg) : FnOk P w K mg base (L2.CX P w) 10 (D.h_frozen).f (D.h_frozen).fd ["value"] (spNc ⟨K, w⟩ (tx D) (F_frozen RL)) := okN_frozen D RL
/-! ### ascending -/
theorem sc_ascending : FnScope ["values"] ["values"] (defScope s_ascending) := ⟨rfl, rfl, rfl, by decide +kernel, rfl, by decide +kernel, by decide +kernel⟩
def g_ascending : DS := (gRet (dCall oTuple (dCons (dSortSet (dVar 0)) dNil)))
def F_ascending : DF := runF g_ascending 1 1
theorem b_ascending (D : Defs K mg) (f : Addr) (cdv : Value) (A : Around) (outer : List Env) (s : Shared) (H : Hp) (E : XK) (hr : Room 0 (A.deeper (envOfC "ascending" (defScope s_ascending) s.heap.objs.size f cdv))) :
    SSs (cxOf (L2.CX P w) P w K mg base ["values"] "ascending" (defScope s_ascending) f cdv A outer s H E) (tx D) (wOf E) (defBody s_ascending) g_ascending :=
  (ss_one (s_ret (se_tuple D.m_tuple (se_sortSet hr rfl D.m_sorted D.m_set (sv 0)))))
theorem ok_ascending (D : Defs K mg) : FnOk P w K mg base (L2.CX P w) 1 (D.h_ascending).f (D.h_ascending).fd ["values"] (spNc ⟨K, w⟩ (tx D) F_ascending) := fn_okD (g := g_ascending) (D.h_ascending).F sc_ascending (hF := rfl) (h1 := rfl) (h2 := rfl) (body := fun cdv A outer s H E hr => b_ascending D _ cdv A outer s H E hr)
/-! ### is_lot -/
theorem sc_is_lot : FnScope ["thing", "n", "place"] ["thing", "n"] (defScope s_is_lot) := ⟨rfl, rfl, rfl, by decide +kernel, rfl, by decide +kernel, by decide +kernel⟩
def g_is_lot : DS := (gSeq (gIf (dNot (dTest (dFn F_is_filled_tuple (dCons (dVar 0) dNil)))) (gRet (dC (.bl false))) gNil)
  (gRet (dAndV (dCall (oBools allB) (dCons (dLc (iSeq (dVar 0)) (gN 2) dYes (dFn F_is_number_below (dCons (dVar 2) (dCons (dVar 1) dNil))) [2] 10000) dNil)) (dFn F_is_rising (dCons (dVar 0) dNil)))))
def F_is_lot : DF := runF g_is_lot 2 3
theorem b_is_lot (D : Defs K mg) (f : Addr) (cdv : Value) (A : Around) (outer : List Env) (s : Shared) (H : Hp) (E : XK) (hr : Room 2 (A.deeper (envOfC "is_lot" (defScope s_is_lot) s.heap.objs.size f cdv))) :
    SSs (cxOf (L2.CX P w) P w K mg base ["thing", "n", "place"] "is_lot" (defScope s_is_lot) f cdv A outer s H E) (tx D) (wOf E) (defBody s_is_lot) g_is_lot :=
  (ss_cons (s_if (st_not (st_val (se_call (ok_is_filled_tuple (base := base) D) (rm hr) (by rfl) (D.h_is_filled_tuple).gl (D.h_is_filled_tuple).F.kp (D.h_is_filled_tuple).bi (takes_of rfl rfl rfl rfl) (sa_cons (sv 0) sa_nil)))) (ss_one (s_ret se_bl)) ss_nil)
      (ss_one (s_ret (se_and (se_all rfl D.m_all (se_lc (own := [("place", 2)]) 10000 rfl sc_is_lot.nd (si_seq (sv 0)) (blk_of (by kernel_rfl)) (by decide) (fun _ _ _ _ _ => (sg_name sc_is_lot.nd (by rfl) (by first | exact Or.inl rfl | exact Or.inr rfl))) (fun _ _ _ _ _ => sts_nil) (fun _ _ _ _ _ => (se_call (ok_is_number_below (base := base) D) (rm hr) (by rfl) (D.h_is_number_below).gl (D.h_is_number_below).F.kp (D.h_is_number_below).bi takes0 (sa_cons (sv 2) (sa_cons (sv 1) sa_nil)))))) (se_one (se_call (ok_is_rising (base := base) D) (rm hr) (by rfl) (D.h_is_rising).gl (D.h_is_rising).F.kp (D.h_is_rising).bi (takes_of rfl rfl rfl rfl) (sa_cons (sv 0) sa_nil)))))))
theorem ok_is_lot (D : Defs K mg) : FnOk P w K mg base (L2.CX P w) 3 (D.h_is_lot).f (D.h_is_lot).fd ["thing", "n"] (spNc ⟨K, w⟩ (tx D) F_is_lot) := fn_okD (g := g_is_lot) (D.h_is_lot).F sc_is_lot (hF := rfl) (h1 := rfl) (h2 := rfl) (body := fun cdv A outer s H E hr => b_is_lot D _ cdv A outer s H E hr)
/-! ### all_lots -/
theorem sc_all_lots : FnScope ["n", "lots", "place", "lot"] ["n"] (defScope s_all_lots) := ⟨rfl, rfl, rfl, by decide +kernel, rfl, by decide +kernel, by decide +kernel⟩
def g_all_lots : DS := (gSeq (gAsg (dLst (dCons (dTup dNil) dNil)) (gN 1))
  (gSeq (gForI (iR1 (dCons (dVar 0) dNil)) (gN 2) (gAsg (dOp dAdd (dVar 1) (dLc (iSeq (dVar 1)) (gN 3) dYes (dOp dAdd (dVar 3) (dTup (dCons (dVar 2) dNil))) [3] 10000)) (gN 1)) 10000)
  (gRet (dSl (dCall oSorted (dCons (dVar 1) dNil)) (dSome (dC (.int 1))) dNo))))
def F_all_lots : DF := runF g_all_lots 1 4
theorem b_all_lots (D : Defs K mg) (f : Addr) (cdv : Value) (A : Around) (outer : List Env) (s : Shared) (H : Hp) (E : XK) (hr : Room 0 (A.deeper (envOfC "all_lots" (defScope s_all_lots) s.heap.objs.size f cdv))) :
    SSs (cxOf (L2.CX P w) P w K mg base ["n", "lots", "place", "lot"] "all_lots" (defScope s_all_lots) f cdv A outer s H E) (tx D) (wOf E) (defBody s_all_lots) g_all_lots :=
  (ss_cons (s_set sc_all_lots.nd (by rfl) (by first | exact Or.inl rfl | exact Or.inr rfl) (se_lst (sa_cons (se_tup sa_nil) sa_nil)))
      (ss_cons (s_for 10000 (passes_of rfl) rfl (si_range1 (by rfl) D.m_range (sa_cons (sv 0) sa_nil)) (sg_name sc_all_lots.nd (by rfl) (by first | exact Or.inl rfl | exact Or.inr rfl)) (ss_one (s_set sc_all_lots.nd (by rfl) (by first | exact Or.inl rfl | exact Or.inr rfl) (se_add (sv 1) (se_lc (own := [("lot", 3)]) 10000 rfl sc_all_lots.nd (si_seq (sv 1)) (blk_of (by kernel_rfl)) (by decide) (fun _ _ _ _ _ => (sg_name sc_all_lots.nd (by rfl) (by first | exact Or.inl rfl | exact Or.inr rfl))) (fun _ _ _ _ _ => sts_nil) (fun _ _ _ _ _ => (se_add (sv 3) (se_tup (sa_cons (sv 2) sa_nil)))))))))
      (ss_one (s_ret (se_sl (se_sorted hr D.m_sorted (sv 1)) (so_some se_int) so_none)))))
theorem ok_all_lots (D : Defs K mg) : FnOk P w K mg base (L2.CX P w) 1 (D.h_all_lots).f (D.h_all_lots).fd ["n"] (spNc ⟨K, w⟩ (tx D) F_all_lots) := fn_okD (g := g_all_lots) (D.h_all_lots).F sc_all_lots (hF := rfl) (h1 := rfl) (h2 := rfl) (body := fun cdv A outer s H E hr => b_all_lots D _ cdv A outer s H E hr)
/-! ### seen_from -/
theorem sc_seen_from : FnScope ["looks", "lot", "place", "seen"] ["looks", "lot"] (defScope s_seen_from) := ⟨rfl, rfl, rfl, by decide +kernel, rfl, by decide +kernel, by decide +kernel⟩
def g_seen_from : DS := (gRet (dFn F_ascending (dCons (dLc2 (iSeq (dVar 1)) (gN 2) dYes (iSeq (dOp dIxA (dVar 0) (dVar 2))) (gN 3) dYes (dVar 3) [2, 3] [3] 10000 10000) dNil)))
def F_seen_from : DF := runF g_seen_from 2 4
theorem b_seen_from (D : Defs K mg) (f : Addr) (cdv : Value) (A : Around) (outer : List Env) (s : Shared) (H : Hp) (E : XK) (hr : Room 1 (A.deeper (envOfC "seen_from" (defScope s_seen_from) s.heap.objs.size f cdv))) :
    SSs (cxOf (L2.CX P w) P w K mg base ["looks", "lot", "place", "seen"] "seen_from" (defScope s_seen_from) f cdv A outer s H E) (tx D) (wOf E) (defBody s_seen_from) g_seen_from :=
  (ss_one (s_ret (se_call (ok_ascending (base := base) D) (rm hr) (by rfl) (D.h_ascending).gl (D.h_ascending).F.kp (D.h_ascending).bi (takes_of rfl rfl rfl rfl) (sa_cons (se_lc2 (own := [("place", 2), ("seen", 3)]) (vs1 := [3]) 10000 10000 rfl sc_seen_from.nd (si_seq (sv 1)) (blk_of (by kernel_rfl)) (by decide) (by decide) (by decide) (fun _ _ _ _ _ => (sg_name sc_seen_from.nd (by rfl) (by first | exact Or.inl rfl | exact Or.inr rfl))) (fun _ _ _ _ _ => sts_nil) (fun _ _ _ _ _ => (si_seq (se_sub hr (sv 0) (sv 2) (fun _ _ => rfl)))) (fun _ _ _ _ _ => (sg_name sc_seen_from.nd (by rfl) (by first | exact Or.inl rfl | exact Or.inr rfl))) (fun _ _ _ _ _ => sts_nil) (fun _ _ _ _ _ => (sv 3))) sa_nil))))
theorem ok_seen_from (D : Defs K mg) : FnOk P w K mg base (L2.CX P w) 2 (D.h_seen_from).f (D.h_seen_from).fd ["looks", "lot"] (spNc ⟨K, w⟩ (tx D) F_seen_from) := fn_okD (g := g_seen_from) (D.h_seen_from).F sc_seen_from (hF := rfl) (h1 := rfl) (h2 := rfl) (body := fun cdv A outer s H E hr => b_seen_from D _ cdv A outer s H E hr)
/-! ### lookers_within -/
theorem sc_lookers_within : FnScope ["looks", "lot", "place", "seen", "one"] ["looks", "lot"] (defScope s_lookers_within) := ⟨rfl, rfl, rfl, by decide +kernel, rfl, by decide +kernel, by decide +kernel⟩
def g_lookers_within : DS := (gRet (dCall oTuple (dCons (dLc (iEnumD (dCons (dVar 0) dNil)) (gTupD 2 (gsCons (gN 2) (gsCons (gN 3) gsNil))) (dTest (dCall (oBools allB) (dCons (dLc (iSeq (dVar 3)) (gN 4) dYes (dOp (dInA false) (dVar 4) (dVar 1)) [4] 10000) dNil))) (dVar 2) [2, 3] 10000) dNil)))
def F_lookers_within : DF := runF g_lookers_within 2 5
theorem b_lookers_within (D : Defs K mg) (f : Addr) (cdv : Value) (A : Around) (outer : List Env) (s : Shared) (H : Hp) (E : XK) (hr : Room 0 (A.deeper (envOfC "lookers_within" (defScope s_lookers_within) s.heap.objs.size f cdv))) :
    SSs (cxOf (L2.CX P w) P w K mg base ["looks", "lot", "place", "seen", "one"] "lookers_within" (defScope s_lookers_within) f cdv A outer s H E) (tx D) (wOf E) (defBody s_lookers_within) g_lookers_within :=
  (ss_one (s_ret (se_tuple D.m_tuple (se_lc (own := [("place", 2), ("seen", 3)]) 10000 rfl sc_lookers_within.nd (si_enum (by rfl) D.m_enumerate (sa_cons (sv 0) sa_nil)) (blk_of (by kernel_rfl)) (by decide) (fun _ _ _ _ _ => (sg_tup rfl (sgs_cons (sg_name sc_lookers_within.nd (by rfl) (by first | exact Or.inl rfl | exact Or.inr rfl)) (sgs_cons (sg_name sc_lookers_within.nd (by rfl) (by first | exact Or.inl rfl | exact Or.inr rfl)) sgs_nil)))) (fun _ _ _ _ _ => (sts_one (st_val (se_all rfl D.m_all (se_lc (own := [("one", 4)]) 10000 rfl sc_lookers_within.nd (si_seq (sv 3)) (blk_of (by kernel_rfl)) (by decide) (fun _ _ _ _ _ => (sg_name sc_lookers_within.nd (by rfl) (by first | exact Or.inl rfl | exact Or.inr rfl))) (fun _ _ _ _ _ => sts_nil) (fun _ _ _ _ _ => (se_in hr (sv 4) (sv 1)))))))) (fun _ _ _ _ _ => (sv 2))))))
theorem ok_lookers_within (D : Defs K mg) : FnOk P w K mg base (L2.CX P w) 1 (D.h_lookers_within).f (D.h_lookers_within).fd ["looks", "lot"] (spNc ⟨K, w⟩ (tx D) F_lookers_within) := fn_okD (g := g_lookers_within) (D.h_lookers_within).F sc_lookers_within (hF := rfl) (h1 := rfl) (h2 := rfl) (body := fun cdv A outer s H E hr => b_lookers_within D _ cdv A outer s H E hr)
/-! ### stand_still -/
theorem sc_stand_still : FnScope ["n", "place"] ["n"] (defScope s_stand_still) := ⟨rfl, rfl, rfl, by decide +kernel, rfl, by decide +kernel, by decide +kernel⟩
def g_stand_still : DS := (gRet (dCall oTuple (dCons (dLc (iR1 (dCons (dVar 0) dNil)) (gN 1) dYes (dTup (dCons (dVar 1) dNil)) [1] 10000) dNil)))
def F_stand_still : DF := runF g_stand_still 1 2
theorem b_stand_still (D : Defs K mg) (f : Addr) (cdv : Value) (A : Around) (outer : List Env) (s : Shared) (H : Hp) (E : XK) (hr : Room 0 (A.deeper (envOfC "stand_still" (defScope s_stand_still) s.heap.objs.size f cdv))) :
    SSs (cxOf (L2.CX P w) P w K mg base ["n", "place"] "stand_still" (defScope s_stand_still) f cdv A outer s H E) (tx D) (wOf E) (defBody s_stand_still) g_stand_still :=
  (ss_one (s_ret (se_tuple D.m_tuple (se_lc (own := [("place", 1)]) 10000 rfl sc_stand_still.nd (si_range1 (by rfl) D.m_range (sa_cons (sv 0) sa_nil)) (blk_of (by kernel_rfl)) (by decide) (fun _ _ _ _ _ => (sg_name sc_stand_still.nd (by rfl) (by first | exact Or.inl rfl | exact Or.inr rfl))) (fun _ _ _ _ _ => sts_nil) (fun _ _ _ _ _ => (se_tup (sa_cons (sv 1) sa_nil)))))))
theorem ok_stand_still (D : Defs K mg) : FnOk P w K mg base (L2.CX P w) 1 (D.h_stand_still).f (D.h_stand_still).fd ["n"] (spNc ⟨K, w⟩ (tx D) F_stand_still) := fn_okD (g := g_stand_still) (D.h_stand_still).F sc_stand_still (hF := rfl) (h1 := rfl) (h2 := rfl) (body := fun cdv A outer s H E hr => b_stand_still D _ cdv A outer s H E hr)
/-! ### behind_looks -/
theorem sc_behind_looks : FnScope ["looks", "others", "lot"] ["looks", "others"] (defScope s_behind_looks) := ⟨rfl, rfl, rfl, by decide +kernel, rfl, by decide +kernel, by decide +kernel⟩
def g_behind_looks : DS := (gRet (dCall oTuple (dCons (dLc (iSeq (dVar 1)) (gN 2) dYes (dFn F_seen_from (dCons (dVar 0) (dCons (dVar 2) dNil))) [2] 10000) dNil)))
def F_behind_looks : DF := runF g_behind_looks 2 3
theorem b_behind_looks (D : Defs K mg) (f : Addr) (cdv : Value) (A : Around) (outer : List Env) (s : Shared) (H : Hp) (E : XK) (hr : Room 2 (A.deeper (envOfC "behind_looks" (defScope s_behind_looks) s.heap.objs.size f cdv))) :
    SSs (cxOf (L2.CX P w) P w K mg base ["looks", "others", "lot"] "behind_looks" (defScope s_behind_looks) f cdv A outer s H E) (tx D) (wOf E) (defBody s_behind_looks) g_behind_looks :=
  (ss_one (s_ret (se_tuple D.m_tuple (se_lc (own := [("lot", 2)]) 10000 rfl sc_behind_looks.nd (si_seq (sv 1)) (blk_of (by kernel_rfl)) (by decide) (fun _ _ _ _ _ => (sg_name sc_behind_looks.nd (by rfl) (by first | exact Or.inl rfl | exact Or.inr rfl))) (fun _ _ _ _ _ => sts_nil) (fun _ _ _ _ _ => (se_call (ok_seen_from (base := base) D) (rm hr) (by rfl) (D.h_seen_from).gl (D.h_seen_from).F.kp (D.h_seen_from).bi takes0 (sa_cons (sv 0) (sa_cons (sv 2) sa_nil))))))))
theorem ok_behind_looks (D : Defs K mg) : FnOk P w K mg base (L2.CX P w) 3 (D.h_behind_looks).f (D.h_behind_looks).fd ["looks", "others"] (spNc ⟨K, w⟩ (tx D) F_behind_looks) := fn_okD (g := g_behind_looks) (D.h_behind_looks).F sc_behind_looks (hF := rfl) (h1 := rfl) (h2 := rfl) (body := fun cdv A outer s H E hr => b_behind_looks D _ cdv A outer s H E hr)
/-! ### steps_along -/
theorem sc_steps_along : FnScope ["stands", "stand", "row", "taken", "arrow", "step"] ["stands", "stand", "row"] (defScope s_steps_along) := ⟨rfl, rfl, rfl, by decide +kernel, rfl, by decide +kernel, by decide +kernel⟩
def g_steps_along : DS := (gSeq (gAsg (dLst dNil) (gN 3))
  (gSeq (gForI (iSeq (dVar 2)) (gN 4) (gSeq (gAsg (dOp dIxA (dOp dIxA (dOp dIxA (dVar 0) (dVar 1)) (dC (.int 1))) (dVar 4)) (gTupD 2 (gsCons (gN 5) (gsCons (gN 1) gsNil))))
  (gExpr (dMeth oAppend (dVar 3) (dCons (dVar 5) dNil)))) 10000)
  (gRet (dVar 3))))
def F_steps_along : DF := runF g_steps_along 3 6
theorem b_steps_along (D : Defs K mg) (f : Addr) (cdv : Value) (A : Around) (outer : List Env) (s : Shared) (H : Hp) (E : XK) (hr : Room 0 (A.deeper (envOfC "steps_along" (defScope s_steps_along) s.heap.objs.size f cdv))) :
    SSs (cxOf (L2.CX P w) P w K mg base ["stands", "stand", "row", "taken", "arrow", "step"] "steps_along" (defScope s_steps_along) f cdv A outer s H E) (tx D) (wOf E) (defBody s_steps_along) g_steps_along :=
  (ss_cons (s_set sc_steps_along.nd (by rfl) (by first | exact Or.inl rfl | exact Or.inr rfl) (se_lst sa_nil))
      (ss_cons (s_for 10000 (passes_of rfl) rfl (si_seq (sv 2)) (sg_name sc_steps_along.nd (by rfl) (by first | exact Or.inl rfl | exact Or.inr rfl)) (ss_cons (s_asg (se_sub hr (se_sub hr (se_sub hr (sv 0) (sv 1) (fun _ _ => rfl)) se_int (fun _ _ => rfl)) (sv 4) (fun _ _ => rfl)) (sg_tup rfl (sgs_cons (sg_name sc_steps_along.nd (by rfl) (by first | exact Or.inl rfl | exact Or.inr rfl)) (sgs_cons (sg_name sc_steps_along.nd (by rfl) (by first | exact Or.inl rfl | exact Or.inr rfl)) sgs_nil))))
      (ss_one (s_expr (se_meth PySem.F.slot_list_append PySem.F.type_list_append mt_append om_append (sv 3) (sa_cons (sv 5) sa_nil))))))
      (ss_one (s_ret (sv 3)))))
theorem ok_steps_along (D : Defs K mg) : FnOk P w K mg base (L2.CX P w) 1 (D.h_steps_along).f (D.h_steps_along).fd ["stands", "stand", "row"] (spNc ⟨K, w⟩ (tx D) F_steps_along) := fn_okD (g := g_steps_along) (D.h_steps_along).F sc_steps_along (hF := rfl) (h1 := rfl) (h2 := rfl) (body := fun cdv A outer s H E hr => b_steps_along D _ cdv A outer s H E hr)
/-! ### put_in_order -/
theorem sc_put_in_order : FnScope ["lot", "one"] ["lot", "one"] (defScope s_put_in_order) := ⟨rfl, rfl, rfl, by decide +kernel, rfl, by decide +kernel, by decide +kernel⟩
def g_put_in_order : DS := (gSeq (gIf (dTest (dOp dLt (dVar 0) (dVar 1))) (gRet (dTup (dCons (dVar 0) (dCons (dVar 1) dNil)))) gNil)
  (gRet (dTup (dCons (dVar 1) (dCons (dVar 0) dNil)))))
def F_put_in_order : DF := runF g_put_in_order 2 2
theorem b_put_in_order (D : Defs K mg) (f : Addr) (cdv : Value) (A : Around) (outer : List Env) (s : Shared) (H : Hp) (E : XK) (hr : Room 0 (A.deeper (envOfC "put_in_order" (defScope s_put_in_order) s.heap.objs.size f cdv))) :
    SSs (cxOf (L2.CX P w) P w K mg base ["lot", "one"] "put_in_order" (defScope s_put_in_order) f cdv A outer s H E) (tx D) (wOf E) (defBody s_put_in_order) g_put_in_order :=
  (ss_cons (s_if (st_lt hr (sv 0) (sv 1)) (ss_one (s_ret (se_tup (sa_cons (sv 0) (sa_cons (sv 1) sa_nil))))) ss_nil)
      (ss_one (s_ret (se_tup (sa_cons (sv 1) (sa_cons (sv 0) sa_nil))))))
theorem ok_put_in_order (D : Defs K mg) : FnOk P w K mg base (L2.CX P w) 1 (D.h_put_in_order).f (D.h_put_in_order).fd ["lot", "one"] (spNc ⟨K, w⟩ (tx D) F_put_in_order) := fn_okD (g := g_put_in_order) (D.h_put_in_order).F sc_put_in_order (hF := rfl) (h1 := rfl) (h2 := rfl) (body := fun cdv A outer s H E hr => b_put_in_order D _ cdv A outer s H E hr)
/-! ### are_apart -/
theorem sc_are_apart : FnScope ["lot", "one", "place"] ["lot", "one"] (defScope s_are_apart) := ⟨rfl, rfl, rfl, by decide +kernel, rfl, by decide +kernel, by decide +kernel⟩
def g_are_apart : DS := (gRet (dNotV (dCall (oBools anyB) (dCons (dLc (iSeq (dVar 0)) (gN 2) dYes (dOp (dInA false) (dVar 2) (dVar 1)) [2] 10000) dNil))))
def F_are_apart : DF := runF g_are_apart 2 3
theorem b_are_apart (D : Defs K mg) (f : Addr) (cdv : Value) (A : Around) (outer : List Env) (s : Shared) (H : Hp) (E : XK) (hr : Room 0 (A.deeper (envOfC "are_apart" (defScope s_are_apart) s.heap.objs.size f cdv))) :
    SSs (cxOf (L2.CX P w) P w K mg base ["lot", "one", "place"] "are_apart" (defScope s_are_apart) f cdv A outer s H E) (tx D) (wOf E) (defBody s_are_apart) g_are_apart :=
  (ss_one (s_ret (se_not (se_any rfl D.m_any (se_lc (own := [("place", 2)]) 10000 rfl sc_are_apart.nd (si_seq (sv 0)) (blk_of (by kernel_rfl)) (by decide) (fun _ _ _ _ _ => (sg_name sc_are_apart.nd (by rfl) (by first | exact Or.inl rfl | exact Or.inr rfl))) (fun _ _ _ _ _ => sts_nil) (fun _ _ _ _ _ => (se_in hr (sv 2) (sv 1))))))))
theorem ok_are_apart (D : Defs K mg) : FnOk P w K mg base (L2.CX P w) 1 (D.h_are_apart).f (D.h_are_apart).fd ["lot", "one"] (spNc ⟨K, w⟩ (tx D) F_are_apart) := fn_okD (g := g_are_apart) (D.h_are_apart).F sc_are_apart (hF := rfl) (h1 := rfl) (h2 := rfl) (body := fun cdv A outer s H E hr => b_are_apart D _ cdv A outer s H E hr)
/-! ### every_camps -/
theorem sc_every_camps : FnScope ["n", "lots", "k", "lot", "one"] ["n"] (defScope s_every_camps) := ⟨rfl, rfl, rfl, by decide +kernel, rfl, by decide +kernel, by decide +kernel⟩
def g_every_camps : DS := (gSeq (gAsg (dFn F_all_lots (dCons (dVar 0) dNil)) (gN 1))
  (gRet (dLc2 (iEnumD (dCons (dVar 1) dNil)) (gTupD 2 (gsCons (gN 2) (gsCons (gN 3) gsNil))) dYes (iSeq (dSl (dVar 1) (dSome (dOp dAdd (dVar 2) (dC (.int 1)))) dNo)) (gN 4) (dTest (dFn F_are_apart (dCons (dVar 3) (dCons (dVar 4) dNil)))) (dTup (dCons (dVar 3) (dCons (dVar 4) dNil))) [2, 3, 4] [4] 10000 10000)))
def F_every_camps : DF := runF g_every_camps 1 5
theorem b_every_camps (D : Defs K mg) (f : Addr) (cdv : Value) (A : Around) (outer : List Env) (s : Shared) (H : Hp) (E : XK) (hr : Room 1 (A.deeper (envOfC "every_camps" (defScope s_every_camps) s.heap.objs.size f cdv))) :
    SSs (cxOf (L2.CX P w) P w K mg base ["n", "lots", "k", "lot", "one"] "every_camps" (defScope s_every_camps) f cdv A outer s H E) (tx D) (wOf E) (defBody s_every_camps) g_every_camps :=
  (ss_cons (s_set sc_every_camps.nd (by rfl) (by first | exact Or.inl rfl | exact Or.inr rfl) (se_call (ok_all_lots (base := base) D) (rm hr) (by rfl) (D.h_all_lots).gl (D.h_all_lots).F.kp (D.h_all_lots).bi (takes_of rfl rfl rfl rfl) (sa_cons (sv 0) sa_nil)))
      (ss_one (s_ret (se_lc2 (own := [("k", 2), ("lot", 3), ("one", 4)]) (vs1 := [4]) 10000 10000 rfl sc_every_camps.nd (si_enum (by rfl) D.m_enumerate (sa_cons (sv 1) sa_nil)) (blk_of (by kernel_rfl)) (by decide) (by decide) (by decide) (fun _ _ _ _ _ => (sg_tup rfl (sgs_cons (sg_name sc_every_camps.nd (by rfl) (by first | exact Or.inl rfl | exact Or.inr rfl)) (sgs_cons (sg_name sc_every_camps.nd (by rfl) (by first | exact Or.inl rfl | exact Or.inr rfl)) sgs_nil)))) (fun _ _ _ _ _ => sts_nil) (fun _ _ _ _ _ => (si_seq (se_sl (sv 1) (so_some (se_add (sv 2) se_int)) so_none))) (fun _ _ _ _ _ => (sg_name sc_every_camps.nd (by rfl) (by first | exact Or.inl rfl | exact Or.inr rfl))) (fun _ _ _ _ _ => (sts_one (st_val (se_call (ok_are_apart (base := base) D) (rm hr) (by rfl) (D.h_are_apart).gl (D.h_are_apart).F.kp (D.h_are_apart).bi takes0 (sa_cons (sv 3) (sa_cons (sv 4) sa_nil)))))) (fun _ _ _ _ _ => (se_tup (sa_cons (sv 3) (sa_cons (sv 4) sa_nil))))))))
theorem ok_every_camps (D : Defs K mg) : FnOk P w K mg base (L2.CX P w) 2 (D.h_every_camps).f (D.h_every_camps).fd ["n"] (spNc ⟨K, w⟩ (tx D) F_every_camps) := fn_okD (g := g_every_camps) (D.h_every_camps).F sc_every_camps (hF := rfl) (h1 := rfl) (h2 := rfl) (body := fun cdv A outer s H E hr => b_every_camps D _ cdv A outer s H E hr)
/-! ### is_part -/
theorem sc_is_part : FnScope ["lot", "one", "place"] ["lot", "one"] (defScope s_is_part) := ⟨rfl, rfl, rfl, by decide +kernel, rfl, by decide +kernel, by decide +kernel⟩
def g_is_part : DS := (gRet (dCall (oBools allB) (dCons (dLc (iSeq (dVar 0)) (gN 2) dYes (dOp (dInA false) (dVar 2) (dVar 1)) [2] 10000) dNil)))
def F_is_part : DF := runF g_is_part 2 3
theorem b_is_part (D : Defs K mg) (f : Addr) (cdv : Value) (A : Around) (outer : List Env) (s : Shared) (H : Hp) (E : XK) (hr : Room 0 (A.deeper (envOfC "is_part" (defScope s_is_part) s.heap.objs.size f cdv))) :
    SSs (cxOf (L2.CX P w) P w K mg base ["lot", "one", "place"] "is_part" (defScope s_is_part) f cdv A outer s H E) (tx D) (wOf E) (defBody s_is_part) g_is_part :=
  (ss_one (s_ret (se_all rfl D.m_all (se_lc (own := [("place", 2)]) 10000 rfl sc_is_part.nd (si_seq (sv 0)) (blk_of (by kernel_rfl)) (by decide) (fun _ _ _ _ _ => (sg_name sc_is_part.nd (by rfl) (by first | exact Or.inl rfl | exact Or.inr rfl))) (fun _ _ _ _ _ => sts_nil) (fun _ _ _ _ _ => (se_in hr (sv 2) (sv 1)))))))
theorem ok_is_part (D : Defs K mg) : FnOk P w K mg base (L2.CX P w) 1 (D.h_is_part).f (D.h_is_part).fd ["lot", "one"] (spNc ⟨K, w⟩ (tx D) F_is_part) := fn_okD (g := g_is_part) (D.h_is_part).F sc_is_part (hF := rfl) (h1 := rfl) (h2 := rfl) (body := fun cdv A outer s H E hr => b_is_part D _ cdv A outer s H E hr)
/-! ### lie_within -/
theorem sc_lie_within : FnScope ["camps", "other", "a", "b", "c", "d"] ["camps", "other"] (defScope s_lie_within) := ⟨rfl, rfl, rfl, by decide +kernel, rfl, by decide +kernel, by decide +kernel⟩
def g_lie_within : DS := (gSeq (gAsg (dVar 0) (gTupD 2 (gsCons (gN 2) (gsCons (gN 3) gsNil))))
  (gSeq (gAsg (dVar 1) (gTupD 2 (gsCons (gN 4) (gsCons (gN 5) gsNil))))
  (gRet (dOrV (dAndV (dFn F_is_part (dCons (dVar 2) (dCons (dVar 4) dNil))) (dFn F_is_part (dCons (dVar 3) (dCons (dVar 5) dNil)))) (dAndV (dFn F_is_part (dCons (dVar 2) (dCons (dVar 5) dNil))) (dFn F_is_part (dCons (dVar 3) (dCons (dVar 4) dNil))))))))
def F_lie_within : DF := runF g_lie_within 2 6
theorem b_lie_within (D : Defs K mg) (f : Addr) (cdv : Value) (A : Around) (outer : List Env) (s : Shared) (H : Hp) (E : XK) (hr : Room 1 (A.deeper (envOfC "lie_within" (defScope s_lie_within) s.heap.objs.size f cdv))) :
    SSs (cxOf (L2.CX P w) P w K mg base ["camps", "other", "a", "b", "c", "d"] "lie_within" (defScope s_lie_within) f cdv A outer s H E) (tx D) (wOf E) (defBody s_lie_within) g_lie_within :=
  (ss_cons (s_asg (sv 0) (sg_tup rfl (sgs_cons (sg_name sc_lie_within.nd (by rfl) (by first | exact Or.inl rfl | exact Or.inr rfl)) (sgs_cons (sg_name sc_lie_within.nd (by rfl) (by first | exact Or.inl rfl | exact Or.inr rfl)) sgs_nil))))
      (ss_cons (s_asg (sv 1) (sg_tup rfl (sgs_cons (sg_name sc_lie_within.nd (by rfl) (by first | exact Or.inl rfl | exact Or.inr rfl)) (sgs_cons (sg_name sc_lie_within.nd (by rfl) (by first | exact Or.inl rfl | exact Or.inr rfl)) sgs_nil))))
      (ss_one (s_ret (se_or (se_and (se_call (ok_is_part (base := base) D) (rm hr) (by rfl) (D.h_is_part).gl (D.h_is_part).F.kp (D.h_is_part).bi (takes_of rfl rfl rfl rfl) (sa_cons (sv 2) (sa_cons (sv 4) sa_nil))) (se_one (se_call (ok_is_part (base := base) D) (rm hr) (by rfl) (D.h_is_part).gl (D.h_is_part).F.kp (D.h_is_part).bi (takes_of rfl rfl rfl rfl) (sa_cons (sv 3) (sa_cons (sv 5) sa_nil))))) (se_one (se_and (se_call (ok_is_part (base := base) D) (rm hr) (by rfl) (D.h_is_part).gl (D.h_is_part).F.kp (D.h_is_part).bi (takes_of rfl rfl rfl rfl) (sa_cons (sv 2) (sa_cons (sv 5) sa_nil))) (se_one (se_call (ok_is_part (base := base) D) (rm hr) (by rfl) (D.h_is_part).gl (D.h_is_part).F.kp (D.h_is_part).bi (takes_of rfl rfl rfl rfl) (sa_cons (sv 3) (sa_cons (sv 4) sa_nil)))))))))))
theorem ok_lie_within (D : Defs K mg) : FnOk P w K mg base (L2.CX P w) 2 (D.h_lie_within).f (D.h_lie_within).fd ["camps", "other"] (spNc ⟨K, w⟩ (tx D) F_lie_within) := fn_okD (g := g_lie_within) (D.h_lie_within).F sc_lie_within (hF := rfl) (h1 := rfl) (h2 := rfl) (body := fun cdv A outer s H E hr => b_lie_within D _ cdv A outer s H E hr)
/-! ### led_by -/
theorem sc_led_by : FnScope ["looks", "camps", "lot", "a", "b"] ["looks", "camps"] (defScope s_led_by) := ⟨rfl, rfl, rfl, by decide +kernel, rfl, by decide +kernel, by decide +kernel⟩
def g_led_by : DS := (gSeq (gAsg (dLc (iSeq (dVar 1)) (gN 2) dYes (dFn F_lookers_within (dCons (dVar 0) (dCons (dVar 2) dNil))) [2] 10000) (gTupD 2 (gsCons (gN 3) (gsCons (gN 4) gsNil))))
  (gSeq (gIf (dOr (dTest (dOp dEq (dVar 3) (dTup dNil))) (dTest (dOp dEq (dVar 4) (dTup dNil)))) (gRet (dC .non)) gNil)
  (gRet (dFn F_put_in_order (dCons (dVar 3) (dCons (dVar 4) dNil))))))
def F_led_by : DF := runF g_led_by 2 5
theorem b_led_by (D : Defs K mg) (f : Addr) (cdv : Value) (A : Around) (outer : List Env) (s : Shared) (H : Hp) (E : XK) (hr : Room 1 (A.deeper (envOfC "led_by" (defScope s_led_by) s.heap.objs.size f cdv))) :
    SSs (cxOf (L2.CX P w) P w K mg base ["looks", "camps", "lot", "a", "b"] "led_by" (defScope s_led_by) f cdv A outer s H E) (tx D) (wOf E) (defBody s_led_by) g_led_by :=
  (ss_cons (s_asg (se_lc (own := [("lot", 2)]) 10000 rfl sc_led_by.nd (si_seq (sv 1)) (blk_of (by kernel_rfl)) (by decide) (fun _ _ _ _ _ => (sg_name sc_led_by.nd (by rfl) (by first | exact Or.inl rfl | exact Or.inr rfl))) (fun _ _ _ _ _ => sts_nil) (fun _ _ _ _ _ => (se_call (ok_lookers_within (base := base) D) (rm hr) (by rfl) (D.h_lookers_within).gl (D.h_lookers_within).F.kp (D.h_lookers_within).bi takes0 (sa_cons (sv 0) (sa_cons (sv 2) sa_nil))))) (sg_tup rfl (sgs_cons (sg_name sc_led_by.nd (by rfl) (by first | exact Or.inl rfl | exact Or.inr rfl)) (sgs_cons (sg_name sc_led_by.nd (by rfl) (by first | exact Or.inl rfl | exact Or.inr rfl)) sgs_nil))))
      (ss_cons (s_if (SW.st (sw_or (st_eq hr (sv 3) (se_tup sa_nil)) (sw_or1 (st_eq hr (sv 4) (se_tup sa_nil))))) (ss_one (s_ret se_non)) ss_nil)
      (ss_one (s_ret (se_call (ok_put_in_order (base := base) D) (rm hr) (by rfl) (D.h_put_in_order).gl (D.h_put_in_order).F.kp (D.h_put_in_order).bi (takes_of rfl rfl rfl rfl) (sa_cons (sv 3) (sa_cons (sv 4) sa_nil)))))))
theorem ok_led_by (D : Defs K mg) : FnOk P w K mg base (L2.CX P w) 2 (D.h_led_by).f (D.h_led_by).fd ["looks", "camps"] (spNc ⟨K, w⟩ (tx D) F_led_by) := fn_okD (g := g_led_by) (D.h_led_by).F sc_led_by (hF := rfl) (h1 := rfl) (h2 := rfl) (body := fun cdv A outer s H E hr => b_led_by D _ cdv A outer s H E hr)
/-! ### led_map -/
theorem sc_led_map : FnScope ["looks", "every", "lot", "within", "found", "a", "b", "going"] ["looks", "every"] (defScope s_led_map) := ⟨rfl, rfl, rfl, by decide +kernel, rfl, by decide +kernel, by decide +kernel⟩
def g_led_map : DS := (gSeq (gAsg (dDc (iSeq (dFn F_all_lots (dCons (dCall oLen (dCons (dVar 0) dNil)) dNil))) (gN 2) dYes (dVar 2) (dFn F_lookers_within (dCons (dVar 0) (dCons (dVar 2) dNil))) [2] 10000) (gN 3))
  (gSeq (gAsg dEmpty (gN 4))
  (gSeq (gForI (iSeq (dVar 1)) (gTupD 2 (gsCons (gN 5) (gsCons (gN 6) gsNil))) (gSeq (gAsg (dTup (dCons (dOp dIxA (dVar 3) (dVar 5)) (dCons (dOp dIxA (dVar 3) (dVar 6)) dNil))) (gN 7))
  (gIf (dOr (dTest (dOp dEq (dOp dIxA (dVar 7) (dC (.int 0))) (dTup dNil))) (dTest (dOp dEq (dOp dIxA (dVar 7) (dC (.int 1))) (dTup dNil)))) (gAsg (dC .non) (gSubD (dVar 4) (dTup (dCons (dVar 5) (dCons (dVar 6) dNil))))) (gAsg (dFn F_put_in_order (dCons (dOp dIxA (dVar 7) (dC (.int 0))) (dCons (dOp dIxA (dVar 7) (dC (.int 1))) dNil))) (gSubD (dVar 4) (dTup (dCons (dVar 5) (dCons (dVar 6) dNil))))))) 10000)
  (gRet (dVar 4)))))
def F_led_map : DF := runF g_led_map 2 8
theorem b_led_map (D : Defs K mg) (f : Addr) (cdv : Value) (A : Around) (outer : List Env) (s : Shared) (H : Hp) (E : XK) (hr : Room 1 (A.deeper (envOfC "led_map" (defScope s_led_map) s.heap.objs.size f cdv))) :
    SSs (cxOf (L2.CX P w) P w K mg base ["looks", "every", "lot", "within", "found", "a", "b", "going"] "led_map" (defScope s_led_map) f cdv A outer s H E) (tx D) (wOf E) (defBody s_led_map) g_led_map :=
  (ss_cons (s_setDcN (own := [("lot", 2)]) 10000 (i := 3) hr rfl sc_led_map.nd (by rfl) (by rfl) (by rfl) (si_seq (se_call (ok_all_lots (base := base) D) (rm hr) (by rfl) (D.h_all_lots).gl (D.h_all_lots).F.kp (D.h_all_lots).bi (takes_of rfl rfl rfl rfl) (sa_cons (se_len D.m_len (sv 0)) sa_nil))) (blk_of (by kernel_rfl)) (by decide) (fun _ _ _ _ _ => (sg_name sc_led_map.nd (by rfl) (by first | exact Or.inl rfl | exact Or.inr rfl))) (fun _ _ _ _ _ => sts_nil) (fun _ _ _ _ _ => (sv 2)) (fun _ _ _ _ _ => (se_call (ok_lookers_within (base := base) D) (rm hr) (by rfl) (D.h_lookers_within).gl (D.h_lookers_within).F.kp (D.h_lookers_within).bi takes0 (sa_cons (sv 0) (sa_cons (sv 2) sa_nil)))))
      (ss_cons (s_set sc_led_map.nd (by rfl) (by first | exact Or.inl rfl | exact Or.inr rfl) se_dict0)
      (ss_cons (s_for 10000 (passes_of rfl) rfl (si_seq (sv 1)) (sg_tup rfl (sgs_cons (sg_name sc_led_map.nd (by rfl) (by first | exact Or.inl rfl | exact Or.inr rfl)) (sgs_cons (sg_name sc_led_map.nd (by rfl) (by first | exact Or.inl rfl | exact Or.inr rfl)) sgs_nil))) (ss_cons (s_set sc_led_map.nd (by rfl) (by first | exact Or.inl rfl | exact Or.inr rfl) (se_tup (sa_cons (se_sub hr (sv 3) (sv 5) (fun _ _ => rfl)) (sa_cons (se_sub hr (sv 3) (sv 6) (fun _ _ => rfl)) sa_nil))))
      (ss_one (s_if (SW.st (sw_or (st_eq hr (se_sub hr (sv 7) se_int (fun _ _ => rfl)) (se_tup sa_nil)) (sw_or1 (st_eq hr (se_sub hr (sv 7) se_int (fun _ _ => rfl)) (se_tup sa_nil))))) (ss_one (s_asg se_non (sg_sub (T := tx D) hr (sv 4) (se_tup (sa_cons (sv 5) (sa_cons (sv 6) sa_nil)))))) (ss_one (s_asg (se_call (ok_put_in_order (base := base) D) (rm hr) (by rfl) (D.h_put_in_order).gl (D.h_put_in_order).F.kp (D.h_put_in_order).bi (takes_of rfl rfl rfl rfl) (sa_cons (se_sub hr (sv 7) se_int (fun _ _ => rfl)) (sa_cons (se_sub hr (sv 7) se_int (fun _ _ => rfl)) sa_nil))) (sg_sub (T := tx D) hr (sv 4) (se_tup (sa_cons (sv 5) (sa_cons (sv 6) sa_nil))))))))))
      (ss_one (s_ret (sv 4))))))
theorem ok_led_map (D : Defs K mg) : FnOk P w K mg base (L2.CX P w) 2 (D.h_led_map).f (D.h_led_map).fd ["looks", "every"] (spNc ⟨K, w⟩ (tx D) F_led_map) := fn_okD (g := g_led_map) (D.h_led_map).F sc_led_map (hF := rfl) (h1 := rfl) (h2 := rfl) (body := fun cdv A outer s H E hr => b_led_map D _ cdv A outer s H E hr)
/-! ### looks_along -/
theorem sc_looks_along : FnScope ["machine", "stand", "row", "steps", "stands", "done", "step"] ["machine", "stand", "row"] (defScope s_looks_along) := ⟨rfl, rfl, rfl, by decide +kernel, rfl, by decide +kernel, by decide +kernel⟩
def g_looks_along : DS := (gSeq (gAsg (dVar 0) (gTupD 2 (gsCons (gN 3) (gsCons (gN 4) gsNil))))
  (gSeq (gAsg (dFn F_stand_still (dCons (dCall oLen (dCons (dOp dIxA (dOp dIxA (dVar 3) (dC (.int 0))) (dC (.int 0))) dNil)) dNil)) (gN 5))
  (gSeq (gForI (iSeq (dFn F_steps_along (dCons (dVar 4) (dCons (dVar 1) (dCons (dVar 2) dNil))))) (gN 6) (gAsg (dFn F_behind_looks (dCons (dVar 5) (dCons (dOp dIxA (dOp dIxA (dVar 3) (dVar 6)) (dC (.int 0))) dNil))) (gN 5)) 10000)
  (gRet (dVar 5)))))
def F_looks_along : DF := runF g_looks_along 3 7
theorem b_looks_along (D : Defs K mg) (f : Addr) (cdv : Value) (A : Around) (outer : List Env) (s : Shared) (H : Hp) (E : XK) (hr : Room 3 (A.deeper (envOfC "looks_along" (defScope s_looks_along) s.heap.objs.size f cdv))) :
    SSs (cxOf (L2.CX P w) P w K mg base ["machine", "stand", "row", "steps", "stands", "done", "step"] "looks_along" (defScope s_looks_along) f cdv A outer s H E) (tx D) (wOf E) (defBody s_looks_along) g_looks_along :=
  (ss_cons (s_asg (sv 0) (sg_tup rfl (sgs_cons (sg_name sc_looks_along.nd (by rfl) (by first | exact Or.inl rfl | exact Or.inr rfl)) (sgs_cons (sg_name sc_looks_along.nd (by rfl) (by first | exact Or.inl rfl | exact Or.inr rfl)) sgs_nil))))
      (ss_cons (s_set sc_looks_along.nd (by rfl) (by first | exact Or.inl rfl | exact Or.inr rfl) (se_call (ok_stand_still (base := base) D) (rm hr) (by rfl) (D.h_stand_still).gl (D.h_stand_still).F.kp (D.h_stand_still).bi (takes_of rfl rfl rfl rfl) (sa_cons (se_len D.m_len (se_sub hr (se_sub hr (sv 3) se_int (fun _ _ => rfl)) se_int (fun _ _ => rfl))) sa_nil)))
      (ss_cons (s_for 10000 (passes_of rfl) rfl (si_seq (se_call (ok_steps_along (base := base) D) (rm hr) (by rfl) (D.h_steps_along).gl (D.h_steps_along).F.kp (D.h_steps_along).bi (takes_of rfl rfl rfl rfl) (sa_cons (sv 4) (sa_cons (sv 1) (sa_cons (sv 2) sa_nil))))) (sg_name sc_looks_along.nd (by rfl) (by first | exact Or.inl rfl | exact Or.inr rfl)) (ss_one (s_set sc_looks_along.nd (by rfl) (by first | exact Or.inl rfl | exact Or.inr rfl) (se_call (ok_behind_looks (base := base) D) (rm hr) (by rfl) (D.h_behind_looks).gl (D.h_behind_looks).F.kp (D.h_behind_looks).bi (takes_of rfl rfl rfl rfl) (sa_cons (sv 5) (sa_cons (se_sub hr (se_sub hr (sv 3) (sv 6) (fun _ _ => rfl)) se_int (fun _ _ => rfl)) sa_nil))))))
      (ss_one (s_ret (sv 5))))))
theorem ok_looks_along (D : Defs K mg) : FnOk P w K mg base (L2.CX P w) 4 (D.h_looks_along).f (D.h_looks_along).fd ["machine", "stand", "row"] (spNc ⟨K, w⟩ (tx D) F_looks_along) := fn_okD (g := g_looks_along) (D.h_looks_along).F sc_looks_along (hF := rfl) (h1 := rfl) (h2 := rfl) (body := fun cdv A outer s H E hr => b_looks_along D _ cdv A outer s H E hr)
/-! ### is_camps -/
theorem sc_is_camps : FnScope ["thing", "n"] ["thing", "n"] (defScope s_is_camps) := ⟨rfl, rfl, rfl, by decide +kernel, rfl, by decide +kernel, by decide +kernel⟩
def g_is_camps : DS := (gSeq (gIf (dOr (dNot (dTest (dFn F_is_tuple_of (dCons (dVar 0) (dCons (dC (.int 2)) dNil))))) (dOr (dNot (dTest (dFn F_is_lot (dCons (dOp dIxA (dVar 0) (dC (.int 0))) (dCons (dVar 1) dNil))))) (dNot (dTest (dFn F_is_lot (dCons (dOp dIxA (dVar 0) (dC (.int 1))) (dCons (dVar 1) dNil))))))) (gRet (dC (.bl false))) gNil)
  (gRet (dAndV (dOp dLt (dOp dIxA (dVar 0) (dC (.int 0))) (dOp dIxA (dVar 0) (dC (.int 1)))) (dOp dEq (dLenSet (dOp dAdd (dOp dIxA (dVar 0) (dC (.int 0))) (dOp dIxA (dVar 0) (dC (.int 1))))) (dOp dAdd (dCall oLen (dCons (dOp dIxA (dVar 0) (dC (.int 0))) dNil)) (dCall oLen (dCons (dOp dIxA (dVar 0) (dC (.int 1))) dNil)))))))
def F_is_camps : DF := runF g_is_camps 2 2
theorem b_is_camps (D : Defs K mg) (f : Addr) (cdv : Value) (A : Around) (outer : List Env) (s : Shared) (H : Hp) (E : XK) (hr : Room 3 (A.deeper (envOfC "is_camps" (defScope s_is_camps) s.heap.objs.size f cdv))) :
    SSs (cxOf (L2.CX P w) P w K mg base ["thing", "n"] "is_camps" (defScope s_is_camps) f cdv A outer s H E) (tx D) (wOf E) (defBody s_is_camps) g_is_camps :=
  (ss_cons (s_if (SW.st (sw_or (st_not (st_val (se_call (ok_is_tuple_of (base := base) D) (rm hr) (by rfl) (D.h_is_tuple_of).gl (D.h_is_tuple_of).F.kp (D.h_is_tuple_of).bi (takes_of rfl rfl rfl rfl) (sa_cons (sv 0) (sa_cons se_int sa_nil))))) (sw_or (st_not (st_val (se_call (ok_is_lot (base := base) D) (rm hr) (by rfl) (D.h_is_lot).gl (D.h_is_lot).F.kp (D.h_is_lot).bi (takes_of rfl rfl rfl rfl) (sa_cons (se_sub hr (sv 0) se_int (fun _ _ => rfl)) (sa_cons (sv 1) sa_nil))))) (sw_or1 (st_not (st_val (se_call (ok_is_lot (base := base) D) (rm hr) (by rfl) (D.h_is_lot).gl (D.h_is_lot).F.kp (D.h_is_lot).bi (takes_of rfl rfl rfl rfl) (sa_cons (se_sub hr (sv 0) se_int (fun _ _ => rfl)) (sa_cons (sv 1) sa_nil))))))))) (ss_one (s_ret se_bl)) ss_nil)
      (ss_one (s_ret (se_and (se_lt hr (se_sub hr (sv 0) se_int (fun _ _ => rfl)) (se_sub hr (sv 0) se_int (fun _ _ => rfl))) (se_one (se_eq hr (se_lenSet hr rfl D.m_len D.m_set (se_add (se_sub hr (sv 0) se_int (fun _ _ => rfl)) (se_sub hr (sv 0) se_int (fun _ _ => rfl)))) (se_add (se_len D.m_len (se_sub hr (sv 0) se_int (fun _ _ => rfl))) (se_len D.m_len (se_sub hr (sv 0) se_int (fun _ _ => rfl))))))))))
theorem ok_is_camps (D : Defs K mg) : FnOk P w K mg base (L2.CX P w) 4 (D.h_is_camps).f (D.h_is_camps).fd ["thing", "n"] (spNc ⟨K, w⟩ (tx D) F_is_camps) := fn_okD (g := g_is_camps) (D.h_is_camps).F sc_is_camps (hF := rfl) (h1 := rfl) (h2 := rfl) (body := fun cdv A outer s H E hr => b_is_camps D _ cdv A outer s H E hr)
/-! ### all_camps -/
theorem sc_all_camps : FnScope ["n"] ["n"] (defScope s_all_camps) := ⟨rfl, rfl, rfl, by decide +kernel, rfl, by decide +kernel, by decide +kernel⟩
def g_all_camps : DS := (gRet (dFn F_every_camps (dCons (dVar 0) dNil)))
def F_all_camps : DF := runF g_all_camps 1 1
theorem b_all_camps (D : Defs K mg) (f : Addr) (cdv : Value) (A : Around) (outer : List Env) (s : Shared) (H : Hp) (E : XK) (hr : Room 2 (A.deeper (envOfC "all_camps" (defScope s_all_camps) s.heap.objs.size f cdv))) :
    SSs (cxOf (L2.CX P w) P w K mg base ["n"] "all_camps" (defScope s_all_camps) f cdv A outer s H E) (tx D) (wOf E) (defBody s_all_camps) g_all_camps :=
  (ss_one (s_ret (se_call (ok_every_camps (base := base) D) (rm hr) (by rfl) (D.h_every_camps).gl (D.h_every_camps).F.kp (D.h_every_camps).bi (takes_of rfl rfl rfl rfl) (sa_cons (sv 0) sa_nil))))
theorem ok_all_camps (D : Defs K mg) : FnOk P w K mg base (L2.CX P w) 3 (D.h_all_camps).f (D.h_all_camps).fd ["n"] (spNc ⟨K, w⟩ (tx D) F_all_camps) := fn_okD (g := g_all_camps) (D.h_all_camps).F sc_all_camps (hF := rfl) (h1 := rfl) (h2 := rfl) (body := fun cdv A outer s H E hr => b_all_camps D _ cdv A outer s H E hr)
/-! ### in_camps -/
theorem sc_in_camps : FnScope ["lot", "one"] ["lot", "one"] (defScope s_in_camps) := ⟨rfl, rfl, rfl, by decide +kernel, rfl, by decide +kernel, by decide +kernel⟩
def g_in_camps : DS := (gSeq (gPar 0 1 (dCons (dFn (F_frozen RL) (dCons (dVar 0) dNil)) (dCons (dFn (F_frozen RL) (dCons (dVar 1) dNil)) dNil)))
  (gSeq (gIf (dNot (dTest (dFn F_are_apart (dCons (dVar 0) (dCons (dVar 1) dNil))))) (gRaise 0) gNil)
  (gRet (dFn F_put_in_order (dCons (dVar 0) (dCons (dVar 1) dNil))))))
def F_in_camps : DF := runF g_in_camps 2 2
theorem b_in_camps (D : Defs K mg) (f : Addr) (cdv : Value) (A : Around) (outer : List Env) (s : Shared) (H : Hp) (E : XK) (hr : Room 10 (A.deeper (envOfC "in_camps" (defScope s_in_camps) s.heap.objs.size f cdv))) :
    SSs (cxOf (L2.CX P w) P w K mg base ["lot", "one"] "in_camps" (defScope s_in_camps) f cdv A outer s H E) (tx D) (wOf E) (defBody s_in_camps) g_in_camps :=
  (ss_cons (s_par rfl sc_in_camps.nd (by rfl) (by rfl) (by decide) (by rfl) (by rfl) (sa_cons (se_call (ok_frozen (base := base) D) (rm hr) (by rfl) (D.h_frozen).gl (D.h_frozen).F.kp (D.h_frozen).bi (takes_of rfl rfl rfl rfl) (sa_cons (sv 0) sa_nil)) (sa_cons (se_call (ok_frozen (base := base) D) (rm hr) (by rfl) (D.h_frozen).gl (D.h_frozen).F.kp (D.h_frozen).bi (takes_of rfl rfl rfl rfl) (sa_cons (sv 1) sa_nil)) sa_nil)) (by rfl))
      (ss_cons (s_if (st_not (st_val (se_call (ok_are_apart (base := base) D) (rm hr) (by rfl) (D.h_are_apart).gl (D.h_are_apart).F.kp (D.h_are_apart).bi (takes_of rfl rfl rfl rfl) (sa_cons (sv 0) (sa_cons (sv 1) sa_nil))))) (ss_one (s_raise 0 rfl rfl rfl (takes_of rfl rfl rfl rfl) (pmk_pass D.x_Unfit.O D.x_Unfit.iC D.x_Unfit.tI (ok_Unfit (base := base) D) (rm hr) D.x_Unfit.bi (by rfl) D.x_Unfit.gl))) ss_nil)
      (ss_one (s_ret (se_call (ok_put_in_order (base := base) D) (rm hr) (by rfl) (D.h_put_in_order).gl (D.h_put_in_order).F.kp (D.h_put_in_order).bi (takes_of rfl rfl rfl rfl) (sa_cons (sv 0) (sa_cons (sv 1) sa_nil)))))))
theorem ok_in_camps (D : Defs K mg) : FnOk P w K mg base (L2.CX P w) 11 (D.h_in_camps).f (D.h_in_camps).fd ["lot", "one"] (spNc ⟨K, w⟩ (tx D) F_in_camps) := fn_okD (g := g_in_camps) (D.h_in_camps).F sc_in_camps (hF := rfl) (h1 := rfl) (h2 := rfl) (body := fun cdv A outer s H E hr => b_in_camps D _ cdv A outer s H E hr)
/-! ### are_within -/
theorem sc_are_within : FnScope ["camps", "other"] ["camps", "other"] (defScope s_are_within) := ⟨rfl, rfl, rfl, by decide +kernel, rfl, by decide +kernel, by decide +kernel⟩
def g_are_within : DS := (gRet (dFn F_lie_within (dCons (dVar 0) (dCons (dVar 1) dNil))))
def F_are_within : DF := runF g_are_within 2 2
theorem b_are_within (D : Defs K mg) (f : Addr) (cdv : Value) (A : Around) (outer : List Env) (s : Shared) (H : Hp) (E : XK) (hr : Room 2 (A.deeper (envOfC "are_within" (defScope s_are_within) s.heap.objs.size f cdv))) :
    SSs (cxOf (L2.CX P w) P w K mg base ["camps", "other"] "are_within" (defScope s_are_within) f cdv A outer s H E) (tx D) (wOf E) (defBody s_are_within) g_are_within :=
  (ss_one (s_ret (se_call (ok_lie_within (base := base) D) (rm hr) (by rfl) (D.h_lie_within).gl (D.h_lie_within).F.kp (D.h_lie_within).bi (takes_of rfl rfl rfl rfl) (sa_cons (sv 0) (sa_cons (sv 1) sa_nil)))))
theorem ok_are_within (D : Defs K mg) : FnOk P w K mg base (L2.CX P w) 3 (D.h_are_within).f (D.h_are_within).fd ["camps", "other"] (spNc ⟨K, w⟩ (tx D) F_are_within) := fn_okD (g := g_are_within) (D.h_are_within).F sc_are_within (hF := rfl) (h1 := rfl) (h2 := rfl) (body := fun cdv A outer s H E hr => b_are_within D _ cdv A outer s H E hr)
/-! ### greatest_camps -/
theorem sc_greatest_camps : FnScope ["some", "every", "camps", "one"] ["some"] (defScope s_greatest_camps) := ⟨rfl, rfl, rfl, by decide +kernel, rfl, by decide +kernel, by decide +kernel⟩
def g_greatest_camps : DS := (gSeq (gAsg (dFn F_ascending (dCons (dFn (F_frozen RL) (dCons (dVar 0) dNil)) dNil)) (gN 1))
  (gRet (dCall oTuple (dCons (dLc (iSeq (dVar 1)) (gN 2) (dNot (dTest (dCall (oBools anyB) (dCons (dLc (iSeq (dVar 1)) (gN 3) (dTest (dOp dNe (dVar 3) (dVar 2))) (dFn F_lie_within (dCons (dVar 2) (dCons (dVar 3) dNil))) [3] 10000) dNil)))) (dVar 2) [2] 10000) dNil))))
def F_greatest_camps : DF := runF g_greatest_camps 1 4
theorem b_greatest_camps (D : Defs K mg) (f : Addr) (cdv : Value) (A : Around) (outer : List Env) (s : Shared) (H : Hp) (E : XK) (hr : Room 10 (A.deeper (envOfC "greatest_camps" (defScope s_greatest_camps) s.heap.objs.size f cdv))) :
    SSs (cxOf (L2.CX P w) P w K mg base ["some", "every", "camps", "one"] "greatest_camps" (defScope s_greatest_camps) f cdv A outer s H E) (tx D) (wOf E) (defBody s_greatest_camps) g_greatest_camps :=
  (ss_cons (s_set sc_greatest_camps.nd (by rfl) (by first | exact Or.inl rfl | exact Or.inr rfl) (se_call (ok_ascending (base := base) D) (rm hr) (by rfl) (D.h_ascending).gl (D.h_ascending).F.kp (D.h_ascending).bi (takes_of rfl rfl rfl rfl) (sa_cons (se_call (ok_frozen (base := base) D) (rm hr) (by rfl) (D.h_frozen).gl (D.h_frozen).F.kp (D.h_frozen).bi (takes_of rfl rfl rfl rfl) (sa_cons (sv 0) sa_nil)) sa_nil)))
      (ss_one (s_ret (se_tuple D.m_tuple (se_lc (own := [("camps", 2)]) 10000 rfl sc_greatest_camps.nd (si_seq (sv 1)) (blk_of (by kernel_rfl)) (by decide) (fun _ _ _ _ _ => (sg_name sc_greatest_camps.nd (by rfl) (by first | exact Or.inl rfl | exact Or.inr rfl))) (fun _ _ _ _ _ => (sts_one (st_not (st_val (se_any rfl D.m_any (se_lc (own := [("one", 3)]) 10000 rfl sc_greatest_camps.nd (si_seq (sv 1)) (blk_of (by kernel_rfl)) (by decide) (fun _ _ _ _ _ => (sg_name sc_greatest_camps.nd (by rfl) (by first | exact Or.inl rfl | exact Or.inr rfl))) (fun _ _ _ _ _ => (sts_one (st_ne hr (sv 3) (sv 2)))) (fun _ _ _ _ _ => (se_call (ok_lie_within (base := base) D) (rm hr) (by rfl) (D.h_lie_within).gl (D.h_lie_within).F.kp (D.h_lie_within).bi takes0 (sa_cons (sv 2) (sa_cons (sv 3) sa_nil)))))))))) (fun _ _ _ _ _ => (sv 2)))))))
theorem ok_greatest_camps (D : Defs K mg) : FnOk P w K mg base (L2.CX P w) 11 (D.h_greatest_camps).f (D.h_greatest_camps).fd ["some"] (spNc ⟨K, w⟩ (tx D) F_greatest_camps) := fn_okD (g := g_greatest_camps) (D.h_greatest_camps).F sc_greatest_camps (hF := rfl) (h1 := rfl) (h2 := rfl) (body := fun cdv A outer s H E hr => b_greatest_camps D _ cdv A outer s H E hr)
/-! ### led -/
theorem sc_led : FnScope ["looks", "camps"] ["looks", "camps"] (defScope s_led) := ⟨rfl, rfl, rfl, by decide +kernel, rfl, by decide +kernel, by decide +kernel⟩
def g_led : DS := (gRet (dFn F_led_by (dCons (dVar 0) (dCons (dVar 1) dNil))))
def F_led : DF := runF g_led 2 2
theorem b_led (D : Defs K mg) (f : Addr) (cdv : Value) (A : Around) (outer : List Env) (s : Shared) (H : Hp) (E : XK) (hr : Room 2 (A.deeper (envOfC "led" (defScope s_led) s.heap.objs.size f cdv))) :
    SSs (cxOf (L2.CX P w) P w K mg base ["looks", "camps"] "led" (defScope s_led) f cdv A outer s H E) (tx D) (wOf E) (defBody s_led) g_led :=
  (ss_one (s_ret (se_call (ok_led_by (base := base) D) (rm hr) (by rfl) (D.h_led_by).gl (D.h_led_by).F.kp (D.h_led_by).bi (takes_of rfl rfl rfl rfl) (sa_cons (sv 0) (sa_cons (sv 1) sa_nil)))))
theorem ok_led (D : Defs K mg) : FnOk P w K mg base (L2.CX P w) 3 (D.h_led).f (D.h_led).fd ["looks", "camps"] (spNc ⟨K, w⟩ (tx D) F_led) := fn_okD (g := g_led) (D.h_led).F sc_led (hF := rfl) (h1 := rfl) (h2 := rfl) (body := fun cdv A outer s H E hr => b_led D _ cdv A outer s H E hr)
/-! ### led_along -/
theorem sc_led_along : FnScope ["machine", "stand", "row", "camps"] ["machine", "stand", "row", "camps"] (defScope s_led_along) := ⟨rfl, rfl, rfl, by decide +kernel, rfl, by decide +kernel, by decide +kernel⟩
def g_led_along : DS := (gRet (dFn F_led_by (dCons (dFn F_looks_along (dCons (dVar 0) (dCons (dVar 1) (dCons (dVar 2) dNil)))) (dCons (dVar 3) dNil))))
def F_led_along : DF := runF g_led_along 4 4
theorem b_led_along (D : Defs K mg) (f : Addr) (cdv : Value) (A : Around) (outer : List Env) (s : Shared) (H : Hp) (E : XK) (hr : Room 4 (A.deeper (envOfC "led_along" (defScope s_led_along) s.heap.objs.size f cdv))) :
    SSs (cxOf (L2.CX P w) P w K mg base ["machine", "stand", "row", "camps"] "led_along" (defScope s_led_along) f cdv A outer s H E) (tx D) (wOf E) (defBody s_led_along) g_led_along :=
  (ss_one (s_ret (se_call (ok_led_by (base := base) D) (rm hr) (by rfl) (D.h_led_by).gl (D.h_led_by).F.kp (D.h_led_by).bi (takes_of rfl rfl rfl rfl) (sa_cons (se_call (ok_looks_along (base := base) D) (rm hr) (by rfl) (D.h_looks_along).gl (D.h_looks_along).F.kp (D.h_looks_along).bi (takes_of rfl rfl rfl rfl) (sa_cons (sv 0) (sa_cons (sv 1) (sa_cons (sv 2) sa_nil)))) (sa_cons (sv 3) sa_nil)))))
theorem ok_led_along (D : Defs K mg) : FnOk P w K mg base (L2.CX P w) 5 (D.h_led_along).f (D.h_led_along).fd ["machine", "stand", "row", "camps"] (spNc ⟨K, w⟩ (tx D) F_led_along) := fn_okD (g := g_led_along) (D.h_led_along).F sc_led_along (hF := rfl) (h1 := rfl) (h2 := rfl) (body := fun cdv A outer s H E hr => b_led_along D _ cdv A outer s H E hr)
/-! ### life_along -/
theorem sc_life_along : FnScope ["machine", "stand", "row", "camps", "steps", "stands", "moves", "step"] ["machine", "stand", "row", "camps"] (defScope s_life_along) := ⟨rfl, rfl, rfl, by decide +kernel, rfl, by decide +kernel, by decide +kernel⟩
def g_life_along : DS := (gSeq (gAsg (dVar 0) (gTupD 2 (gsCons (gN 4) (gsCons (gN 5) gsNil))))
  (gSeq (gAsg (dC (.int 0)) (gN 6))
  (gSeq (gForI (iSeq (dFn F_steps_along (dCons (dVar 5) (dCons (dVar 1) (dCons (dVar 2) dNil))))) (gN 7) (gSeq (gAsg (dFn F_led_by (dCons (dOp dIxA (dOp dIxA (dVar 4) (dVar 7)) (dC (.int 0))) (dCons (dVar 3) dNil))) (gN 3))
  (gSeq (gIf (dTest (dOp dIsN (dVar 3) (dC .non))) (gRet (dVar 6)) gNil)
  (gAug 6 (dC (.int 1)) dAddI))) 10000)
  (gRet (dVar 6)))))
def F_life_along : DF := runF g_life_along 4 8
theorem b_life_along (D : Defs K mg) (f : Addr) (cdv : Value) (A : Around) (outer : List Env) (s : Shared) (H : Hp) (E : XK) (hr : Room 2 (A.deeper (envOfC "life_along" (defScope s_life_along) s.heap.objs.size f cdv))) :
    SSs (cxOf (L2.CX P w) P w K mg base ["machine", "stand", "row", "camps", "steps", "stands", "moves", "step"] "life_along" (defScope s_life_along) f cdv A outer s H E) (tx D) (wOf E) (defBody s_life_along) g_life_along :=
  (ss_cons (s_asg (sv 0) (sg_tup rfl (sgs_cons (sg_name sc_life_along.nd (by rfl) (by first | exact Or.inl rfl | exact Or.inr rfl)) (sgs_cons (sg_name sc_life_along.nd (by rfl) (by first | exact Or.inl rfl | exact Or.inr rfl)) sgs_nil))))
      (ss_cons (s_set sc_life_along.nd (by rfl) (by first | exact Or.inl rfl | exact Or.inr rfl) se_int)
      (ss_cons (s_for 10000 (passes_of rfl) rfl (si_seq (se_call (ok_steps_along (base := base) D) (rm hr) (by rfl) (D.h_steps_along).gl (D.h_steps_along).F.kp (D.h_steps_along).bi (takes_of rfl rfl rfl rfl) (sa_cons (sv 5) (sa_cons (sv 1) (sa_cons (sv 2) sa_nil))))) (sg_name sc_life_along.nd (by rfl) (by first | exact Or.inl rfl | exact Or.inr rfl)) (ss_cons (s_set sc_life_along.nd (by rfl) (by first | exact Or.inl rfl | exact Or.inr rfl) (se_call (ok_led_by (base := base) D) (rm hr) (by rfl) (D.h_led_by).gl (D.h_led_by).F.kp (D.h_led_by).bi (takes_of rfl rfl rfl rfl) (sa_cons (se_sub hr (se_sub hr (sv 4) (sv 7) (fun _ _ => rfl)) se_int (fun _ _ => rfl)) (sa_cons (sv 3) sa_nil))))
      (ss_cons (s_if (st_isN (sv 3) se_non) (ss_one (s_ret (sv 6))) ss_nil)
      (ss_one (s_aug sc_life_along.nd (by rfl) (by first | exact Or.inl rfl | exact Or.inr rfl) se_int ip_add oi_add)))))
      (ss_one (s_ret (sv 6))))))
theorem ok_life_along (D : Defs K mg) : FnOk P w K mg base (L2.CX P w) 3 (D.h_life_along).f (D.h_life_along).fd ["machine", "stand", "row", "camps"] (spNc ⟨K, w⟩ (tx D) F_life_along) := fn_okD (g := g_life_along) (D.h_life_along).F sc_life_along (hF := rfl) (h1 := rfl) (h2 := rfl) (body := fun cdv A outer s H E hr => b_life_along D _ cdv A outer s H E hr)
/-! ### left_alive -/
theorem sc_left_alive : FnScope ["machine", "stand", "row", "looks", "ends", "camps"] ["machine", "stand", "row"] (defScope s_left_alive) := ⟨rfl, rfl, rfl, by decide +kernel, rfl, by decide +kernel, by decide +kernel⟩
def g_left_alive : DS := (gSeq (gAsg (dFn F_looks_along (dCons (dVar 0) (dCons (dVar 1) (dCons (dVar 2) dNil)))) (gN 3))
  (gSeq (gAsg (dVals (dFn F_led_map (dCons (dVar 3) (dCons (dFn F_every_camps (dCons (dCall oLen (dCons (dVar 3) dNil)) dNil)) dNil)))) (gN 4))
  (gRet (dFn F_greatest_camps (dCons (dLc (iSeq (dVar 4)) (gN 5) (dTest (dOp dNotN (dVar 5) (dC .non))) (dVar 5) [5] 10000) dNil)))))
def F_left_alive : DF := runF g_left_alive 3 6
theorem b_left_alive (D : Defs K mg) (f : Addr) (cdv : Value) (A : Around) (outer : List Env) (s : Shared) (H : Hp) (E : XK) (hr : Room 11 (A.deeper (envOfC "left_alive" (defScope s_left_alive) s.heap.objs.size f cdv))) :
    SSs (cxOf (L2.CX P w) P w K mg base ["machine", "stand", "row", "looks", "ends", "camps"] "left_alive" (defScope s_left_alive) f cdv A outer s H E) (tx D) (wOf E) (defBody s_left_alive) g_left_alive :=
  (ss_cons (s_set sc_left_alive.nd (by rfl) (by first | exact Or.inl rfl | exact Or.inr rfl) (se_call (ok_looks_along (base := base) D) (rm hr) (by rfl) (D.h_looks_along).gl (D.h_looks_along).F.kp (D.h_looks_along).bi (takes_of rfl rfl rfl rfl) (sa_cons (sv 0) (sa_cons (sv 1) (sa_cons (sv 2) sa_nil)))))
      (ss_cons (s_set sc_left_alive.nd (by rfl) (by first | exact Or.inl rfl | exact Or.inr rfl) (se_listVals rfl (by rfl) D.m_list (se_call (ok_led_map (base := base) D) (rm hr) (by rfl) (D.h_led_map).gl (D.h_led_map).F.kp (D.h_led_map).bi (takes_of rfl rfl rfl rfl) (sa_cons (sv 3) (sa_cons (se_call (ok_every_camps (base := base) D) (rm hr) (by rfl) (D.h_every_camps).gl (D.h_every_camps).F.kp (D.h_every_camps).bi (takes_of rfl rfl rfl rfl) (sa_cons (se_len D.m_len (sv 3)) sa_nil)) sa_nil)))))
      (ss_one (s_ret (se_call (ok_greatest_camps (base := base) D) (rm hr) (by rfl) (D.h_greatest_camps).gl (D.h_greatest_camps).F.kp (D.h_greatest_camps).bi (takes_of rfl rfl rfl rfl) (sa_cons (se_lc (own := [("camps", 5)]) 10000 rfl sc_left_alive.nd (si_seq (sv 4)) (blk_of (by kernel_rfl)) (by decide) (fun _ _ _ _ _ => (sg_name sc_left_alive.nd (by rfl) (by first | exact Or.inl rfl | exact Or.inr rfl))) (fun _ _ _ _ _ => (sts_one (st_notN (sv 5) se_non))) (fun _ _ _ _ _ => (sv 5))) sa_nil))))))
theorem ok_left_alive (D : Defs K mg) : FnOk P w K mg base (L2.CX P w) 12 (D.h_left_alive).f (D.h_left_alive).fd ["machine", "stand", "row"] (spNc ⟨K, w⟩ (tx D) F_left_alive) := fn_okD (g := g_left_alive) (D.h_left_alive).F sc_left_alive (hF := rfl) (h1 := rfl) (h2 := rfl) (body := fun cdv A outer s H E hr => b_left_alive D _ cdv A outer s H E hr)
/-! ### kills_all -/
theorem sc_kills_all : FnScope ["machine", "stand", "row"] ["machine", "stand", "row"] (defScope s_kills_all) := ⟨rfl, rfl, rfl, by decide +kernel, rfl, by decide +kernel, by decide +kernel⟩
def g_kills_all : DS := (gRet (dOp dEq (dFn F_left_alive (dCons (dVar 0) (dCons (dVar 1) (dCons (dVar 2) dNil)))) (dTup dNil)))
def F_kills_all : DF := runF g_kills_all 3 3
theorem b_kills_all (D : Defs K mg) (f : Addr) (cdv : Value) (A : Around) (outer : List Env) (s : Shared) (H : Hp) (E : XK) (hr : Room 12 (A.deeper (envOfC "kills_all" (defScope s_kills_all) s.heap.objs.size f cdv))) :
    SSs (cxOf (L2.CX P w) P w K mg base ["machine", "stand", "row"] "kills_all" (defScope s_kills_all) f cdv A outer s H E) (tx D) (wOf E) (defBody s_kills_all) g_kills_all :=
  (ss_one (s_ret (se_eq hr (se_call (ok_left_alive (base := base) D) (rm hr) (by rfl) (D.h_left_alive).gl (D.h_left_alive).F.kp (D.h_left_alive).bi (takes_of rfl rfl rfl rfl) (sa_cons (sv 0) (sa_cons (sv 1) (sa_cons (sv 2) sa_nil)))) (se_tup sa_nil))))
theorem ok_kills_all (D : Defs K mg) : FnOk P w K mg base (L2.CX P w) 13 (D.h_kills_all).f (D.h_kills_all).fd ["machine", "stand", "row"] (spNc ⟨K, w⟩ (tx D) F_kills_all) := fn_okD (g := g_kills_all) (D.h_kills_all).F sc_kills_all (hF := rfl) (h1 := rfl) (h2 := rfl) (body := fun cdv A outer s H E hr => b_kills_all D _ cdv A outer s H E hr)
/-! ### hangs_on -/
theorem sc_hangs_on : FnScope ["machine", "stand", "row", "place"] ["machine", "stand", "row", "place"] (defScope s_hangs_on) := ⟨rfl, rfl, rfl, by decide +kernel, rfl, by decide +kernel, by decide +kernel⟩
def g_hangs_on : DS := (gRet (dOp dIxA (dFn F_looks_along (dCons (dVar 0) (dCons (dVar 1) (dCons (dVar 2) dNil)))) (dVar 3)))
def F_hangs_on : DF := runF g_hangs_on 4 4
theorem b_hangs_on (D : Defs K mg) (f : Addr) (cdv : Value) (A : Around) (outer : List Env) (s : Shared) (H : Hp) (E : XK) (hr : Room 4 (A.deeper (envOfC "hangs_on" (defScope s_hangs_on) s.heap.objs.size f cdv))) :
    SSs (cxOf (L2.CX P w) P w K mg base ["machine", "stand", "row", "place"] "hangs_on" (defScope s_hangs_on) f cdv A outer s H E) (tx D) (wOf E) (defBody s_hangs_on) g_hangs_on :=
  (ss_one (s_ret (se_sub hr (se_call (ok_looks_along (base := base) D) (rm hr) (by rfl) (D.h_looks_along).gl (D.h_looks_along).F.kp (D.h_looks_along).bi (takes_of rfl rfl rfl rfl) (sa_cons (sv 0) (sa_cons (sv 1) (sa_cons (sv 2) sa_nil)))) (sv 3) (fun _ _ => rfl))))
theorem ok_hangs_on (D : Defs K mg) : FnOk P w K mg base (L2.CX P w) 5 (D.h_hangs_on).f (D.h_hangs_on).fd ["machine", "stand", "row", "place"] (spNc ⟨K, w⟩ (tx D) F_hangs_on) := fn_okD (g := g_hangs_on) (D.h_hangs_on).F sc_hangs_on (hF := rfl) (h1 := rfl) (h2 := rfl) (body := fun cdv A outer s H E hr => b_hangs_on D _ cdv A outer s H E hr)
/-! ### common_places -/
theorem sc_common_places : FnScope ["machine", "stand", "row", "looks", "place", "lot"] ["machine", "stand", "row"] (defScope s_common_places) := ⟨rfl, rfl, rfl, by decide +kernel, rfl, by decide +kernel, by decide +kernel⟩
def g_common_places : DS := (gSeq (gAsg (dFn F_looks_along (dCons (dVar 0) (dCons (dVar 1) (dCons (dVar 2) dNil)))) (gN 3))
  (gRet (dCall oTuple (dCons (dLc (iSeq (dOp dIxA (dVar 3) (dC (.int 0)))) (gN 4) (dTest (dCall (oBools allB) (dCons (dLc (iSeq (dVar 3)) (gN 5) dYes (dOp (dInA false) (dVar 4) (dVar 5)) [5] 10000) dNil))) (dVar 4) [4] 10000) dNil))))
def F_common_places : DF := runF g_common_places 3 6
theorem b_common_places (D : Defs K mg) (f : Addr) (cdv : Value) (A : Around) (outer : List Env) (s : Shared) (H : Hp) (E : XK) (hr : Room 4 (A.deeper (envOfC "common_places" (defScope s_common_places) s.heap.objs.size f cdv))) :
    SSs (cxOf (L2.CX P w) P w K mg base ["machine", "stand", "row", "looks", "place", "lot"] "common_places" (defScope s_common_places) f cdv A outer s H E) (tx D) (wOf E) (defBody s_common_places) g_common_places :=
  (ss_cons (s_set sc_common_places.nd (by rfl) (by first | exact Or.inl rfl | exact Or.inr rfl) (se_call (ok_looks_along (base := base) D) (rm hr) (by rfl) (D.h_looks_along).gl (D.h_looks_along).F.kp (D.h_looks_along).bi (takes_of rfl rfl rfl rfl) (sa_cons (sv 0) (sa_cons (sv 1) (sa_cons (sv 2) sa_nil)))))
      (ss_one (s_ret (se_tuple D.m_tuple (se_lc (own := [("place", 4)]) 10000 rfl sc_common_places.nd (si_seq (se_sub hr (sv 3) se_int (fun _ _ => rfl))) (blk_of (by kernel_rfl)) (by decide) (fun _ _ _ _ _ => (sg_name sc_common_places.nd (by rfl) (by first | exact Or.inl rfl | exact Or.inr rfl))) (fun _ _ _ _ _ => (sts_one (st_val (se_all rfl D.m_all (se_lc (own := [("lot", 5)]) 10000 rfl sc_common_places.nd (si_seq (sv 3)) (blk_of (by kernel_rfl)) (by decide) (fun _ _ _ _ _ => (sg_name sc_common_places.nd (by rfl) (by first | exact Or.inl rfl | exact Or.inr rfl))) (fun _ _ _ _ _ => sts_nil) (fun _ _ _ _ _ => (se_in hr (sv 4) (sv 5)))))))) (fun _ _ _ _ _ => (sv 4)))))))
theorem ok_common_places (D : Defs K mg) : FnOk P w K mg base (L2.CX P w) 5 (D.h_common_places).f (D.h_common_places).fd ["machine", "stand", "row"] (spNc ⟨K, w⟩ (tx D) F_common_places) := fn_okD (g := g_common_places) (D.h_common_places).F sc_common_places (hF := rfl) (h1 := rfl) (h2 := rfl) (body := fun cdv A outer s H E hr => b_common_places D _ cdv A outer s H E hr)
/-! ### living_ever_longer -/
theorem sc_living_ever_longer : FnScope ["looks", "every", "ends", "living", "camps", "still"] ["looks"] (defScope s_living_ever_longer) := ⟨rfl, rfl, rfl, by decide +kernel, rfl, by decide +kernel, by decide +kernel⟩
def g_living_ever_longer : DS := (gSeq (gAsg (dFn F_every_camps (dCons (dCall oLen (dCons (dVar 0) dNil)) dNil)) (gN 1))
  (gSeq (gAsg (dFn F_led_map (dCons (dVar 0) (dCons (dVar 1) dNil))) (gN 2))
  (gSeq (gAsg (dLst (dCons (dVar 1) dNil)) (gN 3))
  (gWhile (dTest (dC (.bl true))) (gSeq (gAsg (dLc (iSeq (dVar 1)) (gN 4) (dTest (dOp (dInA false) (dOp dIxA (dVar 2) (dVar 4)) (dOp dIxA (dVar 3) (dNeg (dC (.int 1)))))) (dVar 4) [4] 10000) (gN 5))
  (gSeq (gIf (dTest (dOp dEq (dVar 5) (dOp dIxA (dVar 3) (dNeg (dC (.int 1)))))) (gRet (dVar 3)) gNil)
  (gExpr (dMeth oAppend (dVar 3) (dCons (dVar 5) dNil))))) 10000))))
def F_living_ever_longer : DF := runF g_living_ever_longer 1 6
theorem b_living_ever_longer (D : Defs K mg) (f : Addr) (cdv : Value) (A : Around) (outer : List Env) (s : Shared) (H : Hp) (E : XK) (hr : Room 2 (A.deeper (envOfC "living_ever_longer" (defScope s_living_ever_longer) s.heap.objs.size f cdv))) :
    SSs (cxOf (L2.CX P w) P w K mg base ["looks", "every", "ends", "living", "camps", "still"] "living_ever_longer" (defScope s_living_ever_longer) f cdv A outer s H E) (tx D) (wOf E) (defBody s_living_ever_longer) g_living_ever_longer :=
  (ss_cons (s_set sc_living_ever_longer.nd (by rfl) (by first | exact Or.inl rfl | exact Or.inr rfl) (se_call (ok_every_camps (base := base) D) (rm hr) (by rfl) (D.h_every_camps).gl (D.h_every_camps).F.kp (D.h_every_camps).bi (takes_of rfl rfl rfl rfl) (sa_cons (se_len D.m_len (sv 0)) sa_nil)))
      (ss_cons (s_set sc_living_ever_longer.nd (by rfl) (by first | exact Or.inl rfl | exact Or.inr rfl) (se_call (ok_led_map (base := base) D) (rm hr) (by rfl) (D.h_led_map).gl (D.h_led_map).F.kp (D.h_led_map).bi (takes_of rfl rfl rfl rfl) (sa_cons (sv 0) (sa_cons (sv 1) sa_nil))))
      (ss_cons (s_set sc_living_ever_longer.nd (by rfl) (by first | exact Or.inl rfl | exact Or.inr rfl) (se_lst (sa_cons (sv 1) sa_nil)))
      (ss_one (s_while 10000 (passes_of rfl) (st_val se_bl) (ss_cons (s_setLc (own := [("camps", 4)]) 10000 (i := 5) rfl sc_living_ever_longer.nd (by rfl) (by rfl) (by rfl) (si_seq (sv 1)) (blk_of (by kernel_rfl)) (by decide) (fun _ _ _ _ _ => (sg_name sc_living_ever_longer.nd (by rfl) (by first | exact Or.inl rfl | exact Or.inr rfl))) (fun _ _ _ _ _ => (sts_one (st_in hr (se_sub hr (sv 2) (sv 4) (fun _ _ => rfl)) (se_sub hr (sv 3) (se_neg se_int) (fun _ _ => rfl))))) (fun _ _ _ _ _ => (sv 4)))
      (ss_cons (s_if (st_eq hr (sv 5) (se_sub hr (sv 3) (se_neg se_int) (fun _ _ => rfl))) (ss_one (s_ret (sv 3))) ss_nil)
      (ss_one (s_expr (se_meth PySem.F.slot_list_append PySem.F.type_list_append mt_append om_append (sv 3) (sa_cons (sv 5) sa_nil)))))))))))
theorem ok_living_ever_longer (D : Defs K mg) : FnOk P w K mg base (L2.CX P w) 3 (D.h_living_ever_longer).f (D.h_living_ever_longer).fd ["looks"] (spNc ⟨K, w⟩ (tx D) F_living_ever_longer) := fn_okD (g := g_living_ever_longer) (D.h_living_ever_longer).F sc_living_ever_longer (hF := rfl) (h1 := rfl) (h2 := rfl) (body := fun cdv A outer s H E hr => b_living_ever_longer D _ cdv A outer s H E hr)
/-! ### lasting -/
theorem sc_lasting : FnScope ["looks"] ["looks"] (defScope s_lasting) := ⟨rfl, rfl, rfl, by decide +kernel, rfl, by decide +kernel, by decide +kernel⟩
def g_lasting : DS := (gRet (dCall oTuple (dCons (dOp dIxA (dFn F_living_ever_longer (dCons (dVar 0) dNil)) (dNeg (dC (.int 1)))) dNil)))
def F_lasting : DF := runF g_lasting 1 1
theorem b_lasting (D : Defs K mg) (f : Addr) (cdv : Value) (A : Around) (outer : List Env) (s : Shared) (H : Hp) (E : XK) (hr : Room 3 (A.deeper (envOfC "lasting" (defScope s_lasting) s.heap.objs.size f cdv))) :
    SSs (cxOf (L2.CX P w) P w K mg base ["looks"] "lasting" (defScope s_lasting) f cdv A outer s H E) (tx D) (wOf E) (defBody s_lasting) g_lasting :=
  (ss_one (s_ret (se_tuple D.m_tuple (se_sub hr (se_call (ok_living_ever_longer (base := base) D) (rm hr) (by rfl) (D.h_living_ever_longer).gl (D.h_living_ever_longer).F.kp (D.h_living_ever_longer).bi (takes_of rfl rfl rfl rfl) (sa_cons (sv 0) sa_nil)) (se_neg se_int) (fun _ _ => rfl)))))
theorem ok_lasting (D : Defs K mg) : FnOk P w K mg base (L2.CX P w) 4 (D.h_lasting).f (D.h_lasting).fd ["looks"] (spNc ⟨K, w⟩ (tx D) F_lasting) := fn_okD (g := g_lasting) (D.h_lasting).F sc_lasting (hF := rfl) (h1 := rfl) (h2 := rfl) (body := fun cdv A outer s H E hr => b_lasting D _ cdv A outer s H E hr)
/-! ### longest_alone -/
theorem sc_longest_alone : FnScope ["looks"] ["looks"] (defScope s_longest_alone) := ⟨rfl, rfl, rfl, by decide +kernel, rfl, by decide +kernel, by decide +kernel⟩
def g_longest_alone : DS := (gRet (dCall oMax2 (dCons (dC (.int 0)) (dCons (dOp dSub (dCall oLen (dCons (dFn F_living_ever_longer (dCons (dVar 0) dNil)) dNil)) (dC (.int 2))) dNil))))
def F_longest_alone : DF := runF g_longest_alone 1 1
theorem b_longest_alone (D : Defs K mg) (f : Addr) (cdv : Value) (A : Around) (outer : List Env) (s : Shared) (H : Hp) (E : XK) (hr : Room 3 (A.deeper (envOfC "longest_alone" (defScope s_longest_alone) s.heap.objs.size f cdv))) :
    SSs (cxOf (L2.CX P w) P w K mg base ["looks"] "longest_alone" (defScope s_longest_alone) f cdv A outer s H E) (tx D) (wOf E) (defBody s_longest_alone) g_longest_alone :=
  (ss_one (s_ret (se_max2 rfl D.m_max se_int (se_sb (se_len D.m_len (se_call (ok_living_ever_longer (base := base) D) (rm hr) (by rfl) (D.h_living_ever_longer).gl (D.h_living_ever_longer).F.kp (D.h_living_ever_longer).bi (takes_of rfl rfl rfl rfl) (sa_cons (sv 0) sa_nil))) se_int))))
theorem ok_longest_alone (D : Defs K mg) : FnOk P w K mg base (L2.CX P w) 4 (D.h_longest_alone).f (D.h_longest_alone).fd ["looks"] (spNc ⟨K, w⟩ (tx D) F_longest_alone) := fn_okD (g := g_longest_alone) (D.h_longest_alone).F sc_longest_alone (hF := rfl) (h1 := rfl) (h2 := rfl) (body := fun cdv A outer s H E hr => b_longest_alone D _ cdv A outer s H E hr)
/-! ### renamed_camps -/
theorem sc_renamed_camps : FnScope ["camps", "order", "lot", "place", "a", "b"] ["camps", "order"] (defScope s_renamed_camps) := ⟨rfl, rfl, rfl, by decide +kernel, rfl, by decide +kernel, by decide +kernel⟩
def g_renamed_camps : DS := (gSeq (gAsg (dLc (iSeq (dVar 0)) (gN 2) dYes (dCall oTuple (dCons (dCall oSorted (dCons (dLc (iSeq (dVar 2)) (gN 3) dYes (dOp dIxA (dVar 1) (dVar 3)) [3] 10000) dNil)) dNil)) [2] 10000) (gTupD 2 (gsCons (gN 4) (gsCons (gN 5) gsNil))))
  (gRet (dFn F_put_in_order (dCons (dVar 4) (dCons (dVar 5) dNil)))))
def F_renamed_camps : DF := runF g_renamed_camps 2 6
theorem b_renamed_camps (D : Defs K mg) (f : Addr) (cdv : Value) (A : Around) (outer : List Env) (s : Shared) (H : Hp) (E : XK) (hr : Room 1 (A.deeper (envOfC "renamed_camps" (defScope s_renamed_camps) s.heap.objs.size f cdv))) :
    SSs (cxOf (L2.CX P w) P w K mg base ["camps", "order", "lot", "place", "a", "b"] "renamed_camps" (defScope s_renamed_camps) f cdv A outer s H E) (tx D) (wOf E) (defBody s_renamed_camps) g_renamed_camps :=
  (ss_cons (s_asg (se_lc (own := [("lot", 2)]) 10000 rfl sc_renamed_camps.nd (si_seq (sv 0)) (blk_of (by kernel_rfl)) (by decide) (fun _ _ _ _ _ => (sg_name sc_renamed_camps.nd (by rfl) (by first | exact Or.inl rfl | exact Or.inr rfl))) (fun _ _ _ _ _ => sts_nil) (fun _ _ _ _ _ => (se_tuple D.m_tuple (se_sorted hr D.m_sorted (se_lc (own := [("place", 3)]) 10000 rfl sc_renamed_camps.nd (si_seq (sv 2)) (blk_of (by kernel_rfl)) (by decide) (fun _ _ _ _ _ => (sg_name sc_renamed_camps.nd (by rfl) (by first | exact Or.inl rfl | exact Or.inr rfl))) (fun _ _ _ _ _ => sts_nil) (fun _ _ _ _ _ => (se_sub hr (sv 1) (sv 3) (fun _ _ => rfl)))))))) (sg_tup rfl (sgs_cons (sg_name sc_renamed_camps.nd (by rfl) (by first | exact Or.inl rfl | exact Or.inr rfl)) (sgs_cons (sg_name sc_renamed_camps.nd (by rfl) (by first | exact Or.inl rfl | exact Or.inr rfl)) sgs_nil))))
      (ss_one (s_ret (se_call (ok_put_in_order (base := base) D) (rm hr) (by rfl) (D.h_put_in_order).gl (D.h_put_in_order).F.kp (D.h_put_in_order).bi (takes_of rfl rfl rfl rfl) (sa_cons (sv 4) (sa_cons (sv 5) sa_nil))))))
theorem ok_renamed_camps (D : Defs K mg) : FnOk P w K mg base (L2.CX P w) 2 (D.h_renamed_camps).f (D.h_renamed_camps).fd ["camps", "order"] (spNc ⟨K, w⟩ (tx D) F_renamed_camps) := fn_okD (g := g_renamed_camps) (D.h_renamed_camps).F sc_renamed_camps (hF := rfl) (h1 := rfl) (h2 := rfl) (body := fun cdv A outer s H E hr => b_renamed_camps D _ cdv A outer s H E hr)
/-! ### one_round -/
theorem sc_one_round : FnScope ["steps", "ends", "k", "end"] ["steps"] (defScope s_one_round) := ⟨rfl, rfl, rfl, by decide +kernel, rfl, by decide +kernel, by decide +kernel⟩
def g_one_round : DS := (gSeq (gAsg (dFn (F_frozen RL) (dCons (dVar 0) dNil)) (gN 0))
  (gSeq (gAsg (dOp dAdd (dLRg (dC (.int 1)) (dCall oLen (dCons (dVar 0) dNil))) (dLst (dCons (dC (.int 0)) dNil))) (gN 1))
  (gRet (dTup (dCons (dVar 0) (dCons (dCall oTuple (dCons (dLc (iEnumD (dCons (dVar 1) dNil)) (gTupD 2 (gsCons (gN 2) (gsCons (gN 3) gsNil))) dYes (dTup (dCons (dC (.str "any")) (dCons (dTup (dCons (dTup (dCons (dVar 2) (dCons (dVar 3) dNil))) dNil)) dNil))) [2, 3] 10000) dNil)) dNil))))))
def F_one_round : DF := runF g_one_round 1 4
theorem b_one_round (D : Defs K mg) (f : Addr) (cdv : Value) (A : Around) (outer : List Env) (s : Shared) (H : Hp) (E : XK) (hr : Room 10 (A.deeper (envOfC "one_round" (defScope s_one_round) s.heap.objs.size f cdv))) :
    SSs (cxOf (L2.CX P w) P w K mg base ["steps", "ends", "k", "end"] "one_round" (defScope s_one_round) f cdv A outer s H E) (tx D) (wOf E) (defBody s_one_round) g_one_round :=
  (ss_cons (s_set sc_one_round.nd (by rfl) (by first | exact Or.inl rfl | exact Or.inr rfl) (se_call (ok_frozen (base := base) D) (rm hr) (by rfl) (D.h_frozen).gl (D.h_frozen).F.kp (D.h_frozen).bi (takes_of rfl rfl rfl rfl) (sa_cons (sv 0) sa_nil)))
      (ss_cons (s_set sc_one_round.nd (by rfl) (by first | exact Or.inl rfl | exact Or.inr rfl) (se_add (se_lrg2 rfl D.m_list D.m_range se_int (se_len D.m_len (sv 0))) (se_lst (sa_cons se_int sa_nil))))
      (ss_one (s_ret (se_tup (sa_cons (sv 0) (sa_cons (se_tuple D.m_tuple (se_lc (own := [("k", 2), ("end", 3)]) 10000 rfl sc_one_round.nd (si_enum (by rfl) D.m_enumerate (sa_cons (sv 1) sa_nil)) (blk_of (by kernel_rfl)) (by decide) (fun _ _ _ _ _ => (sg_tup rfl (sgs_cons (sg_name sc_one_round.nd (by rfl) (by first | exact Or.inl rfl | exact Or.inr rfl)) (sgs_cons (sg_name sc_one_round.nd (by rfl) (by first | exact Or.inl rfl | exact Or.inr rfl)) sgs_nil)))) (fun _ _ _ _ _ => sts_nil) (fun _ _ _ _ _ => (se_tup (sa_cons se_str (sa_cons (se_tup (sa_cons (se_tup (sa_cons (sv 2) (sa_cons (sv 3) sa_nil))) sa_nil)) sa_nil)))))) sa_nil)))))))
theorem ok_one_round (D : Defs K mg) : FnOk P w K mg base (L2.CX P w) 11 (D.h_one_round).f (D.h_one_round).fd ["steps"] (spNc ⟨K, w⟩ (tx D) F_one_round) := fn_okD (g := g_one_round) (D.h_one_round).F sc_one_round (hF := rfl) (h1 := rfl) (h2 := rfl) (body := fun cdv A outer s H E hr => b_one_round D _ cdv A outer s H E hr)
/-! ### one_choice -/
theorem sc_one_choice : FnScope ["owner", "steps", "k"] ["owner", "steps"] (defScope s_one_choice) := ⟨rfl, rfl, rfl, by decide +kernel, rfl, by decide +kernel, by decide +kernel⟩
def g_one_choice : DS := (gSeq (gAsg (dFn (F_frozen RL) (dCons (dVar 1) dNil)) (gN 1))
  (gRet (dTup (dCons (dVar 1) (dCons (dTup (dCons (dTup (dCons (dVar 0) (dCons (dCall oTuple (dCons (dLc (iR1 (dCons (dCall oLen (dCons (dVar 1) dNil)) dNil)) (gN 2) dYes (dTup (dCons (dVar 2) (dCons (dC (.int 0)) dNil))) [2] 10000) dNil)) dNil))) dNil)) dNil)))))
def F_one_choice : DF := runF g_one_choice 2 3
theorem b_one_choice (D : Defs K mg) (f : Addr) (cdv : Value) (A : Around) (outer : List Env) (s : Shared) (H : Hp) (E : XK) (hr : Room 10 (A.deeper (envOfC "one_choice" (defScope s_one_choice) s.heap.objs.size f cdv))) :
    SSs (cxOf (L2.CX P w) P w K mg base ["owner", "steps", "k"] "one_choice" (defScope s_one_choice) f cdv A outer s H E) (tx D) (wOf E) (defBody s_one_choice) g_one_choice :=
  (ss_cons (s_set sc_one_choice.nd (by rfl) (by first | exact Or.inl rfl | exact Or.inr rfl) (se_call (ok_frozen (base := base) D) (rm hr) (by rfl) (D.h_frozen).gl (D.h_frozen).F.kp (D.h_frozen).bi (takes_of rfl rfl rfl rfl) (sa_cons (sv 1) sa_nil)))
      (ss_one (s_ret (se_tup (sa_cons (sv 1) (sa_cons (se_tup (sa_cons (se_tup (sa_cons (sv 0) (sa_cons (se_tuple D.m_tuple (se_lc (own := [("k", 2)]) 10000 rfl sc_one_choice.nd (si_range1 (by rfl) D.m_range (sa_cons (se_len D.m_len (sv 1)) sa_nil)) (blk_of (by kernel_rfl)) (by decide) (fun _ _ _ _ _ => (sg_name sc_one_choice.nd (by rfl) (by first | exact Or.inl rfl | exact Or.inr rfl))) (fun _ _ _ _ _ => sts_nil) (fun _ _ _ _ _ => (se_tup (sa_cons (sv 2) (sa_cons se_int sa_nil)))))) sa_nil))) sa_nil)) sa_nil))))))
theorem ok_one_choice (D : Defs K mg) : FnOk P w K mg base (L2.CX P w) 11 (D.h_one_choice).f (D.h_one_choice).fd ["owner", "steps"] (spNc ⟨K, w⟩ (tx D) F_one_choice) := fn_okD (g := g_one_choice) (D.h_one_choice).F sc_one_choice (hF := rfl) (h1 := rfl) (h2 := rfl) (body := fun cdv A outer s H E hr => b_one_choice D _ cdv A outer s H E hr)
/-! ### _law_same -/
theorem sc__law_same : FnScope ["got", "due", "a_so", "b_so"] ["got", "due"] (defScope s__law_same) := ⟨rfl, rfl, rfl, by decide +kernel, rfl, by decide +kernel, by decide +kernel⟩
def g__law_same (F : DF) : DS := (gSeq (gIf (dTest (dIsi2 .lst .tup (dVar 1))) (gSeq (gIf (dTest (dOp dNe (dIsi .lst (dVar 0)) (dIsi .lst (dVar 1)))) (gRet (dC (.bl false))) gNil)
  (gSeq (gIf (dTest (dOp dNe (dIsi .tup (dVar 0)) (dIsi .tup (dVar 1)))) (gRet (dC (.bl false))) gNil)
  (gRet (dAndV (dOp dEq (dCall oLen (dCons (dVar 0) dNil)) (dCall oLen (dCons (dVar 1) dNil))) (dCall (oBools allB) (dCons (dLc (iZipD (dCons (dVar 0) (dCons (dVar 1) dNil))) (gTupD 2 (gsCons (gN 2) (gsCons (gN 3) gsNil))) dYes (dFn F (dCons (dVar 2) (dCons (dVar 3) dNil))) [2, 3] 10000) dNil)))))) gNil)
  (gSeq (gIf (dOr (dTest (dOp dIsN (dVar 1) (dC .non))) (dTest (dIsi2 .bl .str (dVar 1)))) (gRet (dAndV (dOp dEq (dVar 0) (dVar 1)) (dAndV (dOp dEq (dIsi .bl (dVar 0)) (dIsi .bl (dVar 1))) (dOp dEq (dOp dIsN (dVar 0) (dC .non)) (dOp dIsN (dVar 1) (dC .non)))))) gNil)
  (gRet (dAndV (dIsi .int (dVar 0)) (dAndV (dNotV (dIsi .bl (dVar 0))) (dOp dEq (dVar 0) (dVar 1)))))))
def F__law_same : Nat → DF
  | 0 => fun _ _ => .no
  | n + 1 => runF (g__law_same (F__law_same n)) 2 4
theorem b__law_same (D : Defs K mg) (n : Nat) (F : DF) (ih : FnOk P w K mg base (L2.CX P w) (0 + n) (D.h__law_same).f (D.h__law_same).fd ["got", "due"] (spNc ⟨K, w⟩ (tx D) F)) (f : Addr) (cdv : Value) (A : Around) (outer : List Env) (s : Shared) (H : Hp) (E : XK) (hr : Room (0 + n) (A.deeper (envOfC "_law_same" (defScope s__law_same) s.heap.objs.size f cdv))) :
    SSs (cxOf (L2.CX P w) P w K mg base ["got", "due", "a_so", "b_so"] "_law_same" (defScope s__law_same) f cdv A outer s H E) (tx D) (wOf E) (defBody s__law_same) (g__law_same F) :=
  (ss_cons (s_if (st_val (se_isi2 .lst .tup (by intro h; cases h) (by intro h; cases h) (sv 1) (by rfl) D.m_isinstance (pe_tyName "list" (by rfl) D.m_list (by rfl)) (pe_tyName "tuple" (by rfl) D.m_tuple (by rfl)))) (ss_cons (s_if (st_ne hr (se_isi .lst (by intro h; cases h) (sv 0) (by rfl) D.m_isinstance (pe_tyName "list" (by rfl) D.m_list (by rfl))) (se_isi .lst (by intro h; cases h) (sv 1) (by rfl) D.m_isinstance (pe_tyName "list" (by rfl) D.m_list (by rfl)))) (ss_one (s_ret se_bl)) ss_nil)
      (ss_cons (s_if (st_ne hr (se_isi .tup (by intro h; cases h) (sv 0) (by rfl) D.m_isinstance (pe_tyName "tuple" (by rfl) D.m_tuple (by rfl))) (se_isi .tup (by intro h; cases h) (sv 1) (by rfl) D.m_isinstance (pe_tyName "tuple" (by rfl) D.m_tuple (by rfl)))) (ss_one (s_ret se_bl)) ss_nil)
      (ss_one (s_ret (se_and (se_eq hr (se_len D.m_len (sv 0)) (se_len D.m_len (sv 1))) (se_one (se_all rfl D.m_all (se_lc (own := [("a_so", 2), ("b_so", 3)]) 10000 rfl sc__law_same.nd (si_zip (by rfl) D.m_zip (sa_cons (sv 0) (sa_cons (sv 1) sa_nil))) (blk_of (by kernel_rfl)) (by decide) (fun _ _ _ _ _ => (sg_tup rfl (sgs_cons (sg_name sc__law_same.nd (by rfl) (by first | exact Or.inl rfl | exact Or.inr rfl)) (sgs_cons (sg_name sc__law_same.nd (by rfl) (by first | exact Or.inl rfl | exact Or.inr rfl)) sgs_nil)))) (fun _ _ _ _ _ => sts_nil) (fun _ _ _ _ _ => (se_call ih (rm hr) (by rfl) (D.h__law_same).gl (D.h__law_same).F.kp (D.h__law_same).bi takes0 (sa_cons (sv 2) (sa_cons (sv 3) sa_nil)))))))))))) ss_nil)
      (ss_cons (s_if (SW.st (sw_or (st_isN (sv 1) se_non) (sw_or1 (st_val (se_isi2 .bl .str (by intro h; cases h) (by intro h; cases h) (sv 1) (by rfl) D.m_isinstance (pe_tyName "bool" (by rfl) D.m_bool (by rfl)) (pe_tyName "str" (by rfl) D.m_str (by rfl))))))) (ss_one (s_ret (se_and (se_eq hr (sv 0) (sv 1)) (se_and (se_eq hr (se_isi .bl (by intro h; cases h) (sv 0) (by rfl) D.m_isinstance (pe_tyName "bool" (by rfl) D.m_bool (by rfl))) (se_isi .bl (by intro h; cases h) (sv 1) (by rfl) D.m_isinstance (pe_tyName "bool" (by rfl) D.m_bool (by rfl)))) (se_one (se_eq hr (se_isN (sv 0) se_non) (se_isN (sv 1) se_non))))))) ss_nil)
      (ss_one (s_ret (se_and (se_isi .int (by intro h; cases h) (sv 0) (by rfl) D.m_isinstance (pe_tyName "int" (by rfl) D.m_int (by rfl))) (se_and (se_not (se_isi .bl (by intro h; cases h) (sv 0) (by rfl) D.m_isinstance (pe_tyName "bool" (by rfl) D.m_bool (by rfl)))) (se_one (se_eq hr (sv 0) (sv 1)))))))))
theorem okN__law_same (D : Defs K mg) : ∀ n : Nat, FnOk P w K mg base (L2.CX P w) (0 + n) (D.h__law_same).f (D.h__law_same).fd ["got", "due"] (spNc ⟨K, w⟩ (tx D) (F__law_same n))
  | 0 => fn_no
  | n + 1 => fn_okD (k := 0 + n) (g := g__law_same (F__law_same n)) (D.h__law_same).F sc__law_same (hF := rfl) (h1 := rfl) (h2 := rfl) (body := fun cdv A outer s H E hr => b__law_same D n _ (okN__law_same D n) _ cdv A outer s H E hr)
theorem ok__law_same (D : Defs K mg) : FnOk P w K mg base (L2.CX P w) 10 (D.h__law_same).f (D.h__law_same).fd ["got", "due"] (spNc ⟨K, w⟩ (tx D) (F__law_same RL)) := okN__law_same D RL
/-! ### _law_bad -/
theorem sc__law_bad : FnScope ["found"] [] (defScope s__law_bad) := ⟨rfl, rfl, rfl, by decide +kernel, rfl, by decide +kernel, by decide +kernel⟩
def g__law_bad : DS := (gSeq (gAsg (dLst (dCons (dC .non) (dCons (dC (.int 7)) (dCons (dC (.bl true)) (dCons (dC (.str "ab")) (dCons (dTup dNil) (dCons (dTup (dCons (dTup (dCons (dC (.int 0)) dNil)) dNil)) (dCons (dTup (dCons (dTup (dCons (dC (.int 0)) dNil)) (dCons (dTup (dCons (dC (.int 1)) dNil)) (dCons (dTup (dCons (dC (.int 2)) dNil)) dNil)))) (dCons (dLst (dCons (dTup (dCons (dC (.int 0)) dNil)) (dCons (dTup (dCons (dC (.int 1)) dNil)) dNil))) (dCons (dTup (dCons (dTup (dCons (dC (.int 0)) dNil)) (dCons (dLst (dCons (dC (.int 1)) dNil)) dNil))) (dCons (dTup (dCons (dLst (dCons (dC (.int 0)) dNil)) (dCons (dTup (dCons (dC (.int 1)) dNil)) dNil))) (dCons (dTup (dCons (dTup (dCons (dC (.int 0)) dNil)) (dCons (dTup dNil) dNil))) (dCons (dTup (dCons (dTup dNil) (dCons (dTup (dCons (dC (.int 0)) dNil)) dNil))) (dCons (dTup (dCons (dTup (dCons (dC (.int 1)) dNil)) (dCons (dTup (dCons (dC (.int 0)) dNil)) dNil))) dNil)))))))))))))) (gN 0))
  (gSeq (gAsg (dOp dAdd (dVar 0) (dLst (dCons (dTup (dCons (dTup (dCons (dC (.int 0)) (dCons (dC (.int 1)) dNil))) (dCons (dTup (dCons (dC (.int 1)) (dCons (dC (.int 2)) dNil))) dNil))) (dCons (dTup (dCons (dTup (dCons (dC (.int 0)) dNil)) (dCons (dTup (dCons (dC (.int 0)) dNil)) dNil))) (dCons (dTup (dCons (dTup (dCons (dC (.int 0)) dNil)) (dCons (dTup (dCons (dC (.int 3)) dNil)) dNil))) (dCons (dTup (dCons (dTup (dCons (dNeg (dC (.int 1))) dNil)) (dCons (dTup (dCons (dC (.int 0)) dNil)) dNil))) (dCons (dTup (dCons (dTup (dCons (dC (.int 1)) (dCons (dC (.int 0)) dNil))) (dCons (dTup (dCons (dC (.int 2)) dNil)) dNil))) (dCons (dTup (dCons (dTup (dCons (dC (.int 0)) (dCons (dC (.int 0)) dNil))) (dCons (dTup (dCons (dC (.int 1)) dNil)) dNil))) (dCons (dTup (dCons (dTup (dCons (dC (.bl false)) dNil)) (dCons (dTup (dCons (dC (.int 1)) dNil)) dNil))) (dCons (dTup (dCons (dTup (dCons (dC (.int 0)) dNil)) (dCons (dTup (dCons (dC (.bl true)) dNil)) dNil))) dNil)))))))))) (gN 0))
  (gRet (dOp dAdd (dVar 0) (dLst (dCons (dTup (dCons (dTup (dCons (dC (.int 0)) dNil)) (dCons (dTup (dCons (dC .non) dNil)) dNil))) (dCons (dTup (dCons (dC (.int 0)) (dCons (dC (.int 1)) dNil))) (dCons (dTup (dCons (dTup (dCons (dC (.int 0)) dNil)) (dCons (dC (.int 1)) dNil))) (dCons (dTup (dCons (dTup (dCons (dTup (dCons (dC (.int 0)) dNil)) dNil)) (dCons (dTup (dCons (dC (.int 1)) dNil)) dNil))) (dCons (dTup (dCons (dTup (dCons (dC (.int 0)) (dCons (dC (.int 2)) dNil))) (dCons (dTup (dCons (dC (.int 0)) (dCons (dC (.int 1)) dNil))) dNil))) (dCons (dTup (dCons (dTup (dCons (dC (.int 2)) dNil)) (dCons (dTup (dCons (dC (.int 0)) (dCons (dC (.int 1)) dNil))) dNil))) dNil)))))))))))
def F__law_bad : DF := runF g__law_bad 0 1
theorem b__law_bad (D : Defs K mg) (f : Addr) (cdv : Value) (A : Around) (outer : List Env) (s : Shared) (H : Hp) (E : XK) (hr : Room 0 (A.deeper (envOfC "_law_bad" (defScope s__law_bad) s.heap.objs.size f cdv))) :
    SSs (cxOf (L2.CX P w) P w K mg base ["found"] "_law_bad" (defScope s__law_bad) f cdv A outer s H E) (tx D) (wOf E) (defBody s__law_bad) g__law_bad :=
  (ss_cons (s_set sc__law_bad.nd (by rfl) (by first | exact Or.inl rfl | exact Or.inr rfl) (se_lst (sa_cons se_non (sa_cons se_int (sa_cons se_bl (sa_cons se_str (sa_cons (se_tup sa_nil) (sa_cons (se_tup (sa_cons (se_tup (sa_cons se_int sa_nil)) sa_nil)) (sa_cons (se_tup (sa_cons (se_tup (sa_cons se_int sa_nil)) (sa_cons (se_tup (sa_cons se_int sa_nil)) (sa_cons (se_tup (sa_cons se_int sa_nil)) sa_nil)))) (sa_cons (se_lst (sa_cons (se_tup (sa_cons se_int sa_nil)) (sa_cons (se_tup (sa_cons se_int sa_nil)) sa_nil))) (sa_cons (se_tup (sa_cons (se_tup (sa_cons se_int sa_nil)) (sa_cons (se_lst (sa_cons se_int sa_nil)) sa_nil))) (sa_cons (se_tup (sa_cons (se_lst (sa_cons se_int sa_nil)) (sa_cons (se_tup (sa_cons se_int sa_nil)) sa_nil))) (sa_cons (se_tup (sa_cons (se_tup (sa_cons se_int sa_nil)) (sa_cons (se_tup sa_nil) sa_nil))) (sa_cons (se_tup (sa_cons (se_tup sa_nil) (sa_cons (se_tup (sa_cons se_int sa_nil)) sa_nil))) (sa_cons (se_tup (sa_cons (se_tup (sa_cons se_int sa_nil)) (sa_cons (se_tup (sa_cons se_int sa_nil)) sa_nil))) sa_nil)))))))))))))))
      (ss_cons (s_set sc__law_bad.nd (by rfl) (by first | exact Or.inl rfl | exact Or.inr rfl) (se_add (sv 0) (se_lst (sa_cons (se_tup (sa_cons (se_tup (sa_cons se_int (sa_cons se_int sa_nil))) (sa_cons (se_tup (sa_cons se_int (sa_cons se_int sa_nil))) sa_nil))) (sa_cons (se_tup (sa_cons (se_tup (sa_cons se_int sa_nil)) (sa_cons (se_tup (sa_cons se_int sa_nil)) sa_nil))) (sa_cons (se_tup (sa_cons (se_tup (sa_cons se_int sa_nil)) (sa_cons (se_tup (sa_cons se_int sa_nil)) sa_nil))) (sa_cons (se_tup (sa_cons (se_tup (sa_cons (se_neg se_int) sa_nil)) (sa_cons (se_tup (sa_cons se_int sa_nil)) sa_nil))) (sa_cons (se_tup (sa_cons (se_tup (sa_cons se_int (sa_cons se_int sa_nil))) (sa_cons (se_tup (sa_cons se_int sa_nil)) sa_nil))) (sa_cons (se_tup (sa_cons (se_tup (sa_cons se_int (sa_cons se_int sa_nil))) (sa_cons (se_tup (sa_cons se_int sa_nil)) sa_nil))) (sa_cons (se_tup (sa_cons (se_tup (sa_cons se_bl sa_nil)) (sa_cons (se_tup (sa_cons se_int sa_nil)) sa_nil))) (sa_cons (se_tup (sa_cons (se_tup (sa_cons se_int sa_nil)) (sa_cons (se_tup (sa_cons se_bl sa_nil)) sa_nil))) sa_nil)))))))))))
      (ss_one (s_ret (se_add (sv 0) (se_lst (sa_cons (se_tup (sa_cons (se_tup (sa_cons se_int sa_nil)) (sa_cons (se_tup (sa_cons se_non sa_nil)) sa_nil))) (sa_cons (se_tup (sa_cons se_int (sa_cons se_int sa_nil))) (sa_cons (se_tup (sa_cons (se_tup (sa_cons se_int sa_nil)) (sa_cons se_int sa_nil))) (sa_cons (se_tup (sa_cons (se_tup (sa_cons (se_tup (sa_cons se_int sa_nil)) sa_nil)) (sa_cons (se_tup (sa_cons se_int sa_nil)) sa_nil))) (sa_cons (se_tup (sa_cons (se_tup (sa_cons se_int (sa_cons se_int sa_nil))) (sa_cons (se_tup (sa_cons se_int (sa_cons se_int sa_nil))) sa_nil))) (sa_cons (se_tup (sa_cons (se_tup (sa_cons se_int sa_nil)) (sa_cons (se_tup (sa_cons se_int (sa_cons se_int sa_nil))) sa_nil))) sa_nil))))))))))))
theorem ok__law_bad (D : Defs K mg) : FnOk P w K mg base (L2.CX P w) 1 (D.h__law_bad).f (D.h__law_bad).fd [] (spNc ⟨K, w⟩ (tx D) F__law_bad) := fn_okD (g := g__law_bad) (D.h__law_bad).F sc__law_bad (hF := rfl) (h1 := rfl) (h2 := rfl) (body := fun cdv A outer s H E hr => b__law_bad D _ cdv A outer s H E hr)
/-! ### _law_heard -/
theorem sc__law_heard : FnScope ["near_so", "far_so", "found", "caught", "error"] ["near_so", "far_so"] (defScope s__law_heard) := ⟨rfl, rfl, rfl, by decide +kernel, rfl, by decide +kernel, by decide +kernel⟩
def g__law_heard : DS := (gSeq (gAsg (dTup (dCons (dC .non) (dCons (dC .non) dNil))) (gTupD 2 (gsCons (gN 2) (gsCons (gN 3) gsNil))))
  (gSeq (gTryIs 0 4 3 "unfit" (gAsg (dFn F_in_camps (dCons (dVar 0) (dCons (dVar 1) dNil))) (gN 2)))
  (gRet (dIf (dTest (dOp dIsN (dVar 3) (dC .non))) (dVar 2) (dVar 3)))))
def F__law_heard : DF := runF g__law_heard 2 5
theorem b__law_heard (D : Defs K mg) (f : Addr) (cdv : Value) (A : Around) (outer : List Env) (s : Shared) (H : Hp) (E : XK) (hr : Room 11 (A.deeper (envOfC "_law_heard" (defScope s__law_heard) s.heap.objs.size f cdv))) :
    SSs (cxOf (L2.CX P w) P w K mg base ["near_so", "far_so", "found", "caught", "error"] "_law_heard" (defScope s__law_heard) f cdv A outer s H E) (tx D) (wOf E) (defBody s__law_heard) g__law_heard :=
  (ss_cons (s_asg (se_tup (sa_cons se_non (sa_cons se_non sa_nil))) (sg_tup rfl (sgs_cons (sg_name sc__law_heard.nd (by rfl) (by first | exact Or.inl rfl | exact Or.inr rfl)) (sgs_cons (sg_name sc__law_heard.nd (by rfl) (by first | exact Or.inl rfl | exact Or.inr rfl)) sgs_nil))))
      (ss_cons (s_tryIs (c := 0) (i := 4) (j := 3) rfl rfl D.x_Unfit.EC D.x_Unfit.kit D.x_Unfit.ex (by decide) rfl rfl (by rfl) ⟨by rfl, by decide, Or.inl D.x_Unfit.gl⟩ sc__law_heard.nd (by rfl) (by first | exact Or.inl rfl | exact Or.inr (Or.inl rfl) | exact Or.inr (Or.inr rfl)) (by decide) (by decide) (by rfl) (by first | exact Or.inl rfl | exact Or.inr rfl) (Or.inl rfl) (by rfl) D.m_isinstance (by rfl) D.m_ValueError (by rfl) (by decide) (by decide) (fun W pn xe tk hp => (ss_one (s_set sc__law_heard.nd (by rfl) (by first | exact Or.inl rfl | exact Or.inr rfl) (se_call (ok_in_camps (base := base) D) (rm hr) (by rfl) (D.h_in_camps).gl (D.h_in_camps).F.kp (D.h_in_camps).bi tk (sa_cons (sv 0) (sa_cons (sv 1) sa_nil)))))))
      (ss_one (s_ret (se_if (st_isN (sv 3) se_non) (sv 2) (sv 3))))))
theorem ok__law_heard (D : Defs K mg) : FnOk P w K mg base (L2.CX P w) 12 (D.h__law_heard).f (D.h__law_heard).fd ["near_so", "far_so"] (spNc ⟨K, w⟩ (tx D) F__law_heard) := fn_okD (g := g__law_heard) (D.h__law_heard).F sc__law_heard (hF := rfl) (h1 := rfl) (h2 := rfl) (body := fun cdv A outer s H E hr => b__law_heard D _ cdv A outer s H E hr)
/-! ### _law_made_right -/
theorem sc__law_made_right : FnScope ["some_so", "k", "own", "got", "due", "told_so", "wide_so"] [] (defScope s__law_made_right) := ⟨rfl, rfl, rfl, by decide +kernel, rfl, by decide +kernel, by decide +kernel⟩
def g__law_made_right : DS := (gSeq (gAsg (dLst (dCons (dTup (dCons (dTup (dCons (dC (.int 0)) dNil)) (dCons (dTup (dCons (dC (.int 1)) dNil)) dNil))) (dCons (dTup (dCons (dTup (dCons (dC (.int 0)) dNil)) (dCons (dTup (dCons (dC (.int 1)) (dCons (dC (.int 2)) dNil))) dNil))) (dCons (dTup (dCons (dTup (dCons (dC (.int 0)) dNil)) (dCons (dTup (dCons (dC (.int 2)) dNil)) dNil))) (dCons (dTup (dCons (dTup (dCons (dC (.int 0)) (dCons (dC (.int 1)) dNil))) (dCons (dTup (dCons (dC (.int 2)) dNil)) dNil))) (dCons (dTup (dCons (dTup (dCons (dC (.int 0)) (dCons (dC (.int 2)) dNil))) (dCons (dTup (dCons (dC (.int 1)) dNil)) dNil))) (dCons (dTup (dCons (dTup (dCons (dC (.int 1)) dNil)) (dCons (dTup (dCons (dC (.int 2)) dNil)) dNil))) dNil))))))) (gN 0))
  (gSeq (gAsg (dLst (dCons (dFn F_all_camps (dCons (dC (.int 1)) dNil)) (dCons (dFn F_all_camps (dCons (dC (.int 2)) dNil)) (dCons (dFn F_all_camps (dCons (dC (.int 3)) dNil)) (dCons (dLc (iSeq (dTup (dCons (dC (.int 4)) (dCons (dC (.int 5)) (dCons (dC (.int 6)) dNil))))) (gN 1) dYes (dCall oLen (dCons (dFn F_all_camps (dCons (dVar 1) dNil)) dNil)) [1] 10000) (dCons (dLc (iSeq (dVar 0)) (gN 2) dYes (dFn F_is_camps (dCons (dVar 2) (dCons (dC (.int 3)) dNil))) [2] 10000) (dCons (dLc (iSeq (dFn F__law_bad dNil)) (gN 2) dYes (dFn F_is_camps (dCons (dVar 2) (dCons (dC (.int 3)) dNil))) [2] 10000) dNil))))))) (gN 3))
  (gSeq (gAsg (dLst (dCons (dLst dNil) (dCons (dLst (dCons (dTup (dCons (dTup (dCons (dC (.int 0)) dNil)) (dCons (dTup (dCons (dC (.int 1)) dNil)) dNil))) dNil)) (dCons (dVar 0) (dCons (dLst (dCons (dC (.int 25)) (dCons (dC (.int 90)) (dCons (dC (.int 301)) dNil)))) (dCons (dOp dMul (dLst (dCons (dC (.bl true)) dNil)) (dC (.int 6))) (dCons (dOp dMul (dLst (dCons (dC (.bl false)) dNil)) (dCall oLen (dCons (dFn F__law_bad dNil) dNil))) dNil))))))) (gN 4))
  (gSeq (gAsg (dOp dAdd (dVar 3) (dLst (dCons (dFn F_is_camps (dCons (dTup (dCons (dTup (dCons (dC (.int 0)) dNil)) (dCons (dTup (dCons (dC (.int 2)) dNil)) dNil))) (dCons (dC (.int 2)) dNil))) (dCons (dFnK F_is_camps [1, 0] 2 (dCons (dC (.int 6)) (dCons (dTup (dCons (dTup (dCons (dC (.int 0)) (dCons (dC (.int 2)) (dCons (dC (.int 4)) dNil)))) (dCons (dTup (dCons (dC (.int 1)) (dCons (dC (.int 3)) (dCons (dC (.int 5)) dNil)))) dNil))) dNil))) (dCons (dFn F_is_camps (dCons (dTup dNil) (dCons (dC (.int 1)) dNil))) (dCons (dFnK F_all_camps [0] 1 (dCons (dC (.int 2)) dNil)) dNil)))))) (gN 3))
  (gSeq (gAsg (dOp dAdd (dVar 4) (dLst (dCons (dC (.bl false)) (dCons (dC (.bl true)) (dCons (dC (.bl false)) (dCons (dLst (dCons (dTup (dCons (dTup (dCons (dC (.int 0)) dNil)) (dCons (dTup (dCons (dC (.int 1)) dNil)) dNil))) dNil)) dNil)))))) (gN 4))
  (gSeq (gAsg (dFn F_all_camps (dCons (dC (.int 2)) dNil)) (gN 5))
  (gSeq (gExpr (dMeth oAppend (dVar 5) (dCons (dTup dNil) dNil)))
  (gSeq (gAsg (dOp dAdd (dVar 3) (dLst (dCons (dFn F_all_camps (dCons (dC (.int 2)) dNil)) (dCons (dFn F_is_camps (dCons (dTup (dCons (dTup (dCons (dC (.int 0)) dNil)) (dCons (dTup (dCons (dC (.int 7)) dNil)) dNil))) (dCons (dC (.int 8)) dNil))) (dCons (dFn F_is_camps (dCons (dTup (dCons (dTup (dCons (dC (.int 0)) (dCons (dC (.int 1)) (dCons (dC (.int 2)) (dCons (dC (.int 3)) (dCons (dC (.int 4)) dNil)))))) (dCons (dTup (dCons (dC (.int 5)) (dCons (dC (.int 6)) (dCons (dC (.int 7)) (dCons (dC (.int 8)) dNil))))) dNil))) (dCons (dC (.int 9)) dNil))) dNil))))) (gN 3))
  (gSeq (gAsg (dOp dAdd (dVar 4) (dLst (dCons (dLst (dCons (dTup (dCons (dTup (dCons (dC (.int 0)) dNil)) (dCons (dTup (dCons (dC (.int 1)) dNil)) dNil))) dNil)) (dCons (dC (.bl true)) (dCons (dC (.bl true)) dNil))))) (gN 4))
  (gSeq (gAsg (dOp dAdd (dVar 3) (dLst (dCons (dFn F__law_heard (dCons (dTup (dCons (dC (.int 2)) dNil)) (dCons (dTup (dCons (dC (.int 0)) (dCons (dC (.int 1)) dNil))) dNil))) (dCons (dFn F__law_heard (dCons (dLst (dCons (dC (.int 0)) (dCons (dC (.int 1)) dNil))) (dCons (dLst (dCons (dC (.int 2)) dNil)) dNil))) (dCons (dFn F__law_heard (dCons (dTup (dCons (dC (.int 0)) dNil)) (dCons (dTup (dCons (dC (.int 0)) (dCons (dC (.int 1)) dNil))) dNil))) (dCons (dFn F__law_heard (dCons (dLst (dCons (dC (.int 1)) (dCons (dC (.int 2)) dNil))) (dCons (dTup (dCons (dC (.int 2)) dNil)) dNil))) (dCons (dFnK F_in_camps [1, 0] 2 (dCons (dTup (dCons (dC (.int 1)) dNil)) (dCons (dTup (dCons (dC (.int 3)) dNil)) dNil))) (dCons (dFn F_in_camps (dCons (dTup (dCons (dC (.int 0)) (dCons (dC (.int 2)) dNil))) (dCons (dTup (dCons (dC (.int 1)) dNil)) dNil))) dNil)))))))) (gN 3))
  (gSeq (gAsg (dOp dAdd (dVar 4) (dLst (dCons (dTup (dCons (dTup (dCons (dC (.int 0)) (dCons (dC (.int 1)) dNil))) (dCons (dTup (dCons (dC (.int 2)) dNil)) dNil))) (dCons (dTup (dCons (dTup (dCons (dC (.int 0)) (dCons (dC (.int 1)) dNil))) (dCons (dTup (dCons (dC (.int 2)) dNil)) dNil))) (dCons (dLst (dCons (dC (.str "unfit")) (dCons (dC (.bl true)) dNil))) (dCons (dLst (dCons (dC (.str "unfit")) (dCons (dC (.bl true)) dNil))) (dCons (dTup (dCons (dTup (dCons (dC (.int 1)) dNil)) (dCons (dTup (dCons (dC (.int 3)) dNil)) dNil))) (dCons (dTup (dCons (dTup (dCons (dC (.int 0)) (dCons (dC (.int 2)) dNil))) (dCons (dTup (dCons (dC (.int 1)) dNil)) dNil))) dNil)))))))) (gN 4))
  (gSeq (gAsg (dTup (dCons (dTup (dCons (dC (.int 0)) (dCons (dC (.int 2)) dNil))) (dCons (dTup (dCons (dC (.int 1)) (dCons (dC (.int 3)) dNil))) dNil))) (gN 6))
  (gSeq (gAsg (dOp dAdd (dVar 3) (dLc (iSeq (dTup (dCons (dTup (dCons (dTup (dCons (dC (.int 0)) dNil)) (dCons (dTup (dCons (dC (.int 1)) dNil)) dNil))) (dCons (dTup (dCons (dTup (dCons (dC (.int 1)) dNil)) (dCons (dTup (dCons (dC (.int 2)) dNil)) dNil))) (dCons (dTup (dCons (dTup (dCons (dC (.int 1)) (dCons (dC (.int 3)) dNil))) (dCons (dTup (dCons (dC (.int 2)) dNil)) dNil))) (dCons (dVar 6) (dCons (dTup (dCons (dTup (dCons (dC (.int 0)) dNil)) (dCons (dTup (dCons (dC (.int 2)) dNil)) dNil))) (dCons (dTup (dCons (dTup (dCons (dC (.int 0)) (dCons (dC (.int 1)) dNil))) (dCons (dTup (dCons (dC (.int 3)) dNil)) dNil))) (dCons (dTup (dCons (dTup (dCons (dC (.int 0)) (dCons (dC (.int 2)) dNil))) (dCons (dTup (dCons (dC (.int 1)) (dCons (dC (.int 3)) (dCons (dC (.int 4)) dNil)))) dNil))) dNil))))))))) (gN 2) dYes (dFn F_are_within (dCons (dVar 2) (dCons (dVar 6) dNil))) [2] 10000)) (gN 3))
  (gSeq (gAsg (dOp dAdd (dVar 4) (dLst (dCons (dC (.bl true)) (dCons (dC (.bl true)) (dCons (dC (.bl true)) (dCons (dC (.bl true)) (dCons (dC (.bl false)) (dCons (dC (.bl false)) (dCons (dC (.bl false)) dNil))))))))) (gN 4))
  (gSeq (gAsg (dOp dAdd (dVar 3) (dLst (dCons (dFnK F_are_within [1, 0] 2 (dCons (dLst (dCons (dLst (dCons (dC (.int 0)) (dCons (dC (.int 2)) dNil))) (dCons (dLst (dCons (dC (.int 1)) (dCons (dC (.int 3)) dNil))) dNil))) (dCons (dLst (dCons (dLst (dCons (dC (.int 1)) dNil)) (dCons (dLst (dCons (dC (.int 2)) dNil)) dNil))) dNil))) (dCons (dFn F_are_within (dCons (dVar 6) (dCons (dTup (dCons (dTup (dCons (dC (.int 0)) dNil)) (dCons (dTup (dCons (dC (.int 1)) dNil)) dNil))) dNil))) dNil)))) (gN 3))
  (gSeq (gAsg (dOp dAdd (dVar 4) (dLst (dCons (dC (.bl true)) (dCons (dC (.bl false)) dNil)))) (gN 4))
  (gSeq (gAsg (dOp dAdd (dVar 3) (dLst (dCons (dFn F_greatest_camps (dCons (dTup dNil) dNil)) (dCons (dFn F_greatest_camps (dCons (dVar 0) dNil)) (dCons (dFnK F_greatest_camps [0] 1 (dCons (dTup (dCons (dOp dIxA (dVar 0) (dC (.int 0))) (dCons (dOp dIxA (dVar 0) (dC (.int 5))) (dCons (dOp dIxA (dVar 0) (dC (.int 0))) dNil)))) dNil)) (dCons (dFn F_greatest_camps (dCons (dLst (dCons (dLst (dCons (dLst (dCons (dC (.int 1)) dNil)) (dCons (dLst (dCons (dC (.int 2)) dNil)) dNil))) (dCons (dLst (dCons (dLst (dCons (dC (.int 0)) (dCons (dC (.int 2)) dNil))) (dCons (dLst (dCons (dC (.int 1)) dNil)) dNil))) dNil))) dNil)) dNil)))))) (gN 3))
  (gSeq (gAsg (dOp dAdd (dVar 4) (dLst (dCons (dTup dNil) (dCons (dTup (dCons (dTup (dCons (dTup (dCons (dC (.int 0)) dNil)) (dCons (dTup (dCons (dC (.int 1)) (dCons (dC (.int 2)) dNil))) dNil))) (dCons (dTup (dCons (dTup (dCons (dC (.int 0)) (dCons (dC (.int 1)) dNil))) (dCons (dTup (dCons (dC (.int 2)) dNil)) dNil))) (dCons (dTup (dCons (dTup (dCons (dC (.int 0)) (dCons (dC (.int 2)) dNil))) (dCons (dTup (dCons (dC (.int 1)) dNil)) dNil))) dNil)))) (dCons (dTup (dCons (dTup (dCons (dTup (dCons (dC (.int 0)) dNil)) (dCons (dTup (dCons (dC (.int 1)) dNil)) dNil))) (dCons (dTup (dCons (dTup (dCons (dC (.int 1)) dNil)) (dCons (dTup (dCons (dC (.int 2)) dNil)) dNil))) dNil))) (dCons (dTup (dCons (dTup (dCons (dTup (dCons (dC (.int 0)) (dCons (dC (.int 2)) dNil))) (dCons (dTup (dCons (dC (.int 1)) dNil)) dNil))) dNil)) dNil)))))) (gN 4))
  (gSeq (gAsg (dOp dAdd (dVar 3) (dLst (dCons (dFn F_renamed_camps (dCons (dTup (dCons (dTup (dCons (dC (.int 0)) dNil)) (dCons (dTup (dCons (dC (.int 1)) (dCons (dC (.int 2)) dNil))) dNil))) (dCons (dTup (dCons (dC (.int 2)) (dCons (dC (.int 0)) (dCons (dC (.int 1)) dNil)))) dNil))) (dCons (dFnK F_renamed_camps [1, 0] 2 (dCons (dLst (dCons (dC (.int 1)) (dCons (dC (.int 0)) (dCons (dC (.int 2)) dNil)))) (dCons (dLst (dCons (dLst (dCons (dC (.int 0)) (dCons (dC (.int 1)) dNil))) (dCons (dLst (dCons (dC (.int 2)) dNil)) dNil))) dNil))) (dCons (dFn F_renamed_camps (dCons (dTup (dCons (dTup (dCons (dC (.int 0)) (dCons (dC (.int 2)) dNil))) (dCons (dTup (dCons (dC (.int 1)) (dCons (dC (.int 3)) dNil))) dNil))) (dCons (dTup (dCons (dC (.int 3)) (dCons (dC (.int 2)) (dCons (dC (.int 1)) (dCons (dC (.int 0)) dNil))))) dNil))) dNil))))) (gN 3))
  (gRet (dFn (F__law_same RL) (dCons (dVar 3) (dCons (dOp dAdd (dVar 4) (dLst (dCons (dTup (dCons (dTup (dCons (dC (.int 0)) (dCons (dC (.int 1)) dNil))) (dCons (dTup (dCons (dC (.int 2)) dNil)) dNil))) (dCons (dTup (dCons (dTup (dCons (dC (.int 0)) (dCons (dC (.int 1)) dNil))) (dCons (dTup (dCons (dC (.int 2)) dNil)) dNil))) (dCons (dTup (dCons (dTup (dCons (dC (.int 0)) (dCons (dC (.int 2)) dNil))) (dCons (dTup (dCons (dC (.int 1)) (dCons (dC (.int 3)) dNil))) dNil))) dNil))))) dNil)))))))))))))))))))))))
def F__law_made_right : DF := runF g__law_made_right 0 7
theorem b__law_made_right (D : Defs K mg) (f : Addr) (cdv : Value) (A : Around) (outer : List Env) (s : Shared) (H : Hp) (E : XK) (hr : Room 12 (A.deeper (envOfC "_law_made_right" (defScope s__law_made_right) s.heap.objs.size f cdv))) :
    SSs (cxOf (L2.CX P w) P w K mg base ["some_so", "k", "own", "got", "due", "told_so", "wide_so"] "_law_made_right" (defScope s__law_made_right) f cdv A outer s H E) (tx D) (wOf E) (defBody s__law_made_right) g__law_made_right :=
  (ss_cons (s_set sc__law_made_right.nd (by rfl) (by first | exact Or.inl rfl | exact Or.inr rfl) (se_lst (sa_cons (se_tup (sa_cons (se_tup (sa_cons se_int sa_nil)) (sa_cons (se_tup (sa_cons se_int sa_nil)) sa_nil))) (sa_cons (se_tup (sa_cons (se_tup (sa_cons se_int sa_nil)) (sa_cons (se_tup (sa_cons se_int (sa_cons se_int sa_nil))) sa_nil))) (sa_cons (se_tup (sa_cons (se_tup (sa_cons se_int sa_nil)) (sa_cons (se_tup (sa_cons se_int sa_nil)) sa_nil))) (sa_cons (se_tup (sa_cons (se_tup (sa_cons se_int (sa_cons se_int sa_nil))) (sa_cons (se_tup (sa_cons se_int sa_nil)) sa_nil))) (sa_cons (se_tup (sa_cons (se_tup (sa_cons se_int (sa_cons se_int sa_nil))) (sa_cons (se_tup (sa_cons se_int sa_nil)) sa_nil))) (sa_cons (se_tup (sa_cons (se_tup (sa_cons se_int sa_nil)) (sa_cons (se_tup (sa_cons se_int sa_nil)) sa_nil))) sa_nil))))))))
      (ss_cons (s_set sc__law_made_right.nd (by rfl) (by first | exact Or.inl rfl | exact Or.inr rfl) (se_lst (sa_cons (se_call (ok_all_camps (base := base) D) (rm hr) (by rfl) (D.h_all_camps).gl (D.h_all_camps).F.kp (D.h_all_camps).bi (takes_of rfl rfl rfl rfl) (sa_cons se_int sa_nil)) (sa_cons (se_call (ok_all_camps (base := base) D) (rm hr) (by rfl) (D.h_all_camps).gl (D.h_all_camps).F.kp (D.h_all_camps).bi (takes_of rfl rfl rfl rfl) (sa_cons se_int sa_nil)) (sa_cons (se_call (ok_all_camps (base := base) D) (rm hr) (by rfl) (D.h_all_camps).gl (D.h_all_camps).F.kp (D.h_all_camps).bi (takes_of rfl rfl rfl rfl) (sa_cons se_int sa_nil)) (sa_cons (se_lc (own := [("k", 1)]) 10000 rfl sc__law_made_right.nd (si_seq (se_tup (sa_cons se_int (sa_cons se_int (sa_cons se_int sa_nil))))) (blk_of (by kernel_rfl)) (by decide) (fun _ _ _ _ _ => (sg_name sc__law_made_right.nd (by rfl) (by first | exact Or.inl rfl | exact Or.inr rfl))) (fun _ _ _ _ _ => sts_nil) (fun _ _ _ _ _ => (se_len D.m_len (se_call (ok_all_camps (base := base) D) (rm hr) (by rfl) (D.h_all_camps).gl (D.h_all_camps).F.kp (D.h_all_camps).bi takes0 (sa_cons (sv 1) sa_nil))))) (sa_cons (se_lc (own := [("own", 2)]) 10000 rfl sc__law_made_right.nd (si_seq (sv 0)) (blk_of (by kernel_rfl)) (by decide) (fun _ _ _ _ _ => (sg_name sc__law_made_right.nd (by rfl) (by first | exact Or.inl rfl | exact Or.inr rfl))) (fun _ _ _ _ _ => sts_nil) (fun _ _ _ _ _ => (se_call (ok_is_camps (base := base) D) (rm hr) (by rfl) (D.h_is_camps).gl (D.h_is_camps).F.kp (D.h_is_camps).bi takes0 (sa_cons (sv 2) (sa_cons se_int sa_nil))))) (sa_cons (se_lc (own := [("own", 2)]) 10000 rfl sc__law_made_right.nd (si_seq (se_call0 (ok__law_bad (base := base) D) (rm hr) (by rfl) (D.h__law_bad).gl (D.h__law_bad).F.kp (D.h__law_bad).bi (takes_of rfl rfl rfl rfl))) (blk_of (by kernel_rfl)) (by decide) (fun _ _ _ _ _ => (sg_name sc__law_made_right.nd (by rfl) (by first | exact Or.inl rfl | exact Or.inr rfl))) (fun _ _ _ _ _ => sts_nil) (fun _ _ _ _ _ => (se_call (ok_is_camps (base := base) D) (rm hr) (by rfl) (D.h_is_camps).gl (D.h_is_camps).F.kp (D.h_is_camps).bi takes0 (sa_cons (sv 2) (sa_cons se_int sa_nil))))) sa_nil))))))))
      (ss_cons (s_set sc__law_made_right.nd (by rfl) (by first | exact Or.inl rfl | exact Or.inr rfl) (se_lst (sa_cons (se_lst sa_nil) (sa_cons (se_lst (sa_cons (se_tup (sa_cons (se_tup (sa_cons se_int sa_nil)) (sa_cons (se_tup (sa_cons se_int sa_nil)) sa_nil))) sa_nil)) (sa_cons (sv 0) (sa_cons (se_lst (sa_cons se_int (sa_cons se_int (sa_cons se_int sa_nil)))) (sa_cons (se_mul (se_lst (sa_cons se_bl sa_nil)) se_int) (sa_cons (se_mul (se_lst (sa_cons se_bl sa_nil)) (se_len D.m_len (se_call0 (ok__law_bad (base := base) D) (rm hr) (by rfl) (D.h__law_bad).gl (D.h__law_bad).F.kp (D.h__law_bad).bi (takes_of rfl rfl rfl rfl)))) sa_nil))))))))
      (ss_cons (s_set sc__law_made_right.nd (by rfl) (by first | exact Or.inl rfl | exact Or.inr rfl) (se_add (sv 3) (se_lst (sa_cons (se_call (ok_is_camps (base := base) D) (rm hr) (by rfl) (D.h_is_camps).gl (D.h_is_camps).F.kp (D.h_is_camps).bi (takes_of rfl rfl rfl rfl) (sa_cons (se_tup (sa_cons (se_tup (sa_cons se_int sa_nil)) (sa_cons (se_tup (sa_cons se_int sa_nil)) sa_nil))) (sa_cons se_int sa_nil))) (sa_cons (se_callK (ks := ["n", "thing"]) [1, 0] (ok_is_camps (base := base) D) (rm hr) (by rfl) (D.h_is_camps).gl (D.h_is_camps).F.kp (fun s ws _ hl => match ws, hl with | [u0, u1], _ => bindsTo (D.h_is_camps).F (fun _ _ _ _ _ _ => rfl)) (takes_of rfl rfl rfl rfl) (sk_cons se_int (sk_cons (se_tup (sa_cons (se_tup (sa_cons se_int (sa_cons se_int (sa_cons se_int sa_nil)))) (sa_cons (se_tup (sa_cons se_int (sa_cons se_int (sa_cons se_int sa_nil)))) sa_nil))) sk_nil))) (sa_cons (se_call (ok_is_camps (base := base) D) (rm hr) (by rfl) (D.h_is_camps).gl (D.h_is_camps).F.kp (D.h_is_camps).bi (takes_of rfl rfl rfl rfl) (sa_cons (se_tup sa_nil) (sa_cons se_int sa_nil))) (sa_cons (se_callK (ks := ["n"]) [0] (ok_all_camps (base := base) D) (rm hr) (by rfl) (D.h_all_camps).gl (D.h_all_camps).F.kp (fun s ws _ hl => match ws, hl with | [u0], _ => bindsTo (D.h_all_camps).F (fun _ _ _ _ _ _ => rfl)) (takes_of rfl rfl rfl rfl) (sk_cons se_int sk_nil)) sa_nil)))))))
      (ss_cons (s_set sc__law_made_right.nd (by rfl) (by first | exact Or.inl rfl | exact Or.inr rfl) (se_add (sv 4) (se_lst (sa_cons se_bl (sa_cons se_bl (sa_cons se_bl (sa_cons (se_lst (sa_cons (se_tup (sa_cons (se_tup (sa_cons se_int sa_nil)) (sa_cons (se_tup (sa_cons se_int sa_nil)) sa_nil))) sa_nil)) sa_nil)))))))
      (ss_cons (s_set sc__law_made_right.nd (by rfl) (by first | exact Or.inl rfl | exact Or.inr rfl) (se_call (ok_all_camps (base := base) D) (rm hr) (by rfl) (D.h_all_camps).gl (D.h_all_camps).F.kp (D.h_all_camps).bi (takes_of rfl rfl rfl rfl) (sa_cons se_int sa_nil)))
      (ss_cons (s_expr (se_meth PySem.F.slot_list_append PySem.F.type_list_append mt_append om_append (sv 5) (sa_cons (se_tup sa_nil) sa_nil)))
      (ss_cons (s_set sc__law_made_right.nd (by rfl) (by first | exact Or.inl rfl | exact Or.inr rfl) (se_add (sv 3) (se_lst (sa_cons (se_call (ok_all_camps (base := base) D) (rm hr) (by rfl) (D.h_all_camps).gl (D.h_all_camps).F.kp (D.h_all_camps).bi (takes_of rfl rfl rfl rfl) (sa_cons se_int sa_nil)) (sa_cons (se_call (ok_is_camps (base := base) D) (rm hr) (by rfl) (D.h_is_camps).gl (D.h_is_camps).F.kp (D.h_is_camps).bi (takes_of rfl rfl rfl rfl) (sa_cons (se_tup (sa_cons (se_tup (sa_cons se_int sa_nil)) (sa_cons (se_tup (sa_cons se_int sa_nil)) sa_nil))) (sa_cons se_int sa_nil))) (sa_cons (se_call (ok_is_camps (base := base) D) (rm hr) (by rfl) (D.h_is_camps).gl (D.h_is_camps).F.kp (D.h_is_camps).bi (takes_of rfl rfl rfl rfl) (sa_cons (se_tup (sa_cons (se_tup (sa_cons se_int (sa_cons se_int (sa_cons se_int (sa_cons se_int (sa_cons se_int sa_nil)))))) (sa_cons (se_tup (sa_cons se_int (sa_cons se_int (sa_cons se_int (sa_cons se_int sa_nil))))) sa_nil))) (sa_cons se_int sa_nil))) sa_nil))))))
      (ss_cons (s_set sc__law_made_right.nd (by rfl) (by first | exact Or.inl rfl | exact Or.inr rfl) (se_add (sv 4) (se_lst (sa_cons (se_lst (sa_cons (se_tup (sa_cons (se_tup (sa_cons se_int sa_nil)) (sa_cons (se_tup (sa_cons se_int sa_nil)) sa_nil))) sa_nil)) (sa_cons se_bl (sa_cons se_bl sa_nil))))))
      (ss_cons (s_set sc__law_made_right.nd (by rfl) (by first | exact Or.inl rfl | exact Or.inr rfl) (se_add (sv 3) (se_lst (sa_cons (se_call (ok__law_heard (base := base) D) (rm hr) (by rfl) (D.h__law_heard).gl (D.h__law_heard).F.kp (D.h__law_heard).bi (takes_of rfl rfl rfl rfl) (sa_cons (se_tup (sa_cons se_int sa_nil)) (sa_cons (se_tup (sa_cons se_int (sa_cons se_int sa_nil))) sa_nil))) (sa_cons (se_call (ok__law_heard (base := base) D) (rm hr) (by rfl) (D.h__law_heard).gl (D.h__law_heard).F.kp (D.h__law_heard).bi (takes_of rfl rfl rfl rfl) (sa_cons (se_lst (sa_cons se_int (sa_cons se_int sa_nil))) (sa_cons (se_lst (sa_cons se_int sa_nil)) sa_nil))) (sa_cons (se_call (ok__law_heard (base := base) D) (rm hr) (by rfl) (D.h__law_heard).gl (D.h__law_heard).F.kp (D.h__law_heard).bi (takes_of rfl rfl rfl rfl) (sa_cons (se_tup (sa_cons se_int sa_nil)) (sa_cons (se_tup (sa_cons se_int (sa_cons se_int sa_nil))) sa_nil))) (sa_cons (se_call (ok__law_heard (base := base) D) (rm hr) (by rfl) (D.h__law_heard).gl (D.h__law_heard).F.kp (D.h__law_heard).bi (takes_of rfl rfl rfl rfl) (sa_cons (se_lst (sa_cons se_int (sa_cons se_int sa_nil))) (sa_cons (se_tup (sa_cons se_int sa_nil)) sa_nil))) (sa_cons (se_callK (ks := ["one", "lot"]) [1, 0] (ok_in_camps (base := base) D) (rm hr) (by rfl) (D.h_in_camps).gl (D.h_in_camps).F.kp (fun s ws _ hl => match ws, hl with | [u0, u1], _ => bindsTo (D.h_in_camps).F (fun _ _ _ _ _ _ => rfl)) (takes_of rfl rfl rfl rfl) (sk_cons (se_tup (sa_cons se_int sa_nil)) (sk_cons (se_tup (sa_cons se_int sa_nil)) sk_nil))) (sa_cons (se_call (ok_in_camps (base := base) D) (rm hr) (by rfl) (D.h_in_camps).gl (D.h_in_camps).F.kp (D.h_in_camps).bi (takes_of rfl rfl rfl rfl) (sa_cons (se_tup (sa_cons se_int (sa_cons se_int sa_nil))) (sa_cons (se_tup (sa_cons se_int sa_nil)) sa_nil))) sa_nil)))))))))
      (ss_cons (s_set sc__law_made_right.nd (by rfl) (by first | exact Or.inl rfl | exact Or.inr rfl) (se_add (sv 4) (se_lst (sa_cons (se_tup (sa_cons (se_tup (sa_cons se_int (sa_cons se_int sa_nil))) (sa_cons (se_tup (sa_cons se_int sa_nil)) sa_nil))) (sa_cons (se_tup (sa_cons (se_tup (sa_cons se_int (sa_cons se_int sa_nil))) (sa_cons (se_tup (sa_cons se_int sa_nil)) sa_nil))) (sa_cons (se_lst (sa_cons se_str (sa_cons se_bl sa_nil))) (sa_cons (se_lst (sa_cons se_str (sa_cons se_bl sa_nil))) (sa_cons (se_tup (sa_cons (se_tup (sa_cons se_int sa_nil)) (sa_cons (se_tup (sa_cons se_int sa_nil)) sa_nil))) (sa_cons (se_tup (sa_cons (se_tup (sa_cons se_int (sa_cons se_int sa_nil))) (sa_cons (se_tup (sa_cons se_int sa_nil)) sa_nil))) sa_nil)))))))))
      (ss_cons (s_set sc__law_made_right.nd (by rfl) (by first | exact Or.inl rfl | exact Or.inr rfl) (se_tup (sa_cons (se_tup (sa_cons se_int (sa_cons se_int sa_nil))) (sa_cons (se_tup (sa_cons se_int (sa_cons se_int sa_nil))) sa_nil))))
      (ss_cons (s_set sc__law_made_right.nd (by rfl) (by first | exact Or.inl rfl | exact Or.inr rfl) (se_add (sv 3) (se_lc (own := [("own", 2)]) 10000 rfl sc__law_made_right.nd (si_seq (se_tup (sa_cons (se_tup (sa_cons (se_tup (sa_cons se_int sa_nil)) (sa_cons (se_tup (sa_cons se_int sa_nil)) sa_nil))) (sa_cons (se_tup (sa_cons (se_tup (sa_cons se_int sa_nil)) (sa_cons (se_tup (sa_cons se_int sa_nil)) sa_nil))) (sa_cons (se_tup (sa_cons (se_tup (sa_cons se_int (sa_cons se_int sa_nil))) (sa_cons (se_tup (sa_cons se_int sa_nil)) sa_nil))) (sa_cons (sv 6) (sa_cons (se_tup (sa_cons (se_tup (sa_cons se_int sa_nil)) (sa_cons (se_tup (sa_cons se_int sa_nil)) sa_nil))) (sa_cons (se_tup (sa_cons (se_tup (sa_cons se_int (sa_cons se_int sa_nil))) (sa_cons (se_tup (sa_cons se_int sa_nil)) sa_nil))) (sa_cons (se_tup (sa_cons (se_tup (sa_cons se_int (sa_cons se_int sa_nil))) (sa_cons (se_tup (sa_cons se_int (sa_cons se_int (sa_cons se_int sa_nil)))) sa_nil))) sa_nil))))))))) (blk_of (by kernel_rfl)) (by decide) (fun _ _ _ _ _ => (sg_name sc__law_made_right.nd (by rfl) (by first | exact Or.inl rfl | exact Or.inr rfl))) (fun _ _ _ _ _ => sts_nil) (fun _ _ _ _ _ => (se_call (ok_are_within (base := base) D) (rm hr) (by rfl) (D.h_are_within).gl (D.h_are_within).F.kp (D.h_are_within).bi takes0 (sa_cons (sv 2) (sa_cons (sv 6) sa_nil)))))))
      (ss_cons (s_set sc__law_made_right.nd (by rfl) (by first | exact Or.inl rfl | exact Or.inr rfl) (se_add (sv 4) (se_lst (sa_cons se_bl (sa_cons se_bl (sa_cons se_bl (sa_cons se_bl (sa_cons se_bl (sa_cons se_bl (sa_cons se_bl sa_nil))))))))))
      (ss_cons (s_set sc__law_made_right.nd (by rfl) (by first | exact Or.inl rfl | exact Or.inr rfl) (se_add (sv 3) (se_lst (sa_cons (se_callK (ks := ["other", "camps"]) [1, 0] (ok_are_within (base := base) D) (rm hr) (by rfl) (D.h_are_within).gl (D.h_are_within).F.kp (fun s ws _ hl => match ws, hl with | [u0, u1], _ => bindsTo (D.h_are_within).F (fun _ _ _ _ _ _ => rfl)) (takes_of rfl rfl rfl rfl) (sk_cons (se_lst (sa_cons (se_lst (sa_cons se_int (sa_cons se_int sa_nil))) (sa_cons (se_lst (sa_cons se_int (sa_cons se_int sa_nil))) sa_nil))) (sk_cons (se_lst (sa_cons (se_lst (sa_cons se_int sa_nil)) (sa_cons (se_lst (sa_cons se_int sa_nil)) sa_nil))) sk_nil))) (sa_cons (se_call (ok_are_within (base := base) D) (rm hr) (by rfl) (D.h_are_within).gl (D.h_are_within).F.kp (D.h_are_within).bi (takes_of rfl rfl rfl rfl) (sa_cons (sv 6) (sa_cons (se_tup (sa_cons (se_tup (sa_cons se_int sa_nil)) (sa_cons (se_tup (sa_cons se_int sa_nil)) sa_nil))) sa_nil))) sa_nil)))))
      (ss_cons (s_set sc__law_made_right.nd (by rfl) (by first | exact Or.inl rfl | exact Or.inr rfl) (se_add (sv 4) (se_lst (sa_cons se_bl (sa_cons se_bl sa_nil)))))
      (ss_cons (s_set sc__law_made_right.nd (by rfl) (by first | exact Or.inl rfl | exact Or.inr rfl) (se_add (sv 3) (se_lst (sa_cons (se_call (ok_greatest_camps (base := base) D) (rm hr) (by rfl) (D.h_greatest_camps).gl (D.h_greatest_camps).F.kp (D.h_greatest_camps).bi (takes_of rfl rfl rfl rfl) (sa_cons (se_tup sa_nil) sa_nil)) (sa_cons (se_call (ok_greatest_camps (base := base) D) (rm hr) (by rfl) (D.h_greatest_camps).gl (D.h_greatest_camps).F.kp (D.h_greatest_camps).bi (takes_of rfl rfl rfl rfl) (sa_cons (sv 0) sa_nil)) (sa_cons (se_callK (ks := ["some"]) [0] (ok_greatest_camps (base := base) D) (rm hr) (by rfl) (D.h_greatest_camps).gl (D.h_greatest_camps).F.kp (fun s ws _ hl => match ws, hl with | [u0], _ => bindsTo (D.h_greatest_camps).F (fun _ _ _ _ _ _ => rfl)) (takes_of rfl rfl rfl rfl) (sk_cons (se_tup (sa_cons (se_sub hr (sv 0) se_int (fun _ _ => rfl)) (sa_cons (se_sub hr (sv 0) se_int (fun _ _ => rfl)) (sa_cons (se_sub hr (sv 0) se_int (fun _ _ => rfl)) sa_nil)))) sk_nil)) (sa_cons (se_call (ok_greatest_camps (base := base) D) (rm hr) (by rfl) (D.h_greatest_camps).gl (D.h_greatest_camps).F.kp (D.h_greatest_camps).bi (takes_of rfl rfl rfl rfl) (sa_cons (se_lst (sa_cons (se_lst (sa_cons (se_lst (sa_cons se_int sa_nil)) (sa_cons (se_lst (sa_cons se_int sa_nil)) sa_nil))) (sa_cons (se_lst (sa_cons (se_lst (sa_cons se_int (sa_cons se_int sa_nil))) (sa_cons (se_lst (sa_cons se_int sa_nil)) sa_nil))) sa_nil))) sa_nil)) sa_nil)))))))
      (ss_cons (s_set sc__law_made_right.nd (by rfl) (by first | exact Or.inl rfl | exact Or.inr rfl) (se_add (sv 4) (se_lst (sa_cons (se_tup sa_nil) (sa_cons (se_tup (sa_cons (se_tup (sa_cons (se_tup (sa_cons se_int sa_nil)) (sa_cons (se_tup (sa_cons se_int (sa_cons se_int sa_nil))) sa_nil))) (sa_cons (se_tup (sa_cons (se_tup (sa_cons se_int (sa_cons se_int sa_nil))) (sa_cons (se_tup (sa_cons se_int sa_nil)) sa_nil))) (sa_cons (se_tup (sa_cons (se_tup (sa_cons se_int (sa_cons se_int sa_nil))) (sa_cons (se_tup (sa_cons se_int sa_nil)) sa_nil))) sa_nil)))) (sa_cons (se_tup (sa_cons (se_tup (sa_cons (se_tup (sa_cons se_int sa_nil)) (sa_cons (se_tup (sa_cons se_int sa_nil)) sa_nil))) (sa_cons (se_tup (sa_cons (se_tup (sa_cons se_int sa_nil)) (sa_cons (se_tup (sa_cons se_int sa_nil)) sa_nil))) sa_nil))) (sa_cons (se_tup (sa_cons (se_tup (sa_cons (se_tup (sa_cons se_int (sa_cons se_int sa_nil))) (sa_cons (se_tup (sa_cons se_int sa_nil)) sa_nil))) sa_nil)) sa_nil)))))))
      (ss_cons (s_set sc__law_made_right.nd (by rfl) (by first | exact Or.inl rfl | exact Or.inr rfl) (se_add (sv 3) (se_lst (sa_cons (se_call (ok_renamed_camps (base := base) D) (rm hr) (by rfl) (D.h_renamed_camps).gl (D.h_renamed_camps).F.kp (D.h_renamed_camps).bi (takes_of rfl rfl rfl rfl) (sa_cons (se_tup (sa_cons (se_tup (sa_cons se_int sa_nil)) (sa_cons (se_tup (sa_cons se_int (sa_cons se_int sa_nil))) sa_nil))) (sa_cons (se_tup (sa_cons se_int (sa_cons se_int (sa_cons se_int sa_nil)))) sa_nil))) (sa_cons (se_callK (ks := ["order", "camps"]) [1, 0] (ok_renamed_camps (base := base) D) (rm hr) (by rfl) (D.h_renamed_camps).gl (D.h_renamed_camps).F.kp (fun s ws _ hl => match ws, hl with | [u0, u1], _ => bindsTo (D.h_renamed_camps).F (fun _ _ _ _ _ _ => rfl)) (takes_of rfl rfl rfl rfl) (sk_cons (se_lst (sa_cons se_int (sa_cons se_int (sa_cons se_int sa_nil)))) (sk_cons (se_lst (sa_cons (se_lst (sa_cons se_int (sa_cons se_int sa_nil))) (sa_cons (se_lst (sa_cons se_int sa_nil)) sa_nil))) sk_nil))) (sa_cons (se_call (ok_renamed_camps (base := base) D) (rm hr) (by rfl) (D.h_renamed_camps).gl (D.h_renamed_camps).F.kp (D.h_renamed_camps).bi (takes_of rfl rfl rfl rfl) (sa_cons (se_tup (sa_cons (se_tup (sa_cons se_int (sa_cons se_int sa_nil))) (sa_cons (se_tup (sa_cons se_int (sa_cons se_int sa_nil))) sa_nil))) (sa_cons (se_tup (sa_cons se_int (sa_cons se_int (sa_cons se_int (sa_cons se_int sa_nil))))) sa_nil))) sa_nil))))))
      (ss_one (s_ret (se_call (ok__law_same (base := base) D) (rm hr) (by rfl) (D.h__law_same).gl (D.h__law_same).F.kp (D.h__law_same).bi (takes_of rfl rfl rfl rfl) (sa_cons (sv 3) (sa_cons (se_add (sv 4) (se_lst (sa_cons (se_tup (sa_cons (se_tup (sa_cons se_int (sa_cons se_int sa_nil))) (sa_cons (se_tup (sa_cons se_int sa_nil)) sa_nil))) (sa_cons (se_tup (sa_cons (se_tup (sa_cons se_int (sa_cons se_int sa_nil))) (sa_cons (se_tup (sa_cons se_int sa_nil)) sa_nil))) (sa_cons (se_tup (sa_cons (se_tup (sa_cons se_int (sa_cons se_int sa_nil))) (sa_cons (se_tup (sa_cons se_int (sa_cons se_int sa_nil))) sa_nil))) sa_nil))))) sa_nil))))))))))))))))))))))))
theorem ok__law_made_right (D : Defs K mg) : FnOk P w K mg base (L2.CX P w) 13 (D.h__law_made_right).f (D.h__law_made_right).fd [] (spNc ⟨K, w⟩ (tx D) F__law_made_right) := fn_okD (g := g__law_made_right) (D.h__law_made_right).F sc__law_made_right (hF := rfl) (h1 := rfl) (h2 := rfl) (body := fun cdv A outer s H E hr => b__law_made_right D _ cdv A outer s H E hr)
/-! ### _law_moves_right -/
theorem sc__law_moves_right : FnScope ["s_so", "t_so", "free_so", "turn_so", "some_so", "own", "got", "due", "four_so", "k", "mix_so"] [] (defScope s__law_moves_right) := ⟨rfl, rfl, rfl, by decide +kernel, rfl, by decide +kernel, by decide +kernel⟩
def g__law_moves_right : DS := (gSeq (gAsg (dTup (dCons (dTup (dCons (dTup (dCons (dTup (dCons (dC (.int 0)) dNil)) (dCons (dTup (dCons (dC (.int 0)) dNil)) (dCons (dTup (dCons (dC (.int 1)) dNil)) dNil)))) (dCons (dC .non) dNil))) (dCons (dTup (dCons (dTup (dCons (dTup (dCons (dC (.int 1)) dNil)) (dCons (dTup (dCons (dC (.int 2)) dNil)) (dCons (dTup (dCons (dC (.int 2)) dNil)) dNil)))) (dCons (dC .non) dNil))) dNil))) (gTupD 2 (gsCons (gN 0) (gsCons (gN 1) gsNil))))
  (gSeq (gAsg (dTup (dCons (dFn F_one_choice (dCons (dC (.str "any")) (dCons (dTup (dCons (dVar 0) (dCons (dVar 1) dNil))) dNil))) (dCons (dFn F_one_round (dCons (dTup (dCons (dVar 0) (dCons (dVar 1) dNil))) dNil)) dNil))) (gTupD 2 (gsCons (gN 2) (gsCons (gN 3) gsNil))))
  (gSeq (gAsg (dFn F_all_camps (dCons (dC (.int 3)) dNil)) (gN 4))
  (gSeq (gAsg (dLst (dCons (dLc (iSeq (dVar 4)) (gN 5) dYes (dFn F_led (dCons (dOp dIxA (dVar 0) (dC (.int 0))) (dCons (dVar 5) dNil))) [5] 10000) (dCons (dLc (iSeq (dVar 4)) (gN 5) dYes (dFnK F_led [0, 1] 2 (dCons (dLst (dCons (dLst (dCons (dC (.int 1)) dNil)) (dCons (dLst (dCons (dC (.int 2)) dNil)) (dCons (dLst (dCons (dC (.int 2)) dNil)) dNil)))) (dCons (dVar 5) dNil))) [5] 10000) dNil))) (gN 6))
  (gSeq (gAsg (dLst (dCons (dLst (dCons (dTup (dCons (dTup (dCons (dC (.int 0)) (dCons (dC (.int 1)) dNil))) (dCons (dTup (dCons (dC (.int 2)) dNil)) dNil))) (dCons (dTup (dCons (dTup (dCons (dC (.int 0)) (dCons (dC (.int 1)) dNil))) (dCons (dTup (dCons (dC (.int 2)) dNil)) dNil))) (dCons (dC .non) (dCons (dC .non) (dCons (dTup (dCons (dTup (dCons (dC (.int 0)) (dCons (dC (.int 1)) dNil))) (dCons (dTup (dCons (dC (.int 2)) dNil)) dNil))) (dCons (dC .non) dNil))))))) (dCons (dOp dAdd (dLst (dCons (dC .non) (dCons (dC .non) (dCons (dC .non) dNil)))) (dOp dMul (dLst (dCons (dTup (dCons (dTup (dCons (dC (.int 0)) dNil)) (dCons (dTup (dCons (dC (.int 1)) (dCons (dC (.int 2)) dNil))) dNil))) dNil)) (dC (.int 3)))) dNil))) (gN 7))
  (gSeq (gAsg (dOp dAdd (dVar 6) (dLst (dCons (dFn F_led (dCons (dTup (dCons (dTup (dCons (dC (.int 1)) dNil)) (dCons (dTup (dCons (dC (.int 0)) dNil)) dNil))) (dCons (dTup (dCons (dTup (dCons (dC (.int 0)) dNil)) (dCons (dTup (dCons (dC (.int 1)) dNil)) dNil))) dNil))) (dCons (dFn F_led (dCons (dTup (dCons (dTup (dCons (dC (.int 1)) (dCons (dC (.int 2)) dNil))) (dCons (dTup (dCons (dC (.int 0)) dNil)) (dCons (dTup (dCons (dC (.int 0)) dNil)) dNil)))) (dCons (dTup (dCons (dTup (dCons (dC (.int 0)) dNil)) (dCons (dTup (dCons (dC (.int 1)) (dCons (dC (.int 2)) dNil))) dNil))) dNil))) (dCons (dFn F_led (dCons (dTup (dCons (dTup (dCons (dC (.int 0)) (dCons (dC (.int 1)) dNil))) (dCons (dTup (dCons (dC (.int 0)) (dCons (dC (.int 1)) dNil))) dNil))) (dCons (dTup (dCons (dTup (dCons (dC (.int 0)) dNil)) (dCons (dTup (dCons (dC (.int 1)) dNil)) dNil))) dNil))) (dCons (dFn F_led (dCons (dTup (dCons (dTup (dCons (dC (.int 3)) dNil)) (dCons (dTup (dCons (dC (.int 3)) dNil)) (dCons (dTup (dCons (dC (.int 0)) dNil)) (dCons (dTup (dCons (dC (.int 0)) (dCons (dC (.int 1)) dNil))) dNil))))) (dCons (dTup (dCons (dTup (dCons (dC (.int 0)) dNil)) (dCons (dTup (dCons (dC (.int 3)) dNil)) dNil))) dNil))) dNil)))))) (gN 6))
  (gSeq (gAsg (dOp dAdd (dVar 7) (dLst (dCons (dTup (dCons (dTup (dCons (dC (.int 0)) dNil)) (dCons (dTup (dCons (dC (.int 1)) dNil)) dNil))) (dCons (dTup (dCons (dTup (dCons (dC (.int 0)) dNil)) (dCons (dTup (dCons (dC (.int 1)) (dCons (dC (.int 2)) dNil))) dNil))) (dCons (dC .non) (dCons (dTup (dCons (dTup (dCons (dC (.int 0)) (dCons (dC (.int 1)) dNil))) (dCons (dTup (dCons (dC (.int 2)) dNil)) dNil))) dNil)))))) (gN 7))
  (gSeq (gAsg (dTup (dCons (dTup (dCons (dC (.int 0)) (dCons (dC (.int 1)) dNil))) (dCons (dTup (dCons (dC (.int 2)) dNil)) dNil))) (gN 8))
  (gSeq (gAsg (dOp dAdd (dVar 6) (dLst (dCons (dFn F_led_along (dCons (dVar 3) (dCons (dC (.int 1)) (dCons (dTup (dCons (dC (.int 0)) (dCons (dC (.int 0)) dNil))) (dCons (dVar 8) dNil))))) (dCons (dFn F_led_along (dCons (dVar 3) (dCons (dC (.int 0)) (dCons (dTup (dCons (dC (.int 0)) dNil)) (dCons (dVar 8) dNil))))) (dCons (dFn F_led_along (dCons (dVar 2) (dCons (dC (.int 0)) (dCons (dTup dNil) (dCons (dVar 8) dNil))))) dNil))))) (gN 6))
  (gSeq (gExpr (dMeth oAppend (dVar 6) (dCons (dFnK F_led_along [3, 2, 1, 0] 4 (dCons (dLst (dCons (dLst (dCons (dC (.int 0)) (dCons (dC (.int 1)) dNil))) (dCons (dLst (dCons (dC (.int 2)) dNil)) dNil))) (dCons (dLst (dCons (dC (.int 1)) dNil)) (dCons (dC (.int 0)) (dCons (dCall oList (dCons (dVar 2) dNil)) dNil))))) dNil)))
  (gSeq (gAsg (dOp dAdd (dVar 7) (dLst (dCons (dVar 8) (dCons (dC .non) (dCons (dVar 8) (dCons (dTup (dCons (dTup (dCons (dC (.int 0)) dNil)) (dCons (dTup (dCons (dC (.int 1)) (dCons (dC (.int 2)) dNil))) dNil))) dNil)))))) (gN 7))
  (gSeq (gAsg (dOp dAdd (dVar 6) (dLst (dCons (dFn F_life_along (dCons (dVar 3) (dCons (dC (.int 1)) (dCons (dTup (dCons (dC (.int 0)) (dCons (dC (.int 0)) (dCons (dC (.int 0)) dNil)))) (dCons (dVar 8) dNil))))) (dCons (dFn F_life_along (dCons (dVar 2) (dCons (dC (.int 0)) (dCons (dTup (dCons (dC (.int 0)) (dCons (dC (.int 0)) (dCons (dC (.int 0)) dNil)))) (dCons (dOp dIxA (dVar 4) (dC (.int 0))) dNil))))) (dCons (dFn F_life_along (dCons (dVar 2) (dCons (dC (.int 0)) (dCons (dTup dNil) (dCons (dVar 8) dNil))))) (dCons (dFn F_life_along (dCons (dVar 2) (dCons (dC (.int 0)) (dCons (dTup (dCons (dC (.int 0)) (dCons (dC (.int 1)) dNil))) (dCons (dVar 8) dNil))))) dNil)))))) (gN 6))
  (gSeq (gExpr (dMeth oAppend (dVar 6) (dCons (dFnK F_life_along [3, 2, 1, 0] 4 (dCons (dLst (dCons (dLst (dCons (dC (.int 0)) (dCons (dC (.int 1)) dNil))) (dCons (dLst (dCons (dC (.int 2)) dNil)) dNil))) (dCons (dLst (dCons (dC (.int 0)) (dCons (dC (.int 0)) (dCons (dC (.int 0)) dNil)))) (dCons (dC (.int 1)) (dCons (dCall oList (dCons (dVar 3) dNil)) dNil))))) dNil)))
  (gSeq (gAsg (dOp dAdd (dVar 7) (dLst (dCons (dC (.int 3)) (dCons (dC (.int 1)) (dCons (dC (.int 0)) (dCons (dC (.int 0)) (dCons (dC (.int 3)) dNil))))))) (gN 7))
  (gSeq (gAsg (dOp dAdd (dVar 6) (dLst (dCons (dFn F_left_alive (dCons (dVar 3) (dCons (dC (.int 0)) (dCons (dTup (dCons (dC (.int 0)) dNil)) dNil)))) (dCons (dFn F_left_alive (dCons (dVar 3) (dCons (dC (.int 0)) (dCons (dTup (dCons (dC (.int 0)) (dCons (dC (.int 0)) dNil))) dNil)))) (dCons (dFn F_left_alive (dCons (dVar 2) (dCons (dC (.int 0)) (dCons (dTup (dCons (dC (.int 0)) (dCons (dC (.int 0)) dNil))) dNil)))) (dCons (dFnK F_left_alive [2, 1, 0] 3 (dCons (dLst dNil) (dCons (dC (.int 0)) (dCons (dCall oList (dCons (dVar 3) dNil)) dNil)))) (dCons (dFn F_left_alive (dCons (dVar 3) (dCons (dC (.int 1)) (dCons (dTup (dCons (dC (.int 0)) (dCons (dC (.int 0)) (dCons (dC (.int 0)) dNil)))) dNil)))) dNil))))))) (gN 6))
  (gSeq (gAsg (dOp dAdd (dVar 7) (dLst (dCons (dTup (dCons (dVar 8) dNil)) (dCons (dTup (dCons (dTup (dCons (dTup (dCons (dC (.int 0)) dNil)) (dCons (dTup (dCons (dC (.int 1)) (dCons (dC (.int 2)) dNil))) dNil))) dNil)) (dCons (dTup dNil) (dCons (dTup (dCons (dOp dIxA (dVar 4) (dC (.int 1))) (dCons (dOp dIxA (dVar 4) (dC (.int 3))) (dCons (dOp dIxA (dVar 4) (dC (.int 4))) dNil)))) (dCons (dTup (dCons (dTup (dCons (dTup (dCons (dC (.int 0)) dNil)) (dCons (dTup (dCons (dC (.int 1)) (dCons (dC (.int 2)) dNil))) dNil))) dNil)) dNil))))))) (gN 7))
  (gSeq (gAsg (dOp dAdd (dVar 6) (dLst (dCons (dFn F_kills_all (dCons (dVar 3) (dCons (dC (.int 0)) (dCons (dTup (dCons (dC (.int 0)) (dCons (dC (.int 0)) (dCons (dC (.int 0)) (dCons (dC (.int 0)) dNil))))) dNil)))) (dCons (dFn F_kills_all (dCons (dVar 2) (dCons (dC (.int 0)) (dCons (dTup (dCons (dC (.int 1)) (dCons (dC (.int 1)) dNil))) dNil)))) (dCons (dFn F_kills_all (dCons (dVar 2) (dCons (dC (.int 0)) (dCons (dTup (dCons (dC (.int 0)) (dCons (dC (.int 1)) (dCons (dC (.int 1)) dNil)))) dNil)))) (dCons (dFnK F_kills_all [2, 1, 0] 3 (dCons (dTup (dCons (dC (.int 0)) dNil)) (dCons (dC (.int 0)) (dCons (dFn F_one_round (dCons (dTup (dCons (dTup (dCons (dTup (dCons (dTup (dCons (dC (.int 0)) dNil)) dNil)) (dCons (dC .non) dNil))) dNil)) dNil)) dNil)))) dNil)))))) (gN 6))
  (gSeq (gAsg (dOp dAdd (dVar 7) (dLst (dCons (dC (.bl false)) (dCons (dC (.bl true)) (dCons (dC (.bl true)) (dCons (dC (.bl true)) dNil)))))) (gN 7))
  (gSeq (gAsg (dOp dAdd (dVar 6) (dLst (dCons (dLc (iR1 (dCons (dC (.int 3)) dNil)) (gN 9) dYes (dFn F_hangs_on (dCons (dVar 3) (dCons (dC (.int 0)) (dCons (dTup (dCons (dC (.int 0)) (dCons (dC (.int 0)) dNil))) (dCons (dVar 9) dNil))))) [9] 10000) (dCons (dFn F_hangs_on (dCons (dVar 3) (dCons (dC (.int 0)) (dCons (dTup dNil) (dCons (dC (.int 2)) dNil))))) (dCons (dFnK F_hangs_on [3, 2, 1, 0] 4 (dCons (dC (.int 0)) (dCons (dLst (dCons (dC (.int 0)) (dCons (dC (.int 0)) dNil))) (dCons (dC (.int 1)) (dCons (dCall oList (dCons (dVar 3) dNil)) dNil))))) dNil))))) (gN 6))
  (gSeq (gAsg (dOp dAdd (dVar 7) (dLst (dCons (dLst (dCons (dTup (dCons (dC (.int 0)) dNil)) (dCons (dTup (dCons (dC (.int 1)) dNil)) (dCons (dTup (dCons (dC (.int 1)) dNil)) dNil)))) (dCons (dTup (dCons (dC (.int 2)) dNil)) (dCons (dTup (dCons (dC (.int 1)) dNil)) dNil))))) (gN 7))
  (gSeq (gAsg (dFn F_one_round (dCons (dTup (dCons (dTup (dCons (dTup (dCons (dTup (dCons (dC (.int 0)) (dCons (dC (.int 1)) dNil))) (dCons (dTup (dCons (dC (.int 2)) dNil)) (dCons (dTup (dCons (dC (.int 0)) dNil)) dNil)))) (dCons (dC .non) dNil))) dNil)) dNil)) (gN 10))
  (gSeq (gAsg (dOp dAdd (dVar 6) (dLst (dCons (dLc (iR1 (dCons (dC (.int 3)) dNil)) (gN 9) dYes (dFn F_hangs_on (dCons (dVar 10) (dCons (dC (.int 0)) (dCons (dTup (dCons (dC (.int 0)) (dCons (dC (.int 0)) dNil))) (dCons (dVar 9) dNil))))) [9] 10000) (dCons (dFn F_common_places (dCons (dVar 10) (dCons (dC (.int 0)) (dCons (dTup (dCons (dC (.int 0)) (dCons (dC (.int 0)) dNil))) dNil)))) (dCons (dFn F_common_places (dCons (dVar 10) (dCons (dC (.int 0)) (dCons (dTup (dCons (dC (.int 0)) dNil)) dNil)))) (dCons (dFn F_common_places (dCons (dVar 2) (dCons (dC (.int 0)) (dCons (dTup (dCons (dC (.int 1)) (dCons (dC (.int 1)) dNil))) dNil)))) (dCons (dFn F_kills_all (dCons (dVar 10) (dCons (dC (.int 0)) (dCons (dTup (dCons (dC (.int 0)) (dCons (dC (.int 0)) dNil))) dNil)))) dNil))))))) (gN 6))
  (gSeq (gAsg (dOp dAdd (dVar 7) (dLst (dCons (dLst (dCons (dTup (dCons (dC (.int 0)) (dCons (dC (.int 1)) (dCons (dC (.int 2)) dNil)))) (dCons (dTup (dCons (dC (.int 0)) dNil)) (dCons (dTup (dCons (dC (.int 0)) (dCons (dC (.int 1)) dNil))) dNil)))) (dCons (dTup (dCons (dC (.int 0)) dNil)) (dCons (dTup dNil) (dCons (dTup (dCons (dC (.int 2)) dNil)) (dCons (dC (.bl true)) dNil))))))) (gN 7))
  (gRet (dFn (F__law_same RL) (dCons (dOp dAdd (dVar 6) (dLst (dCons (dFnK F_common_places [2, 1, 0] 3 (dCons (dLst (dCons (dC (.int 0)) (dCons (dC (.int 0)) dNil))) (dCons (dC (.int 0)) (dCons (dCall oList (dCons (dVar 10) dNil)) dNil)))) dNil))) (dCons (dOp dAdd (dVar 7) (dLst (dCons (dTup (dCons (dC (.int 0)) dNil)) dNil))) dNil)))))))))))))))))))))))))))
def F__law_moves_right : DF := runF g__law_moves_right 0 11
theorem b__law_moves_right (D : Defs K mg) (f : Addr) (cdv : Value) (A : Around) (outer : List Env) (s : Shared) (H : Hp) (E : XK) (hr : Room 13 (A.deeper (envOfC "_law_moves_right" (defScope s__law_moves_right) s.heap.objs.size f cdv))) :
    SSs (cxOf (L2.CX P w) P w K mg base ["s_so", "t_so", "free_so", "turn_so", "some_so", "own", "got", "due", "four_so", "k", "mix_so"] "_law_moves_right" (defScope s__law_moves_right) f cdv A outer s H E) (tx D) (wOf E) (defBody s__law_moves_right) g__law_moves_right :=
  (ss_cons (s_asg (se_tup (sa_cons (se_tup (sa_cons (se_tup (sa_cons (se_tup (sa_cons se_int sa_nil)) (sa_cons (se_tup (sa_cons se_int sa_nil)) (sa_cons (se_tup (sa_cons se_int sa_nil)) sa_nil)))) (sa_cons se_non sa_nil))) (sa_cons (se_tup (sa_cons (se_tup (sa_cons (se_tup (sa_cons se_int sa_nil)) (sa_cons (se_tup (sa_cons se_int sa_nil)) (sa_cons (se_tup (sa_cons se_int sa_nil)) sa_nil)))) (sa_cons se_non sa_nil))) sa_nil))) (sg_tup rfl (sgs_cons (sg_name sc__law_moves_right.nd (by rfl) (by first | exact Or.inl rfl | exact Or.inr rfl)) (sgs_cons (sg_name sc__law_moves_right.nd (by rfl) (by first | exact Or.inl rfl | exact Or.inr rfl)) sgs_nil))))
      (ss_cons (s_asg (se_tup (sa_cons (se_call (ok_one_choice (base := base) D) (rm hr) (by rfl) (D.h_one_choice).gl (D.h_one_choice).F.kp (D.h_one_choice).bi (takes_of rfl rfl rfl rfl) (sa_cons se_str (sa_cons (se_tup (sa_cons (sv 0) (sa_cons (sv 1) sa_nil))) sa_nil))) (sa_cons (se_call (ok_one_round (base := base) D) (rm hr) (by rfl) (D.h_one_round).gl (D.h_one_round).F.kp (D.h_one_round).bi (takes_of rfl rfl rfl rfl) (sa_cons (se_tup (sa_cons (sv 0) (sa_cons (sv 1) sa_nil))) sa_nil)) sa_nil))) (sg_tup rfl (sgs_cons (sg_name sc__law_moves_right.nd (by rfl) (by first | exact Or.inl rfl | exact Or.inr rfl)) (sgs_cons (sg_name sc__law_moves_right.nd (by rfl) (by first | exact Or.inl rfl | exact Or.inr rfl)) sgs_nil))))
      (ss_cons (s_set sc__law_moves_right.nd (by rfl) (by first | exact Or.inl rfl | exact Or.inr rfl) (se_call (ok_all_camps (base := base) D) (rm hr) (by rfl) (D.h_all_camps).gl (D.h_all_camps).F.kp (D.h_all_camps).bi (takes_of rfl rfl rfl rfl) (sa_cons se_int sa_nil)))
      (ss_cons (s_set sc__law_moves_right.nd (by rfl) (by first | exact Or.inl rfl | exact Or.inr rfl) (se_lst (sa_cons (se_lc (own := [("own", 5)]) 10000 rfl sc__law_moves_right.nd (si_seq (sv 4)) (blk_of (by kernel_rfl)) (by decide) (fun _ _ _ _ _ => (sg_name sc__law_moves_right.nd (by rfl) (by first | exact Or.inl rfl | exact Or.inr rfl))) (fun _ _ _ _ _ => sts_nil) (fun _ _ _ _ _ => (se_call (ok_led (base := base) D) (rm hr) (by rfl) (D.h_led).gl (D.h_led).F.kp (D.h_led).bi takes0 (sa_cons (se_sub hr (sv 0) se_int (fun _ _ => rfl)) (sa_cons (sv 5) sa_nil))))) (sa_cons (se_lc (own := [("own", 5)]) 10000 rfl sc__law_moves_right.nd (si_seq (sv 4)) (blk_of (by kernel_rfl)) (by decide) (fun _ _ _ _ _ => (sg_name sc__law_moves_right.nd (by rfl) (by first | exact Or.inl rfl | exact Or.inr rfl))) (fun _ _ _ _ _ => sts_nil) (fun _ _ _ _ _ => (se_callK (ks := ["looks", "camps"]) [0, 1] (ok_led (base := base) D) (rm hr) (by rfl) (D.h_led).gl (D.h_led).F.kp (fun s ws _ hl => match ws, hl with | [u0, u1], _ => bindsTo (D.h_led).F (fun _ _ _ _ _ _ => rfl)) takes0 (sk_cons (se_lst (sa_cons (se_lst (sa_cons se_int sa_nil)) (sa_cons (se_lst (sa_cons se_int sa_nil)) (sa_cons (se_lst (sa_cons se_int sa_nil)) sa_nil)))) (sk_cons (sv 5) sk_nil))))) sa_nil))))
      (ss_cons (s_set sc__law_moves_right.nd (by rfl) (by first | exact Or.inl rfl | exact Or.inr rfl) (se_lst (sa_cons (se_lst (sa_cons (se_tup (sa_cons (se_tup (sa_cons se_int (sa_cons se_int sa_nil))) (sa_cons (se_tup (sa_cons se_int sa_nil)) sa_nil))) (sa_cons (se_tup (sa_cons (se_tup (sa_cons se_int (sa_cons se_int sa_nil))) (sa_cons (se_tup (sa_cons se_int sa_nil)) sa_nil))) (sa_cons se_non (sa_cons se_non (sa_cons (se_tup (sa_cons (se_tup (sa_cons se_int (sa_cons se_int sa_nil))) (sa_cons (se_tup (sa_cons se_int sa_nil)) sa_nil))) (sa_cons se_non sa_nil))))))) (sa_cons (se_add (se_lst (sa_cons se_non (sa_cons se_non (sa_cons se_non sa_nil)))) (se_mul (se_lst (sa_cons (se_tup (sa_cons (se_tup (sa_cons se_int sa_nil)) (sa_cons (se_tup (sa_cons se_int (sa_cons se_int sa_nil))) sa_nil))) sa_nil)) se_int)) sa_nil))))
      (ss_cons (s_set sc__law_moves_right.nd (by rfl) (by first | exact Or.inl rfl | exact Or.inr rfl) (se_add (sv 6) (se_lst (sa_cons (se_call (ok_led (base := base) D) (rm hr) (by rfl) (D.h_led).gl (D.h_led).F.kp (D.h_led).bi (takes_of rfl rfl rfl rfl) (sa_cons (se_tup (sa_cons (se_tup (sa_cons se_int sa_nil)) (sa_cons (se_tup (sa_cons se_int sa_nil)) sa_nil))) (sa_cons (se_tup (sa_cons (se_tup (sa_cons se_int sa_nil)) (sa_cons (se_tup (sa_cons se_int sa_nil)) sa_nil))) sa_nil))) (sa_cons (se_call (ok_led (base := base) D) (rm hr) (by rfl) (D.h_led).gl (D.h_led).F.kp (D.h_led).bi (takes_of rfl rfl rfl rfl) (sa_cons (se_tup (sa_cons (se_tup (sa_cons se_int (sa_cons se_int sa_nil))) (sa_cons (se_tup (sa_cons se_int sa_nil)) (sa_cons (se_tup (sa_cons se_int sa_nil)) sa_nil)))) (sa_cons (se_tup (sa_cons (se_tup (sa_cons se_int sa_nil)) (sa_cons (se_tup (sa_cons se_int (sa_cons se_int sa_nil))) sa_nil))) sa_nil))) (sa_cons (se_call (ok_led (base := base) D) (rm hr) (by rfl) (D.h_led).gl (D.h_led).F.kp (D.h_led).bi (takes_of rfl rfl rfl rfl) (sa_cons (se_tup (sa_cons (se_tup (sa_cons se_int (sa_cons se_int sa_nil))) (sa_cons (se_tup (sa_cons se_int (sa_cons se_int sa_nil))) sa_nil))) (sa_cons (se_tup (sa_cons (se_tup (sa_cons se_int sa_nil)) (sa_cons (se_tup (sa_cons se_int sa_nil)) sa_nil))) sa_nil))) (sa_cons (se_call (ok_led (base := base) D) (rm hr) (by rfl) (D.h_led).gl (D.h_led).F.kp (D.h_led).bi (takes_of rfl rfl rfl rfl) (sa_cons (se_tup (sa_cons (se_tup (sa_cons se_int sa_nil)) (sa_cons (se_tup (sa_cons se_int sa_nil)) (sa_cons (se_tup (sa_cons se_int sa_nil)) (sa_cons (se_tup (sa_cons se_int (sa_cons se_int sa_nil))) sa_nil))))) (sa_cons (se_tup (sa_cons (se_tup (sa_cons se_int sa_nil)) (sa_cons (se_tup (sa_cons se_int sa_nil)) sa_nil))) sa_nil))) sa_nil)))))))
      (ss_cons (s_set sc__law_moves_right.nd (by rfl) (by first | exact Or.inl rfl | exact Or.inr rfl) (se_add (sv 7) (se_lst (sa_cons (se_tup (sa_cons (se_tup (sa_cons se_int sa_nil)) (sa_cons (se_tup (sa_cons se_int sa_nil)) sa_nil))) (sa_cons (se_tup (sa_cons (se_tup (sa_cons se_int sa_nil)) (sa_cons (se_tup (sa_cons se_int (sa_cons se_int sa_nil))) sa_nil))) (sa_cons se_non (sa_cons (se_tup (sa_cons (se_tup (sa_cons se_int (sa_cons se_int sa_nil))) (sa_cons (se_tup (sa_cons se_int sa_nil)) sa_nil))) sa_nil)))))))
      (ss_cons (s_set sc__law_moves_right.nd (by rfl) (by first | exact Or.inl rfl | exact Or.inr rfl) (se_tup (sa_cons (se_tup (sa_cons se_int (sa_cons se_int sa_nil))) (sa_cons (se_tup (sa_cons se_int sa_nil)) sa_nil))))
      (ss_cons (s_set sc__law_moves_right.nd (by rfl) (by first | exact Or.inl rfl | exact Or.inr rfl) (se_add (sv 6) (se_lst (sa_cons (se_call (ok_led_along (base := base) D) (rm hr) (by rfl) (D.h_led_along).gl (D.h_led_along).F.kp (D.h_led_along).bi (takes_of rfl rfl rfl rfl) (sa_cons (sv 3) (sa_cons se_int (sa_cons (se_tup (sa_cons se_int (sa_cons se_int sa_nil))) (sa_cons (sv 8) sa_nil))))) (sa_cons (se_call (ok_led_along (base := base) D) (rm hr) (by rfl) (D.h_led_along).gl (D.h_led_along).F.kp (D.h_led_along).bi (takes_of rfl rfl rfl rfl) (sa_cons (sv 3) (sa_cons se_int (sa_cons (se_tup (sa_cons se_int sa_nil)) (sa_cons (sv 8) sa_nil))))) (sa_cons (se_call (ok_led_along (base := base) D) (rm hr) (by rfl) (D.h_led_along).gl (D.h_led_along).F.kp (D.h_led_along).bi (takes_of rfl rfl rfl rfl) (sa_cons (sv 2) (sa_cons se_int (sa_cons (se_tup sa_nil) (sa_cons (sv 8) sa_nil))))) sa_nil))))))
      (ss_cons (s_expr (se_meth PySem.F.slot_list_append PySem.F.type_list_append mt_append om_append (sv 6) (sa_cons (se_callK (ks := ["camps", "row", "stand", "machine"]) [3, 2, 1, 0] (ok_led_along (base := base) D) (rm hr) (by rfl) (D.h_led_along).gl (D.h_led_along).F.kp (fun s ws _ hl => match ws, hl with | [u0, u1, u2, u3], _ => bindsTo (D.h_led_along).F (fun _ _ _ _ _ _ => rfl)) (takes_of rfl rfl rfl rfl) (sk_cons (se_lst (sa_cons (se_lst (sa_cons se_int (sa_cons se_int sa_nil))) (sa_cons (se_lst (sa_cons se_int sa_nil)) sa_nil))) (sk_cons (se_lst (sa_cons se_int sa_nil)) (sk_cons se_int (sk_cons (se_list D.m_list (sv 2)) sk_nil))))) sa_nil)))
      (ss_cons (s_set sc__law_moves_right.nd (by rfl) (by first | exact Or.inl rfl | exact Or.inr rfl) (se_add (sv 7) (se_lst (sa_cons (sv 8) (sa_cons se_non (sa_cons (sv 8) (sa_cons (se_tup (sa_cons (se_tup (sa_cons se_int sa_nil)) (sa_cons (se_tup (sa_cons se_int (sa_cons se_int sa_nil))) sa_nil))) sa_nil)))))))
      (ss_cons (s_set sc__law_moves_right.nd (by rfl) (by first | exact Or.inl rfl | exact Or.inr rfl) (se_add (sv 6) (se_lst (sa_cons (se_call (ok_life_along (base := base) D) (rm hr) (by rfl) (D.h_life_along).gl (D.h_life_along).F.kp (D.h_life_along).bi (takes_of rfl rfl rfl rfl) (sa_cons (sv 3) (sa_cons se_int (sa_cons (se_tup (sa_cons se_int (sa_cons se_int (sa_cons se_int sa_nil)))) (sa_cons (sv 8) sa_nil))))) (sa_cons (se_call (ok_life_along (base := base) D) (rm hr) (by rfl) (D.h_life_along).gl (D.h_life_along).F.kp (D.h_life_along).bi (takes_of rfl rfl rfl rfl) (sa_cons (sv 2) (sa_cons se_int (sa_cons (se_tup (sa_cons se_int (sa_cons se_int (sa_cons se_int sa_nil)))) (sa_cons (se_sub hr (sv 4) se_int (fun _ _ => rfl)) sa_nil))))) (sa_cons (se_call (ok_life_along (base := base) D) (rm hr) (by rfl) (D.h_life_along).gl (D.h_life_along).F.kp (D.h_life_along).bi (takes_of rfl rfl rfl rfl) (sa_cons (sv 2) (sa_cons se_int (sa_cons (se_tup sa_nil) (sa_cons (sv 8) sa_nil))))) (sa_cons (se_call (ok_life_along (base := base) D) (rm hr) (by rfl) (D.h_life_along).gl (D.h_life_along).F.kp (D.h_life_along).bi (takes_of rfl rfl rfl rfl) (sa_cons (sv 2) (sa_cons se_int (sa_cons (se_tup (sa_cons se_int (sa_cons se_int sa_nil))) (sa_cons (sv 8) sa_nil))))) sa_nil)))))))
      (ss_cons (s_expr (se_meth PySem.F.slot_list_append PySem.F.type_list_append mt_append om_append (sv 6) (sa_cons (se_callK (ks := ["camps", "row", "stand", "machine"]) [3, 2, 1, 0] (ok_life_along (base := base) D) (rm hr) (by rfl) (D.h_life_along).gl (D.h_life_along).F.kp (fun s ws _ hl => match ws, hl with | [u0, u1, u2, u3], _ => bindsTo (D.h_life_along).F (fun _ _ _ _ _ _ => rfl)) (takes_of rfl rfl rfl rfl) (sk_cons (se_lst (sa_cons (se_lst (sa_cons se_int (sa_cons se_int sa_nil))) (sa_cons (se_lst (sa_cons se_int sa_nil)) sa_nil))) (sk_cons (se_lst (sa_cons se_int (sa_cons se_int (sa_cons se_int sa_nil)))) (sk_cons se_int (sk_cons (se_list D.m_list (sv 3)) sk_nil))))) sa_nil)))
      (ss_cons (s_set sc__law_moves_right.nd (by rfl) (by first | exact Or.inl rfl | exact Or.inr rfl) (se_add (sv 7) (se_lst (sa_cons se_int (sa_cons se_int (sa_cons se_int (sa_cons se_int (sa_cons se_int sa_nil))))))))
      (ss_cons (s_set sc__law_moves_right.nd (by rfl) (by first | exact Or.inl rfl | exact Or.inr rfl) (se_add (sv 6) (se_lst (sa_cons (se_call (ok_left_alive (base := base) D) (rm hr) (by rfl) (D.h_left_alive).gl (D.h_left_alive).F.kp (D.h_left_alive).bi (takes_of rfl rfl rfl rfl) (sa_cons (sv 3) (sa_cons se_int (sa_cons (se_tup (sa_cons se_int sa_nil)) sa_nil)))) (sa_cons (se_call (ok_left_alive (base := base) D) (rm hr) (by rfl) (D.h_left_alive).gl (D.h_left_alive).F.kp (D.h_left_alive).bi (takes_of rfl rfl rfl rfl) (sa_cons (sv 3) (sa_cons se_int (sa_cons (se_tup (sa_cons se_int (sa_cons se_int sa_nil))) sa_nil)))) (sa_cons (se_call (ok_left_alive (base := base) D) (rm hr) (by rfl) (D.h_left_alive).gl (D.h_left_alive).F.kp (D.h_left_alive).bi (takes_of rfl rfl rfl rfl) (sa_cons (sv 2) (sa_cons se_int (sa_cons (se_tup (sa_cons se_int (sa_cons se_int sa_nil))) sa_nil)))) (sa_cons (se_callK (ks := ["row", "stand", "machine"]) [2, 1, 0] (ok_left_alive (base := base) D) (rm hr) (by rfl) (D.h_left_alive).gl (D.h_left_alive).F.kp (fun s ws _ hl => match ws, hl with | [u0, u1, u2], _ => bindsTo (D.h_left_alive).F (fun _ _ _ _ _ _ => rfl)) (takes_of rfl rfl rfl rfl) (sk_cons (se_lst sa_nil) (sk_cons se_int (sk_cons (se_list D.m_list (sv 3)) sk_nil)))) (sa_cons (se_call (ok_left_alive (base := base) D) (rm hr) (by rfl) (D.h_left_alive).gl (D.h_left_alive).F.kp (D.h_left_alive).bi (takes_of rfl rfl rfl rfl) (sa_cons (sv 3) (sa_cons se_int (sa_cons (se_tup (sa_cons se_int (sa_cons se_int (sa_cons se_int sa_nil)))) sa_nil)))) sa_nil))))))))
      (ss_cons (s_set sc__law_moves_right.nd (by rfl) (by first | exact Or.inl rfl | exact Or.inr rfl) (se_add (sv 7) (se_lst (sa_cons (se_tup (sa_cons (sv 8) sa_nil)) (sa_cons (se_tup (sa_cons (se_tup (sa_cons (se_tup (sa_cons se_int sa_nil)) (sa_cons (se_tup (sa_cons se_int (sa_cons se_int sa_nil))) sa_nil))) sa_nil)) (sa_cons (se_tup sa_nil) (sa_cons (se_tup (sa_cons (se_sub hr (sv 4) se_int (fun _ _ => rfl)) (sa_cons (se_sub hr (sv 4) se_int (fun _ _ => rfl)) (sa_cons (se_sub hr (sv 4) se_int (fun _ _ => rfl)) sa_nil)))) (sa_cons (se_tup (sa_cons (se_tup (sa_cons (se_tup (sa_cons se_int sa_nil)) (sa_cons (se_tup (sa_cons se_int (sa_cons se_int sa_nil))) sa_nil))) sa_nil)) sa_nil))))))))
      (ss_cons (s_set sc__law_moves_right.nd (by rfl) (by first | exact Or.inl rfl | exact Or.inr rfl) (se_add (sv 6) (se_lst (sa_cons (se_call (ok_kills_all (base := base) D) (rm hr) (by rfl) (D.h_kills_all).gl (D.h_kills_all).F.kp (D.h_kills_all).bi (takes_of rfl rfl rfl rfl) (sa_cons (sv 3) (sa_cons se_int (sa_cons (se_tup (sa_cons se_int (sa_cons se_int (sa_cons se_int (sa_cons se_int sa_nil))))) sa_nil)))) (sa_cons (se_call (ok_kills_all (base := base) D) (rm hr) (by rfl) (D.h_kills_all).gl (D.h_kills_all).F.kp (D.h_kills_all).bi (takes_of rfl rfl rfl rfl) (sa_cons (sv 2) (sa_cons se_int (sa_cons (se_tup (sa_cons se_int (sa_cons se_int sa_nil))) sa_nil)))) (sa_cons (se_call (ok_kills_all (base := base) D) (rm hr) (by rfl) (D.h_kills_all).gl (D.h_kills_all).F.kp (D.h_kills_all).bi (takes_of rfl rfl rfl rfl) (sa_cons (sv 2) (sa_cons se_int (sa_cons (se_tup (sa_cons se_int (sa_cons se_int (sa_cons se_int sa_nil)))) sa_nil)))) (sa_cons (se_callK (ks := ["row", "stand", "machine"]) [2, 1, 0] (ok_kills_all (base := base) D) (rm hr) (by rfl) (D.h_kills_all).gl (D.h_kills_all).F.kp (fun s ws _ hl => match ws, hl with | [u0, u1, u2], _ => bindsTo (D.h_kills_all).F (fun _ _ _ _ _ _ => rfl)) (takes_of rfl rfl rfl rfl) (sk_cons (se_tup (sa_cons se_int sa_nil)) (sk_cons se_int (sk_cons (se_call (ok_one_round (base := base) D) (rm hr) (by rfl) (D.h_one_round).gl (D.h_one_round).F.kp (D.h_one_round).bi (takes_of rfl rfl rfl rfl) (sa_cons (se_tup (sa_cons (se_tup (sa_cons (se_tup (sa_cons (se_tup (sa_cons se_int sa_nil)) sa_nil)) (sa_cons se_non sa_nil))) sa_nil)) sa_nil)) sk_nil)))) sa_nil)))))))
      (ss_cons (s_set sc__law_moves_right.nd (by rfl) (by first | exact Or.inl rfl | exact Or.inr rfl) (se_add (sv 7) (se_lst (sa_cons se_bl (sa_cons se_bl (sa_cons se_bl (sa_cons se_bl sa_nil)))))))
      (ss_cons (s_set sc__law_moves_right.nd (by rfl) (by first | exact Or.inl rfl | exact Or.inr rfl) (se_add (sv 6) (se_lst (sa_cons (se_lc (own := [("k", 9)]) 10000 rfl sc__law_moves_right.nd (si_range1 (by rfl) D.m_range (sa_cons se_int sa_nil)) (blk_of (by kernel_rfl)) (by decide) (fun _ _ _ _ _ => (sg_name sc__law_moves_right.nd (by rfl) (by first | exact Or.inl rfl | exact Or.inr rfl))) (fun _ _ _ _ _ => sts_nil) (fun _ _ _ _ _ => (se_call (ok_hangs_on (base := base) D) (rm hr) (by rfl) (D.h_hangs_on).gl (D.h_hangs_on).F.kp (D.h_hangs_on).bi takes0 (sa_cons (sv 3) (sa_cons se_int (sa_cons (se_tup (sa_cons se_int (sa_cons se_int sa_nil))) (sa_cons (sv 9) sa_nil))))))) (sa_cons (se_call (ok_hangs_on (base := base) D) (rm hr) (by rfl) (D.h_hangs_on).gl (D.h_hangs_on).F.kp (D.h_hangs_on).bi (takes_of rfl rfl rfl rfl) (sa_cons (sv 3) (sa_cons se_int (sa_cons (se_tup sa_nil) (sa_cons se_int sa_nil))))) (sa_cons (se_callK (ks := ["place", "row", "stand", "machine"]) [3, 2, 1, 0] (ok_hangs_on (base := base) D) (rm hr) (by rfl) (D.h_hangs_on).gl (D.h_hangs_on).F.kp (fun s ws _ hl => match ws, hl with | [u0, u1, u2, u3], _ => bindsTo (D.h_hangs_on).F (fun _ _ _ _ _ _ => rfl)) (takes_of rfl rfl rfl rfl) (sk_cons se_int (sk_cons (se_lst (sa_cons se_int (sa_cons se_int sa_nil))) (sk_cons se_int (sk_cons (se_list D.m_list (sv 3)) sk_nil))))) sa_nil))))))
      (ss_cons (s_set sc__law_moves_right.nd (by rfl) (by first | exact Or.inl rfl | exact Or.inr rfl) (se_add (sv 7) (se_lst (sa_cons (se_lst (sa_cons (se_tup (sa_cons se_int sa_nil)) (sa_cons (se_tup (sa_cons se_int sa_nil)) (sa_cons (se_tup (sa_cons se_int sa_nil)) sa_nil)))) (sa_cons (se_tup (sa_cons se_int sa_nil)) (sa_cons (se_tup (sa_cons se_int sa_nil)) sa_nil))))))
      (ss_cons (s_set sc__law_moves_right.nd (by rfl) (by first | exact Or.inl rfl | exact Or.inr rfl) (se_call (ok_one_round (base := base) D) (rm hr) (by rfl) (D.h_one_round).gl (D.h_one_round).F.kp (D.h_one_round).bi (takes_of rfl rfl rfl rfl) (sa_cons (se_tup (sa_cons (se_tup (sa_cons (se_tup (sa_cons (se_tup (sa_cons se_int (sa_cons se_int sa_nil))) (sa_cons (se_tup (sa_cons se_int sa_nil)) (sa_cons (se_tup (sa_cons se_int sa_nil)) sa_nil)))) (sa_cons se_non sa_nil))) sa_nil)) sa_nil)))
      (ss_cons (s_set sc__law_moves_right.nd (by rfl) (by first | exact Or.inl rfl | exact Or.inr rfl) (se_add (sv 6) (se_lst (sa_cons (se_lc (own := [("k", 9)]) 10000 rfl sc__law_moves_right.nd (si_range1 (by rfl) D.m_range (sa_cons se_int sa_nil)) (blk_of (by kernel_rfl)) (by decide) (fun _ _ _ _ _ => (sg_name sc__law_moves_right.nd (by rfl) (by first | exact Or.inl rfl | exact Or.inr rfl))) (fun _ _ _ _ _ => sts_nil) (fun _ _ _ _ _ => (se_call (ok_hangs_on (base := base) D) (rm hr) (by rfl) (D.h_hangs_on).gl (D.h_hangs_on).F.kp (D.h_hangs_on).bi takes0 (sa_cons (sv 10) (sa_cons se_int (sa_cons (se_tup (sa_cons se_int (sa_cons se_int sa_nil))) (sa_cons (sv 9) sa_nil))))))) (sa_cons (se_call (ok_common_places (base := base) D) (rm hr) (by rfl) (D.h_common_places).gl (D.h_common_places).F.kp (D.h_common_places).bi (takes_of rfl rfl rfl rfl) (sa_cons (sv 10) (sa_cons se_int (sa_cons (se_tup (sa_cons se_int (sa_cons se_int sa_nil))) sa_nil)))) (sa_cons (se_call (ok_common_places (base := base) D) (rm hr) (by rfl) (D.h_common_places).gl (D.h_common_places).F.kp (D.h_common_places).bi (takes_of rfl rfl rfl rfl) (sa_cons (sv 10) (sa_cons se_int (sa_cons (se_tup (sa_cons se_int sa_nil)) sa_nil)))) (sa_cons (se_call (ok_common_places (base := base) D) (rm hr) (by rfl) (D.h_common_places).gl (D.h_common_places).F.kp (D.h_common_places).bi (takes_of rfl rfl rfl rfl) (sa_cons (sv 2) (sa_cons se_int (sa_cons (se_tup (sa_cons se_int (sa_cons se_int sa_nil))) sa_nil)))) (sa_cons (se_call (ok_kills_all (base := base) D) (rm hr) (by rfl) (D.h_kills_all).gl (D.h_kills_all).F.kp (D.h_kills_all).bi (takes_of rfl rfl rfl rfl) (sa_cons (sv 10) (sa_cons se_int (sa_cons (se_tup (sa_cons se_int (sa_cons se_int sa_nil))) sa_nil)))) sa_nil))))))))
      (ss_cons (s_set sc__law_moves_right.nd (by rfl) (by first | exact Or.inl rfl | exact Or.inr rfl) (se_add (sv 7) (se_lst (sa_cons (se_lst (sa_cons (se_tup (sa_cons se_int (sa_cons se_int (sa_cons se_int sa_nil)))) (sa_cons (se_tup (sa_cons se_int sa_nil)) (sa_cons (se_tup (sa_cons se_int (sa_cons se_int sa_nil))) sa_nil)))) (sa_cons (se_tup (sa_cons se_int sa_nil)) (sa_cons (se_tup sa_nil) (sa_cons (se_tup (sa_cons se_int sa_nil)) (sa_cons se_bl sa_nil))))))))
      (ss_one (s_ret (se_call (ok__law_same (base := base) D) (rm hr) (by rfl) (D.h__law_same).gl (D.h__law_same).F.kp (D.h__law_same).bi (takes_of rfl rfl rfl rfl) (sa_cons (se_add (sv 6) (se_lst (sa_cons (se_callK (ks := ["row", "stand", "machine"]) [2, 1, 0] (ok_common_places (base := base) D) (rm hr) (by rfl) (D.h_common_places).gl (D.h_common_places).F.kp (fun s ws _ hl => match ws, hl with | [u0, u1, u2], _ => bindsTo (D.h_common_places).F (fun _ _ _ _ _ _ => rfl)) (takes_of rfl rfl rfl rfl) (sk_cons (se_lst (sa_cons se_int (sa_cons se_int sa_nil))) (sk_cons se_int (sk_cons (se_list D.m_list (sv 10)) sk_nil)))) sa_nil))) (sa_cons (se_add (sv 7) (se_lst (sa_cons (se_tup (sa_cons se_int sa_nil)) sa_nil))) sa_nil))))))))))))))))))))))))))))
theorem ok__law_moves_right (D : Defs K mg) : FnOk P w K mg base (L2.CX P w) 14 (D.h__law_moves_right).f (D.h__law_moves_right).fd [] (spNc ⟨K, w⟩ (tx D) F__law_moves_right) := fn_okD (g := g__law_moves_right) (D.h__law_moves_right).F sc__law_moves_right (hF := rfl) (h1 := rfl) (h2 := rfl) (body := fun cdv A outer s H E hr => b__law_moves_right D _ cdv A outer s H E hr)
/-! ### _law_alone_right -/
theorem sc__law_alone_right : FnScope ["ring_so", "loose_so", "chain_so", "got", "due", "soft_so"] [] (defScope s__law_alone_right) := ⟨rfl, rfl, rfl, by decide +kernel, rfl, by decide +kernel, by decide +kernel⟩
def g__law_alone_right : DS := (gSeq (gAsg (dTup (dCons (dTup (dCons (dTup (dCons (dC (.int 1)) dNil)) (dCons (dTup (dCons (dC (.int 2)) dNil)) (dCons (dTup (dCons (dC (.int 0)) dNil)) dNil)))) (dCons (dTup (dCons (dTup (dCons (dC (.int 0)) (dCons (dC (.int 1)) dNil))) (dCons (dTup (dCons (dC (.int 2)) dNil)) (dCons (dTup (dCons (dC (.int 0)) dNil)) dNil)))) (dCons (dTup (dCons (dTup (dCons (dC (.int 0)) dNil)) (dCons (dTup (dCons (dC (.int 0)) dNil)) (dCons (dTup (dCons (dC (.int 1)) dNil)) dNil)))) dNil)))) (gTupD 3 (gsCons (gN 0) (gsCons (gN 1) (gsCons (gN 2) gsNil)))))
  (gSeq (gAsg (dLst (dCons (dFn F_lasting (dCons (dTup (dCons (dTup (dCons (dC (.int 1)) dNil)) (dCons (dTup (dCons (dC (.int 0)) dNil)) dNil))) dNil)) (dCons (dFn F_lasting (dCons (dVar 0) dNil)) (dCons (dFn F_lasting (dCons (dVar 2) dNil)) (dCons (dFnK F_lasting [0] 1 (dCons (dLst (dCons (dLst (dCons (dC (.int 0)) dNil)) (dCons (dLst (dCons (dC (.int 1)) dNil)) (dCons (dLst (dCons (dC (.int 0)) (dCons (dC (.int 1)) dNil))) dNil)))) dNil)) (dCons (dFn F_lasting (dCons (dTup (dCons (dTup (dCons (dC (.int 0)) dNil)) dNil)) dNil)) (dCons (dFn F_lasting (dCons (dTup (dCons (dTup (dCons (dC (.int 1)) dNil)) (dCons (dTup (dCons (dC (.int 0)) dNil)) (dCons (dTup (dCons (dC (.int 0)) dNil)) (dCons (dTup (dCons (dC (.int 1)) dNil)) dNil))))) dNil)) dNil))))))) (gN 3))
  (gSeq (gAsg (dLst (dCons (dTup (dCons (dTup (dCons (dTup (dCons (dC (.int 0)) dNil)) (dCons (dTup (dCons (dC (.int 1)) dNil)) dNil))) dNil)) (dCons (dCall oTuple (dCons (dFn F_all_camps (dCons (dC (.int 3)) dNil)) dNil)) (dCons (dTup dNil) (dCons (dTup (dCons (dTup (dCons (dTup (dCons (dC (.int 0)) dNil)) (dCons (dTup (dCons (dC (.int 1)) dNil)) dNil))) (dCons (dTup (dCons (dTup (dCons (dC (.int 0)) dNil)) (dCons (dTup (dCons (dC (.int 1)) (dCons (dC (.int 2)) dNil))) dNil))) (dCons (dTup (dCons (dTup (dCons (dC (.int 0)) (dCons (dC (.int 2)) dNil))) (dCons (dTup (dCons (dC (.int 1)) dNil)) dNil))) dNil)))) (dCons (dTup dNil) dNil)))))) (gN 4))
  (gSeq (gExpr (dMeth oAppend (dVar 4) (dCons (dTup (dCons (dTup (dCons (dTup (dCons (dC (.int 0)) dNil)) (dCons (dTup (dCons (dC (.int 1)) dNil)) dNil))) (dCons (dTup (dCons (dTup (dCons (dC (.int 0)) dNil)) (dCons (dTup (dCons (dC (.int 1)) (dCons (dC (.int 2)) dNil))) dNil))) (dCons (dTup (dCons (dTup (dCons (dC (.int 0)) dNil)) (dCons (dTup (dCons (dC (.int 1)) (dCons (dC (.int 2)) (dCons (dC (.int 3)) dNil)))) dNil))) (dCons (dTup (dCons (dTup (dCons (dC (.int 0)) dNil)) (dCons (dTup (dCons (dC (.int 1)) (dCons (dC (.int 3)) dNil))) dNil))) (dCons (dTup (dCons (dTup (dCons (dC (.int 0)) (dCons (dC (.int 2)) dNil))) (dCons (dTup (dCons (dC (.int 1)) dNil)) dNil))) (dCons (dTup (dCons (dTup (dCons (dC (.int 0)) (dCons (dC (.int 2)) dNil))) (dCons (dTup (dCons (dC (.int 1)) (dCons (dC (.int 3)) dNil))) dNil))) (dCons (dTup (dCons (dTup (dCons (dC (.int 0)) (dCons (dC (.int 2)) (dCons (dC (.int 3)) dNil)))) (dCons (dTup (dCons (dC (.int 1)) dNil)) dNil))) (dCons (dTup (dCons (dTup (dCons (dC (.int 0)) (dCons (dC (.int 3)) dNil))) (dCons (dTup (dCons (dC (.int 1)) dNil)) dNil))) (dCons (dTup (dCons (dTup (dCons (dC (.int 0)) (dCons (dC (.int 3)) dNil))) (dCons (dTup (dCons (dC (.int 1)) (dCons (dC (.int 2)) dNil))) dNil))) dNil)))))))))) dNil)))
  (gSeq (gAsg (dOp dAdd (dVar 3) (dLst (dCons (dFn F_longest_alone (dCons (dVar 0) dNil)) (dCons (dFn F_longest_alone (dCons (dVar 1) dNil)) (dCons (dFn F_longest_alone (dCons (dVar 2) dNil)) (dCons (dFnK F_longest_alone [0] 1 (dCons (dLst (dCons (dLst (dCons (dC (.int 0)) dNil)) (dCons (dLst (dCons (dC (.int 1)) dNil)) (dCons (dLst (dCons (dC (.int 0)) (dCons (dC (.int 1)) dNil))) dNil)))) dNil)) (dCons (dFn F_longest_alone (dCons (dTup (dCons (dTup (dCons (dC (.int 0)) dNil)) dNil)) dNil)) (dCons (dFn F_longest_alone (dCons (dTup (dCons (dTup (dCons (dC (.int 0)) dNil)) (dCons (dTup (dCons (dC (.int 0)) dNil)) (dCons (dTup (dCons (dC (.int 1)) dNil)) (dCons (dTup (dCons (dC (.int 2)) dNil)) dNil))))) dNil)) dNil)))))))) (gN 3))
  (gSeq (gAsg (dOp dAdd (dVar 4) (dLst (dCons (dC (.int 0)) (dCons (dC (.int 1)) (dCons (dC (.int 1)) (dCons (dC (.int 0)) (dCons (dC (.int 0)) (dCons (dC (.int 2)) dNil)))))))) (gN 4))
  (gSeq (gAsg (dLst (dCons (dLst (dCons (dC (.int 0)) dNil)) (dCons (dLst (dCons (dC (.int 0)) dNil)) (dCons (dLst (dCons (dC (.int 1)) dNil)) dNil)))) (gN 5))
  (gRet (dFn (F__law_same RL) (dCons (dOp dAdd (dVar 3) (dLst (dCons (dFn F_led (dCons (dVar 5) (dCons (dTup (dCons (dTup (dCons (dC (.int 0)) dNil)) (dCons (dTup (dCons (dC (.int 1)) dNil)) dNil))) dNil))) (dCons (dVar 5) dNil)))) (dCons (dOp dAdd (dVar 4) (dLst (dCons (dTup (dCons (dTup (dCons (dC (.int 0)) (dCons (dC (.int 1)) dNil))) (dCons (dTup (dCons (dC (.int 2)) dNil)) dNil))) (dCons (dLst (dCons (dLst (dCons (dC (.int 0)) dNil)) (dCons (dLst (dCons (dC (.int 0)) dNil)) (dCons (dLst (dCons (dC (.int 1)) dNil)) dNil)))) dNil)))) dNil)))))))))))
def F__law_alone_right : DF := runF g__law_alone_right 0 6
theorem b__law_alone_right (D : Defs K mg) (f : Addr) (cdv : Value) (A : Around) (outer : List Env) (s : Shared) (H : Hp) (E : XK) (hr : Room 10 (A.deeper (envOfC "_law_alone_right" (defScope s__law_alone_right) s.heap.objs.size f cdv))) :
    SSs (cxOf (L2.CX P w) P w K mg base ["ring_so", "loose_so", "chain_so", "got", "due", "soft_so"] "_law_alone_right" (defScope s__law_alone_right) f cdv A outer s H E) (tx D) (wOf E) (defBody s__law_alone_right) g__law_alone_right :=
  (ss_cons (s_asg (se_tup (sa_cons (se_tup (sa_cons (se_tup (sa_cons se_int sa_nil)) (sa_cons (se_tup (sa_cons se_int sa_nil)) (sa_cons (se_tup (sa_cons se_int sa_nil)) sa_nil)))) (sa_cons (se_tup (sa_cons (se_tup (sa_cons se_int (sa_cons se_int sa_nil))) (sa_cons (se_tup (sa_cons se_int sa_nil)) (sa_cons (se_tup (sa_cons se_int sa_nil)) sa_nil)))) (sa_cons (se_tup (sa_cons (se_tup (sa_cons se_int sa_nil)) (sa_cons (se_tup (sa_cons se_int sa_nil)) (sa_cons (se_tup (sa_cons se_int sa_nil)) sa_nil)))) sa_nil)))) (sg_tup rfl (sgs_cons (sg_name sc__law_alone_right.nd (by rfl) (by first | exact Or.inl rfl | exact Or.inr rfl)) (sgs_cons (sg_name sc__law_alone_right.nd (by rfl) (by first | exact Or.inl rfl | exact Or.inr rfl)) (sgs_cons (sg_name sc__law_alone_right.nd (by rfl) (by first | exact Or.inl rfl | exact Or.inr rfl)) sgs_nil)))))
      (ss_cons (s_set sc__law_alone_right.nd (by rfl) (by first | exact Or.inl rfl | exact Or.inr rfl) (se_lst (sa_cons (se_call (ok_lasting (base := base) D) (rm hr) (by rfl) (D.h_lasting).gl (D.h_lasting).F.kp (D.h_lasting).bi (takes_of rfl rfl rfl rfl) (sa_cons (se_tup (sa_cons (se_tup (sa_cons se_int sa_nil)) (sa_cons (se_tup (sa_cons se_int sa_nil)) sa_nil))) sa_nil)) (sa_cons (se_call (ok_lasting (base := base) D) (rm hr) (by rfl) (D.h_lasting).gl (D.h_lasting).F.kp (D.h_lasting).bi (takes_of rfl rfl rfl rfl) (sa_cons (sv 0) sa_nil)) (sa_cons (se_call (ok_lasting (base := base) D) (rm hr) (by rfl) (D.h_lasting).gl (D.h_lasting).F.kp (D.h_lasting).bi (takes_of rfl rfl rfl rfl) (sa_cons (sv 2) sa_nil)) (sa_cons (se_callK (ks := ["looks"]) [0] (ok_lasting (base := base) D) (rm hr) (by rfl) (D.h_lasting).gl (D.h_lasting).F.kp (fun s ws _ hl => match ws, hl with | [u0], _ => bindsTo (D.h_lasting).F (fun _ _ _ _ _ _ => rfl)) (takes_of rfl rfl rfl rfl) (sk_cons (se_lst (sa_cons (se_lst (sa_cons se_int sa_nil)) (sa_cons (se_lst (sa_cons se_int sa_nil)) (sa_cons (se_lst (sa_cons se_int (sa_cons se_int sa_nil))) sa_nil)))) sk_nil)) (sa_cons (se_call (ok_lasting (base := base) D) (rm hr) (by rfl) (D.h_lasting).gl (D.h_lasting).F.kp (D.h_lasting).bi (takes_of rfl rfl rfl rfl) (sa_cons (se_tup (sa_cons (se_tup (sa_cons se_int sa_nil)) sa_nil)) sa_nil)) (sa_cons (se_call (ok_lasting (base := base) D) (rm hr) (by rfl) (D.h_lasting).gl (D.h_lasting).F.kp (D.h_lasting).bi (takes_of rfl rfl rfl rfl) (sa_cons (se_tup (sa_cons (se_tup (sa_cons se_int sa_nil)) (sa_cons (se_tup (sa_cons se_int sa_nil)) (sa_cons (se_tup (sa_cons se_int sa_nil)) (sa_cons (se_tup (sa_cons se_int sa_nil)) sa_nil))))) sa_nil)) sa_nil))))))))
      (ss_cons (s_set sc__law_alone_right.nd (by rfl) (by first | exact Or.inl rfl | exact Or.inr rfl) (se_lst (sa_cons (se_tup (sa_cons (se_tup (sa_cons (se_tup (sa_cons se_int sa_nil)) (sa_cons (se_tup (sa_cons se_int sa_nil)) sa_nil))) sa_nil)) (sa_cons (se_tuple D.m_tuple (se_call (ok_all_camps (base := base) D) (rm hr) (by rfl) (D.h_all_camps).gl (D.h_all_camps).F.kp (D.h_all_camps).bi (takes_of rfl rfl rfl rfl) (sa_cons se_int sa_nil))) (sa_cons (se_tup sa_nil) (sa_cons (se_tup (sa_cons (se_tup (sa_cons (se_tup (sa_cons se_int sa_nil)) (sa_cons (se_tup (sa_cons se_int sa_nil)) sa_nil))) (sa_cons (se_tup (sa_cons (se_tup (sa_cons se_int sa_nil)) (sa_cons (se_tup (sa_cons se_int (sa_cons se_int sa_nil))) sa_nil))) (sa_cons (se_tup (sa_cons (se_tup (sa_cons se_int (sa_cons se_int sa_nil))) (sa_cons (se_tup (sa_cons se_int sa_nil)) sa_nil))) sa_nil)))) (sa_cons (se_tup sa_nil) sa_nil)))))))
      (ss_cons (s_expr (se_meth PySem.F.slot_list_append PySem.F.type_list_append mt_append om_append (sv 4) (sa_cons (se_tup (sa_cons (se_tup (sa_cons (se_tup (sa_cons se_int sa_nil)) (sa_cons (se_tup (sa_cons se_int sa_nil)) sa_nil))) (sa_cons (se_tup (sa_cons (se_tup (sa_cons se_int sa_nil)) (sa_cons (se_tup (sa_cons se_int (sa_cons se_int sa_nil))) sa_nil))) (sa_cons (se_tup (sa_cons (se_tup (sa_cons se_int sa_nil)) (sa_cons (se_tup (sa_cons se_int (sa_cons se_int (sa_cons se_int sa_nil)))) sa_nil))) (sa_cons (se_tup (sa_cons (se_tup (sa_cons se_int sa_nil)) (sa_cons (se_tup (sa_cons se_int (sa_cons se_int sa_nil))) sa_nil))) (sa_cons (se_tup (sa_cons (se_tup (sa_cons se_int (sa_cons se_int sa_nil))) (sa_cons (se_tup (sa_cons se_int sa_nil)) sa_nil))) (sa_cons (se_tup (sa_cons (se_tup (sa_cons se_int (sa_cons se_int sa_nil))) (sa_cons (se_tup (sa_cons se_int (sa_cons se_int sa_nil))) sa_nil))) (sa_cons (se_tup (sa_cons (se_tup (sa_cons se_int (sa_cons se_int (sa_cons se_int sa_nil)))) (sa_cons (se_tup (sa_cons se_int sa_nil)) sa_nil))) (sa_cons (se_tup (sa_cons (se_tup (sa_cons se_int (sa_cons se_int sa_nil))) (sa_cons (se_tup (sa_cons se_int sa_nil)) sa_nil))) (sa_cons (se_tup (sa_cons (se_tup (sa_cons se_int (sa_cons se_int sa_nil))) (sa_cons (se_tup (sa_cons se_int (sa_cons se_int sa_nil))) sa_nil))) sa_nil)))))))))) sa_nil)))
      (ss_cons (s_set sc__law_alone_right.nd (by rfl) (by first | exact Or.inl rfl | exact Or.inr rfl) (se_add (sv 3) (se_lst (sa_cons (se_call (ok_longest_alone (base := base) D) (rm hr) (by rfl) (D.h_longest_alone).gl (D.h_longest_alone).F.kp (D.h_longest_alone).bi (takes_of rfl rfl rfl rfl) (sa_cons (sv 0) sa_nil)) (sa_cons (se_call (ok_longest_alone (base := base) D) (rm hr) (by rfl) (D.h_longest_alone).gl (D.h_longest_alone).F.kp (D.h_longest_alone).bi (takes_of rfl rfl rfl rfl) (sa_cons (sv 1) sa_nil)) (sa_cons (se_call (ok_longest_alone (base := base) D) (rm hr) (by rfl) (D.h_longest_alone).gl (D.h_longest_alone).F.kp (D.h_longest_alone).bi (takes_of rfl rfl rfl rfl) (sa_cons (sv 2) sa_nil)) (sa_cons (se_callK (ks := ["looks"]) [0] (ok_longest_alone (base := base) D) (rm hr) (by rfl) (D.h_longest_alone).gl (D.h_longest_alone).F.kp (fun s ws _ hl => match ws, hl with | [u0], _ => bindsTo (D.h_longest_alone).F (fun _ _ _ _ _ _ => rfl)) (takes_of rfl rfl rfl rfl) (sk_cons (se_lst (sa_cons (se_lst (sa_cons se_int sa_nil)) (sa_cons (se_lst (sa_cons se_int sa_nil)) (sa_cons (se_lst (sa_cons se_int (sa_cons se_int sa_nil))) sa_nil)))) sk_nil)) (sa_cons (se_call (ok_longest_alone (base := base) D) (rm hr) (by rfl) (D.h_longest_alone).gl (D.h_longest_alone).F.kp (D.h_longest_alone).bi (takes_of rfl rfl rfl rfl) (sa_cons (se_tup (sa_cons (se_tup (sa_cons se_int sa_nil)) sa_nil)) sa_nil)) (sa_cons (se_call (ok_longest_alone (base := base) D) (rm hr) (by rfl) (D.h_longest_alone).gl (D.h_longest_alone).F.kp (D.h_longest_alone).bi (takes_of rfl rfl rfl rfl) (sa_cons (se_tup (sa_cons (se_tup (sa_cons se_int sa_nil)) (sa_cons (se_tup (sa_cons se_int sa_nil)) (sa_cons (se_tup (sa_cons se_int sa_nil)) (sa_cons (se_tup (sa_cons se_int sa_nil)) sa_nil))))) sa_nil)) sa_nil)))))))))
      (ss_cons (s_set sc__law_alone_right.nd (by rfl) (by first | exact Or.inl rfl | exact Or.inr rfl) (se_add (sv 4) (se_lst (sa_cons se_int (sa_cons se_int (sa_cons se_int (sa_cons se_int (sa_cons se_int (sa_cons se_int sa_nil)))))))))
      (ss_cons (s_set sc__law_alone_right.nd (by rfl) (by first | exact Or.inl rfl | exact Or.inr rfl) (se_lst (sa_cons (se_lst (sa_cons se_int sa_nil)) (sa_cons (se_lst (sa_cons se_int sa_nil)) (sa_cons (se_lst (sa_cons se_int sa_nil)) sa_nil)))))
      (ss_one (s_ret (se_call (ok__law_same (base := base) D) (rm hr) (by rfl) (D.h__law_same).gl (D.h__law_same).F.kp (D.h__law_same).bi (takes_of rfl rfl rfl rfl) (sa_cons (se_add (sv 3) (se_lst (sa_cons (se_call (ok_led (base := base) D) (rm hr) (by rfl) (D.h_led).gl (D.h_led).F.kp (D.h_led).bi (takes_of rfl rfl rfl rfl) (sa_cons (sv 5) (sa_cons (se_tup (sa_cons (se_tup (sa_cons se_int sa_nil)) (sa_cons (se_tup (sa_cons se_int sa_nil)) sa_nil))) sa_nil))) (sa_cons (sv 5) sa_nil)))) (sa_cons (se_add (sv 4) (se_lst (sa_cons (se_tup (sa_cons (se_tup (sa_cons se_int (sa_cons se_int sa_nil))) (sa_cons (se_tup (sa_cons se_int sa_nil)) sa_nil))) (sa_cons (se_lst (sa_cons (se_lst (sa_cons se_int sa_nil)) (sa_cons (se_lst (sa_cons se_int sa_nil)) (sa_cons (se_lst (sa_cons se_int sa_nil)) sa_nil)))) sa_nil)))) sa_nil))))))))))))
theorem ok__law_alone_right (D : Defs K mg) : FnOk P w K mg base (L2.CX P w) 11 (D.h__law_alone_right).f (D.h__law_alone_right).fd [] (spNc ⟨K, w⟩ (tx D) F__law_alone_right) := fn_okD (g := g__law_alone_right) (D.h__law_alone_right).F sc__law_alone_right (hF := rfl) (h1 := rfl) (h2 := rfl) (body := fun cdv A outer s H E hr => b__law_alone_right D _ cdv A outer s H E hr)
/-! ### law -/
theorem sc_law : FnScope ["script"] ["script"] (defScope s_law) := ⟨rfl, rfl, rfl, by decide +kernel, rfl, by decide +kernel, by decide +kernel⟩
def g_law : DS := (gRet (dAndV (dFn F__law_made_right dNil) (dAndV (dFn F__law_moves_right dNil) (dFn F__law_alone_right dNil))))
def F_law : DF := runF g_law 1 1
theorem b_law (D : Defs K mg) (f : Addr) (cdv : Value) (A : Around) (outer : List Env) (s : Shared) (H : Hp) (E : XK) (hr : Room 14 (A.deeper (envOfC "law" (defScope s_law) s.heap.objs.size f cdv))) :
    SSs (cxOf (L2.CX P w) P w K mg base ["script"] "law" (defScope s_law) f cdv A outer s H E) (tx D) (wOf E) (defBody s_law) g_law :=
  (ss_one (s_ret (se_and (se_call0 (ok__law_made_right (base := base) D) (rm hr) (by rfl) (D.h__law_made_right).gl (D.h__law_made_right).F.kp (D.h__law_made_right).bi (takes_of rfl rfl rfl rfl)) (se_and (se_call0 (ok__law_moves_right (base := base) D) (rm hr) (by rfl) (D.h__law_moves_right).gl (D.h__law_moves_right).F.kp (D.h__law_moves_right).bi (takes_of rfl rfl rfl rfl)) (se_one (se_call0 (ok__law_alone_right (base := base) D) (rm hr) (by rfl) (D.h__law_alone_right).gl (D.h__law_alone_right).F.kp (D.h__law_alone_right).bi (takes_of rfl rfl rfl rfl)))))))
theorem ok_law (D : Defs K mg) : FnOk P w K mg base (L2.CX P w) 15 (D.h_law).f (D.h_law).fd ["script"] (spNc ⟨K, w⟩ (tx D) F_law) := fn_okD (g := g_law) (D.h_law).F sc_law (hF := rfl) (h1 := rfl) (h2 := rfl) (body := fun cdv A outer s H E hr => b_law D _ cdv A outer s H E hr)
theorem okL_law (D : Defs K mg) (ok : okT (runFree g_law 1) = true) : FnOk P w K mg base (L2.CX P w) 15 (D.h_law).f (D.h_law).fd ["script"] (spTrue 1) := fn_okFree (g := g_law) (D.h_law).F sc_law (by decide) (fun cdv A outer s H E hr => b_law D _ cdv A outer s H E hr) ok
theorem law_true : okT (runFree g_law 1) = true := by decide +kernel
end
end K17
open PySem PySem.W PyProof.Rows Nc K17
set_option maxHeartbeats 0 in
theorem PySem.Challenge.cw_nearercamps_k17_camps_by_hand_and_what_i_holds : PySem.Challenge.rw_nearercamps_k17_camps_by_hand_and_what_i.Holds := by
  w_on; o_law; k_head; (case hw => w_witness2)
  k_fill
  refine L2.walk_of (l := PySem.Challenge.rw_nearercamps_k17_camps_by_hand_and_what_i) (n := 63) (k := 15) (x := "script") (CX := fun w => L2.CX PySem.Challenge.pw_nearercamps_k17_camps_by_hand_and_what_i w) (sp := fun w => spTrue 1) rfl (by decide) rfl ⟨rfl, by decide, by decide⟩ (fun w h Y => PySem.W.kIn_of Y) ?F (fun _ _ a ns hl _ hS => ⟨rfl, fun _ => rfl⟩) (fun _ _ _ _ _ h => no_end h)
  case F =>
    intro w mg fa h KX G hmg
    obtain ⟨h_is_number⟩ : Nonempty (Df _ mg "is_number" s_is_number ["thing"]) := by
      refine' mkDf KX G ?a ?l ?c ?k (fun _ _ _ _ _ _ us hl => match us, hl with | [_], _ => rfl)
      (case a => k_is); (case l => k_is); (case c => k_is); (case k => k_is)
    obtain ⟨h_is_number_below⟩ : Nonempty (Df _ mg "is_number_below" s_is_number_below ["thing", "limit"]) := by
      refine' mkDf KX G ?a ?l ?c ?k (fun _ _ _ _ _ _ us hl => match us, hl with | [_, _], _ => rfl)
      (case a => k_is); (case l => k_is); (case c => k_is); (case k => k_is)
    obtain ⟨h_is_tuple_of⟩ : Nonempty (Df _ mg "is_tuple_of" s_is_tuple_of ["thing", "count"]) := by
      refine' mkDf KX G ?a ?l ?c ?k (fun _ _ _ _ _ _ us hl => match us, hl with | [_, _], _ => rfl)
      (case a => k_is); (case l => k_is); (case c => k_is); (case k => k_is)
    obtain ⟨h_is_filled_tuple⟩ : Nonempty (Df _ mg "is_filled_tuple" s_is_filled_tuple ["thing"]) := by
      refine' mkDf KX G ?a ?l ?c ?k (fun _ _ _ _ _ _ us hl => match us, hl with | [_], _ => rfl)
      (case a => k_is); (case l => k_is); (case c => k_is); (case k => k_is)
    obtain ⟨h_is_rising⟩ : Nonempty (Df _ mg "is_rising" s_is_rising ["values"]) := by
      refine' mkDf KX G ?a ?l ?c ?k (fun _ _ _ _ _ _ us hl => match us, hl with | [_], _ => rfl)
      (case a => k_is); (case l => k_is); (case c => k_is); (case k => k_is)
    obtain ⟨h_frozen⟩ : Nonempty (Df _ mg "frozen" s_frozen ["value"]) := by
      refine' mkDf KX G ?a ?l ?c ?k (fun _ _ _ _ _ _ us hl => match us, hl with | [_], _ => rfl)
      (case a => k_is); (case l => k_is); (case c => k_is); (case k => k_is)
    obtain ⟨h_ascending⟩ : Nonempty (Df _ mg "ascending" s_ascending ["values"]) := by
      refine' mkDf KX G ?a ?l ?c ?k (fun _ _ _ _ _ _ us hl => match us, hl with | [_], _ => rfl)
      (case a => k_is); (case l => k_is); (case c => k_is); (case k => k_is)
    obtain ⟨h_is_lot⟩ : Nonempty (Df _ mg "is_lot" s_is_lot ["thing", "n"]) := by
      refine' mkDf KX G ?a ?l ?c ?k (fun _ _ _ _ _ _ us hl => match us, hl with | [_, _], _ => rfl)
      (case a => k_is); (case l => k_is); (case c => k_is); (case k => k_is)
    obtain ⟨h_all_lots⟩ : Nonempty (Df _ mg "all_lots" s_all_lots ["n"]) := by
      refine' mkDf KX G ?a ?l ?c ?k (fun _ _ _ _ _ _ us hl => match us, hl with | [_], _ => rfl)
      (case a => k_is); (case l => k_is); (case c => k_is); (case k => k_is)
    obtain ⟨h_seen_from⟩ : Nonempty (Df _ mg "seen_from" s_seen_from ["looks", "lot"]) := by
      refine' mkDf KX G ?a ?l ?c ?k (fun _ _ _ _ _ _ us hl => match us, hl with | [_, _], _ => rfl)
      (case a => k_is); (case l => k_is); (case c => k_is); (case k => k_is)
    obtain ⟨h_lookers_within⟩ : Nonempty (Df _ mg "lookers_within" s_lookers_within ["looks", "lot"]) := by
      refine' mkDf KX G ?a ?l ?c ?k (fun _ _ _ _ _ _ us hl => match us, hl with | [_, _], _ => rfl)
      (case a => k_is); (case l => k_is); (case c => k_is); (case k => k_is)
    obtain ⟨h_stand_still⟩ : Nonempty (Df _ mg "stand_still" s_stand_still ["n"]) := by
      refine' mkDf KX G ?a ?l ?c ?k (fun _ _ _ _ _ _ us hl => match us, hl with | [_], _ => rfl)
      (case a => k_is); (case l => k_is); (case c => k_is); (case k => k_is)
    obtain ⟨h_behind_looks⟩ : Nonempty (Df _ mg "behind_looks" s_behind_looks ["looks", "others"]) := by
      refine' mkDf KX G ?a ?l ?c ?k (fun _ _ _ _ _ _ us hl => match us, hl with | [_, _], _ => rfl)
      (case a => k_is); (case l => k_is); (case c => k_is); (case k => k_is)
    obtain ⟨h_steps_along⟩ : Nonempty (Df _ mg "steps_along" s_steps_along ["stands", "stand", "row"]) := by
      refine' mkDf KX G ?a ?l ?c ?k (fun _ _ _ _ _ _ us hl => match us, hl with | [_, _, _], _ => rfl)
      (case a => k_is); (case l => k_is); (case c => k_is); (case k => k_is)
    obtain ⟨h_put_in_order⟩ : Nonempty (Df _ mg "put_in_order" s_put_in_order ["lot", "one"]) := by
      refine' mkDf KX G ?a ?l ?c ?k (fun _ _ _ _ _ _ us hl => match us, hl with | [_, _], _ => rfl)
      (case a => k_is); (case l => k_is); (case c => k_is); (case k => k_is)
    obtain ⟨h_are_apart⟩ : Nonempty (Df _ mg "are_apart" s_are_apart ["lot", "one"]) := by
      refine' mkDf KX G ?a ?l ?c ?k (fun _ _ _ _ _ _ us hl => match us, hl with | [_, _], _ => rfl)
      (case a => k_is); (case l => k_is); (case c => k_is); (case k => k_is)
    obtain ⟨h_every_camps⟩ : Nonempty (Df _ mg "every_camps" s_every_camps ["n"]) := by
      refine' mkDf KX G ?a ?l ?c ?k (fun _ _ _ _ _ _ us hl => match us, hl with | [_], _ => rfl)
      (case a => k_is); (case l => k_is); (case c => k_is); (case k => k_is)
    obtain ⟨h_is_part⟩ : Nonempty (Df _ mg "is_part" s_is_part ["lot", "one"]) := by
      refine' mkDf KX G ?a ?l ?c ?k (fun _ _ _ _ _ _ us hl => match us, hl with | [_, _], _ => rfl)
      (case a => k_is); (case l => k_is); (case c => k_is); (case k => k_is)
    obtain ⟨h_lie_within⟩ : Nonempty (Df _ mg "lie_within" s_lie_within ["camps", "other"]) := by
      refine' mkDf KX G ?a ?l ?c ?k (fun _ _ _ _ _ _ us hl => match us, hl with | [_, _], _ => rfl)
      (case a => k_is); (case l => k_is); (case c => k_is); (case k => k_is)
    obtain ⟨h_led_by⟩ : Nonempty (Df _ mg "led_by" s_led_by ["looks", "camps"]) := by
      refine' mkDf KX G ?a ?l ?c ?k (fun _ _ _ _ _ _ us hl => match us, hl with | [_, _], _ => rfl)
      (case a => k_is); (case l => k_is); (case c => k_is); (case k => k_is)
    obtain ⟨h_led_map⟩ : Nonempty (Df _ mg "led_map" s_led_map ["looks", "every"]) := by
      refine' mkDf KX G ?a ?l ?c ?k (fun _ _ _ _ _ _ us hl => match us, hl with | [_, _], _ => rfl)
      (case a => k_is); (case l => k_is); (case c => k_is); (case k => k_is)
    obtain ⟨h_looks_along⟩ : Nonempty (Df _ mg "looks_along" s_looks_along ["machine", "stand", "row"]) := by
      refine' mkDf KX G ?a ?l ?c ?k (fun _ _ _ _ _ _ us hl => match us, hl with | [_, _, _], _ => rfl)
      (case a => k_is); (case l => k_is); (case c => k_is); (case k => k_is)
    obtain ⟨h_is_camps⟩ : Nonempty (Df _ mg "is_camps" s_is_camps ["thing", "n"]) := by
      refine' mkDf KX G ?a ?l ?c ?k (fun _ _ _ _ _ _ us hl => match us, hl with | [_, _], _ => rfl)
      (case a => k_is); (case l => k_is); (case c => k_is); (case k => k_is)
    obtain ⟨h_all_camps⟩ : Nonempty (Df _ mg "all_camps" s_all_camps ["n"]) := by
      refine' mkDf KX G ?a ?l ?c ?k (fun _ _ _ _ _ _ us hl => match us, hl with | [_], _ => rfl)
      (case a => k_is); (case l => k_is); (case c => k_is); (case k => k_is)
    obtain ⟨h_in_camps⟩ : Nonempty (Df _ mg "in_camps" s_in_camps ["lot", "one"]) := by
      refine' mkDf KX G ?a ?l ?c ?k (fun _ _ _ _ _ _ us hl => match us, hl with | [_, _], _ => rfl)
      (case a => k_is); (case l => k_is); (case c => k_is); (case k => k_is)
    obtain ⟨h_are_within⟩ : Nonempty (Df _ mg "are_within" s_are_within ["camps", "other"]) := by
      refine' mkDf KX G ?a ?l ?c ?k (fun _ _ _ _ _ _ us hl => match us, hl with | [_, _], _ => rfl)
      (case a => k_is); (case l => k_is); (case c => k_is); (case k => k_is)
    obtain ⟨h_greatest_camps⟩ : Nonempty (Df _ mg "greatest_camps" s_greatest_camps ["some"]) := by
      refine' mkDf KX G ?a ?l ?c ?k (fun _ _ _ _ _ _ us hl => match us, hl with | [_], _ => rfl)
      (case a => k_is); (case l => k_is); (case c => k_is); (case k => k_is)
    obtain ⟨h_led⟩ : Nonempty (Df _ mg "led" s_led ["looks", "camps"]) := by
      refine' mkDf KX G ?a ?l ?c ?k (fun _ _ _ _ _ _ us hl => match us, hl with | [_, _], _ => rfl)
      (case a => k_is); (case l => k_is); (case c => k_is); (case k => k_is)
    obtain ⟨h_led_along⟩ : Nonempty (Df _ mg "led_along" s_led_along ["machine", "stand", "row", "camps"]) := by
      refine' mkDf KX G ?a ?l ?c ?k (fun _ _ _ _ _ _ us hl => match us, hl with | [_, _, _, _], _ => rfl)
      (case a => k_is); (case l => k_is); (case c => k_is); (case k => k_is)
    obtain ⟨h_life_along⟩ : Nonempty (Df _ mg "life_along" s_life_along ["machine", "stand", "row", "camps"]) := by
      refine' mkDf KX G ?a ?l ?c ?k (fun _ _ _ _ _ _ us hl => match us, hl with | [_, _, _, _], _ => rfl)
      (case a => k_is); (case l => k_is); (case c => k_is); (case k => k_is)
    obtain ⟨h_left_alive⟩ : Nonempty (Df _ mg "left_alive" s_left_alive ["machine", "stand", "row"]) := by
      refine' mkDf KX G ?a ?l ?c ?k (fun _ _ _ _ _ _ us hl => match us, hl with | [_, _, _], _ => rfl)
      (case a => k_is); (case l => k_is); (case c => k_is); (case k => k_is)
    obtain ⟨h_kills_all⟩ : Nonempty (Df _ mg "kills_all" s_kills_all ["machine", "stand", "row"]) := by
      refine' mkDf KX G ?a ?l ?c ?k (fun _ _ _ _ _ _ us hl => match us, hl with | [_, _, _], _ => rfl)
      (case a => k_is); (case l => k_is); (case c => k_is); (case k => k_is)
    obtain ⟨h_hangs_on⟩ : Nonempty (Df _ mg "hangs_on" s_hangs_on ["machine", "stand", "row", "place"]) := by
      refine' mkDf KX G ?a ?l ?c ?k (fun _ _ _ _ _ _ us hl => match us, hl with | [_, _, _, _], _ => rfl)
      (case a => k_is); (case l => k_is); (case c => k_is); (case k => k_is)
    obtain ⟨h_common_places⟩ : Nonempty (Df _ mg "common_places" s_common_places ["machine", "stand", "row"]) := by
      refine' mkDf KX G ?a ?l ?c ?k (fun _ _ _ _ _ _ us hl => match us, hl with | [_, _, _], _ => rfl)
      (case a => k_is); (case l => k_is); (case c => k_is); (case k => k_is)
    obtain ⟨h_living_ever_longer⟩ : Nonempty (Df _ mg "living_ever_longer" s_living_ever_longer ["looks"]) := by
      refine' mkDf KX G ?a ?l ?c ?k (fun _ _ _ _ _ _ us hl => match us, hl with | [_], _ => rfl)
      (case a => k_is); (case l => k_is); (case c => k_is); (case k => k_is)
    obtain ⟨h_lasting⟩ : Nonempty (Df _ mg "lasting" s_lasting ["looks"]) := by
      refine' mkDf KX G ?a ?l ?c ?k (fun _ _ _ _ _ _ us hl => match us, hl with | [_], _ => rfl)
      (case a => k_is); (case l => k_is); (case c => k_is); (case k => k_is)
    obtain ⟨h_longest_alone⟩ : Nonempty (Df _ mg "longest_alone" s_longest_alone ["looks"]) := by
      refine' mkDf KX G ?a ?l ?c ?k (fun _ _ _ _ _ _ us hl => match us, hl with | [_], _ => rfl)
      (case a => k_is); (case l => k_is); (case c => k_is); (case k => k_is)
    obtain ⟨h_renamed_camps⟩ : Nonempty (Df _ mg "renamed_camps" s_renamed_camps ["camps", "order"]) := by
      refine' mkDf KX G ?a ?l ?c ?k (fun _ _ _ _ _ _ us hl => match us, hl with | [_, _], _ => rfl)
      (case a => k_is); (case l => k_is); (case c => k_is); (case k => k_is)
    obtain ⟨h_one_round⟩ : Nonempty (Df _ mg "one_round" s_one_round ["steps"]) := by
      refine' mkDf KX G ?a ?l ?c ?k (fun _ _ _ _ _ _ us hl => match us, hl with | [_], _ => rfl)
      (case a => k_is); (case l => k_is); (case c => k_is); (case k => k_is)
    obtain ⟨h_one_choice⟩ : Nonempty (Df _ mg "one_choice" s_one_choice ["owner", "steps"]) := by
      refine' mkDf KX G ?a ?l ?c ?k (fun _ _ _ _ _ _ us hl => match us, hl with | [_, _], _ => rfl)
      (case a => k_is); (case l => k_is); (case c => k_is); (case k => k_is)
    obtain ⟨h__law_same⟩ : Nonempty (Df _ mg "_law_same" s__law_same ["got", "due"]) := by
      refine' mkDf KX G ?a ?l ?c ?k (fun _ _ _ _ _ _ us hl => match us, hl with | [_, _], _ => rfl)
      (case a => k_is); (case l => k_is); (case c => k_is); (case k => k_is)
    obtain ⟨h__law_bad⟩ : Nonempty (Df _ mg "_law_bad" s__law_bad []) := by
      refine' mkDf KX G ?a ?l ?c ?k (fun _ _ _ _ _ _ us hl => match us, hl with | [], _ => rfl)
      (case a => k_is); (case l => k_is); (case c => k_is); (case k => k_is)
    obtain ⟨h__law_heard⟩ : Nonempty (Df _ mg "_law_heard" s__law_heard ["near_so", "far_so"]) := by
      refine' mkDf KX G ?a ?l ?c ?k (fun _ _ _ _ _ _ us hl => match us, hl with | [_, _], _ => rfl)
      (case a => k_is); (case l => k_is); (case c => k_is); (case k => k_is)
    obtain ⟨h__law_made_right⟩ : Nonempty (Df _ mg "_law_made_right" s__law_made_right []) := by
      refine' mkDf KX G ?a ?l ?c ?k (fun _ _ _ _ _ _ us hl => match us, hl with | [], _ => rfl)
      (case a => k_is); (case l => k_is); (case c => k_is); (case k => k_is)
    obtain ⟨h__law_moves_right⟩ : Nonempty (Df _ mg "_law_moves_right" s__law_moves_right []) := by
      refine' mkDf KX G ?a ?l ?c ?k (fun _ _ _ _ _ _ us hl => match us, hl with | [], _ => rfl)
      (case a => k_is); (case l => k_is); (case c => k_is); (case k => k_is)
    obtain ⟨h__law_alone_right⟩ : Nonempty (Df _ mg "_law_alone_right" s__law_alone_right []) := by
      refine' mkDf KX G ?a ?l ?c ?k (fun _ _ _ _ _ _ us hl => match us, hl with | [], _ => rfl)
      (case a => k_is); (case l => k_is); (case c => k_is); (case k => k_is)
    obtain ⟨h_law⟩ : Nonempty (Df _ mg "law" s_law ["script"]) := by
      refine' mkDf KX G ?a ?l ?c ?k (fun _ _ _ _ _ _ us hl => match us, hl with | [_], _ => rfl)
      (case a => k_is); (case l => k_is); (case c => k_is); (case k => k_is)
    obtain ⟨x_Unfit⟩ : Nonempty (Ex _ mg "Unfit" "Unfit.__init__" (topS 1) "ValueError") := by
      refine' mkEx KX G ?aC ?xL ?xV ?sa ?exC ?tyC ?kC ?a1 ?t1 ?l ?c ?k (fun _ _ _ _ _ _ us hl => match us, hl with | [_], _ => rfl) ?hg ?hk ?hd ?ha ?hn ?ht ?hm ?sC ?hB ?eB
      (case aC => k_is); (case xL => k_is); (case xV => decide +kernel); (case sa => k_is); (case exC => k_is); (case tyC => k_is); (case kC => k_is); (case a1 => k_is); (case t1 => k_is); (case l => k_is); (case c => k_is); (case k => k_is); (case hg => k_is); (case hk => k_is); (case hd => k_is); (case ha => k_is); (case hn => k_is); (case ht => k_is); (case hm => k_is); (case sC => first | rfl | k_is); (case hB => decide +kernel); (case eB => k_is)
    have m_ValueError : mg "ValueError" = none := PySem.W.mg_none_of KX G (by k_is)
    have m_all : mg "all" = none := PySem.W.mg_none_of KX G (by k_is)
    have m_any : mg "any" = none := PySem.W.mg_none_of KX G (by k_is)
    have m_bool : mg "bool" = none := PySem.W.mg_none_of KX G (by k_is)
    have m_enumerate : mg "enumerate" = none := PySem.W.mg_none_of KX G (by k_is)
    have m_int : mg "int" = none := PySem.W.mg_none_of KX G (by k_is)
    have m_isinstance : mg "isinstance" = none := PySem.W.mg_none_of KX G (by k_is)
    have m_len : mg "len" = none := PySem.W.mg_none_of KX G (by k_is)
    have m_list : mg "list" = none := PySem.W.mg_none_of KX G (by k_is)
    have m_max : mg "max" = none := PySem.W.mg_none_of KX G (by k_is)
    have m_range : mg "range" = none := PySem.W.mg_none_of KX G (by k_is)
    have m_set : mg "set" = none := PySem.W.mg_none_of KX G (by k_is)
    have m_sorted : mg "sorted" = none := PySem.W.mg_none_of KX G (by k_is)
    have m_str : mg "str" = none := PySem.W.mg_none_of KX G (by k_is)
    have m_tuple : mg "tuple" = none := PySem.W.mg_none_of KX G (by k_is)
    have m_zip : mg "zip" = none := PySem.W.mg_none_of KX G (by k_is)
    let D : Defs _ mg := { h_is_number := h_is_number, h_is_number_below := h_is_number_below, h_is_tuple_of := h_is_tuple_of, h_is_filled_tuple := h_is_filled_tuple, h_is_rising := h_is_rising, h_frozen := h_frozen, h_ascending := h_ascending, h_is_lot := h_is_lot, h_all_lots := h_all_lots, h_seen_from := h_seen_from, h_lookers_within := h_lookers_within, h_stand_still := h_stand_still, h_behind_looks := h_behind_looks, h_steps_along := h_steps_along, h_put_in_order := h_put_in_order, h_are_apart := h_are_apart, h_every_camps := h_every_camps, h_is_part := h_is_part, h_lie_within := h_lie_within, h_led_by := h_led_by, h_led_map := h_led_map, h_looks_along := h_looks_along, h_is_camps := h_is_camps, h_all_camps := h_all_camps, h_in_camps := h_in_camps, h_are_within := h_are_within, h_greatest_camps := h_greatest_camps, h_led := h_led, h_led_along := h_led_along, h_life_along := h_life_along, h_left_alive := h_left_alive, h_kills_all := h_kills_all, h_hangs_on := h_hangs_on, h_common_places := h_common_places, h_living_ever_longer := h_living_ever_longer, h_lasting := h_lasting, h_longest_alone := h_longest_alone, h_renamed_camps := h_renamed_camps, h_one_round := h_one_round, h_one_choice := h_one_choice, h__law_same := h__law_same, h__law_bad := h__law_bad, h__law_heard := h__law_heard, h__law_made_right := h__law_made_right, h__law_moves_right := h__law_moves_right, h__law_alone_right := h__law_alone_right, h_law := h_law, x_Unfit := x_Unfit, m_ValueError := m_ValueError, m_all := m_all, m_any := m_any, m_bool := m_bool, m_enumerate := m_enumerate, m_int := m_int, m_isinstance := m_isinstance, m_len := m_len, m_list := m_list, m_max := m_max, m_range := m_range, m_set := m_set, m_sorted := m_sorted, m_str := m_str, m_tuple := m_tuple, m_zip := m_zip }
    have e : fa = h_law.f := by
      have := hmg.symm.trans h_law.gl
      cases this; rfl
    subst e
    exact ⟨h_law.fd, fun s u => bindsTo h_law.F (fun _ _ _ _ _ _ => rfl), fun base _ _ => okL_law D law_true⟩
